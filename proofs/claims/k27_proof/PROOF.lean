import PyProof.Rows.All
import Wide.All
import OpenK.AllK
import Wide.FinOn
import Lean
import PyProof.EqAt
import PyProof.EqKinds
import PyProof.TupleCall
import PyProof.NeKinds
import PyProof.ZipIter
import PyProof.ListRange
import PyProof.TupleOfSeq
import PyProof.ConsumeWalk
import PyProof.IsRules
import PyProof.SetKind
import PyProof.SetRoads
import PyProof.Rows.SetFrom
import PyProof.Draws
import PyProof.EnumMake
import PyProof.DictCompW
import PyProof.ListMulRoad
import PyProof.Rows.SeqMore2
import PyProof.WalkInts
import PyProof.DictRoadsH
import PySem.Challenge.RW_bringhome_k27_quick_leaves_rooms_apart
namespace PySem.W.Fast
def tw13885682919683415959:=0
def tw8230187900380527318:=0
def tw1085714160446189415:=0
def tw16879135590687552274:=0
def tw14098765767497842145:=0
def tw15500474935337224776:=0
def tw3645024824295965526:=0
def tw2539901919050488058:=0
def tw17301981469124455439:=0
def tw2716321131281717455:=0
def tw7984372285300866847:=0
def tw11713172620341408332:=0
def tw6648928563937589489:=0
def tw11402153995249166550:=0
def tw11741557534525620021:=0
def tw16338586392893115170:=0
def tw6716884728080033307:=0
def tw11078524358380113626:=0
def tw7106799779301381757:=0
def tw3194451031323294641:=0
def tw9312125997165740043:=0
def tw12528169045914811700:=0
def tw15113942437062220505:=0
def tw5482714623707738243:=0
def tw430379682998577655:=0
def tw15787023889693388839:=0
def tw7702752381436958146:=0
def tw4565000858729042219:=0
def tw1692839838267125249:=0
def tw3304745034239252450:=0
def tw9613708472043269388:=0
def tw9584276761878818759:=0
def tw9991048924781753366:=0
def tw17325088573311465941:=0
def tw17406821213964269994:=0
def tw10381285718615442014:=0
def tw9430913347667464835:=0
def tw17541029396586428041:=0
def tw1766103986769684453:=0
def tw10030551907335450625:=0
end PySem.W.Fast
section
open PySem PySem.Spec PyProof.Rows
theorem zUx : type_of% @wpAny_bind:=@wpAny_bind
theorem zUy : type_of% @Heap.get?_push_of_some:=@Heap.get?_push_of_some
theorem zUz : type_of% @wpAny_pure:=@wpAny_pure
theorem zU0 : type_of% @List.getElem?_eq_some_iff:=@List.getElem?_eq_some_iff
theorem zU1 : type_of% @List.getElem?_eq_getElem:=@List.getElem?_eq_getElem
theorem zU2 : type_of% @List.getD_eq_getElem?_getD:=@List.getD_eq_getElem?_getD
theorem zU3 : type_of% @Nat.le_refl:=@Nat.le_refl
theorem zU4 : type_of% @List.getElem?_append_left:=@List.getElem?_append_left
theorem zU5 : type_of% @List.size_toArray:=@List.size_toArray
theorem zU6 : type_of% @List.length_map:=@List.length_map
theorem zU7 : type_of% @Heap.get?_push_size:=@Heap.get?_push_size
theorem zU8 : type_of% @Heap.lt_size:=@Heap.lt_size
theorem zU9 : type_of% @List.mem_cons:=@List.mem_cons
theorem zVA : type_of% @List.mem_cons_of_mem:=@List.mem_cons_of_mem
theorem zVB : type_of% @List.mem_cons_self:=@List.mem_cons_self
theorem zVC : type_of% @if_pos:=@if_pos
theorem zVD : type_of% @List.length_append:=@List.length_append
theorem zVE : type_of% @List.mem_map:=@List.mem_map
theorem zVF : type_of% @if_neg:=@if_neg
theorem zVG : type_of% @List.map_cons:=@List.map_cons
theorem zVH : type_of% @List.mem_append_right:=@List.mem_append_right
theorem zVI : type_of% @Nat.ne_of_lt:=@Nat.ne_of_lt
theorem zVJ : type_of% @Bool.false_ne_true:=@Bool.false_ne_true
theorem zVK : type_of% @List.getElem?_map:=@List.getElem?_map
theorem zVL : type_of% @List.map_map:=@List.map_map
theorem zVM : type_of% @Nat.lt_of_lt_of_le:=@Nat.lt_of_lt_of_le
theorem zVN : type_of% @List.mem_append:=@List.mem_append
theorem zVO : type_of% @Nat.le_trans:=@Nat.le_trans
theorem zVP : type_of% @List.mem_singleton:=@List.mem_singleton
theorem zVQ : type_of% @wpAny_newObj_type:=@wpAny_newObj_type
theorem zVR : type_of% @List.getElem?_set_ne:=@List.getElem?_set_ne
theorem zVS : type_of% @List.not_mem_nil:=@List.not_mem_nil
theorem zVT : type_of% @wpAny_mono:=@wpAny_mono
theorem zVU : type_of% @List.length_cons:=@List.length_cons
theorem zVV : type_of% @List.getElem_mem:=@List.getElem_mem
theorem zVW : type_of% @decide_eq_false:=@decide_eq_false
theorem zVX : type_of% @Bool.and_eq_true:=@Bool.and_eq_true
theorem zVY : type_of% @List.all_eq_true:=@List.all_eq_true
theorem zVZ : type_of% @wpAny_callSpecial?_slot:=@wpAny_callSpecial?_slot
theorem zVa : type_of% @wpAny_call_entry:=@wpAny_call_entry
theorem zVb : type_of% @List.mem_range:=@List.mem_range
theorem zVd : type_of% @Heap.size_push:=@Heap.size_push
theorem zVe : type_of% @Heap.get?_update_other:=@Heap.get?_update_other
theorem zVf : type_of% @Nat.lt_irrefl:=@Nat.lt_irrefl
theorem zVg : type_of% @Array.length_toList:=@Array.length_toList
theorem zVh : type_of% @List.append_nil:=@List.append_nil
theorem zVi : type_of% @Array.getElem?_eq_getElem:=@Array.getElem?_eq_getElem
theorem zVj : type_of% @Nat.zero_le:=@Nat.zero_le
theorem zVk : type_of% @Heap.get?_update_self:=@Heap.get?_update_self
theorem zVm : type_of% @Nat.lt_succ_of_lt:=@Nat.lt_succ_of_lt
theorem zVp : type_of% @List.map_append:=@List.map_append
theorem zVq : type_of% @wpAny_holding:=@wpAny_holding
theorem zVr : type_of% @List.getElem?_set_self:=@List.getElem?_set_self
theorem zVs : type_of% @Around.under_plainId:=@Around.under_plainId
theorem zVt : type_of% @of_decide_eq_true:=@of_decide_eq_true
theorem zVu : type_of% @Nat.lt_succ_self:=@Nat.lt_succ_self
theorem zVv : type_of% @wpAny_standAt:=@wpAny_standAt
theorem zVw : type_of% @PySem.W.mg_none_of:=@PySem.W.mg_none_of
theorem zVx : type_of% @Option.some.inj:=@Option.some.inj
theorem zVy : type_of% @Bool.false_eq_true:=@Bool.false_eq_true
theorem zVz : type_of% @PySem.mem_of_lookup:=@PySem.mem_of_lookup
theorem zV0 : type_of% @Heap.SameBut.update:=@Heap.SameBut.update
theorem zV1 : type_of% @List.cons.inj:=@List.cons.inj
theorem zV2 : type_of% @codeAny_builtin:=@codeAny_builtin
theorem zV3 : type_of% @List.append_assoc:=@List.append_assoc
theorem zV5 : type_of% @decide_eq_true:=@decide_eq_true
theorem zV6 : type_of% @List.getElem?_eq_none:=@List.getElem?_eq_none
theorem zV7 : type_of% @List.getElem?_append_right:=@List.getElem?_append_right
theorem zV8 : type_of% @List.mem_filter:=@List.mem_filter
theorem zWA : type_of% @decide_eq_true_eq:=@decide_eq_true_eq
theorem zWB : type_of% @List.nodup_append:=@List.nodup_append
theorem zWC : type_of% @List.mem_append_left:=@List.mem_append_left
theorem zWE : type_of% @Obj.data_mapFields:=@Obj.data_mapFields
theorem zWF : type_of% @Calls.spliced_cons:=@Calls.spliced_cons
theorem zWJ : type_of% @Nat.lt_or_ge:=@Nat.lt_or_ge
theorem zWK : type_of% @wpAny_rule:=@wpAny_rule
theorem zWL : type_of% @List.length_take:=@List.length_take
theorem zWQ : type_of% @PassesOwn.never:=@PassesOwn.never
theorem zWV : type_of% @PyProof.Rows.slot_tuple_getitem:=@PyProof.Rows.slot_tuple_getitem
theorem zWW : type_of% @List.getElem?_set:=@List.getElem?_set
theorem zWZ : type_of% @Nat.mul_le_mul:=@Nat.mul_le_mul
theorem zWc : type_of% @Array.getElem?_toList:=@Array.getElem?_toList
theorem zWf : type_of% @Nat.le_succ:=@Nat.le_succ
theorem zWj : type_of% @List.find?_cons:=@List.find?_cons
theorem zWk : type_of% @congrArg:=@congrArg
theorem zWr : type_of% @wpAny_comprehension_free:=@wpAny_comprehension_free
theorem zWu : type_of% @List.length_range:=@List.length_range
theorem zWv : type_of% @List.foldl_append:=@List.foldl_append
theorem zW0 : type_of% @List.getElem_of_mem:=@List.getElem_of_mem
theorem zW2 : type_of% @List.lookup_cons:=@List.lookup_cons
theorem zXG : type_of% @List.length_set:=@List.length_set
theorem zXH : type_of% @List.length_filter_le:=@List.length_filter_le
theorem zXQ : type_of% @List.length_drop:=@List.length_drop
theorem zXm : type_of% @List.mem_flatMap:=@List.mem_flatMap
end
set_option Elab.async false
set_option linter.all false
set_option maxRecDepth 100000
set_option genSizeOf false
set_option genInjectivity false
noncomputable section
namespace L2
open PySem PySem.Spec PyProof.Rows
abbrev Key:=Sum Int Str
def zIv : Key -> Value -> Bool
 | .inl k,v => Value.isInt k v
 | .inr x,v => Value.isStrOf x v
def zUt (w : World) : Key -> Int
 | .inl k => hashInt k
 | .inr x => hashStr w x
theorem zAv : ∀ {k : Key} {v : Value},zIv k v = true -> (∃ i t,k = Sum.inl i /\ v = Value.int i t) \/ (∃ x t,k = Sum.inr x /\ v = Value.str x t)
 | .inl i,v,h => by
  obtain ⟨t,e⟩:=Value.isInt_shape (k:=i) (v:=v) h;exact .inl ⟨i,t,rfl,e⟩
 | .inr x,v,h => by
  obtain ⟨t,e⟩:=Value.isStrOf_shape (x:=x) (v:=v) h;exact .inr ⟨x,t,rfl,e⟩
theorem zNN (i : Int) (t : Tok) : zIv (.inl i) (.int i t) = true:=by simp [zIv,Value.isInt]
theorem zNr (x : Str) (t : Tok) : zIv (.inr x) (.str x t) = true:=by simp [zIv,Value.isStrOf]
theorem zSY (a b : Int) : decide ((Sum.inl a : Key) = Sum.inl b) = (a == b):=by
 by_cases e : a = b
 ·subst e; simp
 ·have h : ¬ (Sum.inl a : Key) = Sum.inl b:=fun q => e (Sum.inl.inj q);rw [zVW h];exact (beq_eq_false_iff_ne.mpr e).symm
theorem zSm (a b : Str) : decide ((Sum.inr a : Key) = Sum.inr b) = decide (a = b):=by
 by_cases e : a = b
 ·subst e; simp
 ·have h : ¬ (Sum.inr a : Key) = Sum.inr b:=fun q => e (Sum.inr.inj q);rw [zVW h,zVW e]
theorem zTH (a : Int) (b : Str) : decide ((Sum.inl a : Key) = Sum.inr b) = false:=zVW (fun q => nomatch q)
theorem zSD (a : Str) (b : Int) : decide ((Sum.inr a : Key) = Sum.inl b) = false:=zVW (fun q => nomatch q)
def zAs (prog : Program) (w : World) : PySem.KeyKind prog w Key where
 is:=zIv
 hash:=zUt w
 inj:=fun v a b ha hb => by
  rcases zAv ha with ⟨i,t,rfl,rfl⟩ | ⟨x,t,rfl,rfl⟩
  ·rcases zAv hb with ⟨j,u,rfl,e⟩ | ⟨y,u,rfl,e⟩
   ·injection e with e1 _; rw [e1]
   ·exact nomatch e
  ·rcases zAv hb with ⟨j,u,rfl,e⟩ | ⟨y,u,rfl,e⟩
   ·exact nomatch e
   ·injection e with e1 _; rw [e1]
 byValue:=fun k v h => by
  rcases zAv h with ⟨i,t,rfl,rfl⟩ | ⟨x,t,rfl,rfl⟩ <;> rfl
 pyHash:=fun hv h => by
  rcases zAv hv with ⟨i,t,rfl,rfl⟩ | ⟨x,t,rfl,rfl⟩
  ·exact wpAny_pyHash_int h
  ·exact wpAny_pyHash_str h
 eqBool:=fun hu hv h => by
  rcases zAv hu with ⟨i,t,rfl,rfl⟩ | ⟨x,t,rfl,rfl⟩
  ·rcases zAv hv with ⟨j,u,rfl,rfl⟩ | ⟨y,u,rfl,rfl⟩
   ·rw [zSY] at h; exact wpAny_eqBool_int h
   ·rw [zTH] at h; exact SeqAt.EqAt.int_str i t y u _ _ _ _ h
  ·rcases zAv hv with ⟨j,u,rfl,rfl⟩ | ⟨y,u,rfl,rfl⟩
   ·rw [zSD] at h; exact SeqAt.EqAt.str_int x t j u _ _ _ _ h
   ·rw [zSm] at h; exact wpAny_eqBool_str h
 «strs»:=fun k x t v h => by
  rcases zAv h with ⟨i,u,rfl,e⟩ | ⟨y,u,rfl,e⟩
  ·exact nomatch e
  ·injection e with e1 _
   subst e1
   cases v <;> rfl
theorem zK3 (prog : Program) (w : World) (i : Int) (t : Tok) : (zAs prog w).is (.inl i) (.int i t) = true:=zNN i t
theorem zKz (prog : Program) (w : World) (x : Str) (t : Tok) : (zAs prog w).is (.inr x) (.str x t) = true:=zNr x t
set_option genInjectivity true in
inductive V where
 | non | bl (b : Bool) | int (i : Int) | str (x : Str) | byt (b : Array UInt8) | flt (b : UInt64) | ref (a : Addr) | ty (n : String)
 deriving DecidableEq
def zx : V -> Value -> Prop
 | .non,u => u = Value.none
 | .bl b,u => u = Value.bool b
 | .int i,u => ∃ t,u = Value.int i t
 | .str x,u => ∃ t,u = Value.str x t
 | .byt b,u => ∃ t,u = Value.bytes b t
 | .flt b,u => ∃ t,u = Value.float b t
 | .ref a,u => u = Value.ref a
 | .ty n,u => u = Value.type n
abbrev zo : List V -> List Value -> Prop:=Paired zx
theorem zo.length {xs : List V} {us : List Value} (r : zo xs us) : xs.length = us.length:=Paired.length r
theorem zo.get : ∀ {xs : List V} {us : List Value} {i : Nat} {x : V},zo xs us -> xs[i]? = some x -> ∃ u,us[i]? = some u /\ zx x u
 | _,_,_,_,.nil,e => by simp at e
 | _,_,0,_,.cons r _,e => by simp at e; subst e; exact ⟨_,rfl,r⟩
 | _,_,i + 1,x,.cons _ t,e => by
  obtain ⟨u,h1,h2⟩:=zo.get (i:=i) (x:=x) t (by simpa using e);exact ⟨u,by simpa using h1,h2⟩
theorem zo.set {x : V} {u : Value} (r : zx x u) : ∀ {xs : List V} {us : List Value} (i : Nat),zo xs us -> zo (xs.set i x) (us.set i u)
 | _,_,_,.nil => .nil
 | _,_,0,.cons _ t => .cons r t
 | _,_,i + 1,.cons q t => .cons q (zo.set r i t)
theorem zo.append : ∀ {xs ys : List V} {us ws : List Value},zo xs us -> zo ys ws -> zo (xs ++ ys) (us ++ ws)
 | _,_,_,_,.nil,s => s
 | _,_,_,_,.cons r t,s => .cons r (zo.append t s)
theorem zo.take : ∀ {xs : List V} {us : List Value} (n : Nat),zo xs us -> zo (xs.take n) (us.take n)
 | _,_,0,_ => .nil
 | _,_,_ + 1,.nil => .nil
 | _,_,n + 1,.cons r t => .cons r (zo.take n t)
theorem zo.drop : ∀ {xs : List V} {us : List Value} (n : Nat),zo xs us -> zo (xs.drop n) (us.drop n)
 | _,_,0,r => r
 | _,_,_ + 1,.nil => .nil
 | _,_,n + 1,.cons _ t => zo.drop n t
def zGh : Option V -> Option Value -> Prop
 | some v,some u => zx v u
 | none,none => True
 | _,_ => False
def KV {κ : Type} : List (κ × V) -> List (κ × Value) -> Prop:=Paired fun (p : κ × V) (q : κ × Value) => p.1 = q.1 /\ zx p.2 q.2
def kV : Key -> V
 | .inl i => .int i
 | .inr x => .str x
set_option genInjectivity true in
inductive HO where
 | lst (xs : List V)
 | tup (xs : List V)
 | dK (kvs : List (Key × V)) | dT (kvs : List (List Key × V))
 | set (S : Int -> Bool) (n : Nat)
 | ins (C dx : Addr) (fs : List (Str × V))
 | own (x : Addr)
 | xd (fs : List (Str × V))
 | met (f x : Addr)
 | rng (lo hi : Int)
 | frz (o : Obj) (u : HO)
 | tbl (ps : Array Value)
 | ext (φ : Heap -> Prop)
abbrev Hp:=Addr -> Option HO
def upd (H : Hp) (a : Addr) (o : HO) : Hp:=fun b => if b = a then some o else H b
theorem zAg {H : Hp} {a : Addr} {o : HO} : upd H a o a = some o:=by unfold upd; rw [zVC rfl]
theorem zk {H : Hp} {a b : Addr} {o : HO} (h : b ≠ a) : upd H a o b = H b:=by unfold upd; rw [zVF h]
theorem zG3 {H : Hp} {a b : Addr} {o u : HO} (h : H a = some o) (h' : H b = some u) (d : o ≠ u) : a ≠ b:=by
 intro e; subst e; rw [h] at h'; exact d (zVx h')
theorem zAa {H : Hp} {a b : Addr} {o : HO} (h : H a = some o) (h' : H b = none) : a ≠ b:=by
 intro e; subst e; rw [h] at h'; cases h'
def zC9 (h : Heap) (a : Addr) (items : Array Value) : Prop:=∃ o,h.get? a = some o /\ o.cls = .type "tuple" /\ (∃ n,o.data = .seq items n) /\ o.dict = none
theorem zC9.tup {h : Heap} {a : Addr} {items : Array Value} (x : zC9 h a items) : IsTup h a items:=let ⟨o,e,c,d,_⟩:=x; ⟨o,e,c,d⟩
theorem zC9.lt {h : Heap} {a : Addr} {items : Array Value} (x : zC9 h a items) : a < h.objs.size:=let ⟨_,e,_⟩:=x; zU8 e
theorem zC9.new (h : Heap) (items : Array Value) : zC9 (h.push { cls:=.type "tuple", data:=.seq items }) h.objs.size items:=⟨_,zU7 _ rfl,rfl,⟨_,rfl⟩,rfl⟩
section
variable (P : Program) (w : World)
def zBC (H : Hp) (h : Heap) (a : Addr) : HO -> Prop
 | .lst xs => xs.length <= sizeLine /\ ∃ (its : List Value) (n : Nat),zo xs its /\ h.get? a = some { cls:=.type "list", data:=.seq its.toArray n }
 | .tup xs => xs.length <= sizeLine /\ ∃ its : List Value,zo xs its /\ zC9 h a its.toArray
 | .dK kvs => kvs.length <= sizeLine /\ (a == sysModules) = false /\ ∃ vs,KV kvs vs /\ h.DictOf (zAs P w) a vs
 | .dT kvs => kvs.length <= sizeLine /\ (a == sysModules) = false /\ ∃ xs : List (List Key × Addr × Value),
   Paired (fun (p : List Key × V) (q : List Key × Addr × Value) => p.1 = q.1 /\ H q.2.1 = some (.tup (p.1.map kV)) /\ zx p.2 q.2.2) kvs xs /\
   ∃ o es ep,h.get? a = some o /\ o.ExactDict /\ o.data = .dict es ep /\ es.toList = xs.map (entryOfKey (tupleKind (zAs P w))) /\ (xs.map (·.1)).Nodup
 | .set S n => h.SetOf (intKind P w) a S n
 | .ins C dx fs => H dx = some (.own a) /\ fs.length <= 1000 /\ dx ≠ a /\ h.get? a = some (PySem.W.instObj C dx) /\
   ∃ mA,h.Ns1 dx mA /\ (∀ f,zGh (fs.lookup f) (mA f)) /\ PySem.Within mA (fs.map (·.1))
 | .own _ => ∃ o,h.get? a = some o
 | .xd fs => ∃ mA,h.Ns1 a mA /\ ∀ f,zGh (fs.lookup f) (mA f)
 | .rng lo hi => ∃ t u v,h.get? a = some { cls:=.type "range", data:=.fields #[.int lo t,.int hi u,.int 1 v] }
 | .frz o u => h.get? a = some o /\ zBC H h a u
 | .tbl ps => h.get? a = some { cls:=.none,data:=.fields ps }
 | .met f x => h.get? a = some (PySem.W.methodObj (.ref f) (.ref x))
 | .ext φ => φ h /\ (∃ o,h.get? a = some o) /\ ∀ h1 h2 : Heap,φ h1 -> (∀ o,h1.get? a = some o -> h2.get? a = some o) -> φ h2
def HOk (H : Hp) (h : Heap) : Prop:=∀ a o,H a = some o -> zBC P w H h a o
end
section
variable {P : Program} {w : World} {H H' : Hp} {h h' : Heap} {a : Addr} {o : HO}
theorem zBC.lt (x : zBC P w H h a o) : a < h.objs.size:=by
 cases o with
 | lst xs => obtain ⟨_,_,_,_,e⟩:=x; exact zU8 e
 | tup xs => obtain ⟨_,_,_,p⟩:=x; exact p.lt
 | dK kvs => obtain ⟨_,_,_,_,o,_,_,e,_⟩:=x; exact zU8 e
 | dT kvs => obtain ⟨_,_,_,_,o,_,_,e,_⟩:=x; exact zU8 e
 | set S n => obtain ⟨o,_,_,_,e,_⟩:=x; exact zU8 e
 | ins C dx fs => obtain ⟨_,_,_,e,_⟩:=x; exact zU8 e
 | own y => obtain ⟨_,e⟩:=x; exact zU8 e
 | xd fs => obtain ⟨_,⟨_,_,_,e,_⟩,_⟩:=x; exact zU8 e
 | rng lo hi => obtain ⟨_,_,_,e⟩:=x; exact zU8 e
 | frz ob u => obtain ⟨e,_⟩:=x; exact zU8 e
 | tbl ps => exact zU8 (show h.get? a = some _ from x)
 | met f y => exact zU8 (show h.get? a = some _ from x)
 | ext φ => obtain ⟨_,⟨_,e⟩,_⟩:=x; exact zU8 e
theorem Paired.mapP {α β : Type} {F G : α -> β -> Prop} : ∀ {l₁ : List α} {l₂ : List β},Paired F l₁ l₂ -> (∀ a b,F a b -> G a b) -> Paired G l₁ l₂
 | _,_,.nil,_ => .nil
 | _,_,.cons r t,f => .cons (f _ _ r) (Paired.mapP t f)
theorem zBC.stay (x : zBC P w H h a o) (k : ∀ b u,(b = a \/ H b = some (.own a)) -> h.get? b = some u -> h'.get? b = some u)
  (ho : ∀ b,H b = some (.own a) -> H' b = some (.own a)) (ht : ∀ b xs,H b = some (.tup xs) -> H' b = some (.tup xs)) : zBC P w H' h' a o:=by
 induction o with
 | lst xs => obtain ⟨z,its,n,r,e⟩:=x; exact ⟨z,its,n,r,k _ _ (.inl rfl) e⟩
 | tup xs => obtain ⟨z,its,r,ob,e,c⟩:=x; exact ⟨z,its,r,ob,k _ _ (.inl rfl) e,c⟩
 | dK kvs => obtain ⟨z,y,vs,r,ob,es,ep,e,c⟩:=x; exact ⟨z,y,vs,r,ob,es,ep,k _ _ (.inl rfl) e,c⟩
 | dT kvs =>
  obtain ⟨z,y,xs,r,ob,es,ep,e,c⟩:=x;exact ⟨z,y,xs,Paired.mapP r fun p q z => ⟨z.1,ht _ _ z.2.1,z.2.2⟩,ob,es,ep,k _ _ (.inl rfl) e,c⟩
 | set S n => obtain ⟨ob,es,ep,t,e,c⟩:=x; exact ⟨ob,es,ep,t,k _ _ (.inl rfl) e,c⟩
 | ins C dx fs =>
  obtain ⟨d,z,ne,e,mA,⟨od,es,ep,e2,c⟩,r⟩:=x;exact ⟨ho _ d,z,ne,k _ _ (.inl rfl) e,mA,⟨od,es,ep,k _ _ (.inr d) e2,c⟩,r⟩
 | own y => obtain ⟨ob,e⟩:=x; exact ⟨ob,k _ _ (.inl rfl) e⟩
 | xd fs => obtain ⟨mA,⟨od,es,ep,e,c⟩,r⟩:=x; exact ⟨mA,⟨od,es,ep,k _ _ (.inl rfl) e,c⟩,r⟩
 | rng lo hi => obtain ⟨t,u,v,e⟩:=x; exact ⟨t,u,v,k _ _ (.inl rfl) e⟩
 | frz ob u ih => obtain ⟨e,q⟩:=x; exact ⟨k _ _ (.inl rfl) e,ih q⟩
 | tbl ps =>
  have e : h.get? a = some { cls:=.none,data:=.fields ps }:=x;show h'.get? a = some { cls:=.none,data:=.fields ps };exact k a _ (.inl rfl) e
 | met f y =>
  have e : h.get? a = some (PySem.W.methodObj (.ref f) (.ref y)):=x;show h'.get? a = some (PySem.W.methodObj (.ref f) (.ref y));exact k a _ (.inl rfl) e
 | ext φ => obtain ⟨p,⟨o,e⟩,st⟩:=x; exact ⟨st _ _ p fun o q => k _ _ (.inl rfl) q,⟨o,k _ _ (.inl rfl) e⟩,st⟩
theorem HOk.lt (x : HOk P w H h) (e : H a = some o) : a < h.objs.size:=(x a o e).lt
theorem HOk.fresh (x : HOk P w H h) (e : h.objs.size <= a) : H a = none:=by
 cases q : H a with
 | none => rfl
 | some u => exact absurd (zVM (x.lt q) e) (zVf _)
theorem HOk.kept (x : HOk P w H h) (k : ∀ b u,h.get? b = some u -> h'.get? b = some u) : HOk P w H h':=fun a o e =>
 (x a o e).stay (fun b u _ q => k b u q) (fun _ q => q) fun _ _ q => q
theorem HOk.laid (x : HOk P w H h) (k : ∀ b u,h.get? b = some u -> h'.get? b = some u) (hp : h.objs.size <= a) (new : zBC P w (upd H a o) h' a o) : HOk P w (upd H a o) h':=fun b u e => by
 have hn:=x.fresh hp;by_cases hb : b = a
 ·subst hb; rw [zAg] at e; cases e; exact new
 ·rw [zk hb] at e;exact (x b u e).stay (fun c v _ q => k c v q) (fun c q => by rw [zk (zAa q hn)]; exact q) fun c xs q => by rw [zk (zAa q hn)]; exact q
end
def Rd (H : Hp) (a : Addr) (u : HO) : Prop:=H a = some u \/ ∃ o,H a = some (.frz o u)
theorem Rd.ok {P : Program} {w : World} {H : Hp} {h : Heap} {a : Addr} {u : HO} (r : Rd H a u) (x : HOk P w H h) : zBC P w H h a u:=by
 rcases r with r | ⟨o,r⟩
 ·exact x a u r
 ·obtain ⟨_,q⟩:=x a _ r;exact q
def Mut : Option HO -> Prop
 | some (.lst _) => True
 | some (.dK _) => True
 | some (.dT _) => True
 | some (.set _ _) => True
 | some (.ins _ _ _) => True
 | some (.ext _) => True
 | _ => False
section
variable {P : Program} {w : World} {H : Hp} {h h' : Heap} {x e : Addr} {o' : HO}
theorem HOk.write (ok : HOk P w H h) (mu : Mut (H x)) (he : e = x \/ H e = some (.own x)) (k : ∀ b u,b ≠ e -> h.get? b = some u -> h'.get? b = some u) (heo : ∃ u,h'.get? e = some u)
  (new : zBC P w (upd H x o') h' x o') : HOk P w (upd H x o') h':=fun b u q => by
 have nown : ∀ c y,H c = some (.own y) -> c ≠ x:=fun c y r z => by subst z; rw [r] at mu; exact mu
 have ntup : ∀ c xs,H c = some (.tup xs) -> c ≠ x:=fun c xs r z => by subst z; rw [r] at mu; exact mu
 by_cases hb : b = x
 ·subst hb; rw [zAg] at q; cases q; exact new
 ·rw [zk hb] at q;by_cases hbe : b = e
  ·have q' : H b = some (.own x):=by
    rcases he with z | z
    ·exact absurd (hbe.trans z) hb
    ·rw [hbe]; exact z
   rw [q] at q'; cases q';obtain ⟨v,hv⟩:=heo;exact ⟨v,by rw [hbe]; exact hv⟩
  ·refine (ok b u q).stay (fun c v hc r => k c v ?_ r) (fun c r => by rw [zk (nown c b r)]; exact r) fun c xs r => by rw [zk (ntup c xs r)]; exact r
   rcases hc with rfl | hc
   ·exact hbe
   ·rintro rfl;rcases he with z | z
    ·exact nown c b hc z
    ·rw [hc] at z; cases z; exact hb rfl
end
structure Un (fs ex : List Addr) (H H' : Hp) (h h' : Heap) : Prop where
 keep : ∀ b o,h.get? b = some o -> H b = none -> b ∉ fs -> b ∉ ex -> h'.get? b = some o
 slot : ∀ b o,h.get? b = some o -> H b = none -> b ∈ fs -> b ∉ ex -> ∃ sl,h'.get? b = some { o with slots:=sl }
 free : ∀ b o,h.get? b = some o -> H b = none -> b ∉ ex -> H' b = none
 there : ∀ b o,h.get? b = some o -> b ∉ ex -> ∃ o',h'.get? b = some o'
 tups : ∀ b xs,H b = some (.tup xs) -> H' b = some (.tup xs)
 frzs : ∀ b o u,H b = some (.frz o u) -> H' b = some (.frz o u)
 tbls : ∀ b ps,H b = some (.tbl ps) -> ∃ more,H' b = some (.tbl (ps ++ more))
section
variable {fs fs' ex ex' : List Addr} {H H1 H2 : Hp} {h h1 h2 h' : Heap} {a x e : Addr} {o : HO}
theorem Un.any (u : Un fs ex H H1 h h1) {b : Addr} {ob : Obj} (q : h.get? b = some ob) (n : H b = none) (hx : b ∉ ex) : ∃ sl,h1.get? b = some { ob with slots:=sl }:=by
 by_cases hb : b ∈ fs
 ·exact u.slot b ob q n hb hx
 ·exact ⟨ob.slots,u.keep b ob q n hb hx⟩
theorem Un.kept (k : ∀ b u,h.get? b = some u -> h'.get? b = some u) : Un fs ex H H h h' :=
 ⟨fun b ob q _ _ _ => k b ob q,fun b ob q _ _ _ => ⟨ob.slots,k b ob q⟩,fun _ _ _ n _ => n,fun b ob q _ => ⟨ob,k b ob q⟩,fun _ _ q => q,fun _ _ _ q => q,fun _ ps q => ⟨#[],by rw [q]; simp⟩⟩
theorem Un.refl : Un fs ex H H h h:=Un.kept fun _ _ q => q
theorem Un.laid (k : ∀ b u,h.get? b = some u -> h'.get? b = some u) (hp : h.objs.size <= a) (hn : H a = none) : Un fs ex H (upd H a o) h h' where
 keep:=fun b u q _ _ _ => k b u q;slot:=fun b u q _ _ _ => ⟨u.slots,k b u q⟩;free:=fun b u q n _ => by rw [zk (zVI (zVM (zU8 q) hp))]; exact n
 there:=fun b u q _ => ⟨u,k b u q⟩;tups:=fun b xs q => by rw [zk (zAa q hn)]; exact q
 frzs:=fun b u xs q => by rw [zk (zAa q hn)]; exact q
 tbls:=fun b ps q => ⟨#[],by rw [zk (zAa q hn),q]; simp⟩
theorem Un.write (mu : Mut (H x)) (he : e = x \/ H e = some (.own x)) (k : ∀ b u,b ≠ e -> h.get? b = some u -> h'.get? b = some u) (heo : ∃ u,h'.get? e = some u) : Un fs ex H (upd H x o) h h':=by
 have hx : ∀ b,H b = none -> b ≠ x:=fun b n z => by subst z; rw [n] at mu; exact mu
 have hb : ∀ b,H b = none -> b ≠ e:=fun b n z => by
  subst z;rcases he with r | r
  ·exact hx b n r
  ·rw [n] at r; cases r
 have hm : ∀ b u,H b = some u -> ¬ Mut (some u) -> b ≠ x:=fun b u q nm z => by subst z; rw [q] at mu; exact nm mu
 refine ⟨fun b u q n _ _ => k b u (hb b n) q,fun b u q n _ _ => ⟨u.slots,k b u (hb b n) q⟩,fun b u q n _ => by rw [zk (hx b n)]; exact n,fun b u q _ => ?_,
  fun b xs q => by rw [zk (hm b _ q fun z => z)]; exact q,fun b u xs q => by rw [zk (hm b _ q fun z => z)]; exact q,fun b ps q => ⟨#[],by rw [zk (hm b _ q fun z => z),q]; simp⟩⟩
 by_cases hbe : b = e
 ·subst hbe; exact heo
 ·exact ⟨u,k b u hbe q⟩
end
def trk (h : Heap) (H : Hp) : List Addr:=(List.range h.objs.size).filter fun a => (H a).isSome
def zJA (h : Heap) (H : Hp) : Heap:=PySem.W.hideAll h (trk h H)
theorem zNX (h : Heap) (H : Hp) : (zJA h H).objs.size = h.objs.size:=PySem.W.hideAll_size _ _
theorem zOl {h : Heap} {H : Hp} {b : Addr} {o : Obj} (e : h.get? b = some o) (n : H b = none) : (zJA h H).get? b = some o :=
 PySem.W.hideAll_get _ e fun hm => by
  have q : (H b).isSome = true:=(zV8.mp hm).2;rw [n] at q; simp at q
theorem zRm {h : Heap} {H : Hp} {b : Addr} {o : Obj} (e : (zJA h H).get? b = some o) : h.get? b = some o /\ H b = none:=by
 have e' : h.get? b = some o:=PySem.W.of_hideAll (trk h H) e;refine ⟨e',?_⟩;cases q : H b with
 | none => rfl
 | some x =>
  have hm : b ∈ trk h H:=zV8.mpr ⟨zVb.mpr (zU8 e'),by simp [q]⟩;have z : (zJA h H).get? b = none:=PySem.W.hideAll_none (trk h H) hm;rw [z] at e; cases e
structure Mod (K : PySem.W.Frag) (mg : Str -> Option Value) (base : Heap) : Prop where
 kin : K.In base
 glob : base.Ns mainGlobals mg
 blt : ∃ mb,base.Ns builtinsNs mb /\ ∀ x : Str,x ≠ "__name__" -> mb x = bootBuiltins x
 nolimit : base.NoLimit
structure Cx where
 prog : Program
 w : World
 K : PySem.W.Frag
 mg : Str -> Option Value
 base : Heap
 A : Around
 N : List Str
 s₀ : Shared
 H₀ : Hp
 env : Env
 outer : List Env
 stack : List Env
 ex : List Addr
 fn : Str -> Bool
 calm : Bool
 pn : List (Addr × Obj)
 xe : Value -> Shared -> Prop
def frs (l : List Env) : List Addr:=l.filterMap (·.frame)
abbrev Cx.fs (X : Cx) : List Addr:=frs X.outer
def Vis (sc : Scope) (x : Str) : Prop:=sc.names.lookup x = some .local \/ sc.names.lookup x = some .cell \/ sc.names.lookup x = some .free
def Loc (sc : Scope) (x : Str) : Prop:=sc.names.lookup x = some .local \/ sc.names.lookup x = some .cell
def zUo (env : Env) (h : Heap) (m : Str -> Option Value) (x : Str) (u : Value) : Prop :=
 (env.kindOf x = some .local /\ m x = some u) \/ ((env.kindOf x = some .cell \/ env.kindOf x = some .free) /\ ∃ c,env.cells.lookup x = some c /\ h.IsCell c (some u))
structure Cx.Ok (X : Cx) : Prop where
 mod : Mod X.K X.mg X.base
 kind : X.env.scope.kind = .function
 glob : X.env.globals = mainGlobals
 blt : X.env.builtins = builtinsNs
 above : X.s₀.heap.objs.size <= X.env.locals
 inj : ∀ x y c,X.env.cells.lookup x = some c -> X.env.cells.lookup y = some c -> x = y
 has : ∀ x,(X.env.kindOf x = some .cell \/ X.env.kindOf x = some .free) -> ∃ c,X.env.cells.lookup x = some c
 cab : ∀ x c,X.fn x = true -> X.env.cells.lookup x = some c -> X.s₀.heap.objs.size <= c
 hd : X.calm = true -> X.A.handled = none
 frames : X.A.frames = some X.stack
 stk : X.stack = X.outer \/ (X.stack = X.env :: X.outer /\ X.env.frame = some X.env.locals)
 exf : ∀ b ∈ X.ex,b ≠ X.env.locals /\ ∀ x c,X.env.cells.lookup x = some c -> c ≠ b
 bs : ∀ b o,X.base.get? b = some o -> X.s₀.heap.get? b = some o /\ X.H₀ b = none
 bsz : X.base.objs.size <= X.s₀.heap.objs.size
 noex : ∀ b o,X.base.get? b = some o -> b ∉ X.ex
 exfs : ∀ b ∈ X.ex,b ∉ X.fs
 funs : X.s₀.heap.FunFrames X.base X.outer
 frf : ∀ b ∈ X.fs,X.H₀ b = none
structure Inv (X : Cx) (zB : List (Addr × Obj)) (σ : List (Option V)) (H : Hp) (s : Shared) : Prop where
 ok : X.Ok
 os : s.os = X.s₀.os
 bare : AllBare s.gens
 base : Un X.fs X.ex X.H₀ H X.s₀.heap s.heap
 loc : ∃ m,s.heap.Ns X.env.locals m /\ ∀ (i : Nat) (x : Str) (v : V),X.N[i]? = some x -> σ[i]? = some (some v) -> Vis X.env.scope x -> ∃ u,zx v u /\ zUo X.env s.heap m x u
 cell : ∀ x c,X.env.cells.lookup x = some c -> ∃ v,s.heap.IsCell c v
 free : H X.env.locals = none
 freeC : ∀ x c,X.env.cells.lookup x = some c -> H c = none
 pin : ∀ p ∈ X.pn ++ zB,s.heap.get? p.1 = some p.2 /\ H p.1 = none /\ p.1 ≠ X.env.locals /\ p.1 ∉ X.fs /\ ∀ v,p.2.data ≠ .cell v
 hok : HOk X.prog X.w H s.heap
 len : σ.length = X.N.length
section
variable {X : Cx} {zB : List (Addr × Obj)} {σ : List (Option V)} {H H' : Hp} {s : Shared} {h' : Heap}
theorem Cx.Ok.nofr (ok : X.Ok) {b : Addr} {o : Obj} (e : X.base.get? b = some o) : b ∉ X.fs:=fun hb => by
 have:=(ok.funs.mem hb).1;rw [e] at this; cases this
theorem Inv.bs (I : Inv X zB σ H s) : ∀ b o,X.base.get? b = some o -> s.heap.get? b = some o /\ H b = none:=fun b o e =>
 ⟨I.base.keep b o (I.ok.bs b o e).1 (I.ok.bs b o e).2 (I.ok.nofr e) (I.ok.noex b o e),I.base.free b o (I.ok.bs b o e).1 (I.ok.bs b o e).2 (I.ok.noex b o e)⟩
theorem Inv.bk (I : Inv X zB σ H s) : ∀ b o,X.base.get? b = some o -> s.heap.get? b = some o:=fun b o e => (I.bs b o e).1
theorem Inv.mod (I : Inv X zB σ H s) : Mod X.K X.mg X.base:=I.ok.mod
theorem Inv.kIn (I : Inv X zB σ H s) : X.K.In s.heap:=I.ok.mod.kin.keeps I.bk
theorem Inv.lt (I : Inv X zB σ H s) : X.env.locals < s.heap.objs.size:=let ⟨_,hn,_⟩:=I.loc; hn.lt
theorem Inv.sz (I : Inv X zB σ H s) : X.s₀.heap.objs.size <= s.heap.objs.size:=zVO I.ok.above (Nat.le_of_lt I.lt)
theorem Inv.nofs (I : Inv X zB σ H s) {a : Addr} (h : s.heap.objs.size <= a) : a ∉ X.fs:=fun hb => by
 obtain ⟨_,o,ho,_⟩:=I.ok.funs.mem hb;exact absurd (zVM (zU8 ho) (zVO I.sz h)) (zVf _)
theorem Inv.cne (I : Inv X zB σ H s) : ∀ x c,X.env.cells.lookup x = some c -> c ≠ X.env.locals:=fun x c e z => by
 obtain ⟨v,o,ho,hd⟩:=I.cell x c e;obtain ⟨m,⟨o',es,ep,ho',hd',_⟩,_⟩:=I.loc;rw [z,ho'] at ho; cases ho; rw [hd'] at hd; cases hd
theorem Inv.funs (I : Inv X zB σ H s) : s.heap.FunFrames X.base X.outer:=by
 have all : ∀ (l : List Env),(∀ b ∈ frs l,b ∈ X.fs) -> X.s₀.heap.FunFrames X.base l -> s.heap.FunFrames X.base l:=by
  intro l;induction l with
  | nil => intro _ _; trivial
  | cons env r ih =>
   intro hs hl;obtain ⟨hk,⟨L,o,hf,hn,ho,hd⟩,hr⟩:=hl;have hL : L ∈ X.fs:=hs L (by unfold frs; rw [List.filterMap_cons,hf]; exact zVB);obtain ⟨sl,e⟩:=I.base.slot L o ho (I.ok.frf L hL) hL fun z => I.ok.exfs L z hL;exact ⟨hk,⟨L,_,hf,hn,e,hd⟩,ih (fun b hb => hs b (by unfold frs; rw [List.filterMap_cons,hf]; exact zVA _ hb)) hr⟩
 exact all X.outer (fun _ hb => hb) I.ok.funs
theorem Inv.stack (I : Inv X zB σ H s) : s.heap.FunFrames X.base X.stack:=by
 rcases I.ok.stk with e | ⟨e,hf⟩
 ·rw [e]; exact I.funs
 ·rw [e];obtain ⟨m,hn,_⟩:=I.loc;refine .cons (by rw [I.ok.kind]; decide) hf hn ?_ I.funs;exact Heap.get?_none_of_le (zVO I.ok.bsz I.ok.above)
theorem Inv.stkSub (I : Inv X zB σ H s) : ∀ b ∈ frs X.stack,b ∈ X.env.locals :: X.fs:=fun b hb => by
 rcases I.ok.stk with e | ⟨e,hf⟩
 ·rw [e] at hb; exact zVA _ hb
 ·rw [e] at hb;unfold frs at hb;rw [List.filterMap_cons,hf] at hb;exact hb
theorem Inv.stkFree (I : Inv X zB σ H s) : ∀ b ∈ frs X.stack,H b = none:=fun b hb => by
 rcases zU9.mp (I.stkSub b hb) with e | hb
 ·rw [e]; exact I.free
 ·obtain ⟨_,o,ho,_⟩:=I.ok.funs.mem hb;exact I.base.free b o ho (I.ok.frf b hb) fun z => I.ok.exfs b z hb
theorem Inv.step {g' : Array GenState} {t' : Nat} {d' : Drawn} {ch : List Addr} (I : Inv X zB σ H s)
  (hch : ∀ b ∈ ch,(b ∈ X.ex \/ X.s₀.heap.objs.size <= b) /\ b ≠ X.env.locals /\ (∀ x c,X.env.cells.lookup x = some c -> c ≠ b) /\ ∀ p ∈ X.pn ++ zB,p.1 ≠ b)
  (keep : ∀ b o,b ≠ X.env.locals -> b ∉ X.fs -> b ∉ ch -> s.heap.get? b = some o -> H b = none -> h'.get? b = some o)
  (slot : ∀ b o,b ≠ X.env.locals -> b ∈ X.fs -> b ∉ ch -> s.heap.get? b = some o -> H b = none -> ∃ sl,h'.get? b = some { o with slots:=sl }) (free : ∀ b o,b ∉ ch -> s.heap.get? b = some o -> H b = none -> H' b = none)
  (there : ∀ b o,b ∉ ch -> s.heap.get? b = some o -> ∃ o',h'.get? b = some o')
  (tups : ∀ b xs,H b = some (.tup xs) -> H' b = some (.tup xs)) (frzs : ∀ b o u,H b = some (.frz o u) -> H' b = some (.frz o u)) (tbls : ∀ b ps,H b = some (.tbl ps) -> ∃ more,H' b = some (.tbl (ps ++ more)))
  (ns : ∀ m,s.heap.Ns X.env.locals m -> h'.Ns X.env.locals m) (hok : HOk X.prog X.w H' h') (hg : AllBare g') :
  Inv X zB σ H' { s with heap:=h',gens:=g',drawn:=d',toks:=t' }:=by
 have neL : ∀ b o,X.s₀.heap.get? b = some o -> b ≠ X.env.locals:=fun b o e => zVI (zVM (zU8 e) I.ok.above);have neC : ∀ b o,X.s₀.heap.get? b = some o -> b ∉ X.ex -> b ∉ ch:=fun b o e hx hb => by
  rcases (hch b hb).1 with z | z
  ·exact hx z
  ·exact absurd (zVM (zU8 e) z) (zVf _)
 have cellK : ∀ x c,X.env.cells.lookup x = some c -> ∀ v,s.heap.IsCell c v -> h'.IsCell c v:=fun x c e v ⟨o,ho,hd⟩ => by
  have nch : c ∉ ch:=fun z => (hch c z).2.2.1 x c e rfl;by_cases hc : c ∈ X.fs
  ·obtain ⟨sl,q⟩:=slot c o (I.cne x c e) hc nch ho (I.freeC x c e);exact ⟨_,q,hd⟩
  ·exact ⟨o,keep c o (I.cne x c e) hc nch ho (I.freeC x c e),hd⟩
 refine ⟨I.ok,I.os,hg,⟨fun b o e n hb hx => ?_,fun b o e n hb hx => ?_,fun b o e n hx => ?_,fun b o e hx => ?_,fun b xs e => tups b xs (I.base.tups b xs e),fun b o xs e => frzs b o xs (I.base.frzs b o xs e),fun b ps e => ?_⟩,?_,fun x c e => ?_,?_,fun x c e => ?_,fun p hp => ?_,hok,I.len⟩
 ·exact keep b o (neL b o e) hb (neC b o e hx) (I.base.keep b o e n hb hx) (I.base.free b o e n hx)
 ·obtain ⟨sl,e1⟩:=I.base.slot b o e n hb hx;obtain ⟨sl',e2⟩:=slot b _ (neL b o e) hb (neC b o e hx) e1 (I.base.free b o e n hx);exact ⟨sl',e2⟩
 ·obtain ⟨o',e1⟩:=I.base.there b o e hx;exact free b o' (neC b o e hx) e1 (I.base.free b o e n hx)
 ·obtain ⟨o',e1⟩:=I.base.there b o e hx;exact there b o' (neC b o e hx) e1
 ·obtain ⟨m1,e1⟩:=I.base.tbls b ps e;obtain ⟨m2,e2⟩:=tbls b _ e1;exact ⟨m1 ++ m2,by rw [e2,Array.append_assoc]⟩
 ·obtain ⟨m,hn,hl⟩:=I.loc;refine ⟨m,ns m hn,fun i x v e1 e2 e3 => ?_⟩;obtain ⟨u,r,l⟩:=hl i x v e1 e2 e3;refine ⟨u,r,?_⟩;rcases l with l | ⟨k,c,e,z⟩
  ·exact .inl l
  ·exact .inr ⟨k,c,e,cellK x c e _ z⟩
 ·obtain ⟨v,z⟩:=I.cell x c e;exact ⟨v,cellK x c e v z⟩
 ·obtain ⟨m,⟨o,_,_,ho,_⟩,_⟩:=I.loc;exact free _ o (fun z => (hch _ z).2.1 rfl) ho I.free
 ·obtain ⟨v,o,ho,hd⟩:=I.cell x c e;exact free c o (fun z => (hch c z).2.2.1 x c e rfl) ho (I.freeC x c e)
 ·obtain ⟨e,n,ne,nf,d⟩:=I.pin p hp;have nch : p.1 ∉ ch:=fun z => (hch p.1 z).2.2.2 p hp rfl;exact ⟨keep p.1 p.2 ne nf nch e n,free p.1 p.2 nch e n,ne,nf,d⟩
theorem Inv.un {t' : Nat} (I : Inv X zB σ H s) (u : Un X.fs [] H H' s.heap h') (hok : HOk X.prog X.w H' h') : Inv X zB σ H' { s with heap:=h',toks:=t' }:=by
 obtain ⟨m,⟨o,es,ep,ho,r⟩,_⟩:=id I.loc;obtain ⟨sl,hL⟩:=u.any ho I.free (by simp);exact I.step (g':=s.gens) (d':=s.drawn) (ch:=[]) (fun _ z => nomatch z) (fun b o _ hb _ e n => u.keep b o e n hb (by simp)) (fun b o _ hb _ e n => u.slot b o e n hb (by simp)) (fun b o _ e n => u.free b o e n (by simp)) (fun b o _ e => u.there b o e (by simp)) u.tups u.frzs u.tbls (fun m' hm => by
  obtain ⟨o',es',ep',ho',r'⟩:=hm;rw [ho] at ho'; cases ho';exact ⟨_,es',ep',hL,r'⟩) hok I.bare
theorem Inv.call {g' : Array GenState} {t' : Nat} {d' : Drawn} {ch : List Addr} (I : Inv X zB σ H s) (u : Un (frs X.stack) ch H H' s.heap h') (hok : HOk X.prog X.w H' h') (hg : AllBare g')
  (hch : ∀ b ∈ ch,(b ∈ X.ex \/ X.s₀.heap.objs.size <= b) /\ b ≠ X.env.locals /\ (∀ x c,X.env.cells.lookup x = some c -> c ≠ b) /\ ∀ p ∈ X.pn ++ zB,p.1 ≠ b) :
  Inv X zB σ H' { s with heap:=h',gens:=g',drawn:=d',toks:=t' }:=by
 obtain ⟨m,⟨o,es,ep,ho,r⟩,_⟩:=id I.loc;obtain ⟨sl,hL⟩:=u.any ho I.free fun z => (hch _ z).2.1 rfl;exact I.step (ch:=ch) hch (fun b o hL hb hc e n => u.keep b o e n (fun z => (zU9.mp (I.stkSub b z)).elim hL hb) hc) (fun b o _ _ hc e n => u.any e n hc) (fun b o hc e n => u.free b o e n hc) (fun b o hc e => u.there b o e hc) u.tups u.frzs u.tbls (fun m' hm => by
  obtain ⟨o',es',ep',ho',r'⟩:=hm;rw [ho] at ho'; cases ho';exact ⟨_,es',ep',hL,r'⟩) hok hg
theorem Inv.turned {t' : Nat} {it : Addr} (I : Inv X zB σ H s) (k : ∀ b o,b ≠ it -> s.heap.get? b = some o -> h'.get? b = some o) (hn : H it = none) (hL : it ≠ X.env.locals)
  (h1 : it ∈ X.ex \/ X.s₀.heap.objs.size <= it) (h2 : ∀ x c,X.env.cells.lookup x = some c -> c ≠ it) (h3 : ∀ p ∈ X.pn ++ zB,p.1 ≠ it) : Inv X zB σ H { s with heap:=h',toks:=t' }:=by
 have nit : ∀ b u,H b = some u -> b ≠ it:=fun b u e z => by rw [z,hn] at e; cases e
 refine I.step (g':=s.gens) (d':=s.drawn) (ch:=[it]) (fun b hb => ?_) (fun b o _ _ hc e _ => k b o (fun z => hc (by simp [z])) e) (fun b o _ _ hc e _ => ⟨o.slots,k b o (fun z => hc (by simp [z])) e⟩) (fun _ _ _ _ n => n)
  (fun b o hc e => ⟨o,k b o (fun z => hc (by simp [z])) e⟩) (fun _ _ e => e) (fun _ _ _ e => e) (fun b ps e => ⟨#[],by rw [e]; simp⟩) (fun m hm => ?_) (fun b u e => ?_) I.bare
 ·have e : b = it:=by simpa using hb
  subst e;exact ⟨h1,hL,h2,h3⟩
 ·obtain ⟨o,es,ep,ho,r⟩:=hm;exact ⟨o,es,ep,k _ o (Ne.symm hL) ho,r⟩
 ·refine (I.hok b u e).stay (fun c v hc q => k c v ?_ q) (fun _ q => q) fun _ _ q => q;rcases hc with z | z
  ·rw [z]; exact nit b u e
  ·exact nit c _ z
theorem Inv.tok (I : Inv X zB σ H s) (t : Nat) : Inv X zB σ H { s with toks:=t }:=I.un (h':=s.heap) (t':=t) Un.refl I.hok
theorem Inv.kept {t' : Nat} (I : Inv X zB σ H s) (k : ∀ b u,s.heap.get? b = some u -> h'.get? b = some u) : Inv X zB σ H { s with heap:=h',toks:=t' }:=I.un (Un.kept k) (I.hok.kept k)
theorem Inv.laid {a : Addr} {o : HO} {t' : Nat} (I : Inv X zB σ H s) (k : ∀ b u,s.heap.get? b = some u -> h'.get? b = some u) (hp : s.heap.objs.size <= a) (new : zBC X.prog X.w (upd H a o) h' a o) :
  Inv X zB σ (upd H a o) { s with heap:=h',toks:=t' }:=I.un (Un.laid k hp (I.hok.fresh hp)) (I.hok.laid k hp new)
theorem Inv.write {x e : Addr} {o : HO} {t' : Nat} (I : Inv X zB σ H s) (mu : Mut (H x)) (he : e = x \/ H e = some (.own x)) (k : ∀ b u,b ≠ e -> s.heap.get? b = some u -> h'.get? b = some u) (heo : ∃ u,h'.get? e = some u)
  (new : zBC X.prog X.w (upd H x o) h' x o) : Inv X zB σ (upd H x o) { s with heap:=h',toks:=t' }:=I.un (Un.write mu he k heo) (I.hok.write mu he k heo new)
theorem Inv.weak {σ' : List (Option V)} (I : Inv X zB σ H s) (hl : σ'.length = σ.length) (w : ∀ (i : Nat) v,σ'[i]? = some (some v) -> σ[i]? = some (some v)) : Inv X zB σ' H s :=
 ⟨I.ok,I.os,I.bare,I.base,let ⟨m,hn,hl'⟩:=I.loc; ⟨m,hn,fun i x v e1 e2 e3 => hl' i x v e1 (w i v e2) e3⟩,I.cell,I.free,I.freeC,I.pin,I.hok,hl.trans I.len⟩
theorem Inv.pins_of {pins' : List (Addr × Obj)} (I : Inv X zB σ H s) (h : ∀ p ∈ pins',s.heap.get? p.1 = some p.2 /\ H p.1 = none /\ p.1 ≠ X.env.locals /\ p.1 ∉ X.fs /\ ∀ v,p.2.data ≠ .cell v) : Inv X pins' σ H s :=
 ⟨I.ok,I.os,I.bare,I.base,I.loc,I.cell,I.free,I.freeC,fun p hp => (zVN.mp hp).elim (fun z => I.pin p (zWC _ z)) (h p),I.hok,I.len⟩
theorem zLA {N : List Str} (hN : N.Nodup) {i j : Nat} {x : Str} (a : N[i]? = some x) (b : N[j]? = some x) : i = j:=by
 obtain ⟨h1,e1⟩:=zU0.mp a;obtain ⟨h2,e2⟩:=zU0.mp b;exact (List.getElem_inj hN).mp (e1.trans e2.symm)
theorem zNs {M : Model} {A : Around} {E : Value -> Shared -> Prop} {i : Nat} {x : Str} {v : V} {u : Value} {Q : Unit -> Shared -> Prop} (I : Inv X zB σ H s) (hN : X.N.Nodup) (hi : X.N[i]? = some x) (hx : Loc X.env.scope x) (r : zx v u)
  (h : ∀ s',Inv X zB (σ.set i (some v)) H s' -> (∃ a,Heap.SameBut a s.heap s'.heap /\ (a = X.env.locals \/ X.env.cells.lookup x = some a)) -> Q () s') (hf : X.fn x = true \/ X.env.scope.names.lookup x = some .local:=by first | exact .inl rfl | exact .inr rfl | assumption) : wpAny M A (storeName X.env x u) Q E s:=by
 obtain ⟨m,hn,hl⟩:=id I.loc;have hcls : (X.env.scope.kind == .class || (X.env.scope.kind == .module && X.env.locals != X.env.globals)) = false:=by rw [I.ok.kind]; rfl
 have hiσ : i < σ.length:=by rw [I.len]; exact (zU0.mp hi).1
 have cne:=I.cne;have tracked : ∀ {a : Addr} {h' : Heap},(∃ o,s.heap.get? a = some o /\ H a = none) -> Heap.SameBut a s.heap h' -> HOk X.prog X.w H h':=fun {a h'} ha hs b ob e => by
  obtain ⟨_,_,hfree⟩:=ha;refine (I.hok b ob e).stay (fun c w' hc q => (hs.2 c ?_).trans q) (fun _ q => q) fun _ _ q => q;rintro rfl;rcases hc with rfl | hc
  ·rw [hfree] at e; cases e
  ·rw [hfree] at hc; cases hc
 rcases hx with hk | hk
 ·refine wpAny_storeName_local hk hn (fun h' hn' hs => ?_) hcls;obtain ⟨oL,_,_,hoL,_⟩:=id hn;refine h _ ⟨I.ok,I.os,I.bare,⟨fun b o e n hb hx => ?_,fun b o e n hb hx => ?_,I.base.free,fun b o e hx => ?_,I.base.tups,I.base.frzs,I.base.tbls⟩,⟨_,hn',fun j y v' e1 e2 e3 => ?_⟩,fun y c e => ?_,I.free,I.freeC,fun p hp => ?_,tracked ⟨oL,hoL,I.free⟩ hs,by simpa using I.len⟩ ⟨_,hs,.inl rfl⟩
  ·exact (hs.2 b (zVI (zVM (zU8 e) I.ok.above))).trans (I.base.keep b o e n hb hx)
  ·obtain ⟨sl,e1⟩:=I.base.slot b o e n hb hx;exact ⟨sl,(hs.2 b (zVI (zVM (zU8 e) I.ok.above))).trans e1⟩
  ·obtain ⟨o',e1⟩:=I.base.there b o e hx;exact ⟨o',(hs.2 b (zVI (zVM (zU8 e) I.ok.above))).trans e1⟩
  ·by_cases hj : j = i
   ·subst hj;rw [hi] at e1; cases e1;rw [zVr hiσ] at e2;cases e2;exact ⟨u,r,.inl ⟨hk,by simp⟩⟩
   ·rw [zVR (Ne.symm hj)] at e2;obtain ⟨u',r',q⟩:=hl j y v' e1 e2 e3;refine ⟨u',r',?_⟩;rcases q with ⟨k,e⟩ | ⟨k,c,e,z⟩
    ·refine .inl ⟨k,?_⟩;have : y ≠ x:=fun e => hj (zLA hN e1 (e ▸ hi));simp [this,e]
    ·exact .inr ⟨k,c,e,z.sameBut hs (cne y c e)⟩
  ·obtain ⟨w',z⟩:=I.cell y c e;exact ⟨w',z.sameBut hs (cne y c e)⟩
  ·obtain ⟨e,n,ne,nf,d⟩:=I.pin p hp;exact ⟨(hs.2 p.1 ne).trans e,n,ne,nf,d⟩
 ·have hfn : X.fn x = true:=by
   rcases hf with z | z
   ·exact z
   ·rw [z] at hk; cases hk
  obtain ⟨c,hc⟩:=I.ok.has x (.inl hk);obtain ⟨w',z⟩:=I.cell x c hc;refine wpAny_storeName_cell I.ok.kind hk hc z (fun h' hc' hs => ?_);obtain ⟨oc,hoc,hocd⟩:=id z;refine h { s with heap:=h' } ⟨I.ok,I.os,I.bare,⟨fun b o e n hb hx => ?_,fun b o e n hb hx => ?_,I.base.free,fun b o e hx => ?_,I.base.tups,I.base.frzs,I.base.tbls⟩,⟨m,hn.sameBut hs (Ne.symm (cne x c hc)),fun j y v' e1 e2 e3 => ?_⟩,fun y c' e => ?_,I.free,I.freeC,fun p hp => ?_,tracked ⟨oc,hoc,I.freeC x c hc⟩ hs,by simpa using I.len⟩ ⟨c,hs,.inr hc⟩
  ·exact (hs.2 b (zVI (zVM (zU8 e) (I.ok.cab x c hfn hc)))).trans (I.base.keep b o e n hb hx)
  ·obtain ⟨sl,e1⟩:=I.base.slot b o e n hb hx;exact ⟨sl,(hs.2 b (zVI (zVM (zU8 e) (I.ok.cab x c hfn hc)))).trans e1⟩
  ·obtain ⟨o',e1⟩:=I.base.there b o e hx;exact ⟨o',(hs.2 b (zVI (zVM (zU8 e) (I.ok.cab x c hfn hc)))).trans e1⟩
  ·by_cases hj : j = i
   ·subst hj;rw [hi] at e1; cases e1;rw [zVr hiσ] at e2;cases e2;exact ⟨u,r,.inr ⟨.inl hk,c,hc,hc'⟩⟩
   ·rw [zVR (Ne.symm hj)] at e2;obtain ⟨u',r',q⟩:=hl j y v' e1 e2 e3;refine ⟨u',r',?_⟩;rcases q with q | ⟨k,c',e,z'⟩
    ·exact .inl q
    ·refine .inr ⟨k,c',e,z'.sameBut hs ?_⟩;rintro rfl;exact hj (zLA hN e1 (I.ok.inj _ _ _ e hc ▸ hi))
  ·by_cases hcc : c' = c
   ·subst hcc; exact ⟨_,hc'⟩
   ·obtain ⟨w2,z2⟩:=I.cell y c' e;exact ⟨w2,z2.sameBut hs hcc⟩
  ·obtain ⟨e,n,ne,nf,d⟩:=I.pin p hp;refine ⟨(hs.2 p.1 ?_).trans e,n,ne,nf,d⟩;intro q;rw [q,hoc] at e;have q' : oc = p.2:=zVx e;exact d w' (by rw [<- q']; exact hocd)
theorem zK1 {M : Model} {A : Around} {E : Value -> Shared -> Prop} {i : Nat} {x : Str} {v : V} {u : Value} {Q : Unit -> Shared -> Prop} (I : Inv X zB σ H s) (hN : X.N.Nodup) (hi : X.N[i]? = some x) (hx : Loc X.env.scope x) (r : zx v u)
  (h : ∀ s',Inv X zB (σ.set i (some v)) H s' -> Q () s') (hf : X.fn x = true \/ X.env.scope.names.lookup x = some .local:=by first | exact .inl rfl | exact .inr rfl | assumption) : wpAny M A (storeName X.env x u) Q E s :=
 zNs I hN hi hx r (fun s' I' _ => h s' I') hf
theorem Inv.call' {s' : Shared} {ch : List Addr} (I : Inv X zB σ H s) (ho : s'.os = s.os) (u : Un (frs X.stack) ch H H' s.heap s'.heap) (hok : HOk X.prog X.w H' s'.heap) (hg : AllBare s'.gens)
  (hch : ∀ b ∈ ch,(b ∈ X.ex \/ X.s₀.heap.objs.size <= b) /\ b ≠ X.env.locals /\ (∀ x c,X.env.cells.lookup x = some c -> c ≠ b) /\ ∀ p ∈ X.pn ++ zB,p.1 ≠ b) : Inv X zB σ H' s':=by
 obtain ⟨h',g',d',t',o'⟩:=s';have e : o' = s.os:=ho;subst e;exact I.call (g':=g') (t':=t') (d':=d') u hok hg hch
end
abbrev XK:=Value -> Option Addr -> Hp -> Prop
abbrev St:=List (Option V)
abbrev VK:=V -> Hp -> Prop
abbrev TE:=St -> Hp -> VK -> Prop
abbrev TT:=St -> Hp -> (Bool -> Hp -> Prop) -> Prop
abbrev TA:=St -> Hp -> (List V -> Hp -> Prop) -> Prop
structure Ends where
 nx : St -> Hp -> Prop
 rt : VK
 bk : St -> Hp -> Prop:=fun _ _ => False
 ct : St -> Hp -> Prop:=fun _ _ => False
abbrev TS:=Ends -> St -> Hp -> Prop
def EP (X : Cx) (zB : List (Addr × Obj)) (σ : St) (Q : VK) (u : Value) (s' : Shared) : Prop:=∃ v H',Inv X zB σ H' s' /\ zx v u /\ Q v H'
def TP (X : Cx) (zB : List (Addr × Obj)) (σ : St) (Q : Bool -> Hp -> Prop) (b : Bool) (s' : Shared) : Prop:=∃ H',Inv X zB σ H' s' /\ Q b H'
def AP (X : Cx) (zB : List (Addr × Obj)) (σ : St) (Q : List V -> Hp -> Prop) (us : List Value) (s' : Shared) : Prop:=∃ vs H',Inv X zB σ H' s' /\ zo vs us /\ Q vs H'
def SP (X : Cx) (zB : List (Addr × Obj)) (D : Ends) (f : Flow) (s' : Shared) : Prop :=
 match f with
 | .next => ∃ σ' H',Inv X zB σ' H' s' /\ D.nx σ' H'
 | .brk => ∃ σ' H',Inv X zB σ' H' s' /\ D.bk σ' H'
 | .cont => ∃ σ' H',Inv X zB σ' H' s' /\ D.ct σ' H'
 | .ret u => ∃ v σ' H',Inv X zB σ' H' s' /\ zx v u /\ D.rt v H'
def PE (X : Cx) (e : Expr) (t : TE) : Prop :=
 ∀ (zB : List (Addr × Obj)) (s : Shared) (σ : St) (H : Hp) (Q : VK),Inv X zB σ H s -> t σ H Q -> wpAny (model X.prog X.w) X.A (eval e X.env) (EP X zB σ Q) X.xe s
def PT (X : Cx) (e : Expr) (t : TT) : Prop :=
 ∀ (zB : List (Addr × Obj)) (s : Shared) (σ : St) (H : Hp) (Q : Bool -> Hp -> Prop),Inv X zB σ H s -> t σ H Q -> wpAny (model X.prog X.w) X.A (isTrue e X.env (eval e X.env)) (TP X zB σ Q) X.xe s
def PW (X : Cx) (e : Expr) (t : TT) : Prop :=
 ∀ (whole : Sem Value) (zB : List (Addr × Obj)) (s : Shared) (σ : St) (H : Hp) (Q : Bool -> Hp -> Prop),Inv X zB σ H s -> t σ H Q -> wpAny (model X.prog X.w) X.A (isTrue e X.env whole) (TP X zB σ Q) X.xe s
theorem PW.pt {X : Cx} {e : Expr} {t : TT} (h : PW X e t) : PT X e t:=h _
def PA (X : Cx) (es : List Expr) (t : TA) : Prop :=
 ∀ (pos : Pos) (zB : List (Addr × Obj)) (s : Shared) (σ : St) (H : Hp) (Q : List V -> Hp -> Prop),Inv X zB σ H s -> t σ H Q -> wpAny (model X.prog X.w) X.A (spliced (backTo pos (starEach es X.env))) (AP X zB σ Q) X.xe s
def PS (X : Cx) (st : Stmt) (t : TS) : Prop :=
 ∀ (zB : List (Addr × Obj)) (s : Shared) (σ : St) (H : Hp) (D : Ends),Inv X zB σ H s -> t D σ H -> wpAny (model X.prog X.w) X.A (exec st X.env) (SP X zB D) X.xe s
def PSs (X : Cx) (st : List Stmt) (t : TS) : Prop :=
 ∀ (zB : List (Addr × Obj)) (s : Shared) (σ : St) (H : Hp) (D : Ends),Inv X zB σ H s -> t D σ H -> wpAny (model X.prog X.w) X.A (execs st X.env) (SP X zB D) X.xe s
theorem thn {α : Type} {t : Sem α} {Q Q' : α -> Shared -> Prop} {M : Model} {A : Around} {E : Value -> Shared -> Prop} {s : Shared} (h : wpAny M A t Q E s) (hQ : ∀ a s,Q a s -> Q' a s) : wpAny M A t Q' E s:=zVT h hQ fun _ _ x => x
section
variable {X : Cx}
def zSR (i : Nat) : TE:=fun σ H Q => ∃ v,σ[i]? = some (some v) /\ Q v H
def tC (v : V) : TE:=fun _ H Q => Q v H
theorem zSa {i : Nat} {x : Str} {pos : Pos} (hN : X.N[i]? = some x) (hv : Vis X.env.scope x) (hd : (x == ("__debug__" : Str)) = false:=by decide) (hcd : (x == ("__classdict__" : Str)) = false:=by decide) : PE X (.Name x pos) (zSR i):=by
 intro zB s σ H Q I h;obtain ⟨v,e,h⟩:=h;obtain ⟨m,hn,hl⟩:=I.loc;obtain ⟨u,r,l⟩:=hl i x v hN e hv;have fin : EP X zB σ Q u s:=⟨v,H,I,r,h⟩;rcases l with ⟨hk,hm⟩ | ⟨hk,c,hc,hcell⟩
 ·exact wpAny_Name (wpAny_loadName_local I.ok.kind hk hn hm fin) hd
 ·rcases hk with hk | hk
  ·exact wpAny_Name (wpAny_loadName_cell I.ok.kind hk hc hcell fin) hd
  ·exact wpAny_Name (wpAny_loadName_free I.ok.kind hk hc hcell fin hcd) hd
theorem zS5 {i j pos} : PE X (.Constant (.int i) j pos) (tC (.int i)):=fun _ _ _ H _ I h => wpAny_Constant_int ⟨.int i,H,I.tok _,⟨_,rfl⟩,h⟩
theorem zTa {b j pos} : PE X (.Constant (.bool b) j pos) (tC (.bl b)):=fun _ _ _ H _ I h => Constant_bool ⟨.bl b,H,I,rfl,h⟩
theorem zTM {j pos} : PE X (.Constant .none j pos) (tC .non):=fun _ _ _ H _ I h => Constant_none ⟨.non,H,I,rfl,h⟩
def Gl (X : Cx) (x : Str) : Prop:=X.env.kindOf x = some .globalImplicit
theorem zRI {E : Value -> Shared -> Prop} {zB : List (Addr × Obj)} {s : Shared} {σ : St} {H : Hp} {x : Str} {u : Value} {pos : Pos} {Q : Value -> Shared -> Prop} (I : Inv X zB σ H s) (hg : Gl X x) (hm : X.mg x = some u) (h : Q u s)
  (hd : (x == ("__debug__" : Str)) = false:=by decide) : wpAny (model X.prog X.w) X.A (eval (.Name x pos) X.env) Q E s :=
 Calls.Name_function_global I.ok.kind hg (Calls.loadGlobal_global (by rw [I.ok.glob]; exact I.mod.glob.keeps I.bk) hm h) hd
theorem zF4 {E : Value -> Shared -> Prop} {zB : List (Addr × Obj)} {s : Shared} {σ : St} {H : Hp} {x : Str} {u : Value} {pos : Pos} {Q : Value -> Shared -> Prop} (I : Inv X zB σ H s) (hg : Gl X x) (hm : X.mg x = none) (hv : bootBuiltins x = some u) (h : Q u s)
  (hn : x ≠ "__name__" := by decide) (hd : (x == ("__debug__" : Str)) = false:=by decide) : wpAny (model X.prog X.w) X.A (eval (.Name x pos) X.env) Q E s:=by
 obtain ⟨mb,h1,h2⟩:=I.mod.blt;exact Calls.Name_function_global I.ok.kind hg (Calls.loadGlobal_builtin (by rw [I.ok.glob]; exact I.mod.glob.keeps I.bk) hm (by rw [I.ok.blt]; exact h1.keeps I.bk) ((h2 x hn).trans hv) h) hd
variable {a b : Expr} {ta tb : TE} {pos : Pos}
def PC (X : Cx) (op : CmpOp) (a b : Expr) (t : TE) : Prop :=
 ∀ (zB : List (Addr × Obj)) (s : Shared) (σ : St) (H : Hp) (Q : VK),Inv X zB σ H s -> t σ H Q ->
  wpAny (model X.prog X.w) X.A (eval a X.env) (fun v s₁ => wpAny (model X.prog X.w) X.A (eval b X.env) (fun u s₂ => wpAny (model X.prog X.w) X.A (compareOp op v u) (EP X zB σ Q) X.xe s₂) X.xe s₁) X.xe s
def tB (t : TE) : TT:=fun σ H Q => t σ H fun x H1 => ∃ c,x = .bl c /\ Q c H1
theorem zSV {op : CmpOp} {t : TE} (h : PC X op a b t) (h1 : behindInMarks op b = false:=by first | exact nobehind _ (by decide) (by decide) | rfl) : PE X (.Compare a [op] [b] pos) t:=fun zB s σ H Q I hw => wpAny_Compare1 (h zB s σ H Q I hw) h1
theorem zQT {op : CmpOp} {t : TE} (h : PC X op a b t) (h1 : behindInMarks op b = false:=by first | exact nobehind _ (by decide) (by decide) | rfl) : PT X (.Compare a [op] [b] pos) (tB t):=by
 intro zB s σ H Q I hw;refine wpAny_isTrue_Compare1 (thn (h zB s σ H _ I hw) fun v s1 h1 => thn h1 fun u s2 h2 => thn h2 fun c s3 ⟨x,H1,I1,r1,q1⟩ => ?_) h1;obtain ⟨d,rfl,q⟩:=q1;cases r1;exact wpAny_truthy_bool ⟨H1,I1,q⟩
theorem zSE {e : Expr} {t : TE} (h : PE X e t) (he : ∀ whole,isTrue e X.env whole = (do let v <- whole; standAt e.pos; holding [v] (truthy v)):=by intro _; rfl) : PT X e (tB t):=by
 intro zB s σ H Q I hw;refine isTrue_plain (thn (h zB s σ H _ I hw) fun v s1 ⟨x,H1,I1,r1,q1⟩ => ?_) (he _);obtain ⟨d,rfl,q⟩:=q1;cases r1;exact wpAny_truthy_bool ⟨H1,I1,q⟩
variable {tA tB' : TT} {rest : List Expr}
def zUn (t u : TT) : TT:=fun σ H Q => t σ H fun c H1 => if c = true then u σ H1 Q else Q false H1
def tOr (t u : TT) : TT:=fun σ H Q => t σ H fun c H1 => if c = true then Q true H1 else u σ H1 Q
theorem zQ0 (ha : PT X a tA) : PW X (.BoolOp .And [a] pos) tA:=by
 intro wh zB s σ H Q I h;refine isTrue_and (thn (ha zB s σ H Q I h) fun c s1 e => ?_);cases c with
 | true => exact isTrue_and_nil e
 | false => exact e
theorem zSv (ha : PT X a tA) : PW X (.BoolOp .Or [a] pos) tA:=by
 intro wh zB s σ H Q I h;refine isTrue_or (thn (ha zB s σ H Q I h) fun c s1 e => ?_);cases c with
 | false => exact isTrue_or_nil e
 | true => exact e
theorem zS7 (ha : PT X a tA) (hb : PW X (.BoolOp .And (b :: rest) pos) tB') : PW X (.BoolOp .And (a :: b :: rest) pos) (zUn tA tB'):=by
 intro wh zB s σ H Q I h;refine isTrue_and (thn (ha zB s σ H _ I h) fun c s1 ⟨H1,I1,q1⟩ => ?_);cases c with
 | true => exact hb wh zB s1 σ H1 Q I1 q1
 | false => exact ⟨H1,I1,q1⟩
theorem zTu (ha : PT X a tA) (hb : PW X (.BoolOp .Or (b :: rest) pos) tB') : PW X (.BoolOp .Or (a :: b :: rest) pos) (tOr tA tB'):=by
 intro wh zB s σ H Q I h;refine isTrue_or (thn (ha zB s σ H _ I h) fun c s1 ⟨H1,I1,q1⟩ => ?_);cases c with
 | true => exact ⟨H1,I1,q1⟩
 | false => exact hb wh zB s1 σ H1 Q I1 q1
def tIf (t : TT) (ta tb : TE) : TE:=fun σ H Q => t σ H fun c H1 => if c = true then ta σ H1 Q else tb σ H1 Q
theorem zPt {c : Expr} (hc : PT X c tA) (ha : PE X a ta) (hb : PE X b tb) : PE X (.IfExp c a b pos) (tIf tA ta tb):=by
 intro zB s σ H Q I h;refine wpAny_IfExp (thn (hc zB s σ H _ I h) fun d s1 ⟨H1,I1,q1⟩ => ?_);cases d with
 | true => exact ha zB s1 σ H1 Q I1 q1
 | false => exact hb zB s1 σ H1 Q I1 q1
end
def SqL (K : PySem.W.Frag) (H : Hp) (a : Addr) (xs : List V) : Prop :=
 Rd H a (.lst xs) \/
  ∃ (o : Obj) (its : Array Value) (n : Nat),K.lookup a = some o /\ o.cls = .type "list" /\ o.dict = none /\ o.data = .seq its n /\ its.size <= sizeLine /\ zo xs its.toList
def SqT (K : PySem.W.Frag) (H : Hp) (a : Addr) (xs : List V) : Prop :=
 Rd H a (.tup xs) \/
  ∃ (o : Obj) (its : Array Value) (n : Nat),K.lookup a = some o /\ o.cls = .type "tuple" /\ o.data = .seq its n /\ its.size <= sizeLine /\ zo xs its.toList
def zUe : Value -> Option V
 | .none => some .non
 | .bool b => some (.bl b)
 | .int i _ => some (.int i)
 | .str x _ => some (.str x)
 | .bytes b _ => some (.byt b)
 | .float b _ => some (.flt b)
 | .ref a => some (.ref a)
 | .type n => some (.ty n)
 | _ => none
theorem zx.abs {x : V} {u : Value} (r : zx x u) : zUe u = some x:=by
 cases x with
 | non => cases r; rfl
 | bl _ => cases r; rfl
 | int _ => obtain ⟨t,rfl⟩:=r; rfl
 | str _ => obtain ⟨t,rfl⟩:=r; rfl
 | byt _ => obtain ⟨t,rfl⟩:=r; rfl
 | flt _ => obtain ⟨t,rfl⟩:=r; rfl
 | ref _ => cases r; rfl
 | ty _ => cases r; rfl
theorem zx.inj {x y : V} {u : Value} (r : zx x u) (q : zx y u) : x = y:=zVx (r.abs.symm.trans q.abs)
theorem zo.inj : ∀ {xs ys : List V} {us : List Value},zo xs us -> zo ys us -> xs = ys
 | _,_,_,.nil,.nil => rfl
 | _,_,_,.cons r t,.cons r' t' => by rw [r.inj r',zo.inj t t']
section
variable {X : Cx} {zB : List (Addr × Obj)} {σ : St} {H : Hp} {s : Shared} {a : Addr} {xs ys : List V}
theorem SqL.of {K : PySem.W.Frag} (h : H a = some (.lst xs)) : SqL K H a xs:=.inl (.inl h)
theorem SqT.of {K : PySem.W.Frag} (h : H a = some (.tup xs)) : SqT K H a xs:=.inl (.inl h)
theorem Inv.list (I : Inv X zB σ H s) (h : SqL X.K H a xs) : ∃ its : List Value,zo xs its /\ PlainL s.heap a its.toArray /\ xs.length <= sizeLine:=by
 rcases h with h | ⟨o,its,n,hk,hc,hd,hs,hz,r⟩
 ·obtain ⟨z,its,n,r,e⟩:=h.ok I.hok;exact ⟨its,r,⟨_,n,e,rfl,rfl,rfl⟩,z⟩
 ·refine ⟨its.toList,r,⟨o,n,I.kIn a o hk,hc,hd,by simpa using hs⟩,?_⟩;have e:=r.length;simp only [zVg] at e;omega
theorem Inv.tuple (I : Inv X zB σ H s) (h : SqT X.K H a xs) : ∃ its : List Value,zo xs its /\ IsTup s.heap a its.toArray /\ xs.length <= sizeLine:=by
 rcases h with h | ⟨o,its,n,hk,hc,hs,hz,r⟩
 ·obtain ⟨z,its,r,p⟩:=h.ok I.hok;exact ⟨its,r,p.tup,z⟩
 ·refine ⟨its.toList,r,⟨o,I.kIn a o hk,hc,n,by simpa using hs⟩,?_⟩;have e:=r.length;simp only [zVg] at e;omega
theorem Inv.list_inj (I : Inv X zB σ H s) (h : SqL X.K H a xs) (h' : SqL X.K H a ys) : xs = ys:=by
 obtain ⟨its,r,⟨o,n,e,_,_,d⟩,_⟩:=I.list h;obtain ⟨its',r',⟨o',n',e',_,_,d'⟩,_⟩:=I.list h';rw [e] at e'; cases e';rw [d] at d';injection d' with d1 _
 have : its = its':=by simpa using zWk Array.toList d1
 subst this;exact r.inj r'
theorem Inv.tuple_inj (I : Inv X zB σ H s) (h : SqT X.K H a xs) (h' : SqT X.K H a ys) : xs = ys:=by
 obtain ⟨its,r,⟨o,e,_,n,d⟩,_⟩:=I.tuple h;obtain ⟨its',r',⟨o',e',_,n',d'⟩,_⟩:=I.tuple h';rw [e] at e'; cases e';rw [d] at d';injection d' with d1 _
 have : its = its':=by simpa using zWk Array.toList d1
 subst this;exact r.inj r'
end
abbrev Cx.wish (X : Cx) (E : Value -> Shared -> Prop) : Cx:={ X with xe:=E }
abbrev Cx.nox (X : Cx) : Cx:=X.wish fun _ _ => False
theorem Cx.Ok.wish {X : Cx} (ok : X.Ok) (E : Value -> Shared -> Prop) : (X.wish E).Ok :=
 ⟨ok.mod,ok.kind,ok.glob,ok.blt,ok.above,ok.inj,ok.has,ok.cab,ok.hd,ok.frames,ok.stk,ok.exf,ok.bs,ok.bsz,ok.noex,ok.exfs,ok.funs,ok.frf⟩
theorem Cx.Ok.unwish {X : Cx} {E : Value -> Shared -> Prop} (ok : (X.wish E).Ok) : X.Ok :=
 ⟨ok.mod,ok.kind,ok.glob,ok.blt,ok.above,ok.inj,ok.has,ok.cab,ok.hd,ok.frames,ok.stk,ok.exf,ok.bs,ok.bsz,ok.noex,ok.exfs,ok.funs,ok.frf⟩
section
variable {X : Cx} {zB : List (Addr × Obj)} {σ : St} {H : Hp} {s : Shared} {E : Value -> Shared -> Prop}
theorem Inv.wish (I : Inv X zB σ H s) (E : Value -> Shared -> Prop) : Inv (X.wish E) zB σ H s:=⟨I.ok.wish E,I.os,I.bare,I.base,I.loc,I.cell,I.free,I.freeC,I.pin,I.hok,I.len⟩
theorem Inv.unwish (I : Inv (X.wish E) zB σ H s) : Inv X zB σ H s:=⟨I.ok.unwish,I.os,I.bare,I.base,I.loc,I.cell,I.free,I.freeC,I.pin,I.hok,I.len⟩
theorem SP.unwish {D : Ends} {f : Flow} {s' : Shared} (h : SP (X.wish E) zB D f s') : SP X zB D f s':=by
 cases f with
 | next => obtain ⟨σ',H',I,q⟩:=h; exact ⟨σ',H',I.unwish,q⟩
 | brk => obtain ⟨σ',H',I,q⟩:=h; exact ⟨σ',H',I.unwish,q⟩
 | cont => obtain ⟨σ',H',I,q⟩:=h; exact ⟨σ',H',I.unwish,q⟩
 | ret u => obtain ⟨v,σ',H',I,r,q⟩:=h; exact ⟨v,σ',H',I.unwish,r,q⟩
theorem PSs.nox {st : List Stmt} {t : TS} (h : PSs X.nox st t) : PSs X st t:=fun zB s σ H D I hw =>
 zVT (h zB s σ H D (I.wish _) hw) (fun _ _ q => q.unwish) fun _ _ z => False.elim z
end
section
variable {X : Cx} {st : Stmt} {rest : List Stmt} {t u : TS} {e : Expr} {te : TE} {pos : Pos}
def zUP : TS:=fun D σ H => D.nx σ H
def zUZ (t u : TS) : TS:=fun D σ H => t { D with nx:=u D } σ H
theorem zQX : PSs X [] zUP:=fun _ _ σ H _ I h => wpAny_execs_nil ⟨σ,H,I,h⟩
theorem zPj (h1 : PS X st t) (h2 : PSs X rest u) : PSs X (st :: rest) (zUZ t u):=by
 intro zB s σ H D I h;refine wpAny_execs_cons (thn (h1 zB s σ H { D with nx:=u D } I h) fun f s1 q => ?_);cases f with
 | next =>
  obtain ⟨σ',H',I',q⟩:=q;exact h2 zB s1 σ' H' D I' q
 | ret v => exact q
 | brk => exact q
 | cont => exact q
theorem zQ2 (h1 : PS X st t) : PSs X [st] t:=by
 intro zB s σ H D I h;refine wpAny_execs_cons (thn (h1 zB s σ H D I h) fun f s1 q => ?_);cases f with
 | next => exact wpAny_execs_nil q
 | ret v => exact q
 | brk => exact q
 | cont => exact q
theorem Inv.quiet {zB : List (Addr × Obj)} {σ : St} {H : Hp} {s : Shared} (I : Inv X zB σ H s) : interactive X.env = false:=by simp [interactive,I.ok.kind]
def zUN (te : TE) : TS:=fun D σ H => te σ H fun _ H1 => D.nx σ H1
theorem zRR (he : PE X e te) (hs : swapsWith e none pos.line X.env = pure false:=by rfl) : PS X (.Expr e pos) (zUN te):=by
 intro zB s σ H D I h;exact wpAny_Expr_any (thn (he zB s σ H _ I h) fun v s1 ⟨x,H1,I1,r1,q1⟩ => ⟨σ,H1,I1,q1⟩) I.quiet hs
def zUv (te : TE) : TS:=fun D σ H => te σ H D.rt
theorem zSq (he : PE X e te) : PS X (.Return (some e) pos) (zUv te):=by
 intro zB s σ H D I h;exact wpAny_Return_some (thn (he zB s σ H _ I h) fun v s1 ⟨x,H1,I1,r1,q1⟩ => ⟨x,σ,H1,I1,r1,q1⟩)
def zUV (c : TT) (t u : TS) : TS:=fun D σ H => c σ H fun b H1 => if b = true then t D σ H1 else u D σ H1
theorem zUH {c : Expr} {a b : List Stmt} {tc : TT} (hc : PT X c tc) (ha : PSs X a t) (hb : PSs X b u) : PS X (.If c a b pos) (zUV tc t u):=by
 intro zB s σ H D I h;refine wpAny_If (thn (hc zB s σ H _ I h) fun d s1 ⟨H1,I1,q1⟩ => ?_);cases d with
 | true => exact ha zB s1 σ H1 D I1 q1
 | false => exact hb zB s1 σ H1 D I1 q1
end
abbrev TG:=V -> St -> Hp -> (St -> Hp -> Prop) -> Prop
abbrev TGs:=List V -> St -> Hp -> (St -> Hp -> Prop) -> Prop
def PG (X : Cx) (target : Expr) (t : TG) : Prop :=
 ∀ (zB : List (Addr × Obj)) (s : Shared) (σ : St) (H : Hp) (v : V) (u : Value) (Q : St -> Hp -> Prop),Inv X zB σ H s -> zx v u -> t v σ H Q ->
  wpAny (model X.prog X.w) X.A (assign target X.env u) (fun _ s' => ∃ σ' H',Inv X zB σ' H' s' /\ Q σ' H') X.xe s
def PGs (X : Cx) (ts : List Expr) (t : TGs) : Prop :=
 ∀ (zB : List (Addr × Obj)) (s : Shared) (σ : St) (H : Hp) (vs : List V) (us : List Value) (Q : St -> Hp -> Prop),Inv X zB σ H s -> zo vs us -> t vs σ H Q ->
  wpAny (model X.prog X.w) X.A (assignInOrder ((assignEach ts X.env).map (·.2)) us) (fun _ s' => ∃ σ' H',Inv X zB σ' H' s' /\ Q σ' H') X.xe s
abbrev zTR:=V -> V -> V -> Hp -> (Hp -> Prop) -> Prop
def zT0 (X : Cx) (t : zTR) : Prop :=
 ∀ (zB : List (Addr × Obj)) (s : Shared) (σ : St) (H : Hp) (o i v : V) (ov iv u : Value) (Q : Hp -> Prop),Inv X zB σ H s -> zx o ov -> zx i iv -> zx v u -> t o i v H Q ->
  wpAny (model X.prog X.w) X.A (setItem ov iv u) (fun _ s' => ∃ H',Inv X zB σ H' s' /\ Q H') X.xe s
section
variable {X : Cx} {pos : Pos}
def zEB (i : Nat) : TG:=fun v σ H Q => Q (σ.set i (some v)) H
theorem zJC {i : Nat} {x : Str} (hN : X.N.Nodup) (hi : X.N[i]? = some x) (hx : Loc X.env.scope x) (hf : X.fn x = true \/ X.env.scope.names.lookup x = some .local:=by first | exact .inl rfl | exact .inr rfl | assumption) : PG X (.Name x pos) (zEB i):=by
 intro zB s σ H v u Q I r h;exact wpAny_assign_Name (zK1 I hN hi hx r (fun s' I' => ⟨_,H,I',h⟩) hf)
def zUR : TGs:=fun vs σ H Q => vs = [] /\ Q σ H
def zOh (t : TG) (u : TGs) : TGs:=fun vs σ H Q => ∃ v r,vs = v :: r /\ t v σ H fun σ' H' => u r σ' H' Q
theorem zQy : PGs X [] zUR:=by
 intro zB s σ H vs us Q I r h;obtain ⟨e,h⟩:=h;subst e;cases r;exact assignInOrder_nil ⟨σ,H,I,h⟩
theorem zK0 {e : Expr} {es : List Expr} {t : TG} {u : TGs} (h1 : PG X e t) (h2 : PGs X es u)
  (hs : (assignEach (e :: es) X.env).map (·.2) = assign e X.env :: (assignEach es X.env).map (·.2):=by rfl) : PGs X (e :: es) (zOh t u):=by
 intro zB s σ H vs us Q I r h;obtain ⟨v,vr,e1,h⟩:=h;subst e1;cases r with
 | cons r rr =>
  rw [hs];refine assignInOrder_cons (thn (h1 zB s σ H _ _ _ I r h) fun _ s1 ⟨σ1,H1,I1,q1⟩ => ?_);exact h2 zB s1 σ1 H1 _ _ Q I1 rr q1
def zUS (K : PySem.W.Frag) (n : Nat) (t : TGs) : TG:=fun v σ H Q => ∃ a xs,v = .ref a /\ SqT K H a xs /\ xs.length = n /\ t xs σ H Q
theorem zSy {es : List Expr} {k : Nat} {t : TGs} {n : Nat} (hc : X.calm = true) (h : PGs X es t)
  (hn : (assignEach es X.env).length = n:=by rfl) (hst : (assignEach es X.env).findIdx? (·.1) = none:=by rfl) : PG X (.Tuple es k pos) (zUS X.K n t):=by
 intro zB s σ H v u Q I r hw;obtain ⟨a,xs,e1,hq,hl,hw⟩:=hw;subst e1;cases r;obtain ⟨its,rv,ht,hz⟩:=I.tuple hq;refine assign_Tuple_tuple (I.ok.hd hc) ht (by simp [hn,<- hl,rv.length]) hst fun h' hx => ?_;have I1 : Inv X zB σ H { s with heap:=h' }:=I.kept (t':=s.toks) fun b o e => hx b o (zVI (zU8 e)) e;exact h zB _ σ H xs _ Q I1 (by simpa using rv) hw
def zUb (to ti : TE) (t : zTR) : TG:=fun v σ H Q => to σ H fun o H1 => ti σ H1 fun i H2 => t o i v H2 fun H3 => Q σ H3
theorem zSt {o i : Expr} {to ti : TE} {t : zTR} (ho : PE X o to) (hi : PE X i ti) (hs : zT0 X t)
  (ha : ∀ v,assign (.Subscript o i pos) X.env v = (do
   let ov <- holding [v] (eval o X.env);let iv <- holding [v,ov] (eval i X.env);standAt pos;holding [v,ov,iv] (setItem ov iv v);release [v,ov,iv] []):=by intro _; rfl) : PG X (.Subscript o i pos) (zUb to ti t):=by
 intro zB s σ H v u Q I r h;rw [ha];refine zUx (zVq (thn (ho zB s σ H _ I h) fun ov s1 ⟨x,H1,I1,r1,q1⟩ => ?_));refine zUx (zVq (thn (hi zB s1 σ H1 _ I1 q1) fun iv s2 ⟨y,H2,I2,r2,q2⟩ => ?_));refine zUx (zVv (zUx (zVq (thn (hs zB s2 σ H2 x y v ov iv u _ I2 r1 r2 r q2) fun _ s3 ⟨H3,I3,q3⟩ => ?_))));exact wpAny_release ⟨σ,H3,I3,q3⟩
def zO0 (te : TE) (g : TG) : TS:=fun D σ H => te σ H fun x H1 => g x σ H1 D.nx
theorem zSM {tg e : Expr} {te : TE} {g : TG} (he : PE X e te) (hg : PG X tg g) (hs : swapsWithSole [tg] e pos.line X.env = pure false:=by rfl) (hw : swappedStores [tg] e X.env = pure none:=by rfl)
  (h1 : (assignEach [tg] X.env).map (·.2) = [assign tg X.env]:=by rfl) : PS X (.Assign [tg] e pos) (zO0 te g):=by
 intro zB s σ H D I h;refine wpAny_Assign_stores (thn (he zB s σ H _ I h) fun v s1 ⟨x,H1,I1,r1,q1⟩ => ?_) hs hw;rw [h1];exact thn (hg zB s1 σ H1 x v _ I1 r1 q1) fun _ s2 q => q
theorem zSZ {i : Nat} {x : Str} {e : Expr} {te : TE} {pos' : Pos} (hN : X.N.Nodup) (hi : X.N[i]? = some x) (hx : Loc X.env.scope x) (he : PE X e te) (hs : swapsWith e (some (.Name x pos')) pos.line X.env = pure false:=by rfl) (hf : X.fn x = true \/ X.env.scope.names.lookup x = some .local:=by first | exact .inl rfl | exact .inr rfl | assumption) :
  PS X (.Assign [.Name x pos'] e pos) (zO0 te (zEB i)):=by
 intro zB s σ H D I h;refine wpAny_Assign_Name (thn (he zB s σ H _ I h) fun v s1 ⟨y,H1,I1,r1,q1⟩ => ?_) hs;exact zK1 I1 hN hi hx r1 (fun s2 I2 => ⟨_,H1,I2,q1⟩) hf
def zQS (c : TT) (tb : TS) : TS:=fun D σ H => ∃ W : Nat -> St -> Hp -> Prop,(∃ m,W m σ H) /\ ∀ m σ H,W m σ H ->
 c σ H fun b H1 => if b = true then ∃ N : St -> Hp -> Prop,(∀ σ' H',N σ' H' -> ∃ m',m' < m /\ W m' σ' H') /\ tb { D with nx:=N,ct:=N,bk:=D.nx } σ H1 else D.nx σ H1
theorem zQA {c : Expr} {body : List Stmt} {tc : TT} {tb : TS} (hp : PassesOwn (model X.prog X.w) X.A X.env X.xe) (hc : PT X c tc) (hb : PSs X body tb) : PS X (.While c body [] pos) (zQS tc tb):=by
 intro zB s σ H D I h;obtain ⟨W,⟨m0,w0⟩,turn⟩:=h;refine wpAny_While (codeAny_whileLoop (fun n s' => ∃ σ' H',Inv X zB σ' H' s' /\ W n σ' H') ?_ m0 ⟨σ,H,I,w0⟩);rintro n s1 ⟨σ1,H1,I1,w1⟩;refine wpAny_passesOwn hp (thn (hc zB s1 σ1 H1 _ I1 (turn n σ1 H1 w1)) fun b s2 ⟨H2,I2,q2⟩ => ?_);cases b with
 | true =>
  obtain ⟨N,hN,q2⟩:=q2;rw [zVC rfl];refine wpAny_passesOwn hp (thn (hb zB s2 σ1 H2 _ I2 q2) fun f s3 q3 => ?_);cases f with
  | next =>
   obtain ⟨σ3,H3,I3,n3⟩:=q3;obtain ⟨m',hm,w3⟩:=hN σ3 H3 n3;exact ⟨m',hm,σ3,H3,I3,w3⟩
  | cont =>
   obtain ⟨σ3,H3,I3,n3⟩:=q3;obtain ⟨m',hm,w3⟩:=hN σ3 H3 n3;exact ⟨m',hm,σ3,H3,I3,w3⟩
  | brk => exact q3
  | ret v => exact q3
 | false =>
  rw [zVF zVJ];exact wpAny_execs_nil ⟨σ1,H2,I2,q2⟩
end
structure It where
 go : Nat -> Hp -> Prop
 yld : Nat -> Hp -> V -> Hp -> Prop
 stop : Nat -> Hp -> Prop
def zCr (X : Cx) (zB : List (Addr × Obj)) (H : Hp) (b : Addr) : Prop :=
 H b = none /\ b ≠ X.env.locals /\ b ∉ X.fs /\ (b ∈ X.ex \/ X.s₀.heap.objs.size <= b) /\ (∀ x c,X.env.cells.lookup x = some c -> c ≠ b) /\ ∀ p ∈ X.pn ++ zB,p.1 ≠ b
theorem Inv.fpOk {X : Cx} {zB : List (Addr × Obj)} {σ : St} {H H' : Hp} {s : Shared} {b : Addr} (I : Inv X zB σ H s) (hb : s.heap.objs.size <= b) (hn : H' b = none) : zCr X zB H' b:=by
 refine ⟨hn,Nat.ne_of_gt (zVM I.lt hb),I.nofs hb,.inr (zVO I.sz hb),fun x c e z => ?_,fun p hp z => ?_⟩
 ·obtain ⟨v,q⟩:=I.cell x c e;exact absurd (zVM q.lt (by rw [z]; exact hb)) (zVf _)
 ·exact absurd (zVM (zU8 (I.pin p hp).1) (by rw [z]; exact hb)) (zVf _)
structure Turn (P : Program) (w : World) (K : PySem.W.Frag) (tg : Expr) (J : It) (fp : List Addr) (it : Addr) (tn : Nat -> Heap -> Prop) : Prop where
 mem : it ∈ fp
 obj : ∀ i h,tn i h -> ∀ b ∈ fp,∃ o,h.get? b = some o /\ ∀ v,o.data ≠ .cell v
 keep : ∀ i h h',tn i h -> (∀ b ∈ fp,∀ o,h.get? b = some o -> h'.get? b = some o) -> tn i h'
 item : ∀ (X : Cx),X.prog = P -> X.w = w -> X.K = K -> X.calm = true -> ∀ (i : Nat) (zB : List (Addr × Obj)) (s : Shared) (σ : St) (H : Hp) (E : Value -> Shared -> Prop),Inv X zB σ H s -> (∀ b ∈ fp,zCr X zB H b) -> tn i s.heap -> J.go i H ->
  wpAny (model P w) X.A (pyNext (.ref it)) (fun r s1 => ∃ u,r = some u /\
   wpAny (model P w) X.A (letOwnedTupleGo tg (.ref it) u) (fun _ s2 => ∃ x H',Inv X zB σ H' s2 /\ zx x u /\ J.yld i H x H' /\ tn (i + 1) s2.heap /\ ∀ b ∈ fp,H' b = none) E s1) E s
 done : ∀ (X : Cx),X.prog = P -> X.w = w -> X.K = K -> X.calm = true -> ∀ (i : Nat) (zB : List (Addr × Obj)) (s : Shared) (σ : St) (H : Hp) (E : Value -> Shared -> Prop),Inv X zB σ H s -> (∀ b ∈ fp,zCr X zB H b) -> tn i s.heap -> J.stop i H ->
  wpAny (model P w) X.A (pyNext (.ref it)) (fun r s1 => r = none /\ Inv X zB σ H s1) E s
 self : ∀ (A : Around) (i : Nat) (s : Shared) (Q : Value -> Shared -> Prop) (E : Value -> Shared -> Prop),tn i s.heap -> Q (.ref it) s -> wpAny (model P w) A (pyIter (.ref it)) Q E s
abbrev TI:=St -> Hp -> (It -> Hp -> Prop) -> Prop
def PIE (X : Cx) (zB : List (Addr × Obj)) (σ : St) (tg : Expr) (R : It -> Hp -> Prop) (itv : Value) (s2 : Shared) : Prop :=
 ∃ (it : Addr) (fp : List Addr) (tn : Nat -> Heap -> Prop) (J : It) (H' : Hp),itv = .ref it /\ Inv X zB σ H' s2 /\ Turn X.prog X.w X.K tg J fp it tn /\ tn 0 s2.heap /\ (∀ b ∈ fp,zCr X zB H' b) /\ R J H'
def PI (X : Cx) (tg iter : Expr) (wi : TI) : Prop :=
  ∀ (zB : List (Addr × Obj)) (s : Shared) (σ : St) (H : Hp) (R : It -> Hp -> Prop),Inv X zB σ H s -> wi σ H R ->
    wpAny (model X.prog X.w) X.A (eval iter X.env) (fun v s1 => wpAny (model X.prog X.w) X.A (pyIter v) (PIE X zB σ tg R) X.xe s1) X.xe s
theorem zOP {M : Model} {A : Around} {E : Value -> Shared -> Prop} {s : Shared} {tg : Expr} {it : Addr} {u : Value} {o : Obj} {n : String} {vs : Array Value} {Q : Unit -> Shared -> Prop} (ho : s.heap.get? it = some o) (hc : o.cls = .type n) (hd : o.data = .fields vs)
    (hn : ["enumerate", "zip", "dict_itemiterator", "dict_reverseitemiterator", "odict_iterator", "itertools.zip_longest", "itertools.pairwise"].contains n = false) (hQ : Q () s) : wpAny M A (letOwnedTupleGo tg (.ref it) u) Q E s:=by
  unfold letOwnedTupleGo
  cases tg <;> first
    | exact zUz hQ
    | (cases u <;> first
        | exact zUz hQ
        | (refine zUx (wpAny_load ho ?_)
           rw [hc,hd];show wpAny M A (if (["enumerate", "zip", "dict_itemiterator", "dict_reverseitemiterator", "odict_iterator", "itertools.zip_longest", "itertools.pairwise"].contains n && vs[0]? == some (rawInt _)) = true then _ else _) Q E s;rw [zVF (by intro h; rw [hn,Bool.false_and] at h; cases h)];exact zUz hQ))
def Itl (K : PySem.W.Frag) (a : Addr) : It :=
 ⟨fun i H => ∃ xs x,SqL K H a xs /\ xs[i]? = some x,fun i H x H' => H' = H /\ ∀ xs,SqL K H a xs -> xs[i]? = some x,fun i H => ∃ xs,SqL K H a xs /\ xs.length <= i⟩
def Itt (K : PySem.W.Frag) (a : Addr) : It :=
 ⟨fun i H => ∃ xs x,SqT K H a xs /\ xs[i]? = some x,fun i H x H' => H' = H /\ ∀ xs,SqT K H a xs -> xs[i]? = some x,fun i H => ∃ xs,SqT K H a xs /\ xs.length <= i⟩
def Itr (lo : Int) (n : Nat) : It:=⟨fun i _ => i < n,fun i H x H' => H' = H /\ x = .int (lo + i),fun i _ => n <= i⟩
theorem zNi {P : Program} {w : World} {K : PySem.W.Frag} {tg : Expr} (a it : Addr) : Turn P w K tg (Itl K a) [it] it (fun i h => h.IsListIter it a i) where
 mem:=by simp
 obj:=fun i h st b hb => by
  have e : b = it:=by simpa using hb
  subst e;obtain ⟨o,e,c,d⟩:=st;exact ⟨o,e,fun v z => by rw [d] at z; cases z⟩
 keep:=fun i h h' st k => st.at fun o e => k it (by simp) o e;item:=by
  intro X hP hw hK hc i zB s σ H E I hf st hg;subst hP hw hK;obtain ⟨xs,x,hq,hx⟩:=hg;obtain ⟨its,rv,p,hz⟩:=I.list hq;obtain ⟨u,hu,ru⟩:=rv.get hx;obtain ⟨f0,f1,f2,f3,f4,f5⟩:=hf it (by simp);refine wpAny_pyNext_list_item st p.isList (x:=u) (by simpa using hu) fun h' st' sb => ?_;have I1 : Inv X zB σ H { s with heap:=h' }:=I.turned (t':=s.toks) (fun b o hb e => (sb.2 b hb).trans e) f0 f1 f3 f4 f5;obtain ⟨o,e,c,d⟩:=id st';exact ⟨u,rfl,zOP (s:={ s with heap:=h' }) e c d (by decide) ⟨x,H,I1,ru,⟨rfl,fun ys hy => by rw [I.list_inj hy hq]; exact hx⟩,st',fun b hb => (hf b hb).1⟩⟩
 done:=by
  intro X hP hw hK hc i zB s σ H E I hf st hg;subst hP hw hK;obtain ⟨xs,hq,hx⟩:=hg;obtain ⟨its,rv,p,hz⟩:=I.list hq;obtain ⟨f0,f1,f2,f3,f4,f5⟩:=hf it (by simp);have hl:=rv.length;exact wpAny_pyNext_list_end (I.ok.hd hc) st p.isList (by simp; omega) fun h' eb => ⟨rfl,I.turned (t':=s.toks) (fun b o hb e => eb b o hb e) f0 f1 f3 f4 f5⟩
 self:=fun _ _ _ _ _ st h => wpAny_pyIter_listiter st h
theorem zLO {P : Program} {w : World} {K : PySem.W.Frag} {tg : Expr} (a it : Addr) : Turn P w K tg (Itt K a) [it] it (fun i h => h.IsTupleIter it a i) where
 mem:=by simp
 obj:=fun i h st b hb => by
  have e : b = it:=by simpa using hb
  subst e;obtain ⟨o,e,c,d⟩:=st;exact ⟨o,e,fun v z => by rw [d] at z; cases z⟩
 keep:=fun i h h' st k => st.at fun o e => k it (by simp) o e;item:=by
  intro X hP hw hK hc i zB s σ H E I hf st hg;subst hP hw hK;obtain ⟨xs,x,hq,hx⟩:=hg;obtain ⟨its,rv,p,hz⟩:=I.tuple hq;obtain ⟨u,hu,ru⟩:=rv.get hx;obtain ⟨f0,f1,f2,f3,f4,f5⟩:=hf it (by simp);refine wpAny_pyNext_tuple_item st (show s.heap.IsTuple a its.toArray from p) (x:=u) (by simpa using hu) fun h' st' sb => ?_;have I1 : Inv X zB σ H { s with heap:=h' }:=I.turned (t':=s.toks) (fun b o hb e => (sb.2 b hb).trans e) f0 f1 f3 f4 f5;obtain ⟨o,e,c,d⟩:=id st';exact ⟨u,rfl,zOP (s:={ s with heap:=h' }) e c d (by decide) ⟨x,H,I1,ru,⟨rfl,fun ys hy => by rw [I.tuple_inj hy hq]; exact hx⟩,st',fun b hb => (hf b hb).1⟩⟩
 done:=by
  intro X hP hw hK hc i zB s σ H E I hf st hg;subst hP hw hK;obtain ⟨xs,hq,hx⟩:=hg;obtain ⟨its,rv,p,hz⟩:=I.tuple hq;obtain ⟨f0,f1,f2,f3,f4,f5⟩:=hf it (by simp);have hl:=rv.length;exact wpAny_pyNext_tuple_end (I.ok.hd hc) st (show s.heap.IsTuple a its.toArray from p) (by simp; omega) fun h' eb => ⟨rfl,I.turned (t':=s.toks) (fun b o hb e => eb b o hb e) f0 f1 f3 f4 f5⟩
 self:=fun _ _ _ _ _ st h => wpAny_pyIter_tupleiter st h
theorem zLp {P : Program} {w : World} {K : PySem.W.Frag} {tg : Expr} (it : Addr) (lo : Int) (n : Nat) : Turn P w K tg (Itr lo n) [it] it (fun i h => IsRangeIter h it (lo + (i : Nat) * 1) ((n : Int) - (i : Nat)) 1) where
 mem:=by simp
 obj:=fun i h st b hb => by
  have e : b = it:=by simpa using hb
  subst e;exact ⟨_,st,fun v z => by
   have z' : Data.fields _ = Data.cell v:=z;cases z'⟩
 keep:=fun i h h' st k => k it (by simp) _ st;item:=by
  intro X hP hw hK hc i zB s σ H E I hf st hg;subst hP hw hK;obtain ⟨f0,f1,f2,f3,f4,f5⟩:=hf it (by simp);have W:=Walks.range (prog:=X.prog) (w:=X.w) (I.ok.hd hc) it lo 1 n;refine W.item i s _ _ hg st fun v h' tk hv st' kk => ?_;obtain ⟨t,rfl⟩:=hv;have I1 : Inv X zB σ H { s with heap:=h',toks:=tk }:=I.turned (fun b o hb e => kk b o (by simpa using hb) e) f0 f1 f3 f4 f5;refine ⟨_,rfl,zOP (s:={ s with heap:=h',toks:=tk }) (n := "range_iterator") st' rfl rfl (by decide) ⟨.int (lo + i),H,I1,⟨t,?_⟩,⟨rfl,rfl⟩,st',fun b hb => (hf b hb).1⟩⟩;rw [Int.mul_one]
 done:=by
  intro X hP hw hK hc i zB s σ H E I hf st hg;subst hP hw hK;obtain ⟨f0,f1,f2,f3,f4,f5⟩:=hf it (by simp);exact wpAny_pyNext_range_end (I.ok.hd hc) st (by have : n <= i:=hg; omega) fun h' eb => ⟨rfl,I.turned (t':=s.toks) (fun b o hb e => eb b o hb e) f0 f1 f3 f4 f5⟩
 self:=fun _ _ _ _ _ st h => wpAny_pyIter_rangeiter st h
section
variable {X : Cx} {tg : Expr}
theorem zPB {zB : List (Addr × Obj)} {σ : St} {H : Hp} {s : Shared} {R : It -> Hp -> Prop} {E : Value -> Shared -> Prop} {lo hi : Int} {t u v : Tok} {tk : Nat} (I : Inv X zB σ H s) (h1 : -(2 ^ 62) <= lo) (h2 : lo < 2 ^ 62) (h3 : -(2 ^ 62) <= hi) (h4 : hi < 2 ^ 62)
  (q : R (Itr lo (hi - lo).toNat) H) : wpAny (model X.prog X.w) X.A (pyIter (.ref s.heap.objs.size)) (PIE X zB σ tg R) E { s with heap:=s.heap.push { cls:=.type "range", data:=.fields #[.int lo t,.int hi u,.int 1 v] },toks:=tk }:=by
 refine wpAny_pyIter_range (IsRange.new ..) (small_one h1 h2 h3 h4) ?_;have I1 : Inv X zB σ H { s with heap:=s.heap.push { cls:=.type "range", data:=.fields #[.int lo t,.int hi u,.int 1 v] },toks:=tk }:=I.kept fun b o e => zUy _ e
 refine ⟨(s.heap.push { cls:=.type "range", data:=.fields #[.int lo t,.int hi u,.int 1 v] }).objs.size,[(s.heap.push { cls:=.type "range", data:=.fields #[.int lo t,.int hi u,.int 1 v] }).objs.size],_,_,H,rfl,
  I1.kept (t':=tk) fun b o e => zUy _ e,zLp _ lo (hi - lo).toNat,?_,fun b hb => ?_,q⟩
 ·have e1 : lo + ((0 : Nat) : Int) * 1 = lo:=by simp
  have e2 : (((hi - lo).toNat : Nat) : Int) - ((0 : Nat) : Int) = Builtin.Range.rangeSize lo hi 1:=by rw [rangeSize_one]; split <;> omega
  show IsRangeIter _ _ (lo + ((0 : Nat) : Int) * 1) ((((hi - lo).toNat : Nat) : Int) - ((0 : Nat) : Int)) 1;rw [e1,e2];exact zU7 _ rfl
 ·have e : b = (s.heap.push { cls:=.type "range", data:=.fields #[.int lo t,.int hi u,.int 1 v] }).objs.size:=by simpa using hb
  subst e;exact I1.fpOk (zU3 _) (I1.hok.fresh (zU3 _))
def zUE (ta : TA) : TI:=fun σ H R => ta σ H fun vs H1 => ∃ j : Int,vs = [.int j] /\ -(2 ^ 62) <= j /\ j < 2 ^ 62 /\ R (Itr 0 j.toNat) H1
theorem zNO {a : Expr} {ta : TA} {p pos : Pos} (hg : Gl X "range") (hm : X.mg "range" = none) (ha : PA X [a] ta) (hs : starEach [a] X.env = [(false,eval a X.env)]:=by rfl) : PI X tg (.Call (.Name "range" p) [a] [] pos) (zUE ta):=by
 intro zB s σ H R I h;refine Call_ (zF4 I hg hm boot_range (PyProof.Rows.callWith_type1 (thn (ha pos zB s σ H _ I h) fun us s1 ⟨vs,H1,I1,r1,q1⟩ => ?_) hs rfl));obtain ⟨j,e,q1,q2,q⟩:=q1;subst e;cases r1 with
 | cons r rr =>
  cases rr;obtain ⟨t,rfl⟩:=r;exact call_range_1 (zPB I1 (by omega) (by omega) q1 q2 (by simpa using q))
def zTc (wi : TI) (g : TG) (tb : TS) : TS:=fun D σ H => wi σ H fun J H1 => ∃ W : Nat -> Nat -> St -> Hp -> Prop,(∃ m,W 0 m σ H1) /\ ∀ i m σ H,W i m σ H ->
 (J.stop i H /\ D.nx σ H) \/ (J.go i H /\ ∃ N : St -> Hp -> Prop,(∀ σ' H',N σ' H' -> ∃ m',m' < m /\ W (i + 1) m' σ' H') /\ ∀ x H',J.yld i H x H' -> g x σ H' fun σ2 H2 => tb { D with nx:=N,ct:=N,bk:=D.nx } σ2 H2)
def zDV (fp : List Addr) (h : Heap) : List (Addr × Obj):=fp.filterMap fun b => (h.get? b).map fun o => (b,o)
theorem zAb {fp : List Addr} {h : Heap} {b : Addr} {o : Obj} (hb : b ∈ fp) (e : h.get? b = some o) : (b,o) ∈ zDV fp h:=List.mem_filterMap.mpr ⟨b,hb,by rw [e]; rfl⟩
theorem zIT {fp : List Addr} {h : Heap} {p : Addr × Obj} (hp : p ∈ zDV fp h) : p.1 ∈ fp /\ h.get? p.1 = some p.2:=by
 obtain ⟨b,hb,e⟩:=List.mem_filterMap.mp hp;cases q : h.get? b with
 | none => rw [q] at e; cases e
 | some o =>
  rw [q] at e;have e' : (b,o) = p:=zVx e;subst e';exact ⟨hb,q⟩
theorem Inv.pinned {zB : List (Addr × Obj)} {σ : St} {H : Hp} {s : Shared} {fp : List Addr} (I : Inv X zB σ H s) (hf : ∀ b ∈ fp,zCr X zB H b) (ho : ∀ b ∈ fp,∃ o,s.heap.get? b = some o /\ ∀ v,o.data ≠ .cell v) : Inv X (zB ++ zDV fp s.heap) σ H s :=
 I.pins_of fun p hp => (zVN.mp hp).elim (fun z => I.pin p (zVH _ z)) fun z => by
  obtain ⟨hb,e⟩:=zIT z;obtain ⟨f0,f1,f2,_⟩:=hf p.1 hb;obtain ⟨o,e',d⟩:=ho p.1 hb;rw [e] at e'; cases e';exact ⟨e,f0,f1,f2,d⟩
theorem Inv.unpinned {zB pl : List (Addr × Obj)} {σ : St} {H : Hp} {s : Shared} (I : Inv X (zB ++ pl) σ H s) : Inv X zB σ H s:=I.pins_of fun p hp => I.pin p (zVH _ (zWC _ hp))
theorem zS4 {iter : Expr} {body : List Stmt} {wi : TI} {g : TG} {tb : TS} {pos : Pos} (hp : PassesOwn (model X.prog X.w) X.A X.env X.xe) (hc : X.calm = true) (hi : PI X tg iter wi) (hg : PG X tg g) (hb : PSs X body tb)
  (hs : ∀ x,foldedSetIterable iter X.env x = pure x:=by intro _; rfl) : PS X (.For tg iter body [] pos) (zTc wi g tb):=by
 intro zB s σ H D I h;refine wpAny_For (thn (hi zB s σ H _ I h) fun v s1 h1 => thn h1 fun itv s2 h2 => ?_) hs;obtain ⟨it,fp,tn,J,H2,e,I2,T,st2,f2,W,⟨m0,w0⟩,turn⟩:=h2;subst e;have stat : ∀ {H' : Hp},(∀ b ∈ fp,H' b = none) -> ∀ b ∈ fp,zCr X zB H' b:=fun hn b hb => ⟨hn b hb,(f2 b hb).2⟩;refine codeAny_forLoop_any (fun n s' => ∃ i σ' H',Inv X zB σ' H' s' /\ tn i s'.heap /\ (∀ b ∈ fp,H' b = none) /\ W i n σ' H') ?_ m0 ⟨0,σ,H2,I2,st2,fun b hb => (f2 b hb).1,w0⟩;rintro n s3 ⟨i,σ3,H3,I3,st3,fr3,w3⟩;rcases turn i n σ3 H3 w3 with ⟨stop,qn⟩ | ⟨go,N,hN,step⟩
 ·refine wpAny_passesOwn hp (thn (T.done X rfl rfl rfl hc i zB s3 σ3 H3 X.xe I3 (stat fr3) st3 stop) fun r s4 ⟨hr,I4⟩ => ?_);subst hr;exact wpAny_execs_nil ⟨σ3,H3,I4,qn⟩
 ·refine wpAny_passesOwn hp (thn (T.item X rfl rfl rfl hc i zB s3 σ3 H3 X.xe I3 (stat fr3) st3 go) fun r s4 ⟨u,hr,h4⟩ => ?_);subst hr;refine wpAny_passesOwn hp (thn h4 fun _ s5 ⟨x,H5,I5,r5,y5,st5,fr5⟩ => ?_);have I5':=I5.pinned (stat fr5) (T.obj _ _ st5);refine wpAny_passesOwn hp (thn (hg _ s5 σ3 H5 x u _ I5' r5 (step x H5 y5)) fun _ s6 ⟨σ6,H6,I6,q6⟩ => ?_);refine wpAny_passesOwn hp (thn (hb _ s6 σ6 H6 _ I6 q6) fun f s7 q7 => ?_);have again : ∀ {σ7 : St} {H7 : Hp},Inv X (zB ++ zDV fp s5.heap) σ7 H7 s7 -> N σ7 H7 -> ∃ m,m < n /\ ∃ i σ' H',Inv X zB σ' H' s7 /\ tn i s7.heap /\ (∀ b ∈ fp,H' b = none) /\ W i m σ' H':=fun {σ7 H7} I7 n7 => by
   obtain ⟨m',hm,w7⟩:=hN σ7 H7 n7;refine ⟨m',hm,i + 1,σ7,H7,I7.unpinned,T.keep _ _ _ st5 fun b hb o e => (I7.pin (b,o) (zVH _ (zVH _ (zAb hb e)))).1,fun b hb => ?_,w7⟩;obtain ⟨o,e,d⟩:=T.obj _ _ st5 b hb;exact (I7.pin (b,o) (zVH _ (zVH _ (zAb hb e)))).2.1
  cases f with
  | next => obtain ⟨σ7,H7,I7,n7⟩:=q7; exact again I7 n7
  | cont => obtain ⟨σ7,H7,I7,n7⟩:=q7; exact again I7 n7
  | brk => obtain ⟨σ7,H7,I7,q7⟩:=q7; exact ⟨σ7,H7,I7.unpinned,q7⟩
  | ret v => obtain ⟨x7,σ7,H7,I7,r7,q7⟩:=q7; exact ⟨x7,σ7,H7,I7.unpinned,r7,q7⟩
end
abbrev R2:=V -> V -> Hp -> VK -> Prop
def OpR (X : Cx) (f : Value -> Value -> Sem Value) (r : R2) : Prop :=
 ∀ (zB : List (Addr × Obj)) (s : Shared) (σ : St) (H : Hp) (x y : V) (v u : Value) (Q : VK),Inv X zB σ H s -> zx x v -> zx y u -> r x y H Q ->
  wpAny (model X.prog X.w) X.A (f v u) (EP X zB σ Q) X.xe s
def UnR (X : Cx) (f : Value -> Sem Value) (r : V -> Hp -> VK -> Prop) : Prop :=
 ∀ (zB : List (Addr × Obj)) (s : Shared) (σ : St) (H : Hp) (x : V) (v : Value) (Q : VK),Inv X zB σ H s -> zx x v -> r x H Q ->
  wpAny (model X.prog X.w) X.A (f v) (EP X zB σ Q) X.xe s
def zCQ (X : Cx) (f : Value) (r : List V -> Hp -> VK -> Prop) : Prop :=
 ∀ (zB : List (Addr × Obj)) (s : Shared) (σ : St) (H : Hp) (xs : List V) (us : List Value) (Q : VK),Inv X zB σ H s -> zo xs us -> r xs H Q ->
  wpAny (model X.prog X.w) X.A (call f us) (EP X zB σ Q) X.xe s
def zUs (X : Cx) (r : V -> Hp -> (Bool -> Hp -> Prop) -> Prop) : Prop :=
 ∀ (zB : List (Addr × Obj)) (s : Shared) (σ : St) (H : Hp) (x : V) (v : Value) (Q : Bool -> Hp -> Prop),Inv X zB σ H s -> zx x v -> r x H Q ->
  wpAny (model X.prog X.w) X.A (truthy v) (TP X zB σ Q) X.xe s
def tOp (r : R2) (ta tb : TE) : TE:=fun σ H Q => ta σ H fun x H1 => tb σ H1 fun y H2 => r x y H2 Q
def tUn (r : V -> Hp -> VK -> Prop) (ta : TE) : TE:=fun σ H Q => ta σ H fun x H1 => r x H1 Q
def rI (C : Int -> Int -> Prop) (g : Int -> Int -> V) : R2:=fun x y H Q => ∃ i j,x = .int i /\ y = .int j /\ C i j /\ Q (g i j) H
def rI0 (g : Int -> Int -> V) : R2:=fun x y H Q => ∃ i j,x = .int i /\ y = .int j /\ Q (g i j) H
def rU (g : Int -> V) : V -> Hp -> VK -> Prop:=fun x H Q => ∃ i,x = .int i /\ Q (g i) H
section
variable {X : Cx} {a b c : Expr} {ta tb tc : TE} {pos : Pos}
theorem zS8 (ha : PE X a ta) (hb : PE X b tb) {zB : List (Addr × Obj)} {s : Shared} {σ : St} {H : Hp} {R : V -> V -> Hp -> Prop} (I : Inv X zB σ H s)
  (h : ta σ H fun x H1 => tb σ H1 fun y H2 => R x y H2) {Q : Value -> Shared -> Prop} {f : Value -> Value -> Sem Value}
  (hf : ∀ v u s2 x y H2,Inv X zB σ H2 s2 -> zx x v -> zx y u -> R x y H2 -> wpAny (model X.prog X.w) X.A (f v u) Q X.xe s2) :
  wpAny (model X.prog X.w) X.A (eval a X.env) (fun v s₁ => wpAny (model X.prog X.w) X.A (eval b X.env) (fun u s₂ => wpAny (model X.prog X.w) X.A (f v u) Q X.xe s₂) X.xe s₁) X.xe s:=by
 refine thn (ha zB s σ H _ I h) fun v s1 ⟨x,H1,I1,r1,q1⟩ => ?_;refine thn (hb zB s1 σ H1 _ I1 q1) fun u s2 ⟨y,H2,I2,r2,q2⟩ => ?_;exact hf v u s2 x y H2 I2 r1 r2 q2
theorem zUD {op : Operator} {r : R2} (ho : OpR X (binaryOp op) r) (ha : PE X a ta) (hb : PE X b tb) : PE X (.BinOp a op b pos) (tOp r ta tb):=by
 intro zB s σ H Q I h;exact wpAny_BinOp (zS8 ha hb I h fun v u s2 x y H2 I2 rx ry q => ho zB s2 σ H2 x y v u Q I2 rx ry q)
theorem zTj {op : UnaryOp} {r : V -> Hp -> VK -> Prop} (ho : UnR X (unaryOp op) r) (ha : PE X a ta) : PE X (.UnaryOp op a pos) (tUn r ta):=by
 intro zB s σ H Q I h;exact UnaryOp_ (thn (ha zB s σ H _ I h) fun v s1 ⟨x,H1,I1,r1,q1⟩ => ho zB s1 σ H1 x v Q I1 r1 q1)
theorem opI {f : Value -> Value -> Sem Value} {C : Int -> Int -> Prop} {g : Int -> Int -> Int}
  (rule : ∀ (i j : Int) (t u : Tok) (s : Shared) (Q : Value -> Shared -> Prop) (E : Value -> Shared -> Prop),C i j -> Q (.int (g i j) s.toks) { s with toks:=s.toks + 1 } -> wpAny (model X.prog X.w) X.A (f (.int i t) (.int j u)) Q E s) :
  OpR X f (rI C fun i j => .int (g i j)):=by
 intro zB s σ H x y v u Q I rx ry h;obtain ⟨i,j,rfl,rfl,hc,q⟩:=h;obtain ⟨t,rfl⟩:=rx;obtain ⟨t',rfl⟩:=ry;exact rule i j t t' s _ _ hc ⟨.int (g i j),H,I.tok _,⟨_,rfl⟩,q⟩
theorem zUI {f : Value -> Value -> Sem Value} {g : Int -> Int -> Int}
  (rule : ∀ (i j : Int) (t u : Tok) (s : Shared) (Q : Value -> Shared -> Prop) (E : Value -> Shared -> Prop),Q (.int (g i j) s.toks) { s with toks:=s.toks + 1 } -> wpAny (model X.prog X.w) X.A (f (.int i t) (.int j u)) Q E s) :
  OpR X f (rI0 fun i j => .int (g i j)):=by
 intro zB s σ H x y v u Q I rx ry h;obtain ⟨i,j,rfl,rfl,q⟩:=h;obtain ⟨t,rfl⟩:=rx;obtain ⟨t',rfl⟩:=ry;exact rule i j t t' s _ _ ⟨.int (g i j),H,I.tok _,⟨_,rfl⟩,q⟩
theorem zSG {f : Value -> Value -> Sem Value} {g : Int -> Int -> Bool}
  (rule : ∀ (i j : Int) (t u : Tok) (s : Shared) (Q : Value -> Shared -> Prop) (E : Value -> Shared -> Prop),Q (.bool (g i j)) s -> wpAny (model X.prog X.w) X.A (f (.int i t) (.int j u)) Q E s) :
  OpR X f (rI0 fun i j => .bl (g i j)):=by
 intro zB s σ H x y v u Q I rx ry h;obtain ⟨i,j,rfl,rfl,q⟩:=h;obtain ⟨t,rfl⟩:=rx;obtain ⟨t',rfl⟩:=ry;exact rule i j t t' s _ _ ⟨.bl (g i j),H,I,rfl,q⟩
def zUf (i j : Int) : Prop:=0 < j /\ j < 1073741824
def zUu (i j : Int) : Prop:=0 <= j /\ j <= 1000000 /\ i.natAbs < 2 ^ 64
def zSo (i j : Int) : Prop:=(-(2 ^ 64) < i /\ i < 2 ^ 64) \/ (-(2 ^ 64) < j /\ j < 2 ^ 64)
theorem zSo.ok {i j : Int} (h : zSo i j) : IntMulOk i j:=by
 rcases h with ⟨h1,h2⟩ | ⟨h1,h2⟩
 ·exact .of_left (intBits_le_64 h1 h2)
 ·exact .of_right (intBits_le_64 h1 h2)
theorem zTQ : OpR X (binaryOp .Add) (rI0 fun i j => .int (i + j)):=zUI fun _ _ _ _ _ _ _ q => add_int q
theorem zS1 : OpR X (binaryOp .Sub) (rI0 fun i j => .int (i - j)):=zUI fun _ _ _ _ _ _ _ q => sub_int q
theorem zSj : OpR X (binaryOp .Mult) (rI zSo fun i j => .int (i * j)):=opI fun _ _ _ _ _ _ _ hc q => mul_int q hc.ok
theorem zQm : OpR X (binaryOp .FloorDiv) (rI zUf fun i j => .int (i / j)):=opI fun i j _ _ _ _ _ hc q => by
 have h1 : (0 : Int) < j:=hc.1;have h2 : j < 1073741824:=hc.2;exact floordiv_int (by omega) (by rw [Int.fdiv_eq_ediv_of_nonneg i (by omega)]; exact q) (.inl (PyProof.noPylong_small (by omega)))
theorem zTA : OpR X (binaryOp .Mod) (rI (fun _ j => 0 < j) fun i j => .int (i % j)):=opI fun i j _ _ _ _ _ hc q => by
 have h1 : (0 : Int) < j:=hc;exact mod_int' (by omega) (by rw [Int.fmod_eq_emod_of_nonneg i (by omega)]; exact q)
theorem zSf : OpR X (binaryOp .Pow) (rI zUu fun i j => .int (i ^ j.toNat)):=opI fun _ _ _ _ _ _ _ hc q => pow_int_small hc.1 hc.2.1 hc.2.2 q
theorem unI {f : Value -> Sem Value} {g : Int -> Int}
  (rule : ∀ (i : Int) (t : Tok) (s : Shared) (Q : Value -> Shared -> Prop) (E : Value -> Shared -> Prop),Q (.int (g i) s.toks) { s with toks:=s.toks + 1 } -> wpAny (model X.prog X.w) X.A (f (.int i t)) Q E s) :
  UnR X f (rU fun i => .int (g i)):=by
 intro zB s σ H x v Q I rx h;obtain ⟨i,rfl,q⟩:=h;obtain ⟨t,rfl⟩:=rx;exact rule i t s _ _ ⟨.int (g i),H,I.tok _,⟨_,rfl⟩,q⟩
theorem zSW : UnR X (unaryOp .USub) (rU fun i => .int (-i)):=unI fun _ _ _ _ _ q => neg_int q
end
def zRM : V -> V -> Bool
 | .non,.non => true | .non,.int _ => true | .int _,.non => true | .non,.bl _ => true | .bl _,.non => true | .non,.str _ => true | .str _,.non => true
 | .int _,.int _ => true | .bl _,.bl _ => true | .str _,.str _ => true | .byt _,.byt _ => true
 | .int _,.str _ => true | .str _,.int _ => true | .bl _,.str _ => true | .str _,.bl _ => true
 | _,_ => false
def rEq : R2:=fun x y H Q => zRM x y = true /\ Q (.bl (decide (x = y))) H
def rNe : R2:=fun x y H Q => zRM x y = true /\ Q (.bl (!decide (x = y))) H
theorem zMt {i j : Int} : decide (V.int i = V.int j) = (i == j):=by
 rw [Bool.eq_iff_iff];simp
theorem zP1 {i j : Bool} : decide (V.bl i = V.bl j) = (i == j):=by
 rw [Bool.eq_iff_iff];simp
theorem zM6 {i j : Str} : decide (V.str i = V.str j) = (i == j):=by
 rw [Bool.eq_iff_iff];simp
theorem zMS {i j : Array UInt8} : decide (V.byt i = V.byt j) = (i.toList == j.toList):=by
 rw [Bool.eq_iff_iff];cases i;cases j;simp
section
variable {X : Cx} {a b c : Expr} {ta tb tc : TE} {pos : Pos}
theorem zAD {zB : List (Addr × Obj)} {σ : St} {H : Hp} {s : Shared} {Q : VK} {k k' : Bool} (I : Inv X zB σ H s) (q : Q (.bl k) H) (e : k = k') : EP X zB σ Q (.bool k') s:=by
 subst e;exact ⟨.bl k,H,I,rfl,q⟩
theorem zRv : OpR X (compareOp .Eq) rEq:=by
 intro zB s σ H x y v u Q I rx ry h;obtain ⟨hs,q⟩:=h;cases x with
 | non =>
  cases rx;cases y with
  | non => cases ry; exact PySem.EqNone.eq_none_none (zAD I q (by simp))
  | bl j => cases ry; exact PySem.EqNone.eq_none_bool (zAD I q (by simp))
  | int j => obtain ⟨t',rfl⟩:=ry; exact PySem.EqNone.eq_none_int (zAD I q (by simp))
  | str j => obtain ⟨t',rfl⟩:=ry; exact PySem.EqNone.eq_none_str (zAD I q (by simp))
  | _ => exact absurd (show false = true from hs) zVJ
 | bl i =>
  cases rx;cases y with
  | non => cases ry; exact PySem.EqNone.eq_bool_none (zAD I q (by simp))
  | bl j => cases ry; exact eq_bool (zAD I q zP1)
  | str j => obtain ⟨t',rfl⟩:=ry; exact PySem.EqMixed.eq_bool_str (zAD I q (by simp))
  | _ => exact absurd (show false = true from hs) zVJ
 | int i =>
  obtain ⟨t,rfl⟩:=rx;cases y with
  | non => cases ry; exact PySem.EqNone.eq_int_none (zAD I q (by simp))
  | int j => obtain ⟨t',rfl⟩:=ry; exact eq_int (zAD I q zMt)
  | str j => obtain ⟨t',rfl⟩:=ry; exact PySem.EqMixed.eq_int_str (zAD I q (by simp))
  | _ => exact absurd (show false = true from hs) zVJ
 | str i =>
  obtain ⟨t,rfl⟩:=rx;cases y with
  | non => cases ry; exact PySem.EqNone.eq_str_none (zAD I q (by simp))
  | bl j => cases ry; exact PySem.EqMixed.eq_str_bool (zAD I q (by simp))
  | int j => obtain ⟨t',rfl⟩:=ry; exact PySem.EqMixed.eq_str_int (zAD I q (by simp))
  | str j => obtain ⟨t',rfl⟩:=ry; exact eq_str (zAD I q zM6)
  | _ => exact absurd (show false = true from hs) zVJ
 | byt i =>
  obtain ⟨t,rfl⟩:=rx;cases y with
  | byt j => obtain ⟨t',rfl⟩:=ry; exact PySem.W.eq_bytes (zAD I q zMS)
  | _ => exact absurd (show false = true from hs) zVJ
 | _ => cases y <;> exact absurd (show false = true from hs) zVJ
theorem zTZ : OpR X (compareOp .NotEq) rNe:=by
 intro zB s σ H x y v u Q I rx ry h;obtain ⟨hs,q⟩:=h;cases x with
 | non =>
  cases rx;cases y with
  | non => cases ry; exact PySem.EqNone.ne_none_none (zAD I q (by simp))
  | bl j => cases ry; exact PySem.EqNone.ne_none_bool (zAD I q (by simp))
  | int j => obtain ⟨t',rfl⟩:=ry; exact PySem.EqNone.ne_none_int (zAD I q (by simp))
  | str j => obtain ⟨t',rfl⟩:=ry; exact PySem.EqNone.ne_none_str (zAD I q (by simp))
  | _ => exact absurd (show false = true from hs) zVJ
 | bl i =>
  cases rx;cases y with
  | non => cases ry; exact PySem.EqNone.ne_bool_none (zAD I q (by simp))
  | bl j => cases ry; exact ne_bool (zAD I q (zWk not zP1))
  | str j => obtain ⟨t',rfl⟩:=ry; exact PySem.EqMixed.ne_bool_str (zAD I q (by simp))
  | _ => exact absurd (show false = true from hs) zVJ
 | int i =>
  obtain ⟨t,rfl⟩:=rx;cases y with
  | non => cases ry; exact PySem.EqNone.ne_int_none (zAD I q (by simp))
  | int j => obtain ⟨t',rfl⟩:=ry; exact ne_int (zAD I q (zWk not zMt))
  | str j => obtain ⟨t',rfl⟩:=ry; exact PySem.EqMixed.ne_int_str (zAD I q (by simp))
  | _ => exact absurd (show false = true from hs) zVJ
 | str i =>
  obtain ⟨t,rfl⟩:=rx;cases y with
  | non => cases ry; exact PySem.EqNone.ne_str_none (zAD I q (by simp))
  | bl j => cases ry; exact PySem.EqMixed.ne_str_bool (zAD I q (by simp))
  | int j => obtain ⟨t',rfl⟩:=ry; exact PySem.EqMixed.ne_str_int (zAD I q (by simp))
  | str j => obtain ⟨t',rfl⟩:=ry; exact ne_str (zAD I q (zWk not zM6))
  | _ => exact absurd (show false = true from hs) zVJ
 | byt i =>
  obtain ⟨t,rfl⟩:=rx;cases y with
  | byt j => obtain ⟨t',rfl⟩:=ry; exact PySem.W.ne_bytes (zAD I q (zWk not zMS))
  | _ => exact absurd (show false = true from hs) zVJ
 | _ => cases y <;> exact absurd (show false = true from hs) zVJ
theorem zT7 : OpR X (compareOp .Lt) (rI0 fun i j => .bl (decide (i < j))):=zSG fun _ _ _ _ _ _ _ q => lt_int q
theorem zTw : OpR X (compareOp .Gt) (rI0 fun i j => .bl (decide (j < i))):=zSG fun _ _ _ _ _ _ _ q => gt_int q
theorem zT4 : OpR X (compareOp .GtE) (rI0 fun i j => .bl (decide (j <= i))):=zSG fun _ _ _ _ _ _ _ q => ge_int q
theorem OpR.or {f : Value -> Value -> Sem Value} {r r' : R2} (h : OpR X f r) (h' : OpR X f r') : OpR X f (fun x y H Q => r x y H Q \/ r' x y H Q):=by
 intro zB s σ H x y v u Q I rx ry q;rcases q with q | q
 ·exact h zB s σ H x y v u Q I rx ry q
 ·exact h' zB s σ H x y v u Q I rx ry q
theorem zET (b : Expr) {op : CmpOp} (h : op ≠ .In:=by decide) (h2 : op ≠ .NotIn:=by decide) : behindInMarks op b = false:=by
 have e1 : (op == CmpOp.In) = false:=by cases op <;> first | rfl | exact absurd rfl h
 have e2 : (op == CmpOp.NotIn) = false:=by cases op <;> first | rfl | exact absurd rfl h2
 cases b <;> simp [behindInMarks,e1,e2]
theorem zQ4 {op : CmpOp} {r : R2} (ho : OpR X (compareOp op) r) (ha : PE X a ta) (hb : PE X b tb) (hm : behindInMarks op b = false) : PE X (.Compare a [op] [b] pos) (tOp r ta tb):=by
 intro zB s σ H Q I h;exact wpAny_Compare1 (zS8 ha hb I h fun v u s2 x y H2 I2 rx ry q => ho zB s2 σ H2 x y v u Q I2 rx ry q) hm
def zMl (t : TE) : TT:=fun σ H Q => t σ H fun x H' => ∃ k,x = .bl k /\ Q k H'
theorem zQk {op : CmpOp} {r : R2} (ho : OpR X (compareOp op) r) (ha : PE X a ta) (hb : PE X b tb) (hm : behindInMarks op b = false) : PT X (.Compare a [op] [b] pos) (zMl (tOp r ta tb)):=by
 intro zB s σ H Q I h;refine wpAny_isTrue_Compare1 (thn (ha zB s σ H _ I h) fun v s1 ⟨x,H1,I1,r1,q1⟩ => thn (hb zB s1 σ H1 _ I1 q1) fun u s2 ⟨y,H2,I2,r2,q2⟩ =>
  thn (ho zB s2 σ H2 x y v u _ I2 r1 r2 q2) fun c s3 ⟨z,H3,I3,r3,k,e,q3⟩ => ?_) hm
 subst e;cases r3;exact wpAny_truthy_bool ⟨H3,I3,q3⟩
def zTz (K : PySem.W.Frag) (x : V) (H : Hp) (k : Bool) : Prop :=
 match x with
 | .non => k = false
 | .bl b => k = b
 | .int i => k = (i != 0)
 | .str y => y.length <= sizeLine /\ k = ((y.length : Int) != 0)
 | .byt y => y.size <= sizeLine /\ k = ((y.size : Int) != 0)
 | .ref p => (∃ xs,SqL K H p xs /\ k = !xs.isEmpty) \/ (∃ xs,SqT K H p xs /\ k = !xs.isEmpty) \/ ∃ kvs,H p = some (.dK kvs) /\ k = !kvs.isEmpty
 | _ => False
theorem zLb {κ : Type} {kvs : List (κ × V)} {vs : List (κ × Value)} (r : KV kvs vs) : (!vs.isEmpty) = !kvs.isEmpty:=by
 cases r <;> rfl
theorem zHj {xs : List V} {its : List Value} (r : zo xs its) : (!its.toArray.isEmpty) = !xs.isEmpty:=by
 cases r <;> simp
theorem zGH : (sizeLine : Nat) < 2 ^ 63:=by rw [sizeLine_eq]; decide
theorem zSz : zUs X (fun x H Q => ∃ k,zTz X.K x H k /\ Q k H):=by
 intro zB s σ H x v Q I rx h;obtain ⟨k,e,q⟩:=h;have hl:=zGH;have hs : sizeLine = 16777216:=sizeLine_eq;cases x with
 | non =>
  cases rx;have e' : k = false:=e;subst e';exact truthy_none ⟨H,I,q⟩
 | bl b =>
  cases rx;have e' : k = b:=e;subst e';exact wpAny_truthy_bool ⟨H,I,q⟩
 | int i =>
  obtain ⟨t,rfl⟩:=rx;have e' : k = (i != 0):=e;subst e';exact PySem.P.truthy_int ⟨H,I,q⟩
 | str y =>
  obtain ⟨t,rfl⟩:=rx;obtain ⟨hy,e'⟩ : y.length <= sizeLine /\ k = ((y.length : Int) != 0):=e;subst e';exact PySem.P.truthy_str (by omega) ⟨H,I.tok _,q⟩
 | byt y =>
  obtain ⟨t,rfl⟩:=rx;obtain ⟨hy,e'⟩ : y.size <= sizeLine /\ k = ((y.size : Int) != 0):=e;subst e';exact PySem.W.truthy_bytes (by omega) ⟨H,I.tok _,q⟩
 | ref p =>
  cases rx;have e' : (∃ xs,SqL X.K H p xs /\ k = !xs.isEmpty) \/ (∃ xs,SqT X.K H p xs /\ k = !xs.isEmpty) \/ ∃ kvs,H p = some (.dK kvs) /\ k = !kvs.isEmpty:=e;rcases e' with ⟨xs,hx,e'⟩ | ⟨xs,hx,e'⟩ | ⟨kvs,hx,e'⟩
  ·subst e';obtain ⟨its,r,pl,hz⟩:=I.list hx;have hlen:=r.length;exact wpAny_truthy_list pl.isList (by simp only [zU5]; omega) ⟨H,I.tok _,by rw [zHj r]; exact q⟩
  ·subst e';obtain ⟨its,r,pl,hz⟩:=I.tuple hx;have hlen:=r.length;exact truthy_tuple pl (by simp only [zU5]; omega) ⟨H,I.tok _,by rw [zHj r]; exact q⟩
  ·subst e';obtain ⟨hz,hS,vs,r,m⟩ : kvs.length <= sizeLine /\ (p == sysModules) = false /\ ∃ vs,KV kvs vs /\ s.heap.DictOf (zAs X.prog X.w) p vs:=I.hok p _ hx;have hlen : kvs.length = vs.length:=Paired.length r;exact wpAny_truthy_dict hS m (by omega) ⟨H,I.tok _,by rw [zLb r]; exact q⟩
 | _ => exact (show False from e).elim
theorem zQO (ha : PE X a ta) (he : ∀ whole,isTrue a X.env whole = (do let v <- whole; standAt a.pos; holding [v] (truthy v))) :
  PT X a (fun σ H Q => ta σ H fun x H' => ∃ k,zTz X.K x H' k /\ Q k H'):=by
 intro zB s σ H Q I h;exact isTrue_plain (thn (ha zB s σ H _ I h) fun v s1 ⟨x,H1,I1,r1,q1⟩ => zSz zB s1 σ H1 x v Q I1 r1 q1) (he _)
theorem zD7 {x : V} {us : List Value} (r : zo [x] us) : ∃ u,us = [u] /\ zx x u:=by
 cases r with
 | cons r1 r2 => cases r2; exact ⟨_,rfl,r1⟩
theorem zRs {x y : V} {us : List Value} (r : zo [x,y] us) : ∃ u w',us = [u,w'] /\ zx x u /\ zx y w':=by
 cases r with
 | cons r1 r2 =>
  cases r2 with
  | cons r3 r4 => cases r4; exact ⟨_,_,rfl,r1,r3⟩
theorem zPP : zCQ X (.builtin "abs") (fun xs H Q => ∃ i,xs = [.int i] /\ Q (.int (if i < 0 then -i else i)) H):=by
 intro zB s σ H xs us Q I r h;obtain ⟨i,rfl,q⟩:=h;obtain ⟨u,rfl,t,rfl⟩:=zD7 r;exact call_abs_int fun u tk => ⟨.int (if i < 0 then -i else i),H,I.tok _,⟨_,rfl⟩,q⟩
theorem zON (hc : X.calm = true) : zCQ X (.builtin "max") (fun xs H Q => ∃ i j,xs = [.int i,.int j] /\ Q (.int (if j > i then j else i)) H):=by
 intro zB s σ H xs us Q I r h;obtain ⟨i,j,rfl,q⟩:=h;obtain ⟨u,w',rfl,⟨t,rfl⟩,⟨t',rfl⟩⟩:=zRs r;refine max_two_ints (I.ok.hd hc) fun h' tk k => ⟨_,H,I.kept k,?_,q⟩;by_cases hj : j > i
 ·rw [zVC hj,zVC hj]; exact ⟨_,rfl⟩
 ·rw [zVF hj,zVF hj]; exact ⟨_,rfl⟩
theorem zNa (hc : X.calm = true) : zCQ X (.builtin "min") (fun xs H Q => ∃ i j,xs = [.int i,.int j] /\ Q (.int (if j < i then j else i)) H):=by
 intro zB s σ H xs us Q I r h;obtain ⟨i,j,rfl,q⟩:=h;obtain ⟨u,w',rfl,⟨t,rfl⟩,⟨t',rfl⟩⟩:=zRs r;refine min_two_ints (I.ok.hd hc) fun h' tk k => ⟨_,H,I.kept k,?_,q⟩;by_cases hj : j < i
 ·rw [zVC hj,zVC hj]; exact ⟨_,rfl⟩
 ·rw [zVF hj,zVF hj]; exact ⟨_,rfl⟩
theorem zOC : zCQ X (.type "int") (fun xs H Q => (∃ i,xs = [.int i] /\ Q (.int i) H) \/ ∃ k,xs = [.bl k] /\ Q (.int (if k then 1 else 0)) H):=by
 intro zB s σ H xs us Q I r h;rcases h with ⟨i,rfl,q⟩ | ⟨k,rfl,q⟩
 ·obtain ⟨u,rfl,t,rfl⟩:=zD7 r;exact call_int_int ⟨.int i,H,I,⟨_,rfl⟩,q⟩
 ·obtain ⟨u,rfl,r1⟩:=zD7 r;cases r1;exact call_int_bool ⟨.int (if k then 1 else 0),H,I.tok _,⟨_,rfl⟩,q⟩
end
theorem zGh.some_of {v : V} {o : Option Value} (r : zGh (some v) o) : ∃ u,o = some u /\ zx v u:=by
 cases o with
 | none => exact (show False from r).elim
 | some u => exact ⟨u,rfl,r⟩
structure Room (k : Nat) (A : Around) : Prop where
 hd : A.handled = none
 dp : A.depth + 3 * k + 5 < recursionLimit
 un : A.units + 16 * k + 200 < cLine
theorem Room.mono {j k : Nat} {A : Around} (r : Room k A) (h : j <= k) : Room j A:=⟨r.hd,by have:=r.dp; omega,by have:=r.un; omega⟩
theorem Room.deeper {k : Nat} {A : Around} (r : Room (k + 1) A) (env : Env) : Room k (A.deeper env) :=
 ⟨r.hd,by have:=r.dp; show A.depth + 1 + 3 * k + 5 < _; omega,by have:=r.un; show A.units + 3 + 16 * k + 200 < _; omega⟩
theorem Room.depth {k : Nat} {A : Around} (r : Room k A) : A.depth < recursionLimit:=by have:=r.dp; omega
theorem Room.units {k : Nat} {A : Around} (r : Room k A) : A.units + 64 < cLine:=by have:=r.un; omega
theorem Room.units0 {k : Nat} {A : Around} (r : Room k A) : A.units < cLine:=by have:=r.un; omega
def zUj : TA:=fun _ H Q => Q [] H
def zT6 (ta : TE) (tr : TA) : TA:=fun σ H Q => ta σ H fun x H1 => tr σ H1 fun xs H2 => Q (x :: xs) H2
section
variable {X : Cx} {e : Expr} {es : List Expr} {te : TE} {t : TA} {pos : Pos}
theorem zGJ : PA X [] zUj:=fun _ _ _ _ H Q I h => Calls.spliced_nil ⟨[],H,I,.nil,h⟩
theorem zEr (ha : PE X e te) (hr : PA X es t) (hs : starEach (e :: es) X.env = (false,eval e X.env) :: starEach es X.env:=by rfl) : PA X (e :: es) (zT6 te t):=by
 intro pos zB s σ H Q I h;rw [hs];show wpAny _ _ (spliced ((false,eval e X.env) :: backTo pos (starEach es X.env))) _ _ s;refine zWF (thn (ha zB s σ H _ I h) fun u s1 ⟨x,H1,I1,r1,q1⟩ => ?_);exact thn (hr pos zB s1 σ H1 _ I1 q1) fun us s2 ⟨xs,H2,I2,r2,q2⟩ => ⟨x :: xs,H2,I2,.cons r1 r2,q2⟩
def zUW (t : TA) : TE:=fun σ H Q => t σ H fun xs H1 => xs.length <= sizeLine /\ ∀ p,H1 p = none -> Q (.ref p) (upd H1 p (.tup xs))
def zUm (t : TA) : TE:=fun σ H Q => t σ H fun xs H1 => xs.length <= sizeLine /\ ∀ p,H1 p = none -> Q (.ref p) (upd H1 p (.lst xs))
theorem zTF {x1} (h : PA X es t) : PE X (.Tuple es x1 pos) (zUW t):=by
 intro zB s σ H Q I hq;refine wpAny_Tuple_spliced (thn (h pos zB s σ H _ I hq) fun us s1 ⟨xs,H1,I1,r,z,q⟩ => ⟨by rw [<- r.length]; exact z,?_⟩);have hf : H1 s1.heap.objs.size = none:=I1.hok.fresh (zU3 _);refine ⟨.ref s1.heap.objs.size,upd H1 s1.heap.objs.size (.tup xs),I1.laid (t':=s1.toks) (fun b u e => zUy _ e) (zU3 _) ?_,rfl,q _ hf⟩;exact ⟨z,us,r,⟨_,zU7 _ rfl,rfl,⟨_,rfl⟩,rfl⟩⟩
theorem zTP (h : PA X es t) : PE X (.List es pos) (zUm t):=by
 intro zB s σ H Q I hq;refine wpAny_List_spliced (thn (h pos zB s σ H _ I hq) fun us s1 ⟨xs,H1,I1,r,z,q⟩ => ⟨by rw [<- r.length]; exact z,?_⟩);have hf : H1 s1.heap.objs.size = none:=I1.hok.fresh (zU3 _);refine ⟨.ref s1.heap.objs.size,upd H1 s1.heap.objs.size (.lst xs),I1.laid (t':=s1.toks) (fun b u e => zUy _ e) (zU3 _) ?_,rfl,q _ hf⟩;exact ⟨z,us,0,r,zU7 _ rfl⟩
end
abbrev Sp:=List V -> Hp -> VK -> XK -> Prop
abbrev CXT:=List Env -> Hp -> Shared -> XK -> Value -> Shared -> Prop
structure Env0 (P : Program) (w : World) (K : PySem.W.Frag) (mg : Str -> Option Value) (base : Heap) (A : Around) (outer : List Env) (s : Shared) (H : Hp) : Prop where
 frames : A.frames = some outer
 mod : Mod K mg base
 bs : ∀ b o,base.get? b = some o -> s.heap.get? b = some o /\ H b = none
 bsz : base.objs.size <= s.heap.objs.size
 funs : s.heap.FunFrames base outer
 frf : ∀ b ∈ frs outer,H b = none
 hok : HOk P w H s.heap
 bare : AllBare s.gens
def CE (outer : List Env) (P : Program) (w : World) (H : Hp) (s : Shared) (Q : VK) (u : Value) (s' : Shared) : Prop :=
 ∃ v H',s'.os = s.os /\ AllBare s'.gens /\ Un (frs outer) [] H H' s.heap s'.heap /\ HOk P w H' s'.heap /\ zx v u /\ Q v H'
def CR (CX : CXT) (outer : List Env) (P : Program) (w : World) (H : Hp) (s : Shared) (Q : VK) (E : XK) (r : Result) (s' : Shared) : Prop :=
 match r with
 | .ok (.ret u) => CE outer P w H s Q u s'
 | .ok _ => False
 | .error e => CX outer H s E e s'
structure FnOk (P : Program) (w : World) (K : PySem.W.Frag) (mg : Str -> Option Value) (base : Heap) (CX : CXT) (k : Nat) (f : Addr) (fd : FuncData) (ps : List Str) (sp : Sp) : Prop where
 len : ∀ vs H Q E,sp vs H Q E -> vs.length = ps.length
 run : ∀ (A : Around) (outer : List Env) (s : Shared) (H : Hp) (args : Args) (us : List Value) (vs : List V) (Q : VK) (E : XK),Room k A -> Env0 P w K mg base A outer s H -> BindsTo s fd args (ps.zip us) -> zo vs us -> sp vs H Q E ->
  codeAny (model P w) A (.call (.ref f) args) (CR CX outer P w H s Q E) s
theorem FnOk.imp {P : Program} {w : World} {K : PySem.W.Frag} {mg : Str -> Option Value} {base : Heap} {CX : CXT} {k : Nat} {f : Addr} {fd : FuncData} {ps : List Str} {sp sp' : Sp} (F : FnOk P w K mg base CX k f fd ps sp)
  (h : ∀ vs H Q E,sp' vs H Q E -> sp vs H Q E) : FnOk P w K mg base CX k f fd ps sp' :=
 ⟨fun vs H Q E q => F.len vs H Q E (h _ _ _ _ q),fun A outer s H args us vs Q E hr he hb hv hs => F.run A outer s H args us vs Q E hr he hb hv (h _ _ _ _ hs)⟩
section
variable {X : Cx} {zB : List (Addr × Obj)} {σ : St} {H : Hp} {s s' : Shared}
theorem Inv.env0 (I : Inv X zB σ H s) : Env0 X.prog X.w X.K X.mg X.base X.A X.stack s H :=
 ⟨I.ok.frames,I.ok.mod,I.bs,zVO I.ok.bsz I.sz,I.stack,I.stkFree,I.hok,I.bare⟩
theorem Inv.after {Q : VK} {u : Value} (I : Inv X zB σ H s) (h : CE X.stack X.prog X.w H s Q u s') : EP X zB σ Q u s':=by
 obtain ⟨v,H',os,bare,un,hok,r,q⟩:=h;obtain ⟨hh,g,d,t,os'⟩:=s';obtain rfl : os' = s.os:=os;exact ⟨v,H',I.call (h':=hh) (g':=g) (d':=d) (t':=t) (ch:=[]) un hok bare (fun b z => absurd z (by simp)),r,q⟩
end
def zTh (sp : Sp) (dvs : List V) (E : XK) (t : TA) : TE:=fun σ H Q => t σ H fun vs H1 => sp (vs ++ dvs) H1 Q E
def zHI (K : PySem.W.Frag) (fd : FuncData) (ps : List Str) (ds : List Value) : Prop :=
 ∀ (s : Shared) (us : List Value),K.In s.heap -> (us ++ ds).length = ps.length -> BindsTo s fd ⟨us,[]⟩ (ps.zip (us ++ ds))
theorem zHI.all {K : PySem.W.Frag} {fd : FuncData} {ps : List Str} (h : ∀ us : List Value,us.length = ps.length -> bindArgs fd ⟨us,[]⟩ = pure (ps.zip us)) : zHI K fd ps []:=fun s us _ hl => by
 rw [zVh] at hl ⊢;exact .of_eq (h us hl)
def zLc (CX : CXT) (X : Cx) (E : XK) : Prop:=∀ (zB : List (Addr × Obj)) (σ : St) (H : Hp) (s : Shared) (e : Value) (s' : Shared),Inv X zB σ H s -> CX X.stack H s E e s' -> X.xe e s'
section
variable {X : Cx} {CX : CXT} {k : Nat} {f C : Addr} {fd : FuncData} {ps : List Str} {sp : Sp} {dvs : List V} {ds : List Value} {E : XK} {x m : Str} {p pos apos : Pos} {e o : Expr} {es : List Expr} {ta : TE} {t : TA}
theorem zTS {zB : List (Addr × Obj)} {σ : St} {H : Hp} {s : Shared} {Q : VK} {us : List Value} {vs : List V} (F : FnOk X.prog X.w X.K X.mg X.base CX k f fd ps sp) (hr : Room k X.A) (hb : zHI X.K fd ps ds) (hd : zo dvs ds) (hx : zLc CX X E)
  (I : Inv X zB σ H s) (r : zo vs us) (h : sp (vs ++ dvs) H Q E) : wpAny (model X.prog X.w) X.A (call (.ref f) us) (EP X zB σ Q) X.xe s:=by
 have r2 : zo (vs ++ dvs) (us ++ ds):=r.append hd;have hl : (us ++ ds).length = ps.length:=by rw [<- r2.length]; exact F.len _ _ _ _ h
 refine wpAny_call (codeAny_mono (F.run X.A X.stack s H ⟨us,[]⟩ (us ++ ds) (vs ++ dvs) Q E hr I.env0 (hb s us I.kIn hl) r2 h) fun r s' hq => ?_);cases r with
 | error e => exact hx zB σ H s e s' I hq
 | ok fl =>
  cases fl with
  | ret u => exact I.after hq
  | next => exact False.elim hq
  | brk => exact False.elim hq
  | cont => exact False.elim hq
theorem zRa (F : FnOk X.prog X.w X.K X.mg X.base CX k f fd ps sp) (hr : Room k X.A) (hg : Gl X x) (hm : X.mg x = some (.ref f)) (hk : PySem.W.keepIn X.K (.ref f) = true) (hb : zHI X.K fd ps ds) (hd : zo dvs ds) (hx : zLc CX X E)
  (ha : PA X (e :: es) t) (hdb : (x == ("__debug__" : Str)) = false:=by decide) (he : starEach (e :: es) X.env = (false,eval e X.env) :: starEach es X.env:=by rfl) (hpl : (backTo pos (starEach es X.env)).any (·.1) = false:=by rfl) :
  PE X (.Call (.Name x p) (e :: es) [] pos) (zTh sp dvs E t):=by
 intro zB s σ H Q I h;refine wpAny_Call_Name_kw (zRI I hg hm ?_ hdb);refine PySem.W.callWith_K (h₀:=X.base) I.ok.mod.kin hk (thn (ha pos zB s σ H _ I h) fun us s1 ⟨vs,H1,I1,r,q⟩ => ⟨I1.kIn,?_⟩) he hpl;exact zTS F hr hb hd hx I1 r q
end
structure FnScope (N P : List Str) (sc : Scope) : Prop where
 kind : sc.kind = .function
 co : sc.isCoroutine = false
 gen : sc.isGenerator = false
 nd : N.Nodup
 pre : N.take P.length = P
 par : ∀ x ∈ P,sc.names.lookup x = some .local \/ sc.names.lookup x = some .cell
 nofree : ∀ y ∈ sc.names,y.2 ≠ .free
theorem zI4 {kindOf : Str -> Option NameKind} {x : Str} : ∀ {binds : List (Str × Value)} {m : Str -> Option Value},(∀ v,(x,v) ∉ binds) -> bindL kindOf binds m x = m x
 | [],_,_ => rfl
 | (n,v) :: r,m,h => by
  unfold bindL;rw [zI4 fun w hw => h w (zVA _ hw)];split
  ·have : x ≠ n:=by rintro rfl; exact h v zVB
   simp [this]
  ·rfl
theorem zIx {kindOf : Str -> Option NameKind} {x : Str} : ∀ {binds : List (Str × Value)} {m : Str -> Option Value},(∀ v,(x,v) ∉ binds) -> bindC kindOf binds m x = m x
 | [],_,_ => rfl
 | (n,v) :: r,m,h => by
  unfold bindC;rw [zIx fun w hw => h w (zVA _ hw)];split
  ·rfl
  ·have : x ≠ n:=by rintro rfl; exact h v zVB
   simp [this]
theorem zIn {kindOf : Str -> Option NameKind} {x : Str} {v : Value} : ∀ {P : List Str} {vs : List Value} {i : Nat} {m : Str -> Option Value},P.Nodup -> P[i]? = some x -> vs[i]? = some v -> kindOf x = some .local ->
  bindL kindOf (P.zip vs) m x = some v
 | [],_,_,_,_,h,_,_ => by simp at h
 | _ :: _,[],_,_,_,_,h,_ => by simp at h
 | p :: P,w :: vs,0,m,nd,h1,h2,hk => by
  simp at h1 h2; subst h1; subst h2;show bindL kindOf ((p,w) :: P.zip vs) m p = _;unfold bindL;rw [zI4 fun v hv => (List.nodup_cons.mp nd).1 (List.of_mem_zip hv).1,zVC hk];simp
 | p :: P,w :: vs,i + 1,m,nd,h1,h2,hk => by
  show bindL kindOf ((p,w) :: P.zip vs) m x = _;unfold bindL;exact zIn (i:=i) (List.nodup_cons.mp nd).2 (by simpa using h1) (by simpa using h2) hk
theorem zI9 {kindOf : Str -> Option NameKind} {x : Str} {v : Value} : ∀ {P : List Str} {vs : List Value} {i : Nat} {m : Str -> Option Value},P.Nodup -> P[i]? = some x -> vs[i]? = some v -> kindOf x ≠ some .local ->
  bindC kindOf (P.zip vs) m x = some v
 | [],_,_,_,_,h,_,_ => by simp at h
 | _ :: _,[],_,_,_,_,h,_ => by simp at h
 | p :: P,w :: vs,0,m,nd,h1,h2,hk => by
  simp at h1 h2; subst h1; subst h2;show bindC kindOf ((p,w) :: P.zip vs) m p = _;unfold bindC;rw [zIx fun v hv => (List.nodup_cons.mp nd).1 (List.of_mem_zip hv).1,zVF hk];simp
 | p :: P,w :: vs,i + 1,m,nd,h1,h2,hk => by
  show bindC kindOf ((p,w) :: P.zip vs) m x = _;unfold bindC;exact zI9 (i:=i) (List.nodup_cons.mp nd).2 (by simpa using h1) (by simpa using h2) hk
def zE1 (N : List Str) (vs : List V) : St:=vs.map some ++ List.replicate (N.length - vs.length) none
def zLZ (CX : CXT) (P : Program) (w : World) (K : PySem.W.Frag) (mg : Str -> Option Value) (base : Heap) (N : List Str) (qual : Str) (scope : Scope) (f : Addr) (cd : Value) (A : Around) (outer : List Env) (s : Shared) (H : Hp) (E : XK) : Cx where
 prog:=P
 w:=w
 K:=K
 mg:=mg
 base:=base
 A:=A.deeper (envOfC qual scope s.heap.objs.size f cd)
 N:=N
 s₀:=s
 H₀:=H
 env:=envOfC qual scope s.heap.objs.size f cd
 outer:=outer
 stack:=envOfC qual scope s.heap.objs.size f cd :: outer
 ex:=[]
 calm:=true
 fn:=fun _ => true
 pn:=[]
 xe:=fun e s' => wpAny (model P w) (A.deeper (envOfC qual scope s.heap.objs.size f cd)) (leaving (envOfC qual scope s.heap.objs.size f cd) e) (fun _ s'' => CX outer H s E e s'') (fun e' s'' => CX outer H s E e' s'') s'
theorem zHp {sc : Scope} {n : Nat} {x : Str} (h : sc.names.lookup x = some .cell) : ∃ c,(cellsFrom n sc.names []).lookup x = some c:=by
 have q:=PySem.W.cellsFrom_some sc.names n [] (.inl h);exact Option.isSome_iff_exists.mp q
theorem zNH {CX : CXT} {P : Program} {w : World} {K : PySem.W.Frag} {mg : Str -> Option Value} {base : Heap} {N ps : List Str} {qual : Str} {scope : Scope} {f : Addr} {cd : Value} {A : Around} {outer : List Env} {s s1 : Shared} {H : Hp} {E : XK} {us : List Value} {vs : List V}
  (S : FnScope N ps scope) (hd : A.handled = none) (e0 : Env0 P w K mg base A outer s H) (hl : vs.length = ps.length) (r : zo vs us)
  (x : InCallC s s.heap.objs.size (bindL (envOfC qual scope s.heap.objs.size f cd).kindOf (ps.zip us) fun _ => none) (cellsFrom (s.heap.objs.size + 1) scope.names []) (bindC (envOfC qual scope s.heap.objs.size f cd).kindOf (ps.zip us) fun _ => none) s1) :
  Inv (zLZ CX P w K mg base N qual scope f cd A outer s H E) [] (zE1 N vs) H s1:=by
 have hpl : ps.length <= N.length:=by have:=zWk List.length S.pre; rw [zWL] at this; omega
 obtain ⟨h1,tk,rfl,hk⟩:=x.done;have noA : ∀ b : Addr,b ∉ (zLZ CX P w K mg base N qual scope f cd A outer s H E).ex:=fun b z => absurd (show b ∈ ([] : List Addr) from z) (by simp)
 refine ⟨⟨e0.mod,S.kind,rfl,rfl,zU3 _,fun y z c h1 h2 => ?_,fun y hy => ?_,fun y c _ h => ?_,fun _ => hd,Around.frames_deeper e0.frames,.inr ⟨rfl,rfl⟩,fun b z => absurd z (noA b),e0.bs,e0.bsz,fun b _ _ => noA b,fun b z => absurd z (noA b),e0.funs,e0.frf⟩,
  rfl,e0.bare,Un.kept hk,⟨_,x.toInCall.ns,fun i y v h1 h2 h3 => ?_⟩,fun y c h => ⟨_,x.cell y c h⟩,e0.hok.fresh (zU3 _),fun y c h => ?_,fun p hp => absurd (show p ∈ ([] : List (Addr × Obj)) from hp) (by simp),e0.hok.kept hk,?_⟩
 ·exact name_of_addr x.apart (zVz h1) (zVz h2)
 ·have hy : scope.names.lookup y = some .cell \/ scope.names.lookup y = some .free:=hy;rcases hy with hy | hy
  ·exact zHp hy
  ·exact absurd rfl (S.nofree _ (zVz hy))
 ·exact Nat.le_of_lt (x.above y c (zVz h))
 ·have hi : i < vs.length:=by
   unfold zE1 at h2;by_cases hi : i < vs.length
   ·exact hi
   ·rw [zV7 (by simpa using hi)] at h2;rw [List.getElem?_replicate] at h2;split at h2 <;> cases h2
  have ha : vs[i]? = some v:=by
   unfold zE1 at h2;rw [zU4 (by simpa using hi),zVK] at h2;cases e : vs[i]? with
   | none => rw [e] at h2; cases h2
   | some a => rw [e] at h2; cases h2; rfl
  obtain ⟨u,hu,rv⟩:=r.get ha;have hp : ps[i]? = some y:=by
   rw [<- S.pre,List.getElem?_take_of_lt (by omega)]; exact h1
  have ndP : ps.Nodup:=by rw [<- S.pre]; exact S.nd.sublist (List.take_sublist _ _)
  refine ⟨u,rv,?_⟩;rcases S.par y (List.mem_of_getElem? hp) with k | k
  ·exact .inl ⟨k,zIn ndP hp hu k⟩
  ·obtain ⟨c,e⟩:=zHp (n:=s.heap.objs.size + 1) k;refine .inr ⟨.inl k,c,e,?_⟩;have q:=x.cell y c e;rw [zI9 ndP hp hu (by show scope.names.lookup y ≠ _; rw [k]; decide)] at q;exact q
 ·exact e0.hok.fresh (Nat.le_of_lt (x.above y c (zVz h)))
 ·unfold zE1;show _ = N.length;rw [zVD,zU6,List.length_replicate];omega
theorem zTe {CX : CXT} {P : Program} {w : World} {K : PySem.W.Frag} {mg : Str -> Option Value} {base : Heap} {k : Nat} {f : Addr} {name qual : Str} {params : Arguments} {body : List Stmt} {scope : Scope} {dV kV doc pm cdv ct oc : Value} {an od : Option Addr}
  {osl : Array (Option Value)} {N ps : List Str} {sp : Sp} (lk : K.lookup f = some ⟨oc,od,.func (PySem.W.fnOf name qual params body scope dV kV doc pm an cdv ct),osl⟩) (hcd : PySem.W.codeIn K cdv qual = true) (S : FnScope N ps scope)
  (len : ∀ vs H Q E,sp vs H Q E -> vs.length = ps.length)
  (hbody : ∀ (A : Around) (outer : List Env) (s : Shared) (H : Hp) (vs : List V) (Q : VK) (E : XK),Room k (A.deeper (envOfC qual scope s.heap.objs.size f cdv)) -> sp vs H Q E ->
   ∃ t,PSs (zLZ CX P w K mg base N qual scope f cdv A outer s H E) body t /\ t { nx:=fun _ H' => Q .non H',rt:=Q } (zE1 N vs) H) :
  FnOk P w K mg base CX (k + 1) f (PySem.W.fnOf name qual params body scope dV kV doc pm an cdv ct) ps sp:=by
 refine ⟨len,fun A outer s H args us vs Q E hr e0 hb r hsp => ?_⟩;have hl:=len _ _ _ _ hsp;have KX : K.In s.heap:=e0.mod.kin.keeps fun b o e => (e0.bs b o e).1;have lim : s.heap.NoLimit:=e0.mod.nolimit.keeps fun b o e => (e0.bs b o e).1;have hkind : ∀ y ∈ ps.zip us,scope.names.lookup y.1 = some .local \/ (scope.names.lookup y.1 = some .cell /\ ((cellsFrom (s.heap.objs.size + 1) scope.names []).lookup y.1).isSome = true):=fun ⟨n,v⟩ hy => by
  rcases S.par n (List.of_mem_zip hy).1 with q | q
  ·exact .inl q
  ·exact .inr ⟨q,PySem.W.cellsFrom_some _ _ _ (.inl q)⟩
 refine codeAny_call_function hr.depth (KX _ _ lk) rfl S.co S.gen rfl (PySem.W.codeRec_of KX hcd) (hb _ _ _ _ ?_);refine wpAny_newFunctionEnv_cells S.kind hkind fun env he s1 x => ?_;subst he;refine ⟨lim.keeps x.toInCall.keep,codeAny_func ?_⟩;obtain ⟨t,ht,hq⟩:=hbody A outer s H vs Q E (hr.deeper _) hsp;have I : Inv (zLZ CX P w K mg base N qual scope f cdv A outer s H E) [] (zE1 N vs) H s1:=zNH S hr.hd e0 hl r x;refine zVT (ht [] s1 (zE1 N vs) H _ I hq) (fun fl s' hs => ?_) fun e s' hs => hs;have fin : ∀ {σ' : St} {H' : Hp} {v : V} {u : Value},Inv (zLZ CX P w K mg base N qual scope f cdv A outer s H E) [] σ' H' s' -> zx v u -> Q v H' -> CE outer P w H s Q u s' :=
  fun {σ' H' v u} J rv q => ⟨v,H',J.os,J.bare,J.base,J.hok,rv,q⟩
 cases fl with
 | ret u =>
  obtain ⟨v,σ',H',J,rv,q⟩:=hs;exact fin J rv q
 | next =>
  obtain ⟨σ',H',J,q⟩:=hs;exact fin (v:=V.non) (u:=Value.none) J rfl q
 | brk =>
  obtain ⟨_,_,_,q⟩:=hs;exact False.elim q
 | cont =>
  obtain ⟨_,_,_,q⟩:=hs;exact False.elim q
section
variable {X : Cx} {x : Str} {p pos : Pos} {e : Expr} {es : List Expr} {t : TA} {id T : String} {r : List V -> Hp -> VK -> Prop}
def tCB (r : List V -> Hp -> VK -> Prop) (t : TA) : TE:=fun σ H Q => t σ H fun vs H1 => r vs H1 Q
theorem zP6 (hc : zCQ X (.builtin id) r) (hg : Gl X x) (hm : X.mg x = none) (hv : bootBuiltins x = some (.builtin id)) (ha : PA X (e :: es) t) (hn : x ≠ "__name__" := by decide) (hdb : (x == ("__debug__" : Str)) = false:=by decide)
  (he : starEach (e :: es) X.env = (false,eval e X.env) :: starEach es X.env:=by rfl) (hpl : (backTo pos (starEach es X.env)).any (·.1) = false:=by rfl) : PE X (.Call (.Name x p) (e :: es) [] pos) (tCB r t):=by
 intro zB s σ H Q I h;refine wpAny_Call_Name_kw (zF4 I hg hm hv ?_ hn hdb);exact PyProof.Rows.callWith_builtin1 (thn (ha pos zB s σ H _ I h) fun us s1 ⟨vs,H1,I1,r1,q1⟩ => hc zB s1 σ H1 vs us Q I1 r1 q1) he hpl
theorem zDd (hc : zCQ X (.type T) r) (hg : Gl X x) (hm : X.mg x = none) (hv : bootBuiltins x = some (.type T)) (ha : PA X (e :: es) t) (hn : x ≠ "__name__" := by decide) (hdb : (x == ("__debug__" : Str)) = false:=by decide)
  (he : starEach (e :: es) X.env = (false,eval e X.env) :: starEach es X.env:=by rfl) (hpl : (backTo pos (starEach es X.env)).any (·.1) = false:=by rfl) : PE X (.Call (.Name x p) (e :: es) [] pos) (tCB r t):=by
 intro zB s σ H Q I h;refine wpAny_Call_Name_kw (zF4 I hg hm hv ?_ hn hdb);exact PyProof.Rows.callWith_type1 (thn (ha pos zB s σ H _ I h) fun us s1 ⟨vs,H1,I1,r1,q1⟩ => hc zB s1 σ H1 vs us Q I1 r1 q1) he hpl
end
end L2
namespace HT
open PySem PyProof.Rows
section
variable {prog : Program} {w : World} {A : Around} {E : Value -> Shared -> Prop} {s : Shared}
theorem zQY {t b : Addr} {vs ws : List Value} {Q : Value -> Shared -> Prop} (ht : IsTup s.heap t vs.toArray) (hb : IsTup s.heap b ws.toArray) (hv : vs ≠ [])
  (h1 : ws = [] -> Q (.ref t) s) (h2 : ws ≠ [] -> Q (.ref s.heap.objs.size) { s with heap:=s.heap.push { cls:=.type "tuple", data:=.seq (vs ++ ws).toArray } })
  (hsz : vs.length + ws.length <= sizeLine) : wpAny (model prog w) A (binaryOp .Add (.ref t) (.ref b)) Q E s:=by
 obtain ⟨⟨cls,dd,data,sl⟩,ho,hc,n,hd⟩:=id ht;obtain ⟨⟨cls2,dd2,data2,sl2⟩,ho2,hc2,n2,hd2⟩:=id hb;simp only at hc hd hc2 hd2;subst hc hd hc2 hd2;have e : vs.toArray ++ ws.toArray = (vs ++ ws).toArray:=by simp
 by_cases hw : ws = []
 ·exact concat_meets ⟨_,ho,rfl⟩ ⟨_,ho2,rfl⟩ noFill_tuple_add seq_tuple_add PySem.F.slot_tuple_add PySem.F.entry_tuple_add (PySem.F.args_tuple_add_2 _ _)
   (tuple_addW1 t b vs.toArray ws.toArray n n2 dd dd2 sl sl2 (by simpa using hv) (by simp [hw])) ⟨ho,ho2,h1 hw⟩
 ·refine concat_meets ⟨_,ho,rfl⟩ ⟨_,ho2,rfl⟩ noFill_tuple_add seq_tuple_add PySem.F.slot_tuple_add PySem.F.entry_tuple_add (PySem.F.args_tuple_add_2 _ _)
   (tuple_addW2 t b vs.toArray ws.toArray n n2 dd dd2 sl sl2 (by simpa using hv) (by simpa using hw) (by rw [zU5,zU5]; exact hsz)) ⟨ho,ho2,?_⟩
  rw [e];exact h2 hw
def sIx (n d : Nat) : Option Int -> Nat
 | none => d
 | some v => if v < 0 then (v + (n : Int)).toNat else min v.toNat n
theorem zRf (n d k : Nat) : sIx n d (some (k : Int)) = min k n:=by
 show (if (k : Int) < 0 then ((k : Int) + (n : Int)).toNat else min (k : Int).toNat n) = min k n;rw [zVF (by omega),Int.toNat_natCast]
theorem zSl (n d : Nat) (hd : d <= n) (o : Option Int) : sIx n d o <= n:=by
 cases o with
 | none => exact hd
 | some v =>
  show (if v < 0 then (v + (n : Int)).toNat else min v.toNat n) <= n;by_cases hv : v < 0
  ·rw [zVC hv]; omega
  ·rw [zVF hv]; exact Nat.min_le_right _ _
theorem zMu (v : Int) (n d : Nat) : (if v < 0 then max (v + (n : Int)) 0 else min v (n : Int)) = ((sIx n d (some v) : Nat) : Int):=by
 show (if v < 0 then max (v + (n : Int)) 0 else min v (n : Int)) = (((if v < 0 then (v + (n : Int)).toNat else min v.toNat n) : Nat) : Int);by_cases hv : v < 0
 ·simp only [zVC hv]; omega
 ·simp only [zVF hv]; omega
theorem zLf (lo hi : Option Int) (n : Nat) : Builtin.Slice.sliceAdjust lo hi 1 (n : Int) = (((sIx n 0 lo : Nat) : Int),((sIx n n hi : Nat) : Int)):=by
 have h1 : ¬ ((1 : Int) < 0):=by omega
 unfold Builtin.Slice.sliceAdjust;simp only [h1,if_false];refine Prod.ext ?_ ?_
 ·cases lo with
  | none => rfl
  | some v => exact zMu v n 0
 ·cases hi with
  | none => rfl
  | some v => exact zMu v n n
theorem zLa (i j : Nat) : Builtin.Slice.slicePlaces (i : Int) (j : Int) 1 = j - i:=by
 unfold Builtin.Slice.slicePlaces;have h1 : (1 : Int) > 0:=by omega
 simp only [h1,if_true,Int.ediv_one];split <;> omega
theorem zHv {v : Value} {o : Option Int} {Q : Option Int -> Shared -> Prop} (p : IsPart v o) (h : Q o s) : wpAny (model prog w) A (Builtin.Slice.slicePartIndex v) Q E s:=by
 cases p with
 | none => exact slicePart_none h
 | int i t => exact slicePart_int h
theorem zDh {sl : Addr} {vl vu : Value} {lo hi : Option Int} {n : Nat} {Q : Int × Int × Nat -> Shared -> Prop} (hs : s.heap.IsSliceOf sl vl vu .none) (pl : IsPart vl lo) (pu : IsPart vu hi)
  (h : Q (((sIx n 0 lo : Nat) : Int),1,sIx n n hi - sIx n 0 lo) s) : wpAny (model prog w) A (Builtin.Slice.sliceApplied (.ref sl) (pure (n : Int))) Q E s:=by
 obtain ⟨os,hos,hcs,hds⟩:=id hs;unfold Builtin.Slice.sliceApplied Builtin.Slice.sliceFields;refine zUx (zUx (wpAny_field hos hds (x:=vl) rfl (zUx (wpAny_field hos hds (x:=vu) rfl (zUx (wpAny_field hos hds (x:=.none) rfl (zUz ?_)))))));refine zUx (slicePart_none ?_);show wpAny _ _ (if ((1 : Int) == 0) = true then _ else _) _ _ s;rw [zVF (by decide)];refine zUx (zHv pl (zUx (zHv pu (zUx (zUz ?_)))));show wpAny _ _ (match Builtin.Slice.sliceAdjust lo hi 1 (n : Int) with | (lo,hi) => pure (lo,(1 : Int),Builtin.Slice.slicePlaces lo hi 1)) _ _ s;rw [zLf lo hi n];show wpAny _ _ (pure (((sIx n 0 lo : Nat) : Int),(1 : Int),Builtin.Slice.slicePlaces ((sIx n 0 lo : Nat) : Int) ((sIx n n hi : Nat) : Int) 1)) _ _ s;rw [zLa];exact zUz h
theorem zOW (xs : Array Value) (i k : Nat) : ((List.range k).filterMap fun (m : Nat) => xs[((i : Int) + (m : Int) * 1).toNat]?).toArray = ((xs.toList.drop i).take k).toArray:=by
 have e : (fun (m : Nat) => xs[((i : Int) + (m : Int) * 1).toNat]?) = fun m => xs[i + m]?:=by
  funext m;have : ((i : Int) + (m : Int) * 1).toNat = i + m:=by omega
  rw [this]
 rw [e];have:=pick_run xs i k;rw [List.filterMap_map] at this;have e2 : ((fun x => xs[x]?) ∘ fun x => i + x) = fun m => xs[i + m]?:=rfl;rw [e2] at this;rw [this]
theorem zFg {t sl : Addr} {items : Array Value} {vl vu : Value} {lo hi : Option Int} {Q : Value -> Shared -> Prop} (ht : IsTup s.heap t items) (hs : s.heap.IsSliceOf sl vl vu .none) (pl : IsPart vl lo) (pu : IsPart vu hi)
  (hw : ¬ (sIx items.size 0 lo = 0 /\ sIx items.size items.size hi = items.size))
  (h : Q (.ref s.heap.objs.size) { s with heap:=s.heap.push { cls:=.type "tuple", data:=.seq ((items.toList.drop (sIx items.size 0 lo)).take (sIx items.size items.size hi - sIx items.size 0 lo)).toArray } })
  (hsz : items.size <= sizeLine) : wpAny (model prog w) A (getItem (.ref t) (.ref sl)) Q E s:=by
 have htake : sizeOk (.seq ((items.toList.drop (sIx items.size 0 lo)).take (sIx items.size items.size hi - sIx items.size 0 lo)).toArray):=by
  show ((items.toList.drop (sIx items.size 0 lo)).take (sIx items.size items.size hi - sIx items.size 0 lo)).toArray.size <= sizeLine;rw [zU5,zWL,zXQ,zVg];omega
 have hj : sIx items.size items.size hi <= items.size:=zSl _ _ (zU3 _) hi;obtain ⟨os,hos,hcs,hds⟩:=id hs;have hTs : s.TypeIs (.ref sl) "slice" := ⟨os,hos,hcs⟩;unfold getItem;try with_reducible refine zVq ?_
 first | refine zUx (zUz ?_) | skip
 refine zUx (wpAny_sequenceKey ht.typeIs (by decide) ?_)
 refine zUx (zVZ (name:=Str.ofString "__getitem__") ht.typeIs zWV
  (zVa zWV ht.typeIs entry_tuple_getitem ?_ (args_tuple_getitem _ _)))
 show wpAny _ _ (Builtin.Tuple.tupleItemsOf (.ref t) >>= _) _ _ s;refine zUx (tupleItemsOf_ ht ?_);refine zUx (wpAny_typeOf hTs ?_);rw [zVC (by decide)];refine zUx (zDh hs pl pu ?_);have hno : ¬ ((((sIx items.size 0 lo : Nat) : Int) == 0 && (1 : Int) == 1 && (sIx items.size items.size hi - sIx items.size 0 lo) == items.size) = true):=by
  intro q;rw [zVX,zVX] at q;have q1 : ((sIx items.size 0 lo : Nat) : Int) = 0:=eq_of_beq q.1.1;have q2 : sIx items.size items.size hi - sIx items.size 0 lo = items.size:=eq_of_beq q.2;exact hw ⟨by omega,by omega⟩
 show wpAny _ _ (if (((sIx items.size 0 lo : Nat) : Int) == 0 && (1 : Int) == 1 && (sIx items.size items.size hi - sIx items.size 0 lo) == items.size) = true then _ else _) _ _ s;rw [zVF hno,zOW]
 first
  | exact zUx (m:=Builtin.Tuple.tupleExact _) (zVQ (zUz ⟨_,rfl,zUz h⟩) htake)
  | exact zUx (m:=Builtin.Tuple.tupleExact _) (zVQ (zUx (zUz (zUz ⟨_,rfl,zUz h⟩))) htake)
  | exact zUx (zUx (m:=Builtin.Tuple.tupleExact _) (zVQ (zUz (zUz ⟨_,rfl,zUz h⟩)) htake))
  | exact zUx (zUx (m:=Builtin.Tuple.tupleExact _) (zVQ (zUz ⟨_,rfl,zUz h⟩) htake))
end
end HT
namespace L2
open PySem PySem.Spec PyProof.Rows
abbrev TO:=St -> Hp -> (Option Int -> Hp -> Prop) -> Prop
def PO (X : Cx) (e : Option Expr) (t : TO) : Prop :=
 ∀ (zB : List (Addr × Obj)) (s : Shared) (σ : St) (H : Hp) (Q : Option Int -> Hp -> Prop),Inv X zB σ H s -> t σ H Q ->
  wpAny (model X.prog X.w) X.A (evalPart e X.env) (fun u s' => ∃ o H',Inv X zB σ H' s' /\ IsPart u o /\ Q o H') X.xe s
def zQa : TO:=fun _ H Q => Q none H
def zTd (t : TE) : TO:=fun σ H Q => t σ H fun x H1 => ∃ i,x = .int i /\ Q (some i) H1
section
variable {X : Cx} {e : Expr} {te : TE} {lo hi : Option Expr} {tl th : TO} {pos p2 : Pos}
theorem zQ7 : PO X none zQa:=by
 intro zB s σ H Q I h;rw [evalPart_none];exact zUz ⟨none,H,I,.none,h⟩
theorem zQ5 (h : PE X e te) : PO X (some e) (zTd te):=by
 intro zB s σ H Q I hw;rw [evalPart_some];refine thn (h zB s σ H _ I hw) fun u s1 ⟨x,H1,I1,r1,q1⟩ => ?_;obtain ⟨i,rfl,q⟩:=q1;obtain ⟨t,rfl⟩:=r1;exact ⟨some i,H1,I1,.int i t,q⟩
def SlR (X : Cx) (r : V -> Option Int -> Option Int -> Hp -> VK -> Prop) : Prop :=
 ∀ (zB : List (Addr × Obj)) (s : Shared) (σ : St) (H : Hp) (x : V) (v vl vu : Value) (lo hi : Option Int) (sl : Addr) (Q : VK),Inv X zB σ H s -> zx x v -> s.heap.IsSliceOf sl vl vu .none -> IsPart vl lo -> IsPart vu hi -> r x lo hi H Q ->
  ∃ T id,typeLookup (.type T) "__getitem__" = pure (some (.builtin id)) /\ s.TypeIs v T /\ wpAny (model X.prog X.w) X.A (getItem v (.ref sl)) (EP X zB σ Q) X.xe s
theorem SlR.or {r r' : V -> Option Int -> Option Int -> Hp -> VK -> Prop} (h : SlR X r) (h' : SlR X r') : SlR X (fun x lo hi H Q => r x lo hi H Q \/ r' x lo hi H Q):=by
 intro zB s σ H x v vl vu lo hi sl Q I rx hs pl pu q;rcases q with q | q
 ·exact h zB s σ H x v vl vu lo hi sl Q I rx hs pl pu q
 ·exact h' zB s σ H x v vl vu lo hi sl Q I rx hs pl pu q
def tSl (r : V -> Option Int -> Option Int -> Hp -> VK -> Prop) (te : TE) (tl th : TO) : TE:=fun σ H Q => te σ H fun x H1 => tl σ H1 fun l H2 => th σ H2 fun u H3 => r x l u H3 Q
theorem zP4 {r : V -> Option Int -> Option Int -> Hp -> VK -> Prop} (hr : SlR X r) (he : PE X e te) (hl : PO X lo tl) (hu : PO X hi th) : PE X (.Subscript e (.Slice lo hi none p2) pos) (tSl r te tl th):=by
 intro zB s σ H Q I h;refine Subscript_ (thn (he zB s σ H _ I h) fun v s1 ⟨x,H1,I1,r1,q1⟩ => ?_);refine wpAny_Slice (thn (hl zB s1 σ H1 _ I1 q1) fun vl s2 ⟨l,H2,I2,pl,q2⟩ => thn (hu zB s2 σ H2 _ I2 q2) fun vu s3 ⟨u,H3,I3,pu,q3⟩ => ?_);rw [evalPart_none];refine zUz ?_;have I4 : Inv X zB σ H3 { s3 with heap:=s3.heap.push { cls:=.type "slice", data:=.fields #[vl,vu,.none] } }:=I3.kept (t':=s3.toks) fun b ob q => zUy _ q;obtain ⟨T,id,hT,ht,hg⟩:=hr zB { s3 with heap:=s3.heap.push { cls:=.type "slice", data:=.fields #[vl,vu,.none] } } σ H3 x v vl vu l u s3.heap.objs.size Q I4 r1 (Heap.IsSliceOf.new ..) pl pu q3;show wpAny (model X.prog X.w) X.A (subscriptTail e (.Slice lo hi none p2) v (.ref s3.heap.objs.size)) (EP X zB σ Q) X.xe { s3 with heap:=s3.heap.push { cls:=.type "slice", data:=.fields #[vl,vu,.none] } };exact tail_any (ops:=[.ref s3.heap.objs.size,v]) ht hT hg (by with_unfolding_all rfl)
def zKC (xs : List V) (lo hi : Option Int) : List V:=(xs.drop (HT.sIx xs.length 0 lo)).take (HT.sIx xs.length xs.length hi - HT.sIx xs.length 0 lo)
theorem zGb (xs : List V) (lo hi : Option Int) : (zKC xs lo hi).length <= xs.length:=by
 unfold zKC;rw [zWL,zXQ];omega
def zUk (K : PySem.W.Frag) : V -> Option Int -> Option Int -> Hp -> VK -> Prop:=fun x lo hi H Q => ∃ a xs,x = .ref a /\ SqT K H a xs /\
 ¬ (HT.sIx xs.length 0 lo = 0 /\ HT.sIx xs.length xs.length hi = xs.length) /\ ∀ p,H p = none -> Q (.ref p) (upd H p (.tup (zKC xs lo hi)))
theorem zS2 : SlR X (zUk X.K):=by
 intro zB s σ H x v vl vu lo hi sl Q I rx hs pl pu h;obtain ⟨a,xs,rfl,hx,hw,q⟩:=h;cases rx;obtain ⟨its,r,ht,hz⟩:=I.tuple hx;have hlen : its.toArray.size = xs.length:=by rw [zU5]; exact r.length.symm
 refine ⟨"tuple", _,zWV.lookup,ht.typeIs,?_⟩;refine HT.zFg ht hs pl pu (by rw [hlen]; exact hw) ?_ (by rw [hlen]; exact hz);rw [hlen];refine ⟨.ref s.heap.objs.size,_,I.laid (t':=s.toks) (o:=.tup (zKC xs lo hi)) (fun b ob q => zUy _ q) (zU3 _) ?_,rfl,q _ (I.hok.fresh (zU3 _))⟩;exact ⟨zVO (zGb xs lo hi) hz,_,(r.drop (HT.sIx xs.length 0 lo)).take (HT.sIx xs.length xs.length hi - HT.sIx xs.length 0 lo),zC9.new _ _⟩
def zR9 (K : PySem.W.Frag) : R2:=fun x y H Q => ∃ a b xs ys,x = .ref a /\ y = .ref b /\ SqT K H a xs /\ SqT K H b ys /\ xs ≠ [] /\ xs.length + ys.length <= sizeLine /\
 (ys = [] -> Q (.ref a) H) /\ (ys ≠ [] -> ∀ p,H p = none -> Q (.ref p) (upd H p (.tup (xs ++ ys))))
theorem zo.nil_iff {xs : List V} {us : List Value} (r : zo xs us) : us = [] ↔ xs = []:=by
 cases r with
 | nil => simp
 | cons _ _ => simp
theorem zRP : OpR X (binaryOp .Add) (zR9 X.K):=by
 intro zB s σ H x y v u Q I rx ry h;obtain ⟨a,b,xs,ys,rfl,rfl,ha,hb,hx,hz,q1,q2⟩:=h;cases rx;cases ry;obtain ⟨its,r1,p1,_⟩:=I.tuple ha;obtain ⟨its2,r2,p2,_⟩:=I.tuple hb;refine HT.zQY p1 p2 (fun z => hx (r1.nil_iff.mp z)) (fun z => ⟨.ref a,H,I,rfl,q1 (r2.nil_iff.mp z)⟩) (fun z => ?_) (by rw [<- r1.length,<- r2.length]; exact hz);refine ⟨.ref s.heap.objs.size,_,I.laid (t':=s.toks) (o:=.tup (xs ++ ys)) (fun b ob q => zUy _ q) (zU3 _) ?_,rfl,q2 (fun w => z (r2.nil_iff.mpr w)) _ (I.hok.fresh (zU3 _))⟩;exact ⟨by rw [zVD]; exact hz,_,r1.append r2,zC9.new _ _⟩
end
def ixN (n : Nat) (i : Int) : Option Nat:=if 0 <= i then (if i < n then some i.toNat else none) else if -(n : Int) <= i then some (i + n).toNat else none
def atI {α : Type} (xs : List α) (i : Int) : Option α:=(ixN xs.length i).bind fun j => xs[j]?
theorem zJk {n : Nat} {i : Int} {j : Nat} (h : ixN n i = some j) : seqIndex? i n = some j /\ j < n /\ -(n : Int) <= i /\ i < n:=by
 unfold ixN at h;by_cases h0 : 0 <= i
 ·rw [zVC h0] at h;by_cases h1 : i < n
  ·rw [zVC h1] at h;have e : i.toNat = j:=zVx h;exact ⟨by rw [seqIndex_of h0 h1,e],by omega,by omega,h1⟩
  ·rw [zVF h1] at h; cases h
 ·rw [zVF h0] at h;by_cases h1 : -(n : Int) <= i
  ·rw [zVC h1] at h;have e : (i + n).toNat = j:=zVx h;exact ⟨by rw [seqIndex_neg (by omega) h1,e],by omega,h1,by omega⟩
  ·rw [zVF h1] at h; cases h
theorem zJi {α : Type} {xs : List α} {i : Int} {v : α} (h : atI xs i = some v) : ∃ j,seqIndex? i xs.length = some j /\ xs[j]? = some v /\ j < xs.length /\ -(xs.length : Int) <= i /\ i < xs.length:=by
 unfold atI at h;cases e : ixN xs.length i with
 | none => rw [e] at h; cases h
 | some j =>
  rw [e] at h;obtain ⟨h1,h2,h3,h4⟩:=zJk e;exact ⟨j,h1,h,h2,h3,h4⟩
theorem zM4 {α : Type} {xs : List α} {j : Nat} {v : α} (h : xs[j]? = some v) : atI xs (j : Int) = some v:=by
 have hj : j < xs.length:=(zU0.mp h).1;have e : ixN xs.length (j : Int) = some j:=by
  unfold ixN;rw [zVC (by omega),zVC (by omega)]; simp
 unfold atI; rw [e]; exact h
def zMe (b : Expr) : Prop:=∀ o i,subscripted b false o i = operate [o,i] (getItem o i)
def IxR (X : Cx) (r : R2) : Prop :=
 ∀ (value slice : Expr) (zB : List (Addr × Obj)) (s : Shared) (σ : St) (H : Hp) (x y : V) (v u : Value) (Q : VK),Inv X zB σ H s -> zx x v -> zx y u -> r x y H Q ->
  subscripted slice false v u = operate [v,u] (getItem v u) -> wpAny (model X.prog X.w) X.A (subscriptTail value slice v u) (EP X zB σ Q) X.xe s
def MtR (X : Cx) (id : String) (r : V -> List V -> Hp -> VK -> Prop) : Prop :=
 ∀ (zB : List (Addr × Obj)) (s : Shared) (σ : St) (H : Hp) (x : V) (xs : List V) (v : Value) (us : List Value) (Q : VK),Inv X zB σ H s -> zx x v -> zo xs us -> r x xs H Q ->
  wpAny (model X.prog X.w) X.A (call (.builtin id) (v :: us)) (EP X zB σ Q) X.xe s
section
variable {X : Cx} {a b : Expr} {ta tb : TE} {pos : Pos}
theorem IxR.or {r r' : R2} (h : IxR X r) (h' : IxR X r') : IxR X (fun x y H Q => r x y H Q \/ r' x y H Q):=by
 intro value slice zB s σ H x y v u Q I rx ry q hs;rcases q with q | q
 ·exact h value slice zB s σ H x y v u Q I rx ry q hs
 ·exact h' value slice zB s σ H x y v u Q I rx ry q hs
theorem zT5 {r : R2} (hr : IxR X r) (ha : PE X a ta) (hb : PE X b tb) (hs : zMe b) : PE X (.Subscript a b pos) (tOp r ta tb):=by
 intro zB s σ H Q I h;exact Subscript_ (zS8 ha hb I h fun v u s2 x y H2 I2 rx ry q => hr a b zB s2 σ H2 x y v u Q I2 rx ry q (hs _ _))
def zTg (K : PySem.W.Frag) : R2:=fun x y H Q => ∃ p xs i v,x = .ref p /\ y = .int i /\ SqL K H p xs /\ atI xs i = some v /\ Q v H
def zUJ (K : PySem.W.Frag) : R2:=fun x y H Q => ∃ p xs i v,x = .ref p /\ y = .int i /\ SqT K H p xs /\ atI xs i = some v /\ Q v H
def zUK : R2:=fun x y H Q => ∃ z i c,x = .str z /\ y = .int i /\ z.length <= sizeLine /\ atI z.cps.toList i = some c /\ Q (.str ⟨#[c]⟩) H
theorem zQ8 : IxR X (zTg X.K):=by
 intro value slice zB s σ H x y v u Q I rx ry h hs;obtain ⟨p,xs,i,z,rfl,rfl,hq,he,q⟩:=h;cases rx;obtain ⟨t,rfl⟩:=ry;obtain ⟨its,r,pl,hz⟩:=I.list hq;obtain ⟨j,h1,h2,h3,h4,h5⟩:=zJi he;obtain ⟨w,ew,rw'⟩:=r.get h2;have hl:=r.length;have hn:=zGH;have fin : EP X zB σ Q w s:=⟨z,H,I,rw',q⟩;by_cases h0 : 0 <= i
 ·have hj : i.toNat = j:=by
   rw [seqIndex_of h0 h5] at h1;exact zVx h1
  exact item_listR pl.isList h0 (by omega) (by rw [hj]; simpa using ew) fin hs
 ·have hj : (i + (its.toArray.size : Int)).toNat = j:=by
   rw [seqIndex_neg (by omega) h4] at h1;rw [zU5,<- hl];exact zVx h1
  exact subscriptTail_builtinR (x:=w) pl.isList.typeIs slot_list_getitem.lookup
   (wpAny_getItem_list_neg (Q:=fun r s' => r = w /\ EP X zB σ Q r s') pl.isList (by omega) (by rw [zU5] <;> omega) (by omega) (by rw [hj]; simpa using ew) ⟨rfl,fin⟩) hs
theorem zSk : IxR X (zUJ X.K):=by
 intro value slice zB s σ H x y v u Q I rx ry h hs;obtain ⟨p,xs,i,z,rfl,rfl,hq,he,q⟩:=h;cases rx;obtain ⟨t,rfl⟩:=ry;obtain ⟨its,r,pl,hz⟩:=I.tuple hq;obtain ⟨j,h1,h2,h3,h4,h5⟩:=zJi he;obtain ⟨w,ew,rw'⟩:=r.get h2;have hl:=r.length;have hn:=zGH;have fin : EP X zB σ Q w s:=⟨z,H,I,rw',q⟩
 exact subscriptTail_builtinR (x:=w) pl.typeIs slot_tuple_getitem.lookup
  (getItem_tuple (j:=j) (Q:=fun r s' => r = w /\ EP X zB σ Q r s') pl (by omega) (by omega) (by rw [zU5,<- hl]; exact h1) (by simpa using ew) ⟨rfl,fin⟩) hs
theorem zSS : IxR X zUK:=by
 intro value slice zB s σ H x y v u Q I rx ry h hs;obtain ⟨z,i,c,rfl,rfl,hz,he,q⟩:=h;obtain ⟨t,rfl⟩:=rx;obtain ⟨t',rfl⟩:=ry;obtain ⟨j,h1,h2,h3,h4,h5⟩:=zJi he;have hl : z.cps.toList.length = z.length:=by simp [Str.length]
 rw [hl] at h1 h4 h5;have hn:=zGH;exact tail_any (typeIs_str s z t) slot_str_getitem.lookup (getItem_str (c:=c) (by
  have e1 : decide (i < -(2 ^ 63 : Int)) = false:=zVW (by omega);have e2 : decide (i ≥ 2 ^ 63) = false:=zVW (by omega);rw [e1,e2,Bool.or_false]) (by rw [h1]; simpa using h2) ⟨.str ⟨#[c]⟩,H,I.tok _,⟨_,rfl⟩,q⟩) hs
def rIx (K : PySem.W.Frag) : R2:=fun x y H Q => zTg K x y H Q \/ zUJ K x y H Q \/ zUK x y H Q
theorem zSd : IxR X (rIx X.K):=zQ8.or (zSk.or zSS)
theorem zL3 (its : List Value) (n j : Nat) (u : Value) : Obj.mapSeq (·.setIfInBounds j u) { cls:=.type "list", data:=.seq its.toArray n } = { cls:=.type "list", data:=.seq (its.set j u).toArray n }:=by
 simp [Obj.mapSeq]
theorem Inv.lst {zB : List (Addr × Obj)} {σ : St} {H : Hp} {s : Shared} {p : Addr} {xs : List V} (I : Inv X zB σ H s) (h : H p = some (.lst xs)) :
  ∃ (its : List Value) (n : Nat),zo xs its /\ s.heap.get? p = some { cls:=.type "list", data:=.seq its.toArray n } /\ xs.length <= sizeLine:=by
 obtain ⟨z,its,n,r,e⟩:=I.hok p _ h;exact ⟨its,n,r,e,z⟩
theorem Inv.lstUpd {zB : List (Addr × Obj)} {σ : St} {H : Hp} {s : Shared} {p : Addr} {xs ys : List V} {its its' : List Value} {n n' : Nat} {f : Obj -> Obj} (I : Inv X zB σ H s) (h : H p = some (.lst xs))
  (ho : s.heap.get? p = some { cls:=.type "list", data:=.seq its.toArray n }) (hf : f { cls:=.type "list", data:=.seq its.toArray n } = { cls:=.type "list", data:=.seq its'.toArray n' }) (r : zo ys its') (hz : ys.length <= sizeLine) (t : Nat) :
  Inv X zB σ (upd H p (.lst ys)) { s with heap:=s.heap.update p f,toks:=t }:=by
 have e : (s.heap.update p f).get? p = some { cls:=.type "list", data:=.seq its'.toArray n' }:=by
  rw [zVk f ho (by rw [hf] <;> rfl),hf]
 refine I.write (x:=p) (e:=p) (by rw [h]; trivial) (.inl rfl) (fun b u hb q => (zVe _ _ (Ne.symm hb)).trans q) ⟨_,e⟩ ?_;exact ⟨hz,its',n',r,e⟩
def zTb : V -> V -> V -> Hp -> (Hp -> Prop) -> Prop:=fun o i v H Q => ∃ p xs k j,o = .ref p /\ i = .int k /\ H p = some (.lst xs) /\ ixN xs.length k = some j /\ Q (upd H p (.lst (xs.set j v)))
theorem zOf : zT0 X zTb:=by
 intro zB s σ H o i v ov iv u Q I ro ri rv h;obtain ⟨p,xs,k,j,rfl,rfl,hp,hj,q⟩:=h;cases ro;obtain ⟨t,rfl⟩:=ri;obtain ⟨its,n,r,ho,hz⟩:=I.lst hp;obtain ⟨h1,h2,h3,h4⟩:=zJk hj;have hl:=r.length;have hn:=zGH;have I' : Inv X zB σ (upd H p (.lst (xs.set j v))) { s with heap:=s.heap.update p (Obj.mapSeq (·.setIfInBounds j u)) } :=
  I.lstUpd hp ho (zL3 its n j u) (r.set rv j) (by rw [zXG]; exact hz) s.toks
 by_cases h0 : 0 <= k
 ·have hk : k.toNat = j:=by
   rw [seqIndex_of h0 h4] at h1;exact zVx h1
  exact PySem.W.ki_setAt ho h0 (by omega) (by rw [zU5,<- hl]; exact h4) (by rw [hk]; exact ⟨_,I',q⟩)
 ·have hk : (k + (its.toArray.size : Int)).toNat = j:=by
   rw [seqIndex_neg (by omega) h3] at h1;rw [zU5,<- hl];exact zVx h1
  exact PySem.W.ki_setBack ho (by omega) (by rw [zU5,<- hl]; exact h3) (by omega) (by rw [hk]; exact ⟨_,I',q⟩)
theorem zJV (lo hi : Option Int) (n : Nat) : (sliceBounds lo hi none n).1 = ((HT.sIx n 0 lo : Nat) : Int) /\ (sliceBounds lo hi none n).2.1 = ((HT.sIx n n hi : Nat) : Int) /\ (sliceBounds lo hi none n).2.2 = 1:=by
 refine ⟨?_,?_,rfl⟩
 ·cases lo with
  | none => simp [sliceBounds,HT.sIx]
  | some i =>
   simp only [sliceBounds,HT.sIx,Option.getD_none,show (1 : Int) > 0 by decide,if_true];by_cases h : i < 0
   ·simp only [h,if_true] <;> omega
   ·simp only [h,if_false] <;> omega
 ·cases hi with
  | none => simp [sliceBounds,HT.sIx]
  | some i =>
   simp only [sliceBounds,HT.sIx,Option.getD_none,show (1 : Int) > 0 by decide,if_true];by_cases h : i < 0
   ·simp only [h,if_true] <;> omega
   ·simp only [h,if_false] <;> omega
theorem zH2 (its : List Value) (lo hi : Option Int) : slicePick its.toArray lo hi none = ((its.drop (HT.sIx its.length 0 lo)).take (HT.sIx its.length its.length hi - HT.sIx its.length 0 lo)).toArray:=by
 obtain ⟨h1,h2,h3⟩:=zJV lo hi its.toArray.size;unfold slicePick;rw [h1,h2,h3];simp only [sliceRange_one,pick_run,zU5] <;> rfl
def zUw (K : PySem.W.Frag) : V -> Option Int -> Option Int -> Hp -> VK -> Prop:=fun x lo hi H Q => ∃ a xs,x = .ref a /\ SqL K H a xs /\ ∀ p,H p = none -> Q (.ref p) (upd H p (.lst (zKC xs lo hi)))
theorem zQt : SlR X (zUw X.K):=by
 intro zB s σ H x v vl vu lo hi sl Q I rx hs pl pu h;obtain ⟨a,xs,rfl,hx,q⟩:=h;cases rx;obtain ⟨its,r,ht,hz⟩:=I.list hx;have hlen:=r.length;refine ⟨"list", _,slot_list_getitem.lookup,ht.isList.typeIs,?_⟩;refine wpAny_getItem_list_slice ht.isList hs pl pu .none (by simp) ?_ (by rw [zU5] <;> omega);rw [zH2,<- hlen];refine ⟨.ref s.heap.objs.size,_,I.laid (t':=s.toks) (o:=.lst (zKC xs lo hi)) (fun b ob q => zUy _ q) (zU3 _) ?_,rfl,q _ (I.hok.fresh (zU3 _))⟩;exact ⟨zVO (zGb xs lo hi) hz,_,0,(r.drop (HT.sIx xs.length 0 lo)).take (HT.sIx xs.length xs.length hi - HT.sIx xs.length 0 lo),zU7 _ rfl⟩
theorem zJH : zCQ X (.builtin "len") (fun xs H Q => ∃ p ys,xs = [.ref p] /\ (SqL X.K H p ys \/ SqT X.K H p ys) /\ Q (.int ys.length) H):=by
 intro zB s σ H xs us Q I r h;obtain ⟨p,ys,rfl,hq,q⟩:=h;obtain ⟨u,rfl,rx⟩:=zD7 r;cases rx;have hn:=zGH;rcases hq with hq | hq
 ·obtain ⟨its,r',pl,hz⟩:=I.list hq;have hlen:=r'.length;exact Calls.call_len_list pl.isList (by simp only [zU5] <;> omega) ⟨.int ys.length,H,I.tok _,⟨s.toks + 1,by rw [zU5,hlen]⟩,q⟩
 ·obtain ⟨its,r',pl,hz⟩:=I.tuple hq;have hlen:=r'.length;exact len_tuple pl (by simp only [zU5] <;> omega) ⟨.int ys.length,H,I.tok _,⟨s.toks + 1,by rw [zU5,hlen]⟩,q⟩
theorem zJn : zCQ X (.type "list") (fun xs H Q => ∃ p ys,xs = [.ref p] /\ (SqL X.K H p ys \/ SqT X.K H p ys) /\ ∀ l,H l = none -> Q (.ref l) (upd H l (.lst ys))):=by
 intro zB s σ H xs us Q I r h;obtain ⟨p,ys,rfl,hq,q⟩:=h;obtain ⟨u,rfl,rx⟩:=zD7 r;cases rx
 have fin : ∀ (its : List Value),zo ys its -> ys.length <= sizeLine -> ∀ (h' : Heap) (c' : Nat),(∀ b o',s.heap.get? b = some o' -> h'.get? b = some o') ->
   h'.get? s.heap.objs.size = some { cls:=.type "list", dict:=none,data:=.seq its.toArray c',slots:=#[] } -> EP X zB σ Q (.ref s.heap.objs.size) { s with heap:=h' }:=fun its r' hz h' c' kp e =>
  ⟨.ref s.heap.objs.size,_,I.laid (t':=s.toks) kp (zU3 _) (show zBC X.prog X.w _ h' _ (.lst ys) from ⟨hz,its,c',r',e⟩),rfl,q _ (I.hok.fresh (zU3 _))⟩
 rcases hq with hq | hq
 ·obtain ⟨its,r',pl,hz⟩:=I.list hq;have hlen:=r'.length;obtain ⟨o,ho,hc,n,hd⟩:=pl.isList;exact call_list_seq p (.inl rfl) ho hc hd (fun h' c' kp e => fin its r' hz h' c' kp e) (by simp only [zU5] <;> omega)
 ·obtain ⟨its,r',pl,hz⟩:=I.tuple hq;have hlen:=r'.length;obtain ⟨o,ho,hc,n,hd⟩:=pl;exact call_list_seq p (.inr rfl) ho hc hd (fun h' c' kp e => fin its r' hz h' c' kp e) (by simp only [zU5] <;> omega)
theorem zH5 : zCQ X (.type "tuple") (fun xs H Q => ∃ p ys,xs = [.ref p] /\ ((SqL X.K H p ys /\ ∀ l,H l = none -> Q (.ref l) (upd H l (.tup ys))) \/ (SqT X.K H p ys /\ Q (.ref p) H))):=by
 intro zB s σ H xs us Q I r h;obtain ⟨p,ys,rfl,h⟩:=h;obtain ⟨u,rfl,rx⟩:=zD7 r;cases rx;rcases h with ⟨hq,q⟩ | ⟨hq,q⟩
 ·obtain ⟨its,r',pl,hz⟩:=I.list hq;have hlen:=r'.length;refine call_tuple_list pl.isList (fun h' kp => ?_) (by simp only [zU5] <;> omega);have I1 : Inv X zB σ H { s with heap:=h' }:=I.kept (t':=s.toks) kp;have I2 : Inv X zB σ (upd H h'.objs.size (.tup ys)) { s with heap:=h'.push { cls:=.type "tuple", data:=.seq its.toArray } } :=
   I1.laid (t':=s.toks) (fun b o e => zUy _ e) (zU3 _) (show zBC X.prog X.w _ _ _ (.tup ys) from ⟨hz,its,r',zC9.new _ _⟩)
  exact ⟨.ref h'.objs.size,_,I2,rfl,q _ (I1.hok.fresh (zU3 _))⟩
 ·obtain ⟨its,r',pl,hz⟩:=I.tuple hq;exact call_tuple_same pl ⟨.ref p,H,I,rfl,q⟩
def tyV (K : PySem.W.Frag) (T : String) (x : V) (H : Hp) : Prop:=match x with
 | .str _ => T = "str"
 | .int _ => T = "int"
 | .ref p => (T = "list" /\ ∃ xs,SqL K H p xs) \/ (T = "tuple" /\ ((∃ o,K.lookup p = some o /\ o.cls = .type "tuple" /\ o.dict = none) \/ ∃ xs,H p = some (.tup xs))) \/
   (T = "dict" /\ ((∃ kvs,H p = some (.dK kvs)) \/ ∃ kvs,H p = some (.dT kvs))) \/ (T = "set" /\ ∃ S n,H p = some (.set S n))
 | _ => False
theorem zPH {zB : List (Addr × Obj)} {σ : St} {H : Hp} {s : Shared} {T : String} {x : V} {v : Value} (I : Inv X zB σ H s) (r : zx x v) (ty : tyV X.K T x H) :
  s.TypeIs v T /\ ∀ a,v = .ref a -> ∃ ob,s.heap.get? a = some ob /\ ob.dict = none:=by
 cases x with
 | str z =>
  obtain ⟨t,rfl⟩:=r;cases (show T = "str" from ty);exact ⟨typeIs_str s z t,fun _ e => nomatch e⟩
 | int i =>
  obtain ⟨t,rfl⟩:=r;cases (show T = "int" from ty);exact ⟨typeIs_int s i t,fun _ e => nomatch e⟩
 | ref p =>
  cases r;rcases ty with ⟨rfl,xs,hq⟩ | ⟨rfl,⟨o,hk,hc,hd⟩ | ⟨xs,hq⟩⟩ | ⟨rfl,hk⟩ | ⟨rfl,S,n,hk⟩
  ·obtain ⟨its,_,pl,_⟩:=I.list hq;refine ⟨pl.isList.typeIs,fun a e => ?_⟩;cases e;obtain ⟨o,n,e,c,hd,_⟩:=pl;exact ⟨o,e,hd⟩
  ·refine ⟨⟨o,I.kIn p o hk,hc⟩,fun a e => ?_⟩;cases e;exact ⟨o,I.kIn _ o hk,hd⟩
  ·obtain ⟨_,its,_,o,e,c,_,hd⟩:=I.hok p _ hq;refine ⟨⟨o,e,c⟩,fun a e2 => ?_⟩;cases e2;exact ⟨o,e,hd⟩
  ·have z : ∃ o,s.heap.get? p = some o /\ o.ExactDict:=by
    rcases hk with ⟨kvs,hk⟩ | ⟨kvs,hk⟩
    ·obtain ⟨_,_,_,_,o,_,_,e,ex,_⟩:=I.hok p _ hk;exact ⟨o,e,ex⟩
    ·obtain ⟨_,_,_,_,o,_,_,e,ex,_⟩:=I.hok p _ hk;exact ⟨o,e,ex⟩
   obtain ⟨o,e,ex⟩:=z;refine ⟨⟨o,e,ex.1⟩,fun a e2 => ?_⟩;cases e2;exact ⟨o,e,ex.2.1⟩
  ·obtain ⟨o,_,_,_,e,ex,_⟩:=I.hok p _ hk;refine ⟨⟨o,e,ex.1⟩,fun a e2 => ?_⟩;cases e2;exact ⟨o,e,ex.2.1⟩
 | _ => exact False.elim ty
def zUr (K : PySem.W.Frag) (T : String) (r : V -> List V -> Hp -> VK -> Prop) (to : TE) : TE:=fun σ H Q => to σ H fun x H1 => tyV K T x H1 /\ r x [] H1 Q
def tBM (K : PySem.W.Frag) (T : String) (r : V -> List V -> Hp -> VK -> Prop) (to : TE) (t : TA) : TE:=fun σ H Q => to σ H fun x H1 => tyV K T x H1 /\ t σ H1 fun xs H2 => r x xs H2 Q
variable {o e : Expr} {es : List Expr} {to : TE} {t : TA} {name : Str} {apos cpos : Pos} {T id : String} {r : V -> List V -> Hp -> VK -> Prop}
theorem zSb (pa : PlainAttrs T) (slot : Slot T name id) (hty : typeOf (.builtin id) = pure (.type "method_descriptor")) (hm : MtR X id r) (ho : PE X o to)
  (hbase : attributeBase o name X.env (eval o X.env) = eval o X.env:=by rfl) (hline : (apos.endLine == cpos.line) = true:=by rfl) : PE X (.Call (.Attribute o name apos) [] [] cpos) (zUr X.K T r to):=by
 intro zB s σ H Q I h;refine wpAny_Call_method0_late hbase hline (thn (ho zB s σ H _ I h) fun v s1 ⟨x,H1,I1,r1,ty,q1⟩ => ?_);obtain ⟨h1,h2⟩:=zPH I1 r1 ty;exact ⟨T,id,pa,slot,hty,h1,h2,Calls.callWith_builtin rfl (PySem.evalArgs_none (hm zB s1 σ H1 x [] v [] Q I1 r1 .nil q1))⟩
theorem zM2 (pa : PlainAttrs T) (slot : Slot T name id) (hty : typeOf (.builtin id) = pure (.type "method_descriptor")) (hm : MtR X id r) (ho : PE X o to) (ha : PA X (e :: es) t)
  (hbase : attributeBase o name X.env (eval o X.env) = eval o X.env:=by rfl)
  (hfew : ((backTo cpos (starEach (e :: es) X.env)).all (fun x => !x.1) && (backToKw cpos (keywordEach [] X.env)).all (fun x => x.1.isSome)
   && decide ((e :: es).length + ([] : List Keyword).length + (if ([] : List Keyword).isEmpty then 0 else 1) < 30)) = true:=by rfl)
  (hline : (apos.endLine == cpos.line) = true:=by rfl) (hs : starEach (e :: es) X.env = (false,eval e X.env) :: starEach es X.env:=by rfl) (hplain : (backTo cpos (starEach es X.env)).any (·.1) = false:=by rfl) :
  PE X (.Call (.Attribute o name apos) (e :: es) [] cpos) (tBM X.K T r to t):=by
 intro zB s σ H Q I h;refine wpAny_Call_method_late hbase hfew hline rfl (thn (ho zB s σ H _ I h) fun v s1 ⟨x,H1,I1,r1,ty,q1⟩ => ?_);obtain ⟨h1,h2⟩:=zPH I1 r1 ty;refine ⟨T,id,pa,slot,hty,h1,h2,?_⟩;have hA:=ha cpos zB s1 σ H1 _ I1 q1;rw [hs] at hA ⊢;refine Calls.callWith_builtin (by show (false || (backTo cpos (starEach es X.env)).any (·.1)) = false; rw [hplain] <;> rfl) (Calls.evalArgs_plain ?_);exact thn hA fun us s2 ⟨vs,H2,I2,r2,q2⟩ => hm zB s2 σ H2 x vs v us Q I2 r1 r2 q2
end
def MtM (X : Cx) (id : String) (r : V -> List V -> Hp -> VK -> Prop) : Prop :=
 ∀ (zB : List (Addr × Obj)) (s : Shared) (σ : St) (H : Hp) (x : V) (xs : List V) (v : Value) (us : List Value) (Q : VK),Inv X zB σ H s -> zx x v -> zo xs us -> r x xs H Q ->
  wpAny (model X.prog X.w) X.A (call (.builtin id) (v :: us)) (EP X zB σ Q) X.xe s
theorem zo.one : ∀ {x : V} {us : List Value},zo [x] us -> ∃ u,us = [u] /\ zx x u
 | _,_,.cons r .nil => ⟨_,rfl,r⟩
theorem zo.two : ∀ {x y : V} {us : List Value},zo [x,y] us -> ∃ u v,us = [u,v] /\ zx x u /\ zx y v
 | _,_,_,.cons r (.cons q .nil) => ⟨_,_,rfl,r,q⟩
theorem zo.zero : ∀ {us : List Value},zo [] us -> us = []
 | _,.nil => rfl
theorem zo.dropLast {xs : List V} {us : List Value} (h : zo xs us) : zo xs.dropLast us.dropLast:=by
 induction h with
 | nil => exact .nil
 | cons r t ih =>
  cases t with
  | nil => exact .nil
  | cons q t' => exact .cons r ih
theorem zo.eraseIdx : ∀ {xs : List V} {us : List Value} (i : Nat),zo xs us -> zo (xs.eraseIdx i) (us.eraseIdx i)
 | _,_,_,.nil => .nil
 | _,_,0,.cons _ t => t
 | _,_,i + 1,.cons r t => .cons r (zo.eraseIdx i t)
theorem zE8 {α : Type} (l : List α) : l.eraseIdx (l.length - 1) = l.dropLast:=by
 induction l with
 | nil => rfl
 | cons a r ih =>
  cases r with
  | nil => rfl
  | cons b r =>
   have e : (a :: b :: r).length - 1 = ((b :: r).length - 1) + 1:=by
    have h1 : (a :: b :: r).length = r.length + 2:=rfl;have h2 : (b :: r).length = r.length + 1:=rfl;omega
   rw [e,List.eraseIdx_cons_succ,ih];all_goals rfl
theorem zI7 {α : Type} : ∀ (l : List α) (i : Nat),(l.eraseIdx i).length <= l.length
 | [],_ => zU3 _
 | _ :: _,0 => zWf _
 | _ :: r,i + 1 => Nat.succ_le_succ (zI7 r i)
section
variable {X : Cx} {zB : List (Addr × Obj)} {σ : St} {H : Hp} {s : Shared} {l b : Addr} {xs ys zs : List V}
theorem Inv.lset {its its' : List Value} {n : Nat} {f : Array Value -> Array Value} {t' : Nat} (I : Inv X zB σ H s) (hH : H l = some (.lst xs))
  (e : s.heap.get? l = some { cls:=.type "list", data:=.seq its.toArray n }) (hf : f its.toArray = its'.toArray) (hv : zo ys its') (hz : ys.length <= sizeLine) :
  Inv X zB σ (upd H l (.lst ys)) { s with heap:=s.heap.update l (Obj.mapSeq f),toks:=t' }:=by
 have q:=PySem.IsL.update e f;rw [hf] at q;refine I.write (x:=l) (e:=l) (by rw [hH]; exact trivial) (.inl rfl) (fun b' u hb hu => (zVe s.heap (Obj.mapSeq f) (Ne.symm hb)).trans hu) ⟨_,q⟩ ?_;exact ⟨hz,its',_,hv,q⟩
theorem Inv.lnew {its : List Value} {t' : Nat} (I : Inv X zB σ H s) (hv : zo ys its) (hz : ys.length <= sizeLine) :
  Inv X zB σ (upd H s.heap.objs.size (.lst ys)) { s with heap:=s.heap.push { cls:=.type "list", data:=.seq its.toArray },toks:=t' } :=
 I.laid (fun _ _ q => zUy _ q) (zU3 _) ⟨hz,its,0,hv,zU7 _ rfl⟩
theorem Inv.fresh (I : Inv X zB σ H s) : H s.heap.objs.size = none:=I.hok.fresh (zU3 _)
theorem Inv.lstM (I : Inv X zB σ H s) (hH : H l = some (.lst xs)) : xs.length <= sizeLine /\ ∃ (its : List Value) (n : Nat),zo xs its /\ xs.length = its.length /\ s.heap.get? l = some { cls:=.type "list", data:=.seq its.toArray n }:=by
 obtain ⟨z,its,n,r,e⟩:=I.hok l _ hH;exact ⟨z,its,n,r,r.length,e⟩
theorem zO1 {n : Nat} (h : n <= sizeLine) : Builtin.List.listTooLong n = false:=by
 unfold Builtin.List.listTooLong;exact zVW (by omega)
end
section
variable {X : Cx}
def zMa : V -> List V -> Hp -> VK -> Prop:=fun x vs H Q => ∃ l xs y,x = .ref l /\ vs = [y] /\ H l = some (.lst xs) /\ xs.length < sizeLine /\ Q .non (upd H l (.lst (xs ++ [y])))
theorem zND : MtM X "list.append" zMa:=by
 intro zB s σ H x vs v us Q I rx rv h;obtain ⟨l,xs,y,rfl,rfl,hH,hz,q⟩:=h;cases rx;obtain ⟨u,rfl,ru⟩:=rv.one;obtain ⟨z,its,n,r,hl,e⟩:=I.lstM hH;refine call_meets F.slot_list_append ⟨_,e,rfl⟩ F.entry_list_append (F.args_list_append_2 _ _) (PySem.list_append l its.toArray n u (by rw [zU5]; omega)) ⟨e,?_⟩;refine ⟨.non,_,I.lset (its':=its ++ [u]) hH e (by simp) (r.append (.cons ru .nil)) ?_,rfl,q⟩;rw [zVD,List.length_singleton];omega
def zMZ : V -> List V -> Hp -> VK -> Prop:=fun x vs H Q => ∃ l b xs zs,x = .ref l /\ vs = [.ref b] /\ H l = some (.lst xs) /\ H b = some (.lst zs) /\ xs.length + zs.length <= sizeLine /\ Q .non (upd H l (.lst (xs ++ zs)))
theorem zNt : MtM X "list.extend" zMZ:=by
 intro zB s σ H x vs v us Q I rx rv h;obtain ⟨l,b,xs,zs,rfl,rfl,hH,hB,hz,q⟩:=h;cases rx;obtain ⟨u,rfl,ru⟩:=rv.one;cases ru;obtain ⟨z,its,n,r,hl,e⟩:=I.lstM hH;obtain ⟨z2,its2,n2,r2,hl2,e2⟩:=I.lstM hB;have hsz : its.toArray.size + its2.toArray.size <= sizeLine:=by rw [zU5,zU5]; omega
 have hlong : ¬ (!its.toArray.isEmpty && Builtin.List.listTooLong (its.toArray.size + its2.toArray.size)) = true:=by
  rw [zO1 hsz,Bool.and_false];exact zVJ
 refine call_meets F.slot_list_extend ⟨_,e,rfl⟩ F.entry_list_extend (F.args_list_extend_2 _ _)
  (AutoSeq1.list_extend_list_list_0 l its.toArray n b its2.toArray n2 hlong (by rw [zU5]; omega) (by omega)) ⟨e,e2,?_⟩
 refine ⟨.non,_,I.lset (its':=its ++ its2) hH e (by simp) (r.append r2) ?_,rfl,q⟩;rw [zVD];omega
def zUd : V -> List V -> Hp -> VK -> Prop:=fun x vs H Q => ∃ l xs y,x = .ref l /\ vs = [] /\ H l = some (.lst xs) /\ xs[xs.length - 1]? = some y /\ Q y (upd H l (.lst xs.dropLast))
theorem zTT : MtM X "list.pop" zUd:=by
 intro zB s σ H x vs v us Q I rx rv h;obtain ⟨l,xs,y,rfl,rfl,hH,hy,q⟩:=h;cases rx;have hus:=rv.zero;subst hus;obtain ⟨z,its,n,r,hl,e⟩:=I.lstM hH;obtain ⟨u,hu,ru⟩:=r.get hy;have hy' : its.toArray[its.toArray.size - 1]? = some u:=by
  show its.toArray[its.length - 1]? = some u;rw [<- zWc,<- hl];exact hu
 refine call_meets F.slot_list_pop ⟨_,e,rfl⟩ F.entry_list_pop (F.args_list_pop_1 _) (MeetsSeq.list_pop_last l its.toArray n u hy' (by rw [zU5]; omega)) ⟨e,?_⟩;refine ⟨y,_,I.lset (its':=its.dropLast) hH e ?_ r.dropLast ?_,ru,q⟩
 ·show its.toArray.eraseIdxIfInBounds (its.toArray.size - 1) = its.dropLast.toArray;rw [zU5,List.eraseIdxIfInBounds_toArray,zE8]
 ·rw [List.length_dropLast];omega
def zPA : V -> List V -> Hp -> VK -> Prop:=fun x vs H Q => ∃ l xs i k y,x = .ref l /\ vs = [.int i] /\ H l = some (.lst xs) /\ -(2 ^ 63) <= i /\ i < 2 ^ 63 /\ seqIndex? i xs.length = some k /\ xs[k]? = some y /\ Q y (upd H l (.lst (xs.eraseIdx k)))
theorem zPT : MtM X "list.pop" zPA:=by
 intro zB s σ H x vs v us Q I rx rv h;obtain ⟨l,xs,i,k,y,rfl,rfl,hH,h1,h2,hk,hy,q⟩:=h;cases rx;obtain ⟨u,rfl,ru⟩:=rv.one;obtain ⟨t,rfl⟩:=ru;obtain ⟨z,its,n,r,hl,e⟩:=I.lstM hH;obtain ⟨w,hw,rw'⟩:=r.get hy
 refine call_meets F.slot_list_pop ⟨_,e,rfl⟩ F.entry_list_pop (F.args_list_pop_2 _ _)
  (MeetsSeq.list_pop_at l its.toArray n i t k w (fitsIndex_both h1 h2) (by rw [zU5,<- hl]; exact hk) (by rw [<- zWc]; exact hw) (by rw [zU5]; omega)) ⟨e,?_⟩
 refine ⟨y,_,I.lset (its':=its.eraseIdx k) hH e ?_ (r.eraseIdx k) ?_,rw',q⟩
 ·show its.toArray.eraseIdxIfInBounds k = (its.eraseIdx k).toArray;rw [List.eraseIdxIfInBounds_toArray]
 ·have:=zI7 xs k;omega
def zT8 : R2:=fun x y H Q => ∃ l b xs zs,x = .ref l /\ y = .ref b /\ H l = some (.lst xs) /\ H b = some (.lst zs) /\ xs.length + zs.length <= sizeLine /\ ∀ p,H p = none -> Q (.ref p) (upd H p (.lst (xs ++ zs)))
theorem zS6 : OpR X (binaryOp .Add) zT8:=by
 intro zB s σ H x y v u Q I rx ry h;obtain ⟨l,b,xs,zs,rfl,rfl,hH,hB,hz,q⟩:=h;cases rx;cases ry;obtain ⟨z,its,n,r,hl,e⟩:=I.lstM hH;obtain ⟨z2,its2,n2,r2,hl2,e2⟩:=I.lstM hB;refine PySem.P.add_list e e2 ?_ (by rw [zU5,zU5]; omega);have ea : its.toArray ++ its2.toArray = (its ++ its2).toArray:=by simp
 rw [ea];exact ⟨.ref _,_,I.lnew (t':=s.toks) (r.append r2) (by rw [zVD]; omega),rfl,q _ I.fresh⟩
end
end L2
namespace Att
open PySem PySem.W PySem.Calls PyProof.Rows
theorem zGe {P : Params} {h : Heap} : ∀ (ns : List Int) (vs : List Value),WellAll P h vs (ns.map WData.int) -> IntsAre vs ns:=by
 intro ns;induction ns with
 | nil =>
  intro vs w;rw [List.map_nil] at w;cases w;exact .nil
 | cons n ns ih =>
  intro vs w;rw [zVG] at w;cases w with
  | cons a b =>
   cases a;exact .cons _ _ (ih _ b)
theorem zNk {l : OpenLaw} {n : Nat} (hn : l.most = some n) {P : Params} {h : Heap} {args : List WData} {vals : List Value}
  (hpre : l.row.toRowW.claim.pre args = true) (hwl : WellAll P h vals args) :
  ∃ a vs ns,vals = [Value.ref a] /\ args = [WData.list (ns.map WData.int)] /\ h.get? a = some { cls:=.type "list", data:=.seq vs.toArray } /\ IntsAre vs ns /\ ns.length <= n:=by
 have hsh : WShape.hasAll [] args [.list .int] = true:=(pre_splitW hpre).1;have hc : l.pre.holds [] { args:=args } = true:=(pre_splitW hpre).2;obtain ⟨d,r,rfl,h1,h2⟩:=hasAllW_cons hsh;obtain rfl:=hasAllW_nil h2;obtain ⟨xs,rfl,h3⟩:=hasW_list h1;obtain ⟨ns,rfl⟩:=items_int h3;have hlen : ns.length <= n:=by
  unfold OpenLaw.pre at hc;have h4 : (WTm.not (.lt (.lit (.int (n : Int))) (.len (.arg 0)))).holds [] { args:=[.list (ns.map .int)] } = true:=by
   have h4:=(holds_andW hc).1;rw [hn] at h4;exact h4
  have h5:=condW_of h4 (w_not (w_lt w_lit (w_len_list (w_arg rfl))));rw [zU6] at h5;refine Nat.le_of_not_lt fun q => ?_;have q' : (n : Int) < ((ns.length : Nat) : Int):=by omega
  first
   | (rw [zV5 q'] at h5; exact absurd h5 (by decide))
   | (simp at h5; omega)
 cases hwl with
 | cons w1 w2 =>
  cases w2;cases w1 with
  | list ho hall => exact ⟨_,_,ns,rfl,rfl,ho,zGe ns _ hall,hlen⟩
theorem zNe (l : OpenLaw) (args : List WData) : l.row.toRowW.claim.post args (.bool true) args = true :=
 postW_of (r:=l.row.toRowW) (X:=(true == true))
  (show WShape.has [] (.bool true) .bool = true by first | rfl | decide | simp [WShape.has,WShape.arms,WShape.armsAll])
  (show (WTm.eq .res (.lit (.bool true))).value [] { args:=args,res:=some (.bool true),after:=args } = some (.bool (true == true)) from w_eq_bool (w_res rfl) w_lit) rfl
theorem zKE {l : OpenLaw} {n : Nat} {q : Program} {loose : List Str} {XP : (Str -> Option Value) -> Heap -> Prop} {YP : World -> Heap -> Prop} {d : DefRec}
  (hn : l.most = some n) (hdf : d.params.defaults = [])
  (call : ∀ (w : World) (s₀ s₁ : Shared) (mg mb : Str -> Option Value) (fa : Addr) (o : Obj) (pm cd doc : Value) (a : Addr) (vs : List Value) (ns : List Int),
   Ground q loose [] XP w s₀ mg mb s₁.heap -> YP w s₁.heap ->
   s₁.heap.get? fa = some o -> o.data = .func (docDef d.name d.params d.body d.scope pm cd doc) -> s₁.heap.CodeRec cd d.name -> mg d.name = some (.ref fa) ->
   s₁.heap.get? a = some { cls:=.type "list", data:=.seq vs.toArray } -> IntsAre vs ns -> ns.length <= n -> s₁.gens = #[] ->
   codeAny (model l.prog w) callerA (.call (.ref fa) ⟨[.ref a],[]⟩) (fun r s' => r = .ok (.ret (.bool true)) /\ OldK s₁.heap s'.heap /\ s'.os = s₁.os /\ AllBare s'.gens) s₁) :
  WalkO q loose XP YP l.row.toRowW d [] (fun f vs => PySem.call f vs):=by
 intro w s₀ s₁ mg mb G Y fa o pm cd doc dV kV ho hd hcd hD hmg hg args vals as hpre hlay hrd hwl hlo;obtain rfl : dV = .none:=Dflts.none hD hdf;obtain rfl : kV = .none:=Dflts.noKw hD;obtain ⟨a,vs,ns,rfl,rfl,hobj,hints,hlen⟩:=zNk hn hpre hwl;refine enter_call (codeAny_mono (call w s₀ s₁ mg mb fa o pm cd doc a vs ns G Y ho (fd_plain hd) hcd hmg hobj hints hlen hg) fun r s' hq => ?_);obtain ⟨rfl,h2,h3,h4⟩:=hq;exact ⟨.inl ⟨.bool true,.bool true,[],rfl,fun _ => rfl,.bool true,zNe l _,fun _ => ⟨List.Pairwise.nil,fun _ hm => (nomatch hm)⟩⟩,h2,h3,h4⟩
end Att
namespace L2
open PySem PySem.Spec PyProof.Rows
theorem zIz : ∀ {vs : List Value} {ns : List Int},IntsAre vs ns -> zo (ns.map V.int) vs
 | _,_,.nil => .nil
 | _,_,.cons n t h => .cons ⟨t,rfl⟩ (zIz h)
def zQ6 (H : Hp) : Prop:=∀ b,H b = none \/ ∃ o xs,H b = some (.frz o (.lst xs))
theorem zPw {P : Program} {w : World} {K : PySem.W.Frag} {mg mb : Str -> Option Value} {CX : CXT} {k : Nat} {fa a : Addr} {fd : FuncData} {x : Str} {sp : Sp} {s₁ : Shared} {vs : List Value} {ns : List Int}
  (KX : K.In s₁.heap) (hns : s₁.heap.Ns mainGlobals mg) (hb : s₁.heap.Ns builtinsNs mb) (hbb : ∀ x : Str,x ≠ "__name__" -> mb x = bootBuiltins x) (hlim : s₁.heap.NoLimit) (hg : s₁.gens = #[])
  (ha : s₁.heap.get? a = some { cls:=.type "list", data:=.seq vs.toArray }) (hi : IntsAre vs ns) (hl : ns.length <= sizeLine) (hr : Room k callerA)
  (F : ∀ base : Heap,K.In base -> base.Ns mainGlobals mg -> FnOk P w K mg base CX k fa fd [x] sp) (hbind : ∀ (s : Shared) (u : Value),BindsTo s fd ⟨[u],[]⟩ [(x,u)])
  (hsp : ∀ H : Hp,zQ6 H -> SqL K H a (ns.map V.int) -> sp [.ref a] H (fun v _ => v = .bl true) fun _ _ _ => False)
  (hCX : ∀ H e s',CX [] H s₁ (fun _ _ _ => False) e s' -> False) :
  codeAny (model P w) callerA (.call (.ref fa) ⟨[.ref a],[]⟩) (fun r s' => r = .ok (.ret (.bool true)) /\ OldK s₁.heap s'.heap /\ s'.os = s₁.os /\ AllBare s'.gens) s₁:=by
 have rv:=zIz hi;have lenV:=hi.length
 have core : ∀ H : Hp,zQ6 H -> SqL K H a (ns.map V.int) -> HOk P w H s₁.heap -> (∀ b,H b ≠ none -> b = a) -> (H a ≠ none -> K.lookup a = none) ->
   codeAny (model P w) callerA (.call (.ref fa) ⟨[.ref a],[]⟩) (fun r s' => r = .ok (.ret (.bool true)) /\ OldK s₁.heap s'.heap /\ s'.os = s₁.os /\ AllBare s'.gens) s₁:=by
  intro H hO hS hok hA hK;have base_of : ∀ {b : Addr} {o : Obj},s₁.heap.get? b = some o -> H b = none -> (zJA s₁.heap H).get? b = some o:=fun e n => zOl e n;have noA : ∀ {b : Addr} {o : Obj} {es : Array DictEntry} {ep : Nat},s₁.heap.get? b = some o -> o.data = .dict es ep -> H b = none:=fun {b o es ep} e d => by
   cases q : H b with
   | none => rfl
   | some u =>
    have e' : b = a:=hA b (by rw [q]; simp);subst e';rw [ha] at e; cases e;have d' : Data.seq vs.toArray _ = Data.dict es ep:=d;cases d'
  have nsK : ∀ {b : Addr} {m : Str -> Option Value},s₁.heap.Ns b m -> (zJA s₁.heap H).Ns b m:=fun {b m} ⟨o,es,ep,e,d,r⟩ => ⟨o,es,ep,base_of e (noA e d),d,r⟩;have hKb : K.In (zJA s₁.heap H):=fun b o e => base_of (KX b o e) (by
   cases q : H b with
   | none => rfl
   | some u =>
    have e' : b = a:=hA b (by rw [q]; simp);subst e';rw [hK (by rw [q]; simp)] at e; cases e)
  have hM : Mod K mg (zJA s₁.heap H):=⟨hKb,nsK hns,⟨mb,nsK hb,hbb⟩,let ⟨mc,h1,h2⟩:=hlim; ⟨mc,nsK h1,h2⟩⟩;have e0 : Env0 P w K mg (zJA s₁.heap H) callerA [] s₁ H:=⟨rfl,hM,fun b o e => zRm e,Nat.le_of_eq (zNX _ _),trivial,fun b hb => absurd (show b ∈ ([] : List Addr) from hb) (by simp),hok,.of_eq hg⟩;refine codeAny_mono ((F _ hKb (nsK hns)).run callerA [] s₁ H ⟨[.ref a],[]⟩ [.ref a] [.ref a] _ _ hr e0 (hbind s₁ (.ref a)) (.cons rfl .nil) (hsp H hO hS)) fun r s' h => ?_;cases r with
  | error e => exact (hCX H e s' h).elim
  | ok fl =>
   cases fl with
   | next => exact False.elim h
   | brk => exact False.elim h
   | cont => exact False.elim h
   | ret u =>
    obtain ⟨v,H',os,bare,un,hok',r',q⟩:=h;have q' : v = .bl true:=q;subst q';obtain rfl : u = Value.bool true:=r';refine ⟨rfl,OldK.of_keep fun b o e => ?_,os,bare⟩;cases q : H b with
    | none => exact un.keep b o e q (by intro z; exact absurd (show b ∈ ([] : List Addr) from z) (by simp)) (by simp)
    | some u =>
     rcases hO b with z | ⟨ob,xs,z⟩
     ·rw [q] at z; cases z
     ·have z2:=un.frzs b ob _ z;obtain ⟨e1,_⟩:=hok b _ z;obtain ⟨e2,_⟩:=hok' b _ z2;rw [e] at e1; cases e1;exact e2
 cases hk : K.lookup a with
 | some o =>
  have e:=KX a o hk;rw [ha] at e;cases e;refine core (fun _ => none) (fun _ => .inl rfl) (.inr ⟨_,vs.toArray,_,hk,rfl,rfl,rfl,by rw [zU5,lenV]; exact hl,by simpa using rv⟩) (fun b u z => by have z' : (none : Option HO) = some u:=z; cases z') (fun b z => absurd rfl z) fun z => absurd rfl z
 | none =>
  refine core (fun b => if b = a then some (.frz { cls:=.type "list", data:=.seq vs.toArray } (.lst (ns.map V.int))) else none) (fun b => ?_) (.inl (.inr ⟨{ cls:=.type "list", data:=.seq vs.toArray },zVC rfl⟩)) (fun b u z => ?_) (fun b z => ?_) fun _ => hk
  ·by_cases hb : b = a
   ·exact .inr ⟨_,_,zVC hb⟩
   ·exact .inl (zVF hb)
  ·by_cases hb : b = a
   ·have z':=(zVC hb).symm.trans z;cases z';subst hb;exact ⟨ha,by rw [zU6]; exact hl,vs,_,rv,ha⟩
   ·have z':=(zVF hb).symm.trans z;cases z'
  ·by_cases hb : b = a
   ·exact hb
   ·exact absurd (zVF hb) z
theorem zQl {l : PySem.W.OpenLaw} {n k : Nat} {q : Program} {loose : List Str} {XP : (Str -> Option Value) -> Heap -> Prop} {YP : World -> Heap -> Prop} {d : DefRec} {K : Params -> PySem.W.Frag} {CX : World -> CXT} {sp : World -> Sp} {x : Str}
  (hn : l.most = some n) (hn2 : n <= sizeLine) (hdf : d.params.defaults = []) (hr : Room k callerA)
  (hY : ∀ (w : World) (h : Heap),YP w h -> (K w.params).In h)
  (F : ∀ (w : World) (mg : Str -> Option Value) (fa : Addr) (h : Heap),(K w.params).In h -> h.Ns mainGlobals mg -> mg d.name = some (.ref fa) ->
   ∃ fd : FuncData,(∀ (s : Shared) (u : Value),BindsTo s fd ⟨[u],[]⟩ [(x,u)]) /\
    ∀ base : Heap,(K w.params).In base -> base.Ns mainGlobals mg -> FnOk l.prog w (K w.params) mg base (CX w) k fa fd [x] (sp w))
  (hsp : ∀ (w : World) (H : Hp) (a : Addr) (ns : List Int),ns.length <= n -> zQ6 H -> SqL (K w.params) H a (ns.map V.int) -> sp w [.ref a] H (fun v _ => v = .bl true) fun _ _ _ => False)
  (hCX : ∀ (w : World) (H : Hp) (s : Shared) (e : Value) (s' : Shared),CX w [] H s (fun _ _ _ => False) e s' -> False) :
  PySem.W.WalkO q loose XP YP l.row.toRowW d [] (fun f vs => PySem.call f vs):=by
 refine Att.zKE hn hdf fun w s₀ s₁ mg mb fa o pm cd doc a vs ns G Y ho hd hcd hmg hobj hints hlen hg => ?_;have KX:=hY w _ Y;obtain ⟨fd,hb,hF⟩:=F w mg fa _ KX G.T.g hmg;exact zPw KX G.T.g G.T.b G.T.builtins G.T.nolimit hg hobj hints (zVO hlen hn2) hr hF hb (fun H hO hS => hsp w H a ns hlen hO hS) fun H e s' => hCX w H s₁ e s'
def zEv (s : Stmt) : Arguments:=match s with
 | .FunctionDef _ a _ _ _ _ _ _ _ _ => a
 | _ => { posonlyargs:=[],args:=[],vararg:=none,kwonlyargs:=[],kw_defaults:=[],kwarg:=none,defaults:=[] }
def zDN (s : Stmt) : List Stmt:=match s with
 | .FunctionDef _ _ b _ _ _ _ _ _ _ => b
 | _ => []
def zT (s : Stmt) : Scope:=match s with
 | .FunctionDef _ _ _ _ _ _ sc _ _ _ => sc
 | _ => { kind:=.function,names:=[],isGenerator:=false,isCoroutine:=false }
abbrev CX0 : CXT:=fun _ _ _ _ _ _ => False
abbrev E0 : XK:=fun _ _ _ => False
theorem zUT {X : Cx} : zLc CX0 X E0:=fun _ _ _ _ _ _ _ h => h.elim
structure Fun (K : PySem.W.Frag) (x qual : Str) (st : Stmt) (f : Addr) (fd : FuncData) : Prop where
 ex : ∃ (oc : Value) (od : Option Addr) (kV doc pm : Value) (an : Option Addr) (cdv ct : Value) (osl : Array (Option Value)),
  fd = PySem.W.fnOf x qual (zEv st) (zDN st) (zT st) .none kV doc pm an cdv ct /\ K.lookup f = some ⟨oc,od,.func fd,osl⟩ /\ PySem.W.codeIn K cdv qual = true
 kp : PySem.W.keepIn K (.ref f) = true
section
variable {P : Program} {w : World} {K : PySem.W.Frag} {mg : Str -> Option Value} {base : Heap}
theorem Fun.ok {x qual : Str} {st : Stmt} {f : Addr} {fd : FuncData} {N ps : List Str} {k : Nat} {sp : Sp} (F : Fun K x qual st f fd) (S : FnScope N ps (zT st)) (len : ∀ vs H Q E,sp vs H Q E -> vs.length = ps.length)
  (hbody : ∀ (cdv : Value) (A : Around) (outer : List Env) (s : Shared) (H : Hp) (vs : List V) (Q : VK) (E : XK),Room k (A.deeper (envOfC qual (zT st) s.heap.objs.size f cdv)) -> sp vs H Q E ->
   ∃ t,PSs (zLZ CX0 P w K mg base N qual (zT st) f cdv A outer s H E).nox (zDN st) t /\ t { nx:=fun _ H' => Q .non H',rt:=Q } (zE1 N vs) H) : FnOk P w K mg base CX0 (k + 1) f fd ps sp:=by
 obtain ⟨oc,od,kV,doc,pm,an,cdv,ct,osl,rfl,lk,hcd⟩:=F.ex;refine zTe lk hcd S len fun A outer s H vs Q E hr hsp => ?_;obtain ⟨t,h,q⟩:=hbody cdv A outer s H vs Q E hr hsp;exact ⟨t,h.nox,q⟩
theorem Fun.binds {x qual : Str} {st : Stmt} {f : Addr} {fd : FuncData} {ps : List Str} (F : Fun K x qual st f fd)
  (h : ∀ (kV doc pm : Value) (an : Option Addr) (cdv ct : Value) (us : List Value),us.length = ps.length -> bindArgs (PySem.W.fnOf x qual (zEv st) (zDN st) (zT st) .none kV doc pm an cdv ct) ⟨us,[]⟩ = pure (ps.zip us)) : zHI K fd ps []:=by
 obtain ⟨oc,od,kV,doc,pm,an,cdv,ct,osl,rfl,lk,hcd⟩:=F.ex;exact .all (h kV doc pm an cdv ct)
theorem zP2 {x qual : Str} {st : Stmt} {f : Addr} {oc : Value} {od an : Option Addr} {osl : Array (Option Value)} {kV doc pm cdv ct : Value} (l : K.lookup f = some ⟨oc,od,.func (PySem.W.fnOf x qual (zEv st) (zDN st) (zT st) .none kV doc pm an cdv ct),osl⟩)
  (c : PySem.W.codeIn K cdv qual = true) (k : PySem.W.keepIn K (.ref f) = true) : Fun K x qual st f (PySem.W.fnOf x qual (zEv st) (zDN st) (zT st) .none kV doc pm an cdv ct):=⟨⟨oc,od,kV,doc,pm,an,cdv,ct,osl,rfl,l,c⟩,k⟩
end
theorem zBL {A : Around} {k : Nat} (hr : Room k A) : A.units + 1 < cLine:=Nat.lt_of_le_of_lt (Nat.add_le_add_left (by decide : 1 <= 64) _) hr.units
section
variable {X : Cx}
theorem pv (i : Nat) {x : Str} {pos : Pos} (hN : X.N[i]? = some x:=by rfl) (hv : Vis X.env.scope x:=by first | exact Or.inl rfl | exact Or.inr (Or.inl rfl) | exact Or.inr (Or.inr rfl)) (hd : (x == ("__debug__" : Str)) = false:=by decide)
  (hcd : (x == ("__classdict__" : Str)) = false:=by decide) : PE X (.Name x pos) (zSR i):=zSa hN hv hd hcd
end
theorem zIL {A B : Prop} (h : B) : if false = true then A else B:=by
 rw [zVF zVJ];exact h
theorem zID {A B : Prop} (h : A) : if true = true then A else B:=by
 rw [zVC rfl];exact h
section
variable {κ : Type} [DecidableEq κ]
def zDA (kvs : List (κ × V)) (k : κ) : Option V:=(kvs.find? fun kv => decide (kv.1 = k)).map (·.2)
def zDB (kvs : List (κ × V)) (k : κ) (v : V) : List (κ × V) :=
 if (kvs.any fun kv => decide (kv.1 = k)) = true then kvs.map (fun kv => if kv.1 = k then (kv.1,v) else kv) else kvs ++ [(k,v)]
theorem zFl {p : κ × V} {r : List (κ × V)} {k : κ} (e : p.1 = k) : zDA (p :: r) k = some p.2:=by simp [zDA,zWj,e]
theorem zFf {p : κ × V} {r : List (κ × V)} {k : κ} (e : ¬ p.1 = k) : zDA (p :: r) k = zDA r k:=by simp [zDA,zWj,e]
theorem zKq (k : κ) : ∀ kvs : List (κ × V),(kvs.any fun kv => decide (kv.1 = k)) = (zDA kvs k).isSome
 | [] => rfl
 | p :: r => by
  rw [List.any_cons];by_cases e : p.1 = k
  ·simp only [zFl e,zV5 e,Bool.true_or,Option.isSome_some]
  ·rw [zFf e,zVW e,Bool.false_or]; exact zKq k r
theorem zCT (kvs : List (κ × V)) (k : κ) (v : V) : (zDB kvs k v).length <= kvs.length + 1:=by
 unfold zDB;split
 ·rw [zU6]; omega
 ·rw [zVD,zVU,List.length_nil]; omega
theorem zGh.isSome_eq (r : zGh o u) : o.isSome = u.isSome:=by
 cases o with
 | none => cases u with
  | none => rfl
  | some _ => exact (show False from r).elim
 | some _ => cases u with
  | none => exact (show False from r).elim
  | some _ => rfl
theorem zGh.getD (r : zGh o u) (rd : zx d d') : zx (o.getD d) (u.getD d'):=by
 cases o with
 | none => cases u with
  | none => exact rd
  | some _ => exact (show False from r).elim
 | some _ => cases u with
  | none => exact (show False from r).elim
  | some _ => exact r
theorem KV.val {kvs : List (κ × V)} {vs : List (κ × Value)} (r : KV kvs vs) (k : κ) : zGh (zDA kvs k) (valueAt vs k):=by
 unfold KV at r;induction r with
 | nil => exact True.intro
 | @cons p q ps qs h t ih =>
  obtain ⟨h1,h2⟩:=h;by_cases e : p.1 = k
  ·have e' : q.1 = k:=h1.symm.trans e;have b : valueAt (q :: qs) k = some q.2:=by simp [valueAt,zWj,e']
   rw [zFl e,b]; exact h2
  ·have e' : ¬ q.1 = k:=fun z => e (h1.trans z);have b : valueAt (q :: qs) k = valueAt qs k:=by simp [valueAt,zWj,e']
   rw [zFf e,b]; exact ih
theorem KV.any (r : KV kvs vs) (k : κ) : (kvs.any fun kv => decide (kv.1 = k)) = vs.any fun kv => decide (kv.1 = k):=by
 unfold KV at r;induction r with
 | nil => rfl
 | cons h t ih => rw [List.any_cons,List.any_cons,ih,h.1]
theorem KV.repl (r : KV kvs vs) (k : κ) (ry : zx y u) :
  KV (kvs.map fun kv => if kv.1 = k then (kv.1,y) else kv) (vs.map fun kv => if kv.1 = k then (kv.1,u) else kv):=by
 unfold KV at r ⊢;induction r with
 | nil => exact .nil
 | @cons p q ps qs h t ih =>
  rw [zVG,zVG];refine .cons ?_ ih;obtain ⟨h1,h2⟩:=h;by_cases e : p.1 = k
  ·rw [zVC e,zVC (h1.symm.trans e)]; exact ⟨h1,ry⟩
  ·rw [zVF e,zVF (fun z => e (h1.trans z))]; exact ⟨h1,h2⟩
theorem KV.put (r : KV kvs vs) (k : κ) (ry : zx y u) : KV (zDB kvs k y) (stored vs k u):=by
 unfold zDB stored;rw [r.any k];by_cases e : (vs.any fun kv => decide (kv.1 = k)) = true
 ·rw [zVC e,zVC e]; exact r.repl k ry
 ·rw [zVF e,zVF e]; exact Paired.snoc r ⟨rfl,ry⟩
theorem KV.length (r : KV kvs vs) : kvs.length = vs.length:=Paired.length r
end
theorem zHD (r : zx (kV k) u) : (zAs P w).is k u = true:=by
 cases k with
 | inl i => obtain ⟨t,e⟩:=(show ∃ t,u = Value.int i t from r); subst e; exact zK3 P w i t
 | inr x => obtain ⟨t,e⟩:=(show ∃ t,u = Value.str x t from r); subst e; exact zKz P w x t
theorem zIt : ∀ {ks : List Key} {us : List Value},zo (ks.map kV) us -> ItemsAre (zAs P w) ks us
 | [],_,r => by rw [List.map_nil] at r; cases r; exact .nil
 | k :: ks,_,r => by
  rw [zVG] at r;cases r with
  | cons h t => exact .cons (zHD h) (zIt t)
abbrev KT (H : Hp) : List (List Key × V) -> List (List Key × Addr × Value) -> Prop:=Paired fun p q => p.1 = q.1 /\ H q.2.1 = some (.tup (p.1.map kV)) /\ zx p.2 q.2.2
theorem KT.val {H : Hp} {kvs : List (List Key × V)} {xs : List (List Key × Addr × Value)} (r : KT H kvs xs) (k : List Key) : zGh (zDA kvs k) ((atKey xs k).map (·.2)):=by
 induction r with
 | nil => exact True.intro
 | @cons p q ps qs h t ih =>
  obtain ⟨h1,_,h2⟩:=h;by_cases e : p.1 = k
  ·have e' : q.1 = k:=h1.symm.trans e;have b : atKey (q :: qs) k = some q.2:=by simp [atKey,zWj,e']
   rw [zFl e,b]; exact h2
  ·have e' : ¬ q.1 = k:=fun z => e (h1.trans z);have b : atKey (q :: qs) k = atKey qs k:=by simp [atKey,zWj,e']
   rw [zFf e,b]; exact ih
theorem KT.repl (r : KT H kvs xs) (k : List Key) (ry : zx y u) :
  KT H (kvs.map fun kv => if kv.1 = k then (kv.1,y) else kv) (xs.map (putAt k u)):=by
 induction r with
 | nil => exact .nil
 | @cons p q ps qs h t ih =>
  rw [zVG,zVG];refine .cons ?_ ih;obtain ⟨h1,h2,h3⟩:=h;unfold putAt;by_cases e : p.1 = k
  ·rw [zVC e,zVC (h1.symm.trans e)]; exact ⟨h1,h2,ry⟩
  ·rw [zVF e,zVF (fun z => e (h1.trans z))]; exact ⟨h1,h2,h3⟩
theorem KT.put (r : KT H kvs xs) (k : List Key) (hb : H b = some (.tup (k.map kV))) (ry : zx y u) :
  KT H (zDB kvs k y) (storedH xs k b u):=by
 have e : (kvs.any fun kv => decide (kv.1 = k)) = (atKey xs k).isSome:=by
  rw [zKq,(r.val k).isSome_eq,Option.isSome_map]
 unfold zDB storedH;rw [e];by_cases q : (atKey xs k).isSome = true
 ·rw [zVC q,zVC q]; exact r.repl k ry
 ·rw [zVF q,zVF q]; exact Paired.snoc r ⟨rfl,hb,ry⟩
theorem KT.keeps (r : KT H kvs xs) (ht : ∀ b ys,H b = some (.tup ys) -> H' b = some (.tup ys)) : KT H' kvs xs :=
 Paired.mapP r fun _ _ z => ⟨z.1,ht _ _ z.2.1,z.2.2⟩
section
variable {P : Program} {w : World} {H : Hp} {h : Heap} {a : Addr}
theorem zR3 (ok : HOk P w H h) (e : Rd H a u) : zBC P w H h a u:=e.ok ok
theorem zHL (ok : HOk P w H h) (e : Rd H a (.dK kvs)) : kvs.length <= sizeLine /\ (a == sysModules) = false /\ ∃ vs,KV kvs vs /\ h.DictOf (zAs P w) a vs :=
 show zBC P w H h a (.dK kvs) from zR3 ok e
theorem zRx (ok : HOk P w H h) (e : H a = some (.dK kvs)) : kvs.length <= sizeLine /\ (a == sysModules) = false /\ ∃ vs,KV kvs vs /\ h.DictOf (zAs P w) a vs:=zHL ok (.inl e)
theorem zEP (ok : HOk P w H h) (e : H a = some (.tup (ks.map kV))) : (tupleKind (zAs P w)).is h ks a:=by
 obtain ⟨_,its,r,o,h1,h2,⟨n,h3⟩,_⟩:=(show zBC P w H h a (.tup (ks.map kV)) from ok a _ e);exact ⟨o,its.toArray,n,h1,h2,h3,by simpa using zIt r⟩
theorem zHo (ok : HOk P w H h) (e : Rd H a (.dT kvs)) : kvs.length <= sizeLine /\ (a == sysModules) = false /\
  ∃ xs,KT H kvs xs /\ h.DictOfH (tupleKind (zAs P w)) a xs:=by
 obtain ⟨z,y,xs,r,o,es,ep,h1,h2,h3,h4,h5⟩:=(show zBC P w H h a (.dT kvs) from zR3 ok e);refine ⟨z,y,xs,r,o,es,ep,h1,h2,h3,h4,fun x hx => ?_,h5⟩;have all : ∀ {l : List (List Key × V)} {m : List (List Key × Addr × Value)},KT H l m -> ∀ x ∈ m,(tupleKind (zAs P w)).is h x.1 x.2.1:=by
  intro l m q;induction q with
  | nil => intro x hx; exact nomatch hx
  | @cons p q ps qs hq t ih =>
   intro x hx;rcases zU9.mp hx with e | hx
   ·subst e;exact zEP ok (by rw [<- hq.1]; exact hq.2.1)
   ·exact ih x hx
 exact all r x hx
theorem zPc (ok : HOk P w H h) (e : H a = some (.dT kvs)) : kvs.length <= sizeLine /\ (a == sysModules) = false /\
  ∃ xs,KT H kvs xs /\ h.DictOfH (tupleKind (zAs P w)) a xs:=zHo ok (.inl e)
end
def zD0 (H : Hp) (a : Addr) (y : V) (r : Option V) : Prop :=
 (∃ kvs k,Rd H a (.dK kvs) /\ y = kV k /\ r = zDA kvs k) \/ ∃ kvs k b,Rd H a (.dT kvs) /\ y = .ref b /\ H b = some (.tup (k.map kV)) /\ r = zDA kvs k
def zGg (H : Hp) (a : Addr) (y v : V) (H' : Hp) : Prop :=
 (∃ kvs k,H a = some (.dK kvs) /\ y = kV k /\ kvs.length < sizeLine /\ H' = upd H a (.dK (zDB kvs k v))) \/
 ∃ kvs k b,H a = some (.dT kvs) /\ y = .ref b /\ H b = some (.tup (k.map kV)) /\ kvs.length < sizeLine /\ H' = upd H a (.dT (zDB kvs k v))
theorem zD0.k {H : Hp} {a : Addr} {kvs : List (Key × V)} {k : Key} (e : H a = some (.dK kvs)) : zD0 H a (kV k) (zDA kvs k):=.inl ⟨kvs,k,.inl e,rfl,rfl⟩
theorem zD0.t {k : List Key} (e : H a = some (.dT kvs)) (eb : H b = some (.tup (k.map kV))) : zD0 H a (.ref b) (zDA kvs k):=.inr ⟨kvs,k,b,.inl e,rfl,eb,rfl⟩
theorem zGg.k {H : Hp} {a : Addr} {kvs : List (Key × V)} {k : Key} {v : V} (e : H a = some (.dK kvs)) (hl : kvs.length < sizeLine) : zGg H a (kV k) v (upd H a (.dK (zDB kvs k v))):=.inl ⟨kvs,k,e,rfl,hl,rfl⟩
theorem zGg.t {kvs : List (List Key × V)} {k : List Key} (e : H a = some (.dT kvs)) (eb : H b = some (.tup (k.map kV))) (hl : kvs.length < sizeLine) :
  zGg H a (.ref b) v (upd H a (.dT (zDB kvs k v))):=.inr ⟨kvs,k,b,e,rfl,eb,hl,rfl⟩
section
variable {X : Cx} {zB : List (Addr × Obj)} {σ : St} {H : Hp} {s : Shared} {a : Addr} {y v : V} {u r : Value} {o : Option V} {A : Around} {E : Value -> Shared -> Prop}
theorem Inv.big (I : Inv X zB σ H s) : sysModules < s.heap.objs.size:=by
 have h : mainGlobals < s.heap.objs.size:=(I.mod.glob.keeps I.bk).lt;exact Nat.lt_trans (by decide) h
theorem zOM (hu : A.units + 1 < cLine) (I : Inv X zB σ H s) (g : zD0 H a y (some v)) (ry : zx y u) (h : ∀ w' s',Inv X zB σ H s' -> zx v w' -> Q w' s') :
  wpAny (model X.prog X.w) A (getItem (.ref a) u) Q E s:=by
 rcases g with ⟨kvs,k,e,ey,l⟩ | ⟨kvs,k,b,e,ey,eb,l⟩
 ·subst ey;obtain ⟨z,hd,vs,rel,dd⟩:=zHL I.hok e;obtain ⟨w',hw,rw'⟩:=zGh.some_of (v:=v) (o:=valueAt vs k) (by rw [l]; exact rel.val k);exact wpAny_getItem_of (zHD ry) dd.mapOf hw (h w' _ (I.tok _) rw')
 ·subst ey;cases (show u = Value.ref b from ry);obtain ⟨z,hd,xs,rel,dd⟩:=zHo I.hok e;obtain ⟨w',hw,rw'⟩:=zGh.some_of (v:=v) (o:=(atKey xs k).map (·.2)) (by rw [l]; exact rel.val k);obtain ⟨p,hp,hp2⟩:=Option.map_eq_some_iff.mp hw;refine wpAny_getItem_heap (tupleKind_room_in1 hu) (zEP I.hok eb) dd hp ?_;rw [hp2];exact h w' _ (I.tok _) rw'
theorem zUY (hu : A.units + 1 < cLine) (I : Inv X zB σ H s) (g : zD0 H a y o) (ry : zx y u) (h : ∀ s',Inv X zB σ H s' -> Q (.bool o.isSome) s') :
  wpAny (model X.prog X.w) A (compareOp .In u (.ref a)) Q E s:=by
 rcases g with ⟨kvs,k,e,ey,l⟩ | ⟨kvs,k,b,e,ey,eb,l⟩
 ·subst ey;obtain ⟨z,hd,vs,rel,dd⟩:=zHL I.hok e;refine wpAny_in_of (zHD ry) hd dd.mapOf ?_;rw [<- (rel.val k).isSome_eq,<- l];exact h _ (I.tok _)
 ·subst ey;cases (show u = Value.ref b from ry);obtain ⟨z,hd,xs,rel,dd⟩:=zHo I.hok e;refine wpAny_in_heap (tupleKind_room_in1 hu) (zEP I.hok eb) hd dd ?_;have q:=(rel.val k).isSome_eq;rw [Option.isSome_map] at q;rw [<- q,<- l];exact h _ (I.tok _)
theorem zQ9 (hu : A.units + 1 < cLine) (I : Inv X zB σ H s) (g : zD0 H a y o) (ry : zx y u) (h : ∀ s',Inv X zB σ H s' -> Q (.bool (!o.isSome)) s') :
  wpAny (model X.prog X.w) A (compareOp .NotIn u (.ref a)) Q E s:=by
 rcases g with ⟨kvs,k,e,ey,l⟩ | ⟨kvs,k,b,e,ey,eb,l⟩
 ·subst ey;obtain ⟨z,hd,vs,rel,dd⟩:=zHL I.hok e;refine wpAny_notIn_of (zHD ry) hd dd.mapOf ?_;rw [<- (rel.val k).isSome_eq,<- l];exact h _ (I.tok _)
 ·subst ey;cases (show u = Value.ref b from ry);obtain ⟨z,hd,xs,rel,dd⟩:=zHo I.hok e;refine wpAny_notIn_heap (tupleKind_room_in1 hu) (zEP I.hok eb) hd dd ?_;have q:=(rel.val k).isSome_eq;rw [Option.isSome_map] at q;rw [<- q,<- l];exact h _ (I.tok _)
theorem zFP (I : Inv X zB σ H s) (mu : Mut (H a)) (hs : Heap.SameBut a s.heap h') (he : ∃ q,h'.get? a = some q) (new : zBC X.prog X.w (upd H a ob) h' a ob) :
  Inv X zB σ (upd H a ob) { s with heap:=h',toks:=t' } :=
 I.write (x:=a) (e:=a) mu (.inl rfl) (fun b q hb z => (hs.2 b hb).trans z) he new
theorem zOj (z : kvs.length <= sizeLine) (hd : (a == sysModules) = false) (rel : KV kvs vs) (dd : h'.DictOf (zAs P w) a vs) :
  zBC P w H' h' a (.dK kvs):=⟨z,hd,vs,rel,dd⟩
theorem zNG (hu : A.units + 1 < cLine) (I : Inv X zB σ H s) (g : zGg H a y v H') (ry : zx y u) (rv : zx v r) (h : ∀ s',Inv X zB σ H' s' -> Q () s') :
  wpAny (model X.prog X.w) A (setItem (.ref a) u r) Q E s:=by
 rcases g with ⟨kvs,k,e,ey,l,eH⟩ | ⟨kvs,k,b,e,ey,eb,l,eH⟩
 ·subst ey eH;obtain ⟨z,hd,vs,rel,dd⟩:=zRx I.hok e;have hz : vs.length <= sizeLine:=by rw [<- rel.length]; exact z
  have hl : (zDB kvs k v).length <= sizeLine:=by have:=zCT kvs k v; omega
  refine wpAny_setItem_pairs (hsz:=hz) (zHD ry) dd fun h' dd' hs => h _ ?_;have he : ∃ q,h'.get? a = some q:=let ⟨q,_,_,hq,_⟩:=dd'; ⟨q,hq⟩;exact zFP I (by rw [e]; exact True.intro) hs he (zOj hl hd (rel.put k rv) dd')
 ·subst ey eH;cases (show u = Value.ref b from ry);obtain ⟨z,hd,xs,rel,dd⟩:=zPc I.hok e;have hz : xs.length <= sizeLine:=by rw [<- Paired.length rel]; exact z
  have hl : (zDB kvs k v).length <= sizeLine:=by have:=zCT kvs k v; omega
  refine wpAny_setItem_heap (hsz:=hz) (tupleKind_room_in1 hu) (zEP I.hok eb) dd fun h' dd' hs => h _ ?_;obtain ⟨q,es,ep,hq,h2,h3,h4,_,h5⟩:=dd';refine zFP I (by rw [e]; exact True.intro) hs ⟨q,hq⟩ ⟨hl,hd,_,(rel.put k eb rv).keeps fun c ys ec => ?_,q,es,ep,hq,h2,h3,h4,h5⟩;rw [zk (zG3 ec e (fun z => nomatch z))];exact ec
end
def zTC (i : Expr) : Prop:=∀ ov iv,subscripted i false ov iv = operate [ov,iv] (getItem ov iv)
theorem zRr {prog : Program} {w : World} {A : Around} {E : Value -> Shared -> Prop} {s : Shared} {env : Env} {value slice : Expr} {pos : Pos} {T id : String} {Q : Value -> Shared -> Prop}
  (hl : typeLookup (.type T) "__getitem__" = pure (some (.builtin id))) (hs : zTC slice)
  (h : wpAny (model prog w) A (eval value env) (fun o s₁ => wpAny (model prog w) A (eval slice env) (fun i s₂ => s₂.TypeIs o T /\ wpAny (model prog w) A (getItem o i) Q E s₂) E s₁) E s) :
  wpAny (model prog w) A (eval (.Subscript value slice pos) env) Q E s:=by
 refine Subscript_ (zVT h (fun o s₁ h₁ => zVT h₁ (fun i s₂ h₂ => ?_) fun _ _ x => x) fun _ _ x => x);obtain ⟨hT,h₂⟩:=h₂;unfold subscriptTail;refine zUx ?_;rw [getitemInPython_of_ne hT.not_modules];refine zUx (wpAny_specialOf hT hl ?_);have fin : wpAny (model prog w) A (subscripted slice false o i) (fun r s₃ => wpAny (model prog w) A (letTemporaryGo value o r >>= fun _ => pure r) Q E s₃) E s₂:=by
  rw [hs o i];exact wpAny_operating (zVT h₂ (fun r s₃ h₃ => zUx (wpAny_letTemporaryGo (zUz h₃))) fun _ _ x => x)
 first
  | exact zUz (zUx fin)
  | exact zUx (zUz (zUx fin))
  | exact zUx fin
theorem zLJ (I : Inv X zB σ H s) (g : zD0 H a y o) : s.TypeIs (.ref a) "dict" := by
 rcases g with ⟨kvs,k,e,_,_⟩ | ⟨kvs,k,b,e,_,_,_⟩
 ·obtain ⟨_,_,vs,_,dd⟩:=zHL I.hok e;exact dd.typeIs
 ·obtain ⟨_,_,xs,_,dd⟩:=zHo I.hok e;exact dd.typeIs
def zTf (td ty : TE) : TE:=fun σ H Q => td σ H fun x H1 => ty σ H1 fun y H2 => ∃ a v,x = .ref a /\ zD0 H2 a y (some v) /\ Q v H2
def zUg (ty td : TE) : TE:=fun σ H Q => ty σ H fun y H1 => td σ H1 fun x H2 => ∃ a o,x = .ref a /\ zD0 H2 a y o /\ Q (.bl o.isSome) H2
def zQ3 (ty td : TE) : TE:=fun σ H Q => ty σ H fun y H1 => td σ H1 fun x H2 => ∃ a o,x = .ref a /\ zD0 H2 a y o /\ Q (.bl (!o.isSome)) H2
def zT3 (td ty tv : TE) : TS:=fun D σ H => tv σ H fun v H1 => td σ H1 fun x H2 => ty σ H2 fun y H3 => ∃ a H4,x = .ref a /\ zGg H3 a y v H4 /\ D.nx σ H4
section
variable {X : Cx} {o i e value : Expr} {pos pos' tpos : Pos} {td ty tv : TE}
theorem zRO (hu : X.A.units + 1 < cLine) (ho : PE X o td) (hi : PE X i ty) (hs : zTC i) : PE X (.Subscript o i pos) (zTf td ty):=by
 intro zB s σ H Q I h;refine zRr PySem.F.slot_dict_getitem.lookup hs (thn (ho zB s σ H _ I h) fun u s1 ⟨x,H1,I1,rx,q1⟩ => thn (hi zB s1 σ H1 _ I1 q1) fun iv s2 ⟨y,H2,I2,ry,a,v,ex,g,q2⟩ => ?_);subst ex;obtain rfl : u = Value.ref a:=rx;exact ⟨zLJ I2 g,zOM hu I2 g ry fun w' s3 I3 rw' => ⟨v,H2,I3,rw',q2⟩⟩
theorem zPq (hu : X.A.units + 1 < cLine) (hi : PE X i ty) (ho : PE X o td) : PC X .In i o (zUg ty td):=by
 intro zB s σ H Q I h;refine thn (hi zB s σ H _ I h) fun iv s1 ⟨y,H1,I1,ry,q1⟩ => thn (ho zB s1 σ H1 _ I1 q1) fun u s2 ⟨x,H2,I2,rx,a,ov,ex,g,q2⟩ => ?_;subst ex;obtain rfl : u = Value.ref a:=rx;exact zUY hu I2 g ry fun s3 I3 => ⟨.bl ov.isSome,H2,I3,rfl,q2⟩
theorem zOF (hu : X.A.units + 1 < cLine) (hi : PE X i ty) (ho : PE X o td) : PC X .NotIn i o (zQ3 ty td):=by
 intro zB s σ H Q I h;refine thn (hi zB s σ H _ I h) fun iv s1 ⟨y,H1,I1,ry,q1⟩ => thn (ho zB s1 σ H1 _ I1 q1) fun u s2 ⟨x,H2,I2,rx,a,ov,ex,g,q2⟩ => ?_;subst ex;obtain rfl : u = Value.ref a:=rx;exact zQ9 hu I2 g ry fun s3 I3 => ⟨.bl (!ov.isSome),H2,I3,rfl,q2⟩
theorem zQ1 (hu : X.A.units + 1 < cLine) (ho : PE X o td) (hi : PE X i ty) (hv : PE X value tv) (hs : swapsWith value (some (.Subscript o i pos')) pos.line X.env = pure false) :
  PS X (.Assign [.Subscript o i pos'] value pos) (zT3 td ty tv):=by
 intro zB s σ H D I h;refine wpAny_Assign_Subscript (thn (hv zB s σ H _ I h) fun r s1 ⟨v,H1,I1,rv,q1⟩ => thn (ho zB s1 σ H1 _ I1 q1) fun u s2 ⟨x,H2,I2,rx,q2⟩ => thn (hi zB s2 σ H2 _ I2 q2) fun iv s3 ⟨y,H3,I3,ry,a,H4,ex,g,q3⟩ => ?_) hs;subst ex;obtain rfl : u = Value.ref a:=rx;exact zNG hu I3 g ry rv fun s4 I4 => ⟨σ,H4,I4,q3⟩
end
theorem zPF (h : Heap) (hb : sysModules < h.objs.size) : zBC P w H (h.push { cls:=.type "dict", data:=.dict #[] }) h.objs.size (.dT []) :=
 ⟨zVj _,beq_eq_false_iff_ne.mpr (Ne.symm (zVI hb)),[],.nil,_,#[],0,zU7 _ rfl,⟨rfl,rfl,rfl⟩,rfl,rfl,List.nodup_nil⟩
def zTW : TE:=fun _ H Q => ∀ p,H p = none -> Q (.ref p) (upd H p (.dT []))
section
variable {X : Cx} {pos : Pos}
theorem zPS : PE X (.Dict [] [] pos) zTW:=fun zB s σ H Q I h =>
 wpAny_Dict_empty ⟨.ref s.heap.objs.size,_,I.laid (a:=s.heap.objs.size) (o:=.dT []) (t':=s.toks) (fun _ _ q => zUy _ q) (zU3 _) (zPF s.heap I.big),rfl,h _ (I.hok.fresh (zU3 _))⟩
end
structure M2 (X : Cx) (o : Expr) (m : Str) (apos : Pos) (e f : Expr) (cpos : Pos) : Prop where
 base : attributeBase o m X.env (eval o X.env) = eval o X.env
 few : ((backTo cpos (starEach [e,f] X.env)).all (fun x => !x.1) && (backToKw cpos (keywordEach [] X.env)).all (fun x => x.1.isSome)
  && decide (([e,f] : List Expr).length + ([] : List Keyword).length + (if ([] : List Keyword).isEmpty then 0 else 1) < 30)) = true
 line : (apos.endLine == cpos.line) = true
 trees : backTo cpos (starEach [e,f] X.env) = [(false,eval e X.env),(false,eval f X.env)]
def IsD (H : Hp) (a : Addr) : Prop:=(∃ kvs,Rd H a (.dK kvs)) \/ ∃ kvs,Rd H a (.dT kvs)
theorem zPC (I : Inv X zB σ H s) (d : IsD H a) :
  s.TypeIs (.ref a) "dict" /\ (∀ b,Value.ref a = .ref b -> ∃ ob,s.heap.get? b = some ob /\ ob.dict = none) /\ (a == sysModules) = false:=by
 rcases d with ⟨kvs,e⟩ | ⟨kvs,e⟩
 ·obtain ⟨_,hd,vs,_,dd⟩:=zHL I.hok e;refine ⟨dd.typeIs,fun b q => ?_,hd⟩;cases q;obtain ⟨ob,_,_,h1,h2,_⟩:=dd;exact ⟨ob,h1,h2.2.1⟩
 ·obtain ⟨_,hd,xs,_,dd⟩:=zHo I.hok e;refine ⟨dd.typeIs,fun b q => ?_,hd⟩;cases q;obtain ⟨ob,_,_,h1,h2,_⟩:=dd;exact ⟨ob,h1,h2.2.1⟩
section
variable {X : Cx} {zB : List (Addr × Obj)} {σ : St} {H : Hp} {s : Shared} {a : Addr} {y d : V} {u r : Value} {o : Option V} {A : Around} {E : Value -> Shared -> Prop}
theorem zSL (hu : A.units + 1 < cLine) (I : Inv X zB σ H s) (g : zD0 H a y o) (ry : zx y u) (rd : zx d r) (h : ∀ w' s',Inv X zB σ H s' -> zx (o.getD d) w' -> Q w' s') :
  wpAny (model X.prog X.w) A (call (.builtin "dict.get") [.ref a,u,r]) Q E s:=by
 rcases g with ⟨kvs,k,e,ey,l⟩ | ⟨kvs,k,b,e,ey,eb,l⟩
 ·subst ey;obtain ⟨z,hd,vs,rel,dd⟩:=zHL I.hok e;refine call_meetsIn PySem.F.slot_dict_get dd.typeIs PySem.F.entry_dict_get (PySem.F.args_dict_get_3 _ _ _) (meets_dict_get_default (zAs X.prog X.w) a (zHD ry) hd r) ⟨_,dd.mapOf,h _ _ (I.tok _) ?_⟩;rw [l];exact (rel.val k).getD rd
 ·subst ey;cases (show u = Value.ref b from ry);obtain ⟨z,hd,xs,rel,dd⟩:=zHo I.hok e;refine call_meetsIn PySem.F.slot_dict_get dd.typeIs PySem.F.entry_dict_get (PySem.F.args_dict_get_3 _ _ _) (meetsH_dict_get_default (tupleKind (zAs X.prog X.w)) a b hd r) ⟨tupleKind_room_in1 hu,k,xs,zEP I.hok eb,dd,h _ _ (I.tok _) ?_⟩;rw [l];exact (rel.val k).getD rd
end
def zQC (td ty tx : TE) : TE:=fun σ H Q => td σ H fun x H1 => ∃ a,x = .ref a /\ IsD H1 a /\ ty σ H1 fun y H2 => tx σ H2 fun z H3 => ∃ o,zD0 H3 a y o /\ Q (o.getD z) H3
section
variable {X : Cx} {o e f : Expr} {apos cpos : Pos} {td ty tx : TE}
theorem zOq (hu : X.A.units + 1 < cLine) (ho : PE X o td) (he : PE X e ty) (hf : PE X f tx) (m : M2 X o "get" apos e f cpos) : PE X (.Call (.Attribute o "get" apos) [e,f] [] cpos) (zQC td ty tx):=by
 intro zB s σ H Q I h;refine wpAny_Call_method m.base m.few m.line PySem.F.plainAttrs_dict PySem.F.slot_dict_get PySem.F.type_dict_get (thn (ho zB s σ H _ I h) fun u s1 ⟨x,H1,I1,rx,a,ex,d,q1⟩ => ?_);subst ex;obtain rfl : u = Value.ref a:=rx;obtain ⟨t1,t2,_⟩:=zPC I1 d;refine ⟨t1,t2,?_⟩;rw [m.trees];refine Calls.callWith_builtin rfl (Calls.evalArgs_plain (zWF (thn (he zB s1 σ H1 _ I1 q1) fun iv s2 ⟨y,H2,I2,ry,q2⟩ =>
  zWF (thn (hf zB s2 σ H2 _ I2 q2) fun fv s3 ⟨z,H3,I3,rz,ov,g,q3⟩ => Calls.spliced_nil ?_))))
 exact zSL hu I3 g ry rz fun w' s4 I4 rw' => ⟨_,H3,I4,rw',q3⟩
end
theorem zA1 : ∀ (names : List (Str × NameKind)) (n : Nat) (acc : List (Str × Addr)),cellsFrom n names acc = cellsFrom n names [] ++ acc
 | [],_,_ => rfl
 | (name,kind) :: r,n,acc => by
  unfold cellsFrom;split
  ·rw [zA1 r (n + 1) ((name,n) :: acc),zA1 r (n + 1) [(name,n)],zV3];rfl
  ·exact zA1 r n acc
theorem zCw {α : Type} (x : Str) : ∀ (l r : List (Str × α)),(l ++ r).lookup x = (match l.lookup x with | some c => some c | none => r.lookup x)
 | [],r => rfl
 | (k,v) :: l,r => by
  rw [List.cons_append,zW2,zW2];cases hb : x == k with
  | true => rfl
  | false => exact zCw x l r
theorem zFD : ∀ (names : List (Str × NameKind)) (acc : List (Str × Addr)),
  (∀ y ∈ names,y.2 = .free -> ∃ c,env.cells.lookup y.1 = some c) ->
  (∀ x c,acc.lookup x = some c -> env.cells.lookup x = some c) ->
  ∃ cl : List (Str × Addr),(forIn names acc (fun (p : Str × NameKind) (cs : List (Str × Addr)) => (do
    if p.2 == .free then
     let a <- cellOf env p.1;pure (ForInStep.yield ((p.1,a) :: cs))
    else pure (ForInStep.yield cs) : Sem (ForInStep (List (Str × Addr)))))) = pure cl /\
   (∀ x c,cl.lookup x = some c -> env.cells.lookup x = some c) /\
   (∀ x,(acc.lookup x).isSome = true -> (cl.lookup x).isSome = true) /\ ∀ y ∈ names,y.2 = .free -> (cl.lookup y.1).isSome = true
 | [],acc,_,ha => ⟨acc,by rw [List.forIn_nil],ha,fun _ h => h,fun _ h => nomatch h⟩
 | (n,k) :: r,acc,hf,ha => by
  rw [List.forIn_cons];by_cases hk : k = .free
  ·subst hk;obtain ⟨c,hc⟩:=hf (n,.free) zVB rfl;have hco : cellOf env n = pure c:=by unfold cellOf; rw [hc]
   obtain ⟨cl,e,h1,h2,h3⟩:=zFD r ((n,c) :: acc) (fun y hy => hf y (zVA _ hy)) (fun x d hx => by
    rw [zW2] at hx;cases hb : x == n with
    | true => rw [hb] at hx; cases hx; rw [beq_iff_eq.mp hb]; exact hc
    | false => rw [hb] at hx; exact ha x d hx)
   refine ⟨cl,?_,h1,fun x hx => h2 x ?_,fun y hy hk => ?_⟩
   ·rw [<- e];simp only [beq_self_eq_true,if_true,hco];rfl
   ·rw [zW2];cases hb : x == n with
    | true => rfl
    | false => exact hx
   ·rcases zU9.mp hy with z | z
    ·subst z;exact h2 n (by rw [zW2]; simp)
    ·exact h3 y z hk
  ·obtain ⟨cl,e,h1,h2,h3⟩:=zFD r acc (fun y hy => hf y (zVA _ hy)) ha;refine ⟨cl,?_,h1,h2,fun y hy hk' => ?_⟩
   ·rw [<- e];have : (k == NameKind.free) = false:=by simpa using hk
    simp only [this,zVy,if_false];rfl
   ·rcases zU9.mp hy with z | z
    ·subst z; exact absurd hk' hk
    ·exact h3 y z hk'
theorem zH6 (hf : ∀ y ∈ scope.names,y.2 = .free -> ∃ c,env.cells.lookup y.1 = some c) :
  ∃ cl,closureFor scope env = pure cl /\ (∀ x c,cl.lookup x = some c -> env.cells.lookup x = some c) /\ ∀ y ∈ scope.names,y.2 = .free -> (cl.lookup y.1).isSome = true:=by
 obtain ⟨cl,e,h1,_,h3⟩:=zFD (env:=env) scope.names [] hf (fun x c h => nomatch h);refine ⟨cl,?_,h1,h3⟩;unfold closureFor;rw [show (pure cl : Sem _) = pure cl >>= pure from rfl,<- e]
theorem zDJ
  (hQ : Q (newEnv scope s.heap.objs.size globals (cellsFrom (s.heap.objs.size + 1) scope.names cl) qual none .none (some env) builtinsNs)
   { s with heap:=pushCells (s.heap.push { cls:=.type "dict", data:=.dict #[] }) scope.names }) :
  wpAny M A (newFunctionEnv scope globals cl [] qual none .none (some env)) Q E s:=by
 simp only [newFunctionEnv,Option.isSome_some,if_true];refine zUx (wpAny_alloc ?_);refine zUx (wpAny_layCells _ (fun name kind cells => by cases hkc : kind == NameKind.cell <;> simp [hkc]) _ _ _ _ ?_);rw [show ({ s with heap:=s.heap.push { cls:=.type "dict", data:=.dict #[] } } : Shared).heap.objs.size = s.heap.objs.size + 1 from zVd ..];exact zUx (zUz (zUz hQ))
def zV (X : Cx) (zB : List (Addr × Obj)) (scope : Scope) (cl : List (Str × Addr)) (s : Shared) (H : Hp) (fp : List Addr) : Cx where
 prog:=X.prog
 w:=X.w
 K:=X.K
 mg:=X.mg
 base:=X.base
 A:=X.A
 N:=X.N
 s₀:=s
 H₀:=H
 env:={ scope:=relabel scope X.env,locals:=s.heap.objs.size + 1,globals:=X.env.globals,cells:=cellsFrom (s.heap.objs.size + 1 + 1) scope.names cl,qual:=X.env.qual,func:=none,code:=X.env.code,frame:=X.env.frame,builtins:=X.env.builtins }
 outer:=X.stack
 stack:=X.stack
 ex:=fp
 fn:=fun x => decide (scope.names.lookup x = some .cell)
 calm:=X.calm
 pn:=X.pn ++ zB
 xe:=fun _ _ => False
theorem zBb {scope : Scope} {env : Env} (x : Str) : ∀ {names : List (Str × NameKind)} {k : NameKind},
  (names.map fun (n,k) => if (k == NameKind.free && env.scope.kind == .function && env.kindOf n == some .cell) then (n,NameKind.cell) else (n,k)).lookup x = some k ->
  names.lookup x = some k \/ (names.lookup x = some .free /\ k = .cell)
 | [],_,h => by simp at h
 | (n,k') :: r,k,h => by
  rw [zVG] at h;by_cases hc : (k' == NameKind.free && env.scope.kind == .function && env.kindOf n == some .cell) = true
  ·simp only [hc,if_true] at h;rw [zW2] at h ⊢;cases hb : x == n with
   | true =>
    rw [hb] at h;simp only [zVX,beq_iff_eq] at hc;exact .inr ⟨by rw [hc.1.1],(zVx h).symm⟩
   | false => rw [hb] at h; exact zBb (scope:=scope) x h
  ·simp only [hc,zVy,if_false] at h;rw [zW2] at h ⊢;cases hb : x == n with
   | true => rw [hb] at h; exact .inl h
   | false => rw [hb] at h; exact zBb (scope:=scope) x h
theorem zGy : ∀ (names : List (Str × NameKind)) (n : Nat) (acc : List (Str × Addr)) (x : Str) (c : Addr),(x,c) ∈ cellsFrom n names acc -> (x,c) ∉ acc -> (x,NameKind.cell) ∈ names
 | [],_,_,_,_,h,h' => absurd h h'
 | (name,kind) :: r,n,acc,x,c,h,h' => by
  unfold cellsFrom at h;split at h
  ·rename_i hk;by_cases e : (x,c) = (name,n)
   ·cases e;rw [beq_iff_eq] at hk;subst hk;exact zVB
   ·exact zVA _ (zGy r _ _ x c h fun z => (zU9.mp z).elim e h')
  ·exact zVA _ (zGy r _ _ x c h h')
structure CompScope (X : Cx) (scope : Scope) : Prop where
 kind : scope.kind = .function
 names : ∀ y ∈ scope.names,y.2 = .local -> scope.names.lookup y.1 = some .local
 cells : ∀ y ∈ scope.names,y.2 = .cell -> scope.names.lookup y.1 = some .cell
 free : ∀ y ∈ scope.names,y.2 = .free -> X.env.kindOf y.1 = some .cell \/ X.env.kindOf y.1 = some .free
section
variable {X : Cx} {zB : List (Addr × Obj)} {σ σc : St} {H : Hp} {s s4 : Shared} {scope : Scope} {cl : List (Str × Addr)} {fp : List Addr}
theorem zFe (S : CompScope X scope) (I : Inv X zB σ H s) (hf : ∀ b ∈ fp,zCr X zB H b) (ho : ∀ b : Nat,b ∈ fp -> b < s.heap.objs.size)
  (c1 : ∀ x c,cl.lookup x = some c -> X.env.cells.lookup x = some c) (c2 : ∀ y ∈ scope.names,y.2 = .free -> (cl.lookup y.1).isSome = true)
  (hl : σc.length = σ.length) (hσ : ∀ (i : Nat) x v,X.N[i]? = some x -> σc[i]? = some (some v) -> (relabel scope X.env).names.lookup x ≠ none -> scope.names.lookup x = some .free /\ σ[i]? = some (some v))
  (lo : Obj) (hlo : ∀ v,lo.data ≠ .cell v) (hfr : lo.isFreed = false)
  (h4 : s4 = { s with heap:=pushCells ((s.heap.push lo).push { cls:=.type "dict", data:=.dict #[] }) scope.names }) :
  Inv (zV X zB scope cl s H fp) [(s.heap.objs.size,lo)] σc H s4:=by
 subst h4;have sz1 : (s.heap.push lo).objs.size = s.heap.objs.size + 1:=zVd ..;have sz2 : ((s.heap.push lo).push { cls:=.type "dict", data:=.dict #[] }).objs.size = s.heap.objs.size + 1 + 1:=by rw [zVd,sz1]
 have hk : ∀ b o,s.heap.get? b = some o -> (pushCells ((s.heap.push lo).push { cls:=.type "dict", data:=.dict #[] }) scope.names).get? b = some o:=fun b o e =>
  pushCells_keeps _ _ b o (zUy _ (zUy _ e))
 have ok:=cellsFrom_ok scope.names ((s.heap.push lo).push { cls:=.type "dict", data:=.dict #[] }) (s.heap.objs.size + 1 + 1) [] ⟨fun _ _ hm => (nomatch hm),List.Pairwise.nil⟩ (by rw [sz2]; exact zU3 _);rw [sz2] at ok;have look : ∀ x c,(cellsFrom (s.heap.objs.size + 1 + 1) scope.names cl).lookup x = some c -> ((cellsFrom (s.heap.objs.size + 1 + 1) scope.names []).lookup x = some c) \/ ((cellsFrom (s.heap.objs.size + 1 + 1) scope.names []).lookup x = none /\ X.env.cells.lookup x = some c):=fun x c e => by
  rw [zA1,zCw] at e;cases q : (cellsFrom (s.heap.objs.size + 1 + 1) scope.names []).lookup x with
  | some d => rw [q] at e; exact .inl e
  | none => rw [q] at e; exact .inr ⟨rfl,c1 x c e⟩
 have old : ∀ x (c : Nat),X.env.cells.lookup x = some c -> c < s.heap.objs.size:=fun x c e => let ⟨_,q⟩:=I.cell x c e; q.lt;have new : ∀ x (c : Nat),(cellsFrom (s.heap.objs.size + 1 + 1) scope.names []).lookup x = some c -> s.heap.objs.size + 1 + 1 <= c:=fun x c e => (ok.empty x c (zVz e)).2;have own : ∀ x,scope.names.lookup x = some .cell -> ∃ c,(cellsFrom (s.heap.objs.size + 1 + 1) scope.names []).lookup x = some c:=fun x e => zHp e;have cne : ∀ x (c : Nat),(cellsFrom (s.heap.objs.size + 1 + 1) scope.names cl).lookup x = some c -> c < s.heap.objs.size \/ s.heap.objs.size + 1 + 1 <= c:=fun x c e => by
  rcases look x c e with q | ⟨_,q⟩
  ·exact .inr (new x c q)
  ·exact .inl (old x c q)
 refine ⟨⟨I.ok.mod,S.kind,I.ok.glob,I.ok.blt,zWf _,fun x y c h1 h2 => ?_,fun x hx => ?_,fun x c hx h => ?_,I.ok.hd,I.ok.frames,.inl rfl,fun b hb => ⟨?_,fun x c e z => ?_⟩,I.bs,zVO I.ok.bsz I.sz,fun b o e hb => ?_,fun b hb z => ?_,I.stack,I.stkFree⟩,
  rfl,I.bare,Un.kept hk,⟨fun _ => none,?_,fun i x v h1 h2 h3 => ?_⟩,fun x c e => ?_,I.hok.fresh (zWf _),fun x c e => ?_,fun p hp => ?_,I.hok.kept hk,hl.trans I.len⟩
 ·rcases look x c h1 with a | ⟨_,a⟩ <;> rcases look y c h2 with b | ⟨_,b⟩
  ·exact name_of_addr ok.apart (zVz a) (zVz b)
  ·exact absurd (Nat.lt_of_le_of_lt (new x c a) (old y c b)) (by omega)
  ·exact absurd (Nat.lt_of_le_of_lt (new y c b) (old x c a)) (by omega)
  ·exact I.ok.inj x y c a b
 ·have hx' : (relabel scope X.env).names.lookup x = some .cell \/ (relabel scope X.env).names.lookup x = some .free:=hx;have go : scope.names.lookup x = some .cell \/ scope.names.lookup x = some .free:=by
   rcases hx' with q | q
   ·rcases zBb (scope:=scope) x q with z | z
    ·exact .inl z
    ·exact .inr z.1
   ·rcases zBb (scope:=scope) x q with z | z
    ·exact .inr z
    ·exact .inr z.1
  show ∃ c,(cellsFrom (s.heap.objs.size + 1 + 1) scope.names cl).lookup x = some c;rw [zA1,zCw];rcases go with q | q
  ·obtain ⟨c,e⟩:=own x q;exact ⟨c,by rw [e]⟩
  ·cases e : (cellsFrom (s.heap.objs.size + 1 + 1) scope.names []).lookup x with
   | some d => exact ⟨d,rfl⟩
   | none => exact Option.isSome_iff_exists.mp (c2 (x,.free) (zVz q) rfl)
 ·obtain ⟨d,e⟩:=own x (zVt hx);have h' : (cellsFrom (s.heap.objs.size + 1 + 1) scope.names cl).lookup x = some c:=h;rw [zA1,zCw,e] at h';cases h';exact zVO (zVO (zWf _) (zWf _)) (new x _ e)
 ·exact zVI (zVm (ho b hb))
 ·rcases look x c e with q | ⟨_,q⟩
  ·have a:=new x c q;rw [z] at a;exact absurd (Nat.lt_of_le_of_lt a (ho b hb)) (by omega)
  ·exact (hf b hb).2.2.2.2.1 x c q z
 ·rcases (hf b hb).2.2.2.1 with z | z
  ·exact I.ok.noex b o e z
  ·exact absurd (zVM (zU8 e) (zVO I.ok.bsz z)) (zVf _)
 ·rcases zU9.mp (I.stkSub b z) with q | q
  ·exact (hf b hb).2.1 q
  ·exact (hf b hb).2.2.1 q
 ·have q : ((s.heap.push lo).push { cls:=.type "dict", data:=.dict #[] }).Ns (s.heap.push lo).objs.size (fun _ => none):=Heap.Ns.new ..;rw [sz1] at q;exact q.keeps (pushCells_keeps _ _)
 ·have h3' : (relabel scope X.env).names.lookup x ≠ none:=by
   rcases h3 with z | z | z <;> (intro q; have z' : (relabel scope X.env).names.lookup x = _:=z; rw [q] at z'; cases z')
  obtain ⟨fr,hv⟩:=hσ i x v h1 h2 h3';obtain ⟨m,hn,hlk⟩:=I.loc;have kx:=S.free (x,.free) (zVz fr) rfl;obtain ⟨u,rv,lk⟩:=hlk i x v h1 hv (by rcases kx with z | z; exact .inr (.inl z); exact .inr (.inr z));refine ⟨u,rv,?_⟩;rcases lk with ⟨z,_⟩ | ⟨_,c,e,ic⟩
  ·rcases kx with k | k <;> (rw [k] at z; cases z)
  ·have kind : (relabel scope X.env).names.lookup x = some .cell \/ (relabel scope X.env).names.lookup x = some .free:=by
    cases q : (relabel scope X.env).names.lookup x with
    | none => exact absurd q h3'
    | some k =>
     rcases zBb (scope:=scope) x q with z | z
     ·rw [fr] at z; cases z; exact .inr rfl
     ·rw [z.2]; exact .inl rfl
   refine .inr ⟨kind,c,?_,ic.keeps hk⟩;show (cellsFrom (s.heap.objs.size + 1 + 1) scope.names cl).lookup x = some c;rw [zA1,zCw];obtain ⟨d,hd⟩:=Option.isSome_iff_exists.mp (c2 (x,.free) (zVz fr) rfl);have:=c1 x d hd;rw [e] at this; cases this;have nn : (cellsFrom (s.heap.objs.size + 1 + 1) scope.names []).lookup x = none:=by
    cases q : (cellsFrom (s.heap.objs.size + 1 + 1) scope.names []).lookup x with
    | none => rfl
    | some d' =>
     have z:=S.cells (x,.cell) (zGy scope.names _ [] x d' (zVz q) fun z => nomatch z) rfl;rw [fr] at z; cases z
   rw [nn]; exact hd
 ·rcases look x c e with q | ⟨_,q⟩
  ·exact ⟨none,(ok.empty x c (zVz q)).1⟩
  ·obtain ⟨v,z⟩:=I.cell x c q;exact ⟨v,z.keeps hk⟩
 ·rcases look x c e with q | ⟨_,q⟩
  ·exact I.hok.fresh (by have:=new x c q; omega)
  ·exact I.freeC x c q
 ·have hp' : p ∈ X.pn ++ zB \/ p = (s.heap.objs.size,lo):=by
   rcases zVN.mp hp with z | z
   ·exact .inl z
   ·exact .inr (by simpa using z)
  rcases hp' with z | z
  ·obtain ⟨e,n,ne,nf,d⟩:=I.pin p z;have lt : (p.1 : Nat) < s.heap.objs.size:=zU8 e;refine ⟨hk _ _ e,n,?_,fun q => ?_,d⟩
   ·exact zVI (zVm lt)
   ·rcases zU9.mp (I.stkSub _ q) with r | r
    ·exact ne r
    ·exact nf r
  ·subst z;refine ⟨pushCells_keeps _ _ _ _ (zUy _ (zU7 _ hfr)),I.hok.fresh (zU3 _),?_,fun q => ?_,hlo⟩
   ·show s.heap.objs.size ≠ s.heap.objs.size + 1;omega
   ·rcases zU9.mp (I.stkSub _ q) with r | r
    ·exact absurd I.lt (by rw [<- r]; exact zVf _)
    ·exact I.nofs (zU3 _) r
end
def clr (own : List Nat) (σ : St) : St:=own.foldl (fun σ i => σ.set i none) σ
theorem zBs : ∀ (own : List Nat) (σ : St),(clr own σ).length = σ.length
 | [],_ => rfl
 | i :: r,σ => by
  show (clr r (σ.set i none)).length = _;rw [zBs r,zXG]
theorem zDD : ∀ (own : List Nat) (σ : St) (j : Nat) (v : V),(clr own σ)[j]? = some (some v) -> σ[j]? = some (some v) /\ j ∉ own
 | [],_,_,_,h => ⟨h,fun z => nomatch z⟩
 | i :: r,σ,j,v,h => by
  have h' : (clr r (σ.set i none))[j]? = some (some v):=h;obtain ⟨a,b⟩:=zDD r _ j v h';rw [zWW] at a;split at a
  ·split at a <;> cases a
  ·rename_i hne;exact ⟨a,fun z => (zU9.mp z).elim (fun e => hne e.symm) b⟩
def Ext (a b : St) : Prop:=b.length = a.length /\ ∀ (i : Nat) v,a[i]? = some (some v) -> b[i]? = some (some v)
theorem Ext.refl (a : St) : Ext a a:=⟨rfl,fun _ _ h => h⟩
theorem Ext.set (e : Ext (clr own σ) a) (h : i ∈ own) : Ext (clr own σ) (a.set i (some v)):=by
 refine ⟨by rw [zXG]; exact e.1,fun j u q => ?_⟩;rw [zWW];split
 ·rename_i z;exact absurd (z ▸ h) (zDD own σ j u q).2
 ·exact e.2 j u q
def zGf (X : Cx) (ifs : List Expr) (t : TT) : Prop :=
 ∀ (zB : List (Addr × Obj)) (s : Shared) (σ : St) (H : Hp) (Q : Bool -> Hp -> Prop),Inv X zB σ H s -> t σ H Q ->
  wpAny (model X.prog X.w) X.A (forIn ifs true fun c r => if r = true then do let ok <- isTrue c X.env (eval c X.env); pure (ForInStep.yield ok) else pure (ForInStep.yield r)) (TP X zB σ Q) X.xe s
def zUq : TT:=fun _ H Q => Q true H
theorem zP9 : zGf X [] zUq:=fun _ _ _ H _ I h => wpAny_tests_nil ⟨H,I,h⟩
theorem zQF (h : PT X c t) : zGf X [c] t:=fun zB s σ H Q I hq => wpAny_tests_one (h zB s σ H Q I hq)
section
variable {prog : Program} {w : World} {A : Around} {E : Value -> Shared -> Prop} {R : Result -> Shared -> Prop} {s : Shared}
theorem zJ0 (I : Nat -> Shared -> Prop)
  (turn : ∀ n s,I n s -> wpAny (model prog w) A (pyNext it) (fun r s₁ => match r with
   | none => R (.ok .next) s₁
   | some v => wpAny (model prog w) A (letOwnedTupleGo target it v) (fun _ s₁' => wpAny (model prog w) A (assign target env v) (fun _ s₂ =>
     wpAny (model prog w) A (forIn ifs true fun c r => if r = true then do let ok <- isTrue c env (eval c env); pure (ForInStep.yield ok) else pure (ForInStep.yield r)) (fun ok s₃ =>
      if ok = true then wpAny (model prog w) A (eval elt env) (fun x s₄ =>
       wpAny (model prog w) A (call (.builtin "list.append") [acc,x]) (fun _ s₅ => ∃ m,m < n /\ I m s₅) (fun _ _ => False) s₄) (fun _ _ => False) s₃
      else ∃ m,m < n /\ I m s₃) (fun _ _ => False) s₂) (fun _ _ => False) s₁') (fun _ _ => False) s₁) (fun _ _ => False) s)
  (n : Nat) (h : I n s) :
  codeAny (model prog w) A (.compLoop (.ListComp elt [⟨target,iter,ifs,0⟩] scope pos) 0 it acc env) R s:=by
 refine codeAny_loop rfl I (fun n s hI => ?_) n h;show wpAny _ A ((compTurn (.ListComp elt [⟨target,iter,ifs,0⟩] scope pos) 0 it acc env).onRaise (fun x => do noteFrame x env; theTreesLotGoes x)) _ _ s;refine wpAny_noted ?_;rw [compTurn_list];refine zUx (zVv (zUx (zVT (turn n s hI) (fun r s₁ h₁ => ?_) fun _ _ h' => h'.elim)));cases r with
 | none => exact zUz h₁
 | some v =>
  refine zUx (zVT h₁ (fun _ s₁' h₁' => ?_) fun _ _ h' => h'.elim);refine zUx (zVT h₁' (fun _ s₂ h₂ => zUx (zVT h₂ (fun ok s₃ h₃ => ?_) fun _ _ h' => h'.elim)) fun _ _ h' => h'.elim);cases ok with
  | false => exact zUz ⟨rfl,h₃⟩
  | true =>
   exact zUx (zUx (zVT h₃ (fun x s₄ h₄ => zUx (zVT h₄ (fun _ s₅ h₅ => zUz (zUz ⟨rfl,h₅⟩)) fun _ _ h' => h'.elim)) fun _ _ h' => h'.elim))
end
def zOS (own : List Nat) (wi : TI) (g : TG) (tc : TT) (te : TE) : TE:=fun σ H Q => wi σ H fun J H1 => ∃ W : Nat -> Nat -> List V -> Hp -> Prop,(∃ m,W 0 m [] H1) /\ ∀ i m ys H,W i m ys H ->
 (J.stop i H /\ ys.length <= sizeLine /\ ∀ D,H D = none -> Q (.ref D) (upd H D (.lst ys))) \/
 (J.go i H /\ ∀ x H',J.yld i H x H' -> g x (clr own σ) H' fun σ2 H2 => Ext (clr own σ) σ2 /\ tc σ2 H2 fun b H3 =>
  if b = true then te σ2 H3 fun v H4 => ys.length < sizeLine /\ ∃ m',m' < m /\ W (i + 1) m' (ys ++ [v]) H4 else ∃ m',m' < m /\ W (i + 1) m' ys H3)
abbrev zu (its : List Value) (n : Nat) : Obj:={ cls:=.type "list", data:=.seq its.toArray n }
section
variable {X : Cx} {zB : List (Addr × Obj)} {σ : St} {H : Hp} {s : Shared}
theorem Inv.repin (I : Inv X (pl ++ [(D,o)]) σ H s) (hpl : ∀ p ∈ X.pn ++ pl,p.1 ≠ D) (hs : Heap.SameBut D s.heap h') (hD : X.s₀.heap.objs.size <= D) (hc : ∀ x c,X.env.cells.lookup x = some c -> c ≠ D)
  (e : h'.get? D = some o') (hn : ∀ v,o'.data ≠ .cell v) : Inv X (pl ++ [(D,o')]) σ H { s with heap:=h' }:=by
 obtain ⟨e0,n0,ne0,nf0,d0⟩:=I.pin (D,o) (by simp);have I1 : Inv X pl σ H s:=I.pins_of fun p hp => I.pin p (by simp [hp]);have I2 : Inv X pl σ H { s with heap:=h' }:=I1.turned (t':=s.toks) (it:=D) (fun b u hb q => hs.extBut b u hb q) n0 ne0 (.inr hD) hc hpl;exact I2.pins_of fun p hp => by
  rcases zVN.mp hp with z | z
  ·exact I2.pin p (zVH _ z)
  ·have : p = (D,o'):=by simpa using z
   subst this;exact ⟨e,n0,ne0,nf0,hn⟩
end
section
variable {X : Cx} {zB : List (Addr × Obj)} {σ : St} {H : Hp} {s : Shared} {scope : Scope} {cl : List (Str × Addr)} {fp : List Addr} {it : Addr} {tn : Nat -> Heap -> Prop} {J : It} {tg elt iter : Expr} {ifs : List Expr} {pos : Pos}
 {own : List Nat} {g : TG} {tc : TT} {te : TE} {E : Value -> Shared -> Prop}
structure CompIn (X : Cx) (scope : Scope) (own : List Nat) : Prop where
 sc : CompScope X scope
 nm : ∀ (i : Nat) x,X.N[i]? = some x -> i ∈ own \/ scope.names.lookup x = none \/ scope.names.lookup x = some .free
theorem zCi (x : Str) (h : scope.names.lookup x = none) : (relabel scope env).names.lookup x = none:=by
 cases q : (relabel scope env).names.lookup x with
 | none => rfl
 | some k =>
  rcases zBb (scope:=scope) x q with z | z
  ·rw [h] at z; cases z
  ·rw [h] at z; cases z.1
theorem zHA (C : CompIn X scope own) (hcalm : X.calm = true) (I : Inv X zB σ H s) (T : Turn X.prog X.w X.K tg J fp it tn) (st : tn 0 s.heap) (hf : ∀ b ∈ fp,zCr X zB H b)
  (c1 : ∀ x c,cl.lookup x = some c -> X.env.cells.lookup x = some c) (c2 : ∀ y ∈ scope.names,y.2 = .free -> (cl.lookup y.1).isSome = true)
  (hg : PG (zV X zB scope cl s H fp) tg g) (hi : zGf (zV X zB scope cl s H fp) ifs tc) (he : PE (zV X zB scope cl s H fp) elt te)
  {RR : Value -> Addr -> Result -> Shared -> Prop} {QQ : List V -> Hp -> Prop} {W : Nat -> Nat -> List V -> Hp -> Prop} {m0 : Nat} (w0 : W 0 m0 [] H)
  (turn : ∀ i m ys H,W i m ys H -> (J.stop i H /\ ys.length <= sizeLine /\ QQ ys H) \/
   (J.go i H /\ ∀ x H',J.yld i H x H' -> g x (clr own σ) H' fun σ2 H2 => Ext (clr own σ) σ2 /\ tc σ2 H2 fun b H3 =>
    if b = true then te σ2 H3 fun v H4 => ys.length < sizeLine /\ ∃ m',m' < m /\ W (i + 1) m' (ys ++ [v]) H4 else ∃ m',m' < m /\ W (i + 1) m' ys H3))
  (fin : ∀ σc H' s' its n ys,Inv (zV X zB scope cl s H fp) [(s.heap.objs.size,zu its n)] σc H' s' -> zo ys its -> ys.length <= sizeLine -> QQ ys H' -> RR (.ref s.heap.objs.size) (s.heap.objs.size + 1) (.ok .next) s') :
  wpAny (model X.prog X.w) X.A (newList []) (fun acc s₃ => wpAny (model X.prog X.w) X.A (newFunctionEnv scope X.env.globals cl [] X.env.qual none .none (some X.env)) (fun cenv s₄ =>
   codeAny (model X.prog X.w) X.A (.compStart (.ListComp elt [⟨tg,iter,ifs,0⟩] scope pos) 0 (.ref it) acc { cenv with scope:=relabel scope X.env }) (RR acc cenv.locals) s₄) E s₃) E s:=by
 have ob : ∀ b : Nat,b ∈ fp -> b < s.heap.objs.size:=fun b hb => let ⟨_,e,_⟩:=T.obj 0 _ st b hb; zU8 e;refine zVQ (zDJ ?_);have sz1 : (s.heap.push (zu [] 0)).objs.size = s.heap.objs.size + 1:=zVd ..;have I4:=zFe (X:=X) (zB:=zB) (σ:=σ) (σc:=clr own σ) (H:=H) (s:=s) (scope:=scope) (cl:=cl) (fp:=fp) C.sc I hf ob c1 c2 (zBs own σ) (fun i x v h1 h2 h3 => by
  obtain ⟨a,b⟩:=zDD own σ i v h2;rcases C.nm i x h1 with z | z | z
  ·exact absurd z b
  ·exact absurd (zCi x z) h3
  ·exact ⟨z,a⟩) (zu [] 0) (by intro v z; cases z) rfl rfl
 have st4 : tn 0 (pushCells ((s.heap.push (zu [] 0)).push { cls:=.type "dict", data:=.dict #[] }) scope.names):=T.keep 0 _ _ st fun b _ o e => pushCells_keeps _ _ b o (zUy _ (zUy _ e));dsimp only;unfold newEnv;dsimp only;rw [sz1];have hDfp : s.heap.objs.size ∉ fp:=fun z => zVf _ (ob _ z);have hcD : ∀ x c,(zV X zB scope cl s H fp).env.cells.lookup x = some c -> c ≠ s.heap.objs.size:=fun x c e z => by
  obtain ⟨v,o,ho,hd⟩:=I4.cell x c e;obtain ⟨q,_⟩:=I4.pin (s.heap.objs.size,zu [] 0) (by simp);rw [z,q] at ho;cases ho; cases hd
 have fpk : ∀ {H' : Hp} {pl : List (Addr × Obj)},(∀ b ∈ fp,H' b = none) -> (∀ p ∈ pl,p.1 = s.heap.objs.size) -> ∀ b ∈ fp,zCr (zV X zB scope cl s H fp) pl H' b:=fun {H' pl} hn hp b hb =>
  ⟨hn b hb,(I4.ok.exf b hb).1,I4.ok.exfs b hb,.inl hb,(I4.ok.exf b hb).2,fun p hq => by
   rcases zVN.mp hq with z | z
   ·exact (hf b hb).2.2.2.2.2 p z
   ·intro e;have e2:=hp p z;rw [e] at e2;exact hDfp (e2 ▸ hb)⟩
 have loop : codeAny (model X.prog X.w) X.A (.compLoop (.ListComp elt [⟨tg,iter,ifs,0⟩] scope pos) 0 (.ref it) (.ref s.heap.objs.size) (zV X zB scope cl s H fp).env) (RR (.ref s.heap.objs.size) (s.heap.objs.size + 1))
   { s with heap:=pushCells ((s.heap.push (zu [] 0)).push { cls:=.type "dict", data:=.dict #[] }) scope.names }:=by
  refine zJ0 (fun n s' => ∃ i H' ys its k,Inv (zV X zB scope cl s H fp) [(s.heap.objs.size,zu its k)] (clr own σ) H' s' /\ zo ys its /\ tn i s'.heap /\ (∀ b ∈ fp,H' b = none) /\ W i n ys H') ?_ m0
   ⟨0,H,[],[],0,I4,.nil,st4,fun b hb => (hf b hb).1,w0⟩
  rintro n s5 ⟨i,H5,ys,its,k,I5,r5,st5,f5,w5⟩;have pinD : ∀ p ∈ [(s.heap.objs.size,zu its k)],p.1 = s.heap.objs.size:=fun p hp => by
   have : p = (s.heap.objs.size,zu its k):=by simpa using hp
   rw [this]
  rcases turn i n ys H5 w5 with ⟨stop,hz,qq⟩ | ⟨go,step⟩
  ·refine thn (T.done (zV X zB scope cl s H fp) rfl rfl rfl hcalm i _ s5 _ H5 _ I5 (fpk f5 pinD) st5 stop) fun r s6 ⟨hr,I6⟩ => ?_;subst hr;exact fin _ H5 s6 its k ys I6 r5 hz qq
  ·refine thn (T.item (zV X zB scope cl s H fp) rfl rfl rfl hcalm i _ s5 _ H5 _ I5 (fpk f5 pinD) st5 go) fun r s6 ⟨u,hr,h6⟩ => ?_;subst hr;refine thn h6 fun _ s7 ⟨x,H7,I7,r7,y7,st7,f7⟩ => ?_;have I7':=I7.pinned (fpk f7 pinD) (T.obj _ _ st7);refine thn (hg _ s7 _ H7 x u _ I7' r7 (step x H7 y7)) fun _ s8 ⟨σ8,H8,I8,x8,q8⟩ => ?_;refine thn (hi _ s8 σ8 H8 _ I8 q8) fun ok s9 ⟨H9,I9,q9⟩ => ?_;have back : ∀ {s' : Shared} {Hx : Hp},Inv (zV X zB scope cl s H fp) ([(s.heap.objs.size,zu its k)] ++ zDV fp s7.heap) σ8 Hx s' -> tn (i + 1) s'.heap /\ ∀ b ∈ fp,Hx b = none:=fun {s' Hx} Ix =>
    ⟨T.keep _ _ _ st7 fun b hb o e => (Ix.pin (b,o) (zVH _ (zVH _ (zAb hb e)))).1,fun b hb => by
     obtain ⟨o,e,d⟩:=T.obj _ _ st7 b hb;exact (Ix.pin (b,o) (zVH _ (zVH _ (zAb hb e)))).2.1⟩
   cases ok with
   | false =>
    obtain ⟨m',hm,w'⟩:=q9;obtain ⟨b1,b2⟩:=back I9;exact ⟨m',hm,i + 1,H9,ys,its,k,(I9.weak (by rw [x8.1]) x8.2).unpinned,r5,b1,b2,w'⟩
   | true =>
    refine thn (he _ s9 σ8 H9 _ I9 q9) fun v s10 ⟨y,H10,I10,r10,hlt,m',hm,w'⟩ => ?_;obtain ⟨b1,b2⟩:=back I10;have J10:=(I10.weak (by rw [x8.1]) x8.2).unpinned;obtain ⟨e10,n10,ne10,nf10,d10⟩:=J10.pin (s.heap.objs.size,zu its k) (by simp);have hlen : its.toArray.size <= sizeLine:=by
     have:=r5.length;rw [zU5,<- this];exact Nat.le_of_lt hlt
    refine wpAny_list_append_plain (hsz:=hlen) (show s10.heap.PlainList s.heap.objs.size its.toArray from ⟨k,e10⟩) fun h' hl' hs' => ?_;obtain ⟨k',e'⟩:=hl';have e'' : h'.get? s.heap.objs.size = some (zu (its ++ [v]) k'):=by rw [e']; simp [zu]
    refine ⟨m',hm,i + 1,H10,ys ++ [y],its ++ [v],k',?_,r5.append (.cons r10 .nil),T.keep _ _ _ b1 fun b hb o e => hs'.extBut b o (fun z => hDfp (z ▸ hb)) e,b2,w'⟩;refine Inv.repin (pl:=[]) J10 (fun p hp => ?_) hs' (zU3 _) hcD e'' (by intro v z; cases z);rw [zVh] at hp;have hp' : p ∈ X.pn ++ zB:=hp;exact zVI (zU8 (I.pin p hp').1)
 exact codeAny_compStart_list loop (T.self _ 0 _ _ _ st4 loop)
end
section
variable {X : Cx} {zB : List (Addr × Obj)} {σ : St} {H : Hp} {s : Shared} {scope : Scope} {cl : List (Str × Addr)} {fp : List Addr}
theorem zH0 (I : Inv X zB σ H s) (hf : ∀ b ∈ fp,zCr X zB H b)
  (Ic : Inv (zV X zB scope cl s H fp) [(s.heap.objs.size,zu its n)] σc H' s') (rv : zo ys its) (hz : ys.length <= sizeLine) (hs : Heap.SameBut (s.heap.objs.size + 1) s'.heap h') :
  Inv X zB σ (upd H' s.heap.objs.size (.lst ys)) { s' with heap:=h' } /\ H' s.heap.objs.size = none:=by
 obtain ⟨eD,nD,_⟩:=Ic.pin (s.heap.objs.size,zu its n) (by simp);have nC : H' (s.heap.objs.size + 1) = none:=Ic.free;have eD' : h'.get? s.heap.objs.size = some (zu its n):=hs.extBut _ _ (zVI (zVu _)) eD;have lt1 : ∀ {b : Addr} {o : Obj},s.heap.get? b = some o -> b ≠ s.heap.objs.size + 1 /\ b ≠ s.heap.objs.size:=fun e => ⟨zVI (zVm (zU8 e)),zVI (zU8 e)⟩;have tr : ∀ b u,H' b = some u -> b ≠ s.heap.objs.size + 1 /\ b ≠ s.heap.objs.size:=fun b u e => ⟨fun z => (by rw [z,nC] at e; cases e),fun z => (by rw [z,nD] at e; cases e)⟩;refine ⟨?_,nD⟩;have B:=Ic.base;have un : Un (frs X.stack) fp H (upd H' s.heap.objs.size (.lst ys)) s.heap h':=by
  refine ⟨fun b o e q hb hx => hs.extBut b o (lt1 e).1 (B.keep b o e q hb hx),fun b o e q hb hx => ?_,fun b o e q hx => ?_,fun b o e hx => ?_,fun b xs e => ?_,fun b o xs e => ?_,fun b ps e => ?_⟩
  ·obtain ⟨sl,e1⟩:=B.slot b o e q hb hx;exact ⟨sl,hs.extBut b _ (lt1 e).1 e1⟩
  ·rw [zk (lt1 e).2]; exact B.free b o e q hx
  ·obtain ⟨o',e1⟩:=B.there b o e hx;exact ⟨o',hs.extBut b _ (lt1 e).1 e1⟩
  ·have q:=B.tups b xs e;rw [zk (tr b _ q).2]; exact q
  ·have q:=B.frzs b o xs e;rw [zk (tr b _ q).2]; exact q
  ·obtain ⟨more,q⟩:=B.tbls b ps e;exact ⟨more,by rw [zk (tr b _ q).2]; exact q⟩
 have hok : HOk X.prog X.w (upd H' s.heap.objs.size (.lst ys)) h':=fun b u e => by
  by_cases hb : b = s.heap.objs.size
  ·subst hb;rw [zAg] at e; cases e;exact ⟨hz,its,n,rv,eD'⟩
  ·rw [zk hb] at e;refine (Ic.hok b u e).stay (fun c v hc q => hs.extBut c v ?_ q) (fun c q => by rw [zk (tr c _ q).2]; exact q) fun c xs q => by rw [zk (tr c _ q).2]; exact q
   rcases hc with z | z
   ·rw [z]; exact (tr b u e).1
   ·exact (tr c _ z).1
 exact I.call' (s':={ s' with heap:=h' }) (ch:=fp) Ic.os un hok Ic.bare fun b hb => ⟨(hf b hb).2.2.2.1,(hf b hb).2.1,(hf b hb).2.2.2.2.1,(hf b hb).2.2.2.2.2⟩
end
section
variable {X : Cx} {scope : Scope} {tg elt iter : Expr} {ifs : List Expr} {pos : Pos} {own : List Nat} {wi : TI} {g : TG} {tc : TT} {te : TE}
structure CompParts (X : Cx) (scope : Scope) (tg : Expr) (ifs : List Expr) (elt : Expr) (g : TG) (tc : TT) (te : TE) : Prop where
 g : ∀ zB cl s H fp,PG (zV X zB scope cl s H fp) tg g
 c : ∀ zB cl s H fp,zGf (zV X zB scope cl s H fp) ifs tc
 e : ∀ zB cl s H fp,PE (zV X zB scope cl s H fp) elt te
theorem CompScope.closure (S : CompScope X scope) (I : Inv X zB σ H s) :
  ∃ cl,closureFor scope X.env = pure cl /\ (∀ x c,cl.lookup x = some c -> X.env.cells.lookup x = some c) /\ ∀ y ∈ scope.names,y.2 = .free -> (cl.lookup y.1).isSome = true :=
 zH6 fun y hy hk => I.ok.has y.1 (S.free y hy hk)
theorem zQh (C : CompIn X scope own) (hcalm : X.calm = true) (hi : PI X tg iter wi) (p : CompParts X scope tg ifs elt g tc te) (hs : ∀ x,foldedSetIterable iter X.env x = pure x:=by intro _; rfl) :
  PE X (.ListComp elt [⟨tg,iter,ifs,0⟩] scope pos) (zOS own wi g tc te):=by
 intro zB s σ H Q I h;obtain ⟨cl,hcl,c1,c2⟩:=C.sc.closure I;rw [eval_ListComp];refine zWr (use:=none) rfl hs hcl C.sc.kind C.sc.names (thn (hi zB s σ H _ I h) fun v s1 h1 => thn h1 fun itv s2 h2 => ?_);obtain ⟨it,fp,tn,J,H2,e,I2,T,st2,f2,W,⟨m0,w0⟩,turn⟩:=h2;subst e;refine zHA C hcalm I2 T st2 f2 c1 c2 (p.g _ _ _ _ _) (p.c _ _ _ _ _) (p.e _ _ _ _ _) (RR:=fun acc C r s' => compPost (model X.prog X.w) X.A X.xe none (EP X zB σ Q) acc C r s') (QQ:=fun ys H => ∀ D,H D = none -> Q (.ref D) (upd H D (.lst ys))) w0 turn ?_;intro σc H' s' its n ys Ic rv hz qq;obtain ⟨m,hn,_⟩:=Ic.loc;refine ⟨m,hn,fun h' hs' => ?_⟩;obtain ⟨J',nD⟩:=zH0 I2 f2 Ic rv hz hs';exact ⟨.ref s2.heap.objs.size,_,J',rfl,qq _ nD⟩
theorem zLu (hN : X.N.Nodup) (hi' : X.N[i]? = some x) (hx : Loc X.env.scope x) (hfn : X.fn x = true \/ X.env.scope.names.lookup x = some .local)
  (C : CompIn X scope own) (hcalm : X.calm = true) (hi : PI X tg iter wi) (p : CompParts X scope tg ifs elt g tc te)
  (hsw : swapsWith (.ListComp elt [⟨tg,iter,ifs,0⟩] scope pos) (some (.Name x pos')) pos''.line X.env = pure true) (hs : ∀ x,foldedSetIterable iter X.env x = pure x:=by intro _; rfl) :
  PS X (.Assign [.Name x pos'] (.ListComp elt [⟨tg,iter,ifs,0⟩] scope pos) pos'') (zO0 (zOS own wi g tc te) (zEB i)):=by
 intro zB s σ H D I h;obtain ⟨cl,hcl,c1,c2⟩:=C.sc.closure I;rw [exec_Assign_Name_used _ _ _ _ hsw];refine zUx (zVv (zUx ?_));show wpAny _ X.A (do let _ <- comprehension (.ListComp elt [⟨tg,iter,ifs,0⟩] scope pos) scope X.env _ (newList []) false (eval iter X.env) (some (assign (.Name x pos') X.env))) _ _ s
 refine zUx (zVT (zWr (use:=some (assign (.Name x pos') X.env)) (Q:=fun _ s' => SP X zB D .next s') rfl hs hcl C.sc.kind C.sc.names
  (thn (hi zB s σ H _ I h) fun v s1 h1 => thn h1 fun itv s2 h2 => ?_)) (fun _ s' hq => zUz (zUz hq)) fun _ _ e => e)
 obtain ⟨it,fp,tn,J,H2,e,I2,T,st2,f2,W,⟨m0,w0⟩,turn⟩:=h2;subst e
 refine zHA C hcalm I2 T st2 f2 c1 c2 (p.g _ _ _ _ _) (p.c _ _ _ _ _) (p.e _ _ _ _ _) (RR:=fun acc C r s' => compPost (model X.prog X.w) X.A X.xe (some (assign (.Name x pos') X.env)) (fun _ s' => SP X zB D .next s') acc C r s')
  (QQ:=fun ys H => ∀ E,H E = none -> zEB i (.ref E) σ (upd H E (.lst ys)) D.nx) w0 turn ?_
 intro σc H' s' its n ys Ic rv hz qq;obtain ⟨m,hn,_⟩:=Ic.loc;obtain ⟨J',nD⟩:=zH0 (h':=s'.heap) I2 f2 Ic rv hz (.refl ..);obtain ⟨oC,es,ep,hoC,hdC,r1,r2⟩:=id hn;have nC : upd H' s2.heap.objs.size (.lst ys) (s2.heap.objs.size + 1) = none:=by rw [zk (Nat.ne_of_gt (zVu _))]; exact Ic.free
 have K' : Inv X (zB ++ [(s2.heap.objs.size + 1,oC)]) σ (upd H' s2.heap.objs.size (.lst ys)) s':=J'.pins_of fun q hq => by
  rcases zVN.mp hq with z | z
  ·exact J'.pin q (zVH _ z)
  ·have e : q = (s2.heap.objs.size + 1,oC):=by simpa using z
   subst e;refine ⟨hoC,nC,Nat.ne_of_gt (zVm I2.lt),I2.nofs (zWf _),fun v z => ?_⟩;have z' : oC.data = .cell v:=z;rw [hdC] at z'; cases z'
 show wpAny _ X.A (assign (.Name x pos') X.env (.ref s2.heap.objs.size)) _ _ _;refine thn (zJC hN hi' hx hfn _ s' σ _ (.ref s2.heap.objs.size) (.ref s2.heap.objs.size) _ K' rfl (qq _ nD)) fun _ s'' ⟨σ'',H'',I'',q''⟩ => ?_;obtain ⟨eC,_⟩:=I''.pin (s2.heap.objs.size + 1,oC) (by simp);refine ⟨m,⟨oC,es,ep,eC,hdC,r1,r2⟩,fun h' hs' => ⟨σ'',H'',?_,q''⟩⟩;have I3 : Inv X zB σ'' H'' s'':=I''.unpinned;obtain ⟨_,nC'',neC,_,_⟩:=I''.pin (s2.heap.objs.size + 1,oC) (by simp);refine I3.turned (t':=s''.toks) (it:=s2.heap.objs.size + 1) (fun b o hb e => hs'.extBut b o hb e) nC'' neC (.inr (zVO I2.sz (zWf _))) (fun x c e z => ?_) (fun q hq z => ?_)
 ·obtain ⟨v,o,ho,hd⟩:=I3.cell x c e;rw [z,eC] at ho; cases ho;rw [hdC] at hd; cases hd
 ·obtain ⟨e,_⟩:=I2.pin q hq;exact zVI (zVm (zU8 e)) z
end
abbrev zBv (elt t1 i1 : Expr) (f1 : List Expr) (t2 i2 : Expr) (f2 : List Expr) (scope : Scope) (pos : Pos) : Expr:=.ListComp elt [⟨t1,i1,f1,0⟩,⟨t2,i2,f2,0⟩] scope pos
theorem zH4 (elt t1 i1 : Expr) (f1 : List Expr) (t2 i2 : Expr) (f2 : List Expr) (scope : Scope) (pos : Pos) (it acc : Value) (env : Env) :
  compTurn (zBv elt t1 i1 f1 t2 i2 f2 scope pos) 0 it acc env = (do
   standAt i1.pos;match <- pyNext it with
   | none => pure (.done .next)
   | some v =>
    letOwnedTupleGo t1 it v;assign t1 env v;let mut ok:=true
    for c in f1 do
     if ok then ok <- isTrue c env (eval c env)
    if ok then
     let x <- eval i2 env;standAt i2.pos;let x <- foldedSetIterable i2 env x;let _ <- runOwn (.compStart (zBv elt t1 i1 f1 t2 i2 f2 scope pos) 1 (<- holding [x] (pyIter x)) acc env) env
    again (.compLoop (zBv elt t1 i1 f1 t2 i2 f2 scope pos) 0 it acc env)):=by rfl
theorem zJ4 (elt t1 i1 : Expr) (f1 : List Expr) (t2 i2 : Expr) (f2 : List Expr) (scope : Scope) (pos : Pos) (it acc : Value) (env : Env) :
  compTurn (zBv elt t1 i1 f1 t2 i2 f2 scope pos) 1 it acc env = (do
   standAt i2.pos;match <- pyNext it with
   | none => pure (.done .next)
   | some v =>
    letOwnedTupleGo t2 it v;assign t2 env v;let mut ok:=true
    for c in f2 do
     if ok then ok <- isTrue c env (eval c env)
    if ok then
     (do let _ <- call (.builtin "list.append") [acc,<- eval elt env])
    again (.compLoop (zBv elt t1 i1 f1 t2 i2 f2 scope pos) 1 it acc env)):=by rfl
section
variable {prog : Program} {w : World} {A : Around} {E : Value -> Shared -> Prop} {R : Result -> Shared -> Prop} {s : Shared}
variable {elt t1 i1 t2 i2 : Expr} {f1 f2 : List Expr} {scope : Scope} {pos : Pos} {it acc : Value} {env : Env}
theorem zJU (I : Nat -> Shared -> Prop)
  (turn : ∀ n s,I n s -> wpAny (model prog w) A (pyNext it) (fun r s₁ => match r with
   | none => R (.ok .next) s₁
   | some v => wpAny (model prog w) A (letOwnedTupleGo t2 it v) (fun _ s₁' => wpAny (model prog w) A (assign t2 env v) (fun _ s₂ =>
     wpAny (model prog w) A (forIn f2 true fun c r => if r = true then do let ok <- isTrue c env (eval c env); pure (ForInStep.yield ok) else pure (ForInStep.yield r)) (fun ok s₃ =>
      if ok = true then wpAny (model prog w) A (eval elt env) (fun x s₄ =>
       wpAny (model prog w) A (call (.builtin "list.append") [acc,x]) (fun _ s₅ => ∃ m,m < n /\ I m s₅) (fun _ _ => False) s₄) (fun _ _ => False) s₃
      else ∃ m,m < n /\ I m s₃) (fun _ _ => False) s₂) (fun _ _ => False) s₁') (fun _ _ => False) s₁) (fun _ _ => False) s)
  (n : Nat) (h : I n s) :
  codeAny (model prog w) A (.compLoop (zBv elt t1 i1 f1 t2 i2 f2 scope pos) 1 it acc env) R s:=by
 refine codeAny_loop rfl I (fun n s hI => ?_) n h;show wpAny _ A ((compTurn (zBv elt t1 i1 f1 t2 i2 f2 scope pos) 1 it acc env).onRaise (fun x => do noteFrame x env; theTreesLotGoes x)) _ _ s;refine wpAny_noted ?_;rw [zJ4];refine zUx (zVv (zUx (zVT (turn n s hI) (fun r s₁ h₁ => ?_) fun _ _ h' => h'.elim)));cases r with
 | none => exact zUz h₁
 | some v =>
  refine zUx (zVT h₁ (fun _ s₁' h₁' => ?_) fun _ _ h' => h'.elim);refine zUx (zVT h₁' (fun _ s₂ h₂ => zUx (zVT h₂ (fun ok s₃ h₃ => ?_) fun _ _ h' => h'.elim)) fun _ _ h' => h'.elim);cases ok with
  | false => exact zUz ⟨rfl,h₃⟩
  | true =>
   exact zUx (zUx (zVT h₃ (fun x s₄ h₄ => zUx (zVT h₄ (fun _ s₅ h₅ => zUz (zUz ⟨rfl,h₅⟩)) fun _ _ h' => h'.elim)) fun _ _ h' => h'.elim))
theorem zH9
  (h0 : codeAny (model prog w) A (.compLoop (zBv elt t1 i1 f1 t2 i2 f2 scope pos) 1 it acc env) R s)
  (h : wpAny (model prog w) A (pyIter it) (fun it' s' => codeAny (model prog w) A (.compLoop (zBv elt t1 i1 f1 t2 i2 f2 scope pos) 1 it' acc env) R s')
   (notedBy (model prog w) A env fun x s' => R (.error x) s') s) :
  codeAny (model prog w) A (.compStart (zBv elt t1 i1 f1 t2 i2 f2 scope pos) 1 it acc env) R s:=by
 refine codeAny_of_tree ?_;show wpAny _ _ ((compStart (zBv elt t1 i1 f1 t2 i2 f2 scope pos) 1 it acc env).onRaise (fun x => do noteFrame x env; standAt theWindowsPlace)) _ _ s;refine wpAny_notedAt ?_;unfold compStart;show wpAny _ _ (ask >>= _) _ _ s;refine zUx (wpAny_askSetting (wpAny_ite ?_));split
 ·first
   | exact zUx (zUz (zUz (And.intro rfl h0)))
   | exact zUz (And.intro rfl h0)
 ·first
   | exact zUx (zWK (zUx (zVv (zUx (zVT h (fun it' s' h' => zUz (And.intro rfl h')) fun _ _ x => x)))))
   | (refine zUx (zWK ?_); show wpAny _ _ (standAt i2.pos >>= _) _ _ s; exact zUx (zVv (zUx (zVT h (fun it' s' h' => zUz (And.intro rfl h')) fun _ _ x => x))))
theorem zIC (hs2 : ∀ x,foldedSetIterable i2 env x = pure x) (I : Nat -> Shared -> Prop)
  (turn : ∀ n s,I n s -> wpAny (model prog w) A (pyNext it) (fun r s₁ => match r with
   | none => R (.ok .next) s₁
   | some v => wpAny (model prog w) A (letOwnedTupleGo t1 it v) (fun _ s₁' => wpAny (model prog w) A (assign t1 env v) (fun _ s₂ =>
     wpAny (model prog w) A (forIn f1 true fun c r => if r = true then do let ok <- isTrue c env (eval c env); pure (ForInStep.yield ok) else pure (ForInStep.yield r)) (fun ok s₃ =>
      if ok = true then wpAny (model prog w) A (eval i2 env) (fun x s₄ => wpAny (model prog w) A (pyIter x) (fun it2 s₅ =>
       codeAny (model prog w) A (.compStart (zBv elt t1 i1 f1 t2 i2 f2 scope pos) 1 it2 acc env) (fun r s₆ => r = .ok .next /\ ∃ m,m < n /\ I m s₆) s₅) (fun _ _ => False) s₄) (fun _ _ => False) s₃
      else ∃ m,m < n /\ I m s₃) (fun _ _ => False) s₂) (fun _ _ => False) s₁') (fun _ _ => False) s₁) (fun _ _ => False) s)
  (n : Nat) (h : I n s) :
  codeAny (model prog w) A (.compLoop (zBv elt t1 i1 f1 t2 i2 f2 scope pos) 0 it acc env) R s:=by
 refine codeAny_loop rfl I (fun n s hI => ?_) n h;show wpAny _ A ((compTurn (zBv elt t1 i1 f1 t2 i2 f2 scope pos) 0 it acc env).onRaise (fun x => do noteFrame x env; theTreesLotGoes x)) _ _ s;refine wpAny_noted ?_;rw [zH4];refine zUx (zVv (zUx (zVT (turn n s hI) (fun r s₁ h₁ => ?_) fun _ _ h' => h'.elim)));cases r with
 | none => exact zUz h₁
 | some v =>
  refine zUx (zVT h₁ (fun _ s₁' h₁' => ?_) fun _ _ h' => h'.elim);refine zUx (zVT h₁' (fun _ s₂ h₂ => zUx (zVT h₂ (fun ok s₃ h₃ => ?_) fun _ _ h' => h'.elim)) fun _ _ h' => h'.elim);cases ok with
  | false => exact zUz ⟨rfl,h₃⟩
  | true =>
   refine zUx (zVT h₃ (fun x s₄ h₄ => zUx (zVv (zUx (wpAny_of_eq (hs2 x) (zUx (zVq (zVT h₄ (fun it2 s₅ h₅ => ?_) fun _ _ h' => h'.elim))))))) fun _ _ h' => h'.elim);refine zUx (wpAny_runOwn (codeAny_mono h₅ fun r s₆ hr => ?_));obtain ⟨rfl,hr⟩:=hr;exact zUz ⟨rfl,hr⟩
end
def tIn (own2 : List Nat) (wi2 : TI) (g2 : TG) (tc2 : TT) (te : TE) (σ2 : St) (H3 : Hp) (ys : List V) (QQ : List V -> Hp -> Prop) : Prop :=
 wi2 σ2 H3 fun J2 H4 => ∃ W2 : Nat -> Nat -> List V -> Hp -> Prop,(∃ m,W2 0 m ys H4) /\ ∀ j m zs H,W2 j m zs H ->
  (J2.stop j H /\ QQ zs H) \/
  (J2.go j H /\ ∀ x H',J2.yld j H x H' -> g2 x (clr own2 σ2) H' fun σ3 H5 => Ext (clr own2 σ2) σ3 /\ tc2 σ3 H5 fun b H6 =>
   if b = true then te σ3 H6 fun v H7 => zs.length < sizeLine /\ ∃ m',m' < m /\ W2 (j + 1) m' (zs ++ [v]) H7 else ∃ m',m' < m /\ W2 (j + 1) m' zs H6)
section
variable {C : Cx} {elt t1 i1 t2 i2 : Expr} {f1 f2 : List Expr} {scope : Scope} {pos : Pos} {pl : List (Addr × Obj)} {σ : St} {H : Hp} {s : Shared} {D : Addr}
 {own2 : List Nat} {wi2 : TI} {g2 : TG} {tc2 : TT} {te : TE} {R : Result -> Shared -> Prop}
theorem zPu (hxe : C.xe = fun _ _ => False) (hcalm : C.calm = true) (hi : PI C t2 i2 wi2) (hg : PG C t2 g2) (hc : zGf C f2 tc2) (he : PE C elt te) (hD : C.s₀.heap.objs.size <= D)
  (hcD : ∀ x c,C.env.cells.lookup x = some c -> c ≠ D) (hpl : ∀ p ∈ C.pn ++ pl,p.1 ≠ D) (I : Inv C (pl ++ [(D,zu its k)]) σ H s) (rv : zo ys its) (h : tIn own2 wi2 g2 tc2 te σ H ys QQ)
  (fin : ∀ s' H' its' k' zs,Inv C (pl ++ [(D,zu its' k')]) (clr own2 σ) H' s' -> zo zs its' -> QQ zs H' -> R (.ok .next) s') :
  wpAny (model C.prog C.w) C.A (eval i2 C.env) (fun x s₄ => wpAny (model C.prog C.w) C.A (pyIter x) (fun it2 s₅ =>
   codeAny (model C.prog C.w) C.A (.compStart (zBv elt t1 i1 f1 t2 i2 f2 scope pos) 1 it2 (.ref D) C.env) R s₅) (fun _ _ => False) s₄) (fun _ _ => False) s:=by
 have hpi:=hi _ s σ H _ I h;rw [hxe] at hpi;refine thn hpi fun v s1 h1 => thn h1 fun itv s2 h2 => ?_;obtain ⟨it,fp,tn,J,H2,e,I2,T,st2,f2',W,⟨m0,w0⟩,turn⟩:=h2;subst e;have hDfp : D ∉ fp:=fun z => (f2' D z).2.2.2.2.2 (D,zu its k) (by simp) rfl;have loop : ∀ s',(∃ H',Inv C (pl ++ [(D,zu its k)]) (clr own2 σ) H' s' /\ tn 0 s'.heap /\ (∀ b ∈ fp,H' b = none) /\ W 0 m0 ys H') -> codeAny (model C.prog C.w) C.A (.compLoop (zBv elt t1 i1 f1 t2 i2 f2 scope pos) 1 (.ref it) (.ref D) C.env) R s':=by
  rintro s' ⟨H',I',st',hn',w'⟩;have fpk : ∀ {H' : Hp} {its : List Value} {k : Nat},(∀ b ∈ fp,H' b = none) -> ∀ b ∈ fp,zCr C (pl ++ [(D,zu its k)]) H' b:=fun {H' its k} hn b hb => by
   obtain ⟨_,a2,a3,a4,a5,a6⟩:=f2' b hb;refine ⟨hn b hb,a2,a3,a4,a5,fun p hp => ?_⟩;rcases zVN.mp hp with z | z
   ·exact a6 p (zWC _ z)
   ·rcases zVN.mp z with z | z
    ·exact a6 p (zVH _ (zWC _ z))
    ·have : p = (D,zu its k):=by simpa using z
     rw [this];intro q;have q' : D = b:=q;exact hDfp (q' ▸ hb)
  refine zJU (fun n s' => ∃ i H' ys its k,Inv C (pl ++ [(D,zu its k)]) (clr own2 σ) H' s' /\ zo ys its /\ tn i s'.heap /\ (∀ b ∈ fp,H' b = none) /\ W i n ys H') ?_ m0 ⟨0,H',ys,its,k,I',rv,st',hn',w'⟩;rintro n s5 ⟨i,H5,ys,its,k,I5,r5,st5,f5,w5⟩;rcases turn i n ys H5 w5 with ⟨stop,qq⟩ | ⟨go,step⟩
  ·refine thn (T.done C rfl rfl rfl hcalm i _ s5 _ H5 _ I5 (fpk f5) st5 stop) fun r s6 ⟨hr,I6⟩ => ?_;subst hr;exact fin s6 H5 its k ys I6 r5 qq
  ·refine thn (T.item C rfl rfl rfl hcalm i _ s5 _ H5 _ I5 (fpk f5) st5 go) fun r s6 ⟨u,hr,h6⟩ => ?_;subst hr;refine thn h6 fun _ s7 ⟨x,H7,I7,r7,y7,st7,f7⟩ => ?_;have I7':=I7.pinned (fpk f7) (T.obj _ _ st7);have hgg:=hg _ s7 _ H7 x u _ I7' r7 (step x H7 y7);rw [hxe] at hgg;refine thn hgg fun _ s8 ⟨σ8,H8,I8,x8,q8⟩ => ?_;have hcc:=hc _ s8 σ8 H8 _ I8 q8;rw [hxe] at hcc;refine thn hcc fun ok s9 ⟨H9,I9,q9⟩ => ?_;have back : ∀ {s' : Shared} {Hx : Hp},Inv C ((pl ++ [(D,zu its k)]) ++ zDV fp s7.heap) σ8 Hx s' -> tn (i + 1) s'.heap /\ ∀ b ∈ fp,Hx b = none:=fun {s' Hx} Ix =>
    ⟨T.keep _ _ _ st7 fun b hb o e => (Ix.pin (b,o) (zVH _ (zVH _ (zAb hb e)))).1,fun b hb => by
     obtain ⟨o,e,d⟩:=T.obj _ _ st7 b hb;exact (Ix.pin (b,o) (zVH _ (zVH _ (zAb hb e)))).2.1⟩
   cases ok with
   | false =>
    obtain ⟨m',hm,w'⟩:=q9;obtain ⟨b1,b2⟩:=back I9;exact ⟨m',hm,i + 1,H9,ys,its,k,(I9.weak (by rw [x8.1]) x8.2).unpinned,r5,b1,b2,w'⟩
   | true =>
    have hee:=he _ s9 σ8 H9 _ I9 q9;rw [hxe] at hee;refine thn hee fun v s10 ⟨y,H10,I10,r10,hlt,m',hm,w'⟩ => ?_;obtain ⟨b1,b2⟩:=back I10;have J10:=(I10.weak (by rw [x8.1]) x8.2).unpinned;obtain ⟨e10,n10,ne10,nf10,d10⟩:=J10.pin (D,zu its k) (by simp);have hlen : its.toArray.size <= sizeLine:=by
     have:=r5.length;rw [zU5,<- this];exact Nat.le_of_lt hlt
    refine wpAny_list_append_plain (hsz:=hlen) (show s10.heap.PlainList D its.toArray from ⟨k,e10⟩) fun h' hl' hs' => ?_;obtain ⟨k',e'⟩:=hl';have e'' : h'.get? D = some (zu (its ++ [v]) k'):=by rw [e']; simp [zu]
    refine ⟨m',hm,i + 1,H10,ys ++ [y],its ++ [v],k',?_,r5.append (.cons r10 .nil),T.keep _ _ _ b1 fun b hb o e => hs'.extBut b o (fun z => hDfp (z ▸ hb)) e,b2,w'⟩;exact Inv.repin (pl:=pl) J10 hpl hs' hD hcD e'' (by intro v z; cases z)
 have l0:=loop s2 ⟨H2,I2.weak (zBs own2 σ) (fun i v h => (zDD own2 σ i v h).1),st2,fun b hb => (f2' b hb).1,w0⟩;exact zH9 l0 (T.self _ 0 _ _ _ st2 l0)
end
section
variable {X : Cx} {zB : List (Addr × Obj)} {σ : St} {H : Hp} {s : Shared} {scope : Scope} {cl : List (Str × Addr)} {fp : List Addr} {it : Addr} {tn : Nat -> Heap -> Prop} {J : It} {elt t1 i1 t2 i2 : Expr} {f1 f2 : List Expr} {pos : Pos}
 {own own2 : List Nat} {g g2 : TG} {tc tc2 : TT} {te : TE} {wi wi2 : TI} {E : Value -> Shared -> Prop}
theorem zKR : ∀ (own : List Nat) (σ : St) (j : Nat),j ∉ own -> (clr own σ)[j]? = σ[j]?
 | [],_,_,_ => rfl
 | i :: r,σ,j,h => by
  show (clr r (σ.set i none))[j]? = _;rw [zKR r _ j (fun z => h (zVA _ z)),zVR (fun z => h (by rw [z]; exact zVB))]
theorem zKk (hsub : ∀ i ∈ own2,i ∈ own) (C : CompIn X scope own) (hcalm : X.calm = true) (I : Inv X zB σ H s) (T : Turn X.prog X.w X.K t1 J fp it tn) (st : tn 0 s.heap) (hf : ∀ b ∈ fp,zCr X zB H b)
  (c1 : ∀ x c,cl.lookup x = some c -> X.env.cells.lookup x = some c) (c2 : ∀ y ∈ scope.names,y.2 = .free -> (cl.lookup y.1).isSome = true)
  (hg : PG (zV X zB scope cl s H fp) t1 g) (hi : zGf (zV X zB scope cl s H fp) f1 tc)
  (hi2 : PI (zV X zB scope cl s H fp) t2 i2 wi2) (hg2 : PG (zV X zB scope cl s H fp) t2 g2) (hc2 : zGf (zV X zB scope cl s H fp) f2 tc2) (he : PE (zV X zB scope cl s H fp) elt te)
  (hs2 : ∀ x,foldedSetIterable i2 (zV X zB scope cl s H fp).env x = pure x)
  {RR : Value -> Addr -> Result -> Shared -> Prop} {QQ : List V -> Hp -> Prop} {W : Nat -> Nat -> List V -> Hp -> Prop} {m0 : Nat} (w0 : W 0 m0 [] H)
  (turn : ∀ i m ys H,W i m ys H -> (J.stop i H /\ ys.length <= sizeLine /\ QQ ys H) \/
   (J.go i H /\ ∀ x H',J.yld i H x H' -> g x (clr own σ) H' fun σ2 H2 => Ext (clr own σ) σ2 /\ tc σ2 H2 fun b H3 =>
    if b = true then tIn own2 wi2 g2 tc2 te σ2 H3 ys fun zs H4 => ∃ m',m' < m /\ W (i + 1) m' zs H4 else ∃ m',m' < m /\ W (i + 1) m' ys H3))
  (fin : ∀ σc H' s' its n ys,Inv (zV X zB scope cl s H fp) [(s.heap.objs.size,zu its n)] σc H' s' -> zo ys its -> ys.length <= sizeLine -> QQ ys H' -> RR (.ref s.heap.objs.size) (s.heap.objs.size + 1) (.ok .next) s') :
  wpAny (model X.prog X.w) X.A (newList []) (fun acc s₃ => wpAny (model X.prog X.w) X.A (newFunctionEnv scope X.env.globals cl [] X.env.qual none .none (some X.env)) (fun cenv s₄ =>
   codeAny (model X.prog X.w) X.A (.compStart (zBv elt t1 i1 f1 t2 i2 f2 scope pos) 0 (.ref it) acc { cenv with scope:=relabel scope X.env }) (RR acc cenv.locals) s₄) E s₃) E s:=by
 have ob : ∀ b : Nat,b ∈ fp -> b < s.heap.objs.size:=fun b hb => let ⟨_,e,_⟩:=T.obj 0 _ st b hb; zU8 e;refine zVQ (zDJ ?_);have sz1 : (s.heap.push (zu [] 0)).objs.size = s.heap.objs.size + 1:=zVd ..;have I4:=zFe (X:=X) (zB:=zB) (σ:=σ) (σc:=clr own σ) (H:=H) (s:=s) (scope:=scope) (cl:=cl) (fp:=fp) C.sc I hf ob c1 c2 (zBs own σ) (fun i x v h1 h2 h3 => by
  obtain ⟨a,b⟩:=zDD own σ i v h2;rcases C.nm i x h1 with z | z | z
  ·exact absurd z b
  ·exact absurd (zCi x z) h3
  ·exact ⟨z,a⟩) (zu [] 0) (by intro v z; cases z) rfl rfl
 have st4 : tn 0 (pushCells ((s.heap.push (zu [] 0)).push { cls:=.type "dict", data:=.dict #[] }) scope.names):=T.keep 0 _ _ st fun b _ o e => pushCells_keeps _ _ b o (zUy _ (zUy _ e));dsimp only;unfold newEnv;dsimp only;rw [sz1];have hDfp : s.heap.objs.size ∉ fp:=fun z => zVf _ (ob _ z);have hcD : ∀ x c,(zV X zB scope cl s H fp).env.cells.lookup x = some c -> c ≠ s.heap.objs.size:=fun x c e z => by
  obtain ⟨v,o,ho,hd⟩:=I4.cell x c e;obtain ⟨q,_⟩:=I4.pin (s.heap.objs.size,zu [] 0) (by simp);rw [z,q] at ho;cases ho; cases hd
 have fpk : ∀ {H' : Hp} {pl : List (Addr × Obj)},(∀ b ∈ fp,H' b = none) -> (∀ p ∈ pl,p.1 = s.heap.objs.size) -> ∀ b ∈ fp,zCr (zV X zB scope cl s H fp) pl H' b:=fun {H' pl} hn hp b hb =>
  ⟨hn b hb,(I4.ok.exf b hb).1,I4.ok.exfs b hb,.inl hb,(I4.ok.exf b hb).2,fun p hq => by
   rcases zVN.mp hq with z | z
   ·exact (hf b hb).2.2.2.2.2 p z
   ·intro e;have e2:=hp p z;rw [e] at e2;exact hDfp (e2 ▸ hb)⟩
 have loop : codeAny (model X.prog X.w) X.A (.compLoop (zBv elt t1 i1 f1 t2 i2 f2 scope pos) 0 (.ref it) (.ref s.heap.objs.size) (zV X zB scope cl s H fp).env) (RR (.ref s.heap.objs.size) (s.heap.objs.size + 1))
   { s with heap:=pushCells ((s.heap.push (zu [] 0)).push { cls:=.type "dict", data:=.dict #[] }) scope.names }:=by
  refine zIC hs2 (fun n s' => ∃ i H' ys its k,Inv (zV X zB scope cl s H fp) [(s.heap.objs.size,zu its k)] (clr own σ) H' s' /\ zo ys its /\ tn i s'.heap /\ (∀ b ∈ fp,H' b = none) /\ W i n ys H') ?_ m0
   ⟨0,H,[],[],0,I4,.nil,st4,fun b hb => (hf b hb).1,w0⟩
  rintro n s5 ⟨i,H5,ys,its,k,I5,r5,st5,f5,w5⟩;have pinD : ∀ p ∈ [(s.heap.objs.size,zu its k)],p.1 = s.heap.objs.size:=fun p hp => by
   have : p = (s.heap.objs.size,zu its k):=by simpa using hp
   rw [this]
  rcases turn i n ys H5 w5 with ⟨stop,hz,qq⟩ | ⟨go,step⟩
  ·refine thn (T.done (zV X zB scope cl s H fp) rfl rfl rfl hcalm i _ s5 _ H5 _ I5 (fpk f5 pinD) st5 stop) fun r s6 ⟨hr,I6⟩ => ?_;subst hr;exact fin _ H5 s6 its k ys I6 r5 hz qq
  ·refine thn (T.item (zV X zB scope cl s H fp) rfl rfl rfl hcalm i _ s5 _ H5 _ I5 (fpk f5 pinD) st5 go) fun r s6 ⟨u,hr,h6⟩ => ?_;subst hr;refine thn h6 fun _ s7 ⟨x,H7,I7,r7,y7,st7,f7⟩ => ?_;have I7':=I7.pinned (fpk f7 pinD) (T.obj _ _ st7);refine thn (hg _ s7 _ H7 x u _ I7' r7 (step x H7 y7)) fun _ s8 ⟨σ8,H8,I8,x8,q8⟩ => ?_;refine thn (hi _ s8 σ8 H8 _ I8 q8) fun ok s9 ⟨H9,I9,q9⟩ => ?_;have back : ∀ {σx : St} {s' : Shared} {Hx : Hp} {its : List Value} {k : Nat},(clr own σ).length = σx.length -> (∀ (i : Nat) v,(clr own σ)[i]? = some (some v) -> σx[i]? = some (some v)) -> Inv (zV X zB scope cl s H fp) (zDV fp s7.heap ++ [(s.heap.objs.size,zu its k)]) σx Hx s' -> Inv (zV X zB scope cl s H fp) [(s.heap.objs.size,zu its k)] (clr own σ) Hx s' /\ tn (i + 1) s'.heap /\ ∀ b ∈ fp,Hx b = none:=fun {σx s' Hx its k} hl hk Ix =>
    ⟨(Ix.weak hl hk).pins_of fun p hp => Ix.pin p (zVH _ (zVH _ hp)),
     T.keep _ _ _ st7 fun b hb o e => (Ix.pin (b,o) (zVH _ (zWC _ (zAb hb e)))).1,fun b hb => by
     obtain ⟨o,e,d⟩:=T.obj _ _ st7 b hb;exact (Ix.pin (b,o) (zVH _ (zWC _ (zAb hb e)))).2.1⟩
   have I9' : Inv (zV X zB scope cl s H fp) (zDV fp s7.heap ++ [(s.heap.objs.size,zu its k)]) σ8 H9 s9:=I9.pins_of fun p hp => I9.pin p (zVH _ (by
    rcases zVN.mp hp with z | z
    ·exact zVH _ z
    ·exact zWC _ z))
   cases ok with
   | false =>
    obtain ⟨m',hm,w'⟩:=q9;obtain ⟨b0,b1,b2⟩:=back (by rw [x8.1]) x8.2 I9';exact ⟨m',hm,i + 1,H9,ys,its,k,b0,r5,b1,b2,w'⟩
   | true =>
    refine zPu (C:=zV X zB scope cl s H fp) rfl hcalm hi2 hg2 hc2 he (zU3 _) hcD (fun p hp => ?_) I9' r5 q9 fun s' H' its' k' zs I' rv' q' => ?_
    ·rcases zVN.mp hp with z | z
     ·exact zVI (zU8 (I.pin p z).1)
     ·obtain ⟨hb,_⟩:=zIT z;exact zVI (ob _ hb)
    ·obtain ⟨m',hm,w'⟩:=q';obtain ⟨b0,b1,b2⟩:=back (by rw [zBs own2,x8.1]) (fun i v hv => by rw [zKR own2 _ i (fun z => (zDD own σ i v hv).2 (hsub i z))]; exact x8.2 i v hv) I';exact ⟨rfl,m',hm,i + 1,H',zs,its',k',b0,rv',b1,b2,w'⟩
 exact codeAny_compStart_list loop (T.self _ 0 _ _ _ st4 loop)
def zPL (own own2 : List Nat) (wi : TI) (g : TG) (tc : TT) (wi2 : TI) (g2 : TG) (tc2 : TT) (te : TE) : TE:=fun σ H Q => wi σ H fun J H1 => ∃ W : Nat -> Nat -> List V -> Hp -> Prop,(∃ m,W 0 m [] H1) /\ ∀ i m ys H,W i m ys H ->
 (J.stop i H /\ ys.length <= sizeLine /\ ∀ D,H D = none -> Q (.ref D) (upd H D (.lst ys))) \/
 (J.go i H /\ ∀ x H',J.yld i H x H' -> g x (clr own σ) H' fun σ2 H2 => Ext (clr own σ) σ2 /\ tc σ2 H2 fun b H3 =>
  if b = true then tIn own2 wi2 g2 tc2 te σ2 H3 ys fun zs H4 => ∃ m',m' < m /\ W (i + 1) m' zs H4 else ∃ m',m' < m /\ W (i + 1) m' ys H3)
structure CompParts2 (X : Cx) (scope : Scope) (t1 : Expr) (f1 : List Expr) (t2 i2 : Expr) (f2 : List Expr) (elt : Expr) (g : TG) (tc : TT) (wi2 : TI) (g2 : TG) (tc2 : TT) (te : TE) : Prop where
 g : ∀ zB cl s H fp,PG (zV X zB scope cl s H fp) t1 g
 c : ∀ zB cl s H fp,zGf (zV X zB scope cl s H fp) f1 tc
 w2 : ∀ zB cl s H fp,PI (zV X zB scope cl s H fp) t2 i2 wi2
 g2 : ∀ zB cl s H fp,PG (zV X zB scope cl s H fp) t2 g2
 c2 : ∀ zB cl s H fp,zGf (zV X zB scope cl s H fp) f2 tc2
 e : ∀ zB cl s H fp,PE (zV X zB scope cl s H fp) elt te
 s2 : ∀ zB cl s H fp x,foldedSetIterable i2 (zV X zB scope cl s H fp).env x = pure x
theorem zP8 (hsub : ∀ i ∈ own2,i ∈ own) (C : CompIn X scope own) (hcalm : X.calm = true) (hi : PI X t1 i1 wi) (p : CompParts2 X scope t1 f1 t2 i2 f2 elt g tc wi2 g2 tc2 te) (hs : ∀ x,foldedSetIterable i1 X.env x = pure x:=by intro _; rfl) :
  PE X (zBv elt t1 i1 f1 t2 i2 f2 scope pos) (zPL own own2 wi g tc wi2 g2 tc2 te):=by
 intro zB s σ H Q I h;obtain ⟨cl,hcl,c1,c2⟩:=C.sc.closure I;rw [eval_ListComp];refine zWr (use:=none) rfl hs hcl C.sc.kind C.sc.names (thn (hi zB s σ H _ I h) fun v s1 h1 => thn h1 fun itv s2 h2 => ?_);obtain ⟨it,fp,tn,J,H2,e,I2,T,st2,f2,W,⟨m0,w0⟩,turn⟩:=h2;subst e;refine zKk hsub C hcalm I2 T st2 f2 c1 c2 (p.g _ _ _ _ _) (p.c _ _ _ _ _) (p.w2 _ _ _ _ _) (p.g2 _ _ _ _ _) (p.c2 _ _ _ _ _) (p.e _ _ _ _ _) (p.s2 _ _ _ _ _) (RR:=fun acc C r s' => compPost (model X.prog X.w) X.A X.xe none (EP X zB σ Q) acc C r s') (QQ:=fun ys H => ∀ D,H D = none -> Q (.ref D) (upd H D (.lst ys))) w0 turn ?_;intro σc H' s' its n ys Ic rv hz qq;obtain ⟨m,hn,_⟩:=Ic.loc;refine ⟨m,hn,fun h' hs' => ?_⟩;obtain ⟨J',nD⟩:=zH0 I2 f2 Ic rv hz hs';exact ⟨.ref s2.heap.objs.size,_,J',rfl,qq _ nD⟩
end
end L2
namespace L3
open PySem PySem.Spec PyProof.Rows L2
abbrev Sv:=List (Option V)
set_option genInjectivity true in
inductive D where
 | non | bl (b : Bool) | int (i : Int) | str (x : Str) | tup (xs : List D) | ref (n : Nat)
set_option genInjectivity true in
inductive MO where
 | lst (xs : List D) | fro (xs : List D) | dict (kvs : List (D × D)) | dicT (kvs : List (D × D)) | set (xs : List D)
mutual
def Rep (L : List Addr) (H : Hp) : D -> V -> Prop
 | .non,v => v = .non
 | .bl b,v => v = .bl b
 | .int i,v => v = .int i
 | .str x,v => v = .str x
 | .tup ds,v => ∃ a vs,v = .ref a /\ H a = some (.tup vs) /\ zZ L H ds vs
 | .ref n,v => ∃ a,v = .ref a /\ L[n]? = some a
def zZ (L : List Addr) (H : Hp) : List D -> List V -> Prop
 | [],vs => vs = []
 | d :: ds,vs => ∃ v r,vs = v :: r /\ Rep L H d v /\ zZ L H ds r
end
theorem zZ.length : ∀ {ds : List D} {vs : List V},zZ L H ds vs -> vs.length = ds.length
 | [],_,h => by unfold zZ at h; subst h; rfl
 | d :: ds,_,h => by
  unfold zZ at h;obtain ⟨v,r,rfl,_,h2⟩:=h;simp [zZ.length h2]
theorem zZ.nil : zZ L H [] []:=by unfold zZ; rfl
theorem zZ.cons (h : Rep L H d v) (t : zZ L H ds vs) : zZ L H (d :: ds) (v :: vs):=by
 unfold zZ; exact ⟨v,vs,rfl,h,t⟩
theorem zZ.get : ∀ {ds : List D} {vs : List V} {i : Nat} {d : D},zZ L H ds vs -> ds[i]? = some d -> ∃ v,vs[i]? = some v /\ Rep L H d v
 | [],_,_,_,_,e => by simp at e
 | d :: ds,_,0,d',h,e => by
  unfold zZ at h;obtain ⟨v,r,rfl,h1,h2⟩:=h;simp at e; subst e;exact ⟨v,rfl,h1⟩
 | d :: ds,_,i + 1,d',h,e => by
  unfold zZ at h;obtain ⟨v,r,rfl,h1,h2⟩:=h;obtain ⟨u,e1,e2⟩:=zZ.get (i:=i) h2 (by simpa using e);exact ⟨u,by simpa using e1,e2⟩
theorem zZ.app : ∀ {ds es : List D} {vs ws : List V},zZ L H ds vs -> zZ L H es ws -> zZ L H (ds ++ es) (vs ++ ws)
 | [],_,_,_,h,t => by unfold zZ at h; subst h; exact t
 | d :: ds,_,_,_,h,t => by
  unfold zZ at h;obtain ⟨v,r,rfl,h1,h2⟩:=h;exact .cons h1 (zZ.app h2 t)
theorem zZ.set (h : Rep L H d v) : ∀ {ds : List D} {vs : List V} (i : Nat),zZ L H ds vs -> zZ L H (ds.set i d) (vs.set i v)
 | [],_,_,t => by unfold zZ at t; subst t; exact .nil
 | _ :: _,_,0,t => by
  unfold zZ at t;obtain ⟨v',r,rfl,h1,h2⟩:=t;exact .cons h h2
 | _ :: _,_,i + 1,t => by
  unfold zZ at t;obtain ⟨v',r,rfl,h1,h2⟩:=t;exact .cons h1 (zZ.set h i h2)
theorem zZ.drop : ∀ {ds : List D} {vs : List V} (n : Nat),zZ L H ds vs -> zZ L H (ds.drop n) (vs.drop n)
 | _,_,0,t => t
 | [],_,n + 1,t => by unfold zZ at t; subst t; exact .nil
 | _ :: _,_,n + 1,t => by
  unfold zZ at t;obtain ⟨v',r,rfl,h1,h2⟩:=t;exact zZ.drop n h2
theorem zZ.take : ∀ {ds : List D} {vs : List V} (n : Nat),zZ L H ds vs -> zZ L H (ds.take n) (vs.take n)
 | _,_,0,t => .nil
 | [],_,n + 1,t => by unfold zZ at t; subst t; exact .nil
 | _ :: _,_,n + 1,t => by
  unfold zZ at t;obtain ⟨v',r,rfl,h1,h2⟩:=t;exact .cons h1 (zZ.take n h2)
theorem zZ.eraseIdx : ∀ {ds : List D} {vs : List V} (n : Nat),zZ L H ds vs -> zZ L H (ds.eraseIdx n) (vs.eraseIdx n)
 | [],_,n,t => by unfold zZ at t; subst t; exact .nil
 | _ :: _,_,0,t => by
  unfold zZ at t;obtain ⟨v',r,rfl,h1,h2⟩:=t;exact h2
 | _ :: _,_,n + 1,t => by
  unfold zZ at t;obtain ⟨v',r,rfl,h1,h2⟩:=t;exact .cons h1 (zZ.eraseIdx n h2)
structure Stp (L : List Addr) (H : Hp) (L' : List Addr) (H' : Hp) : Prop where
 pre : ∃ N,L' = L ++ N
 new : ∀ a ∈ L',a ∈ L \/ H a = none
 old : ∀ a o,H a = some o -> a ∉ L -> H' a = some o
 tup : ∀ a xs,H a = some (.tup xs) -> H' a = some (.tup xs)
 frz : ∀ a o u,H a = some (.frz o u) -> H' a = some (.frz o u)
theorem Stp.refl (L : List Addr) (H : Hp) : Stp L H L H:=⟨⟨[],by simp⟩,fun _ h => .inl h,fun _ _ h _ => h,fun _ _ h => h,fun _ _ _ h => h⟩
theorem Stp.trans (a : Stp L H L1 H1) (b : Stp L1 H1 L2 H2) : Stp L H L2 H2:=by
 obtain ⟨N,rfl⟩:=a.pre;obtain ⟨N',rfl⟩:=b.pre;have back : ∀ c,c ∉ L -> H1 c = none -> H c = none:=fun c hc h1 => by
  cases q : H c with
  | none => rfl
  | some o => rw [a.old c o q hc] at h1; cases h1
 refine ⟨⟨N ++ N',by simp⟩,fun c hc => ?_,fun c o e hc => ?_,fun c xs e => b.tup c xs (a.tup c xs e),fun c o u e => b.frz c o u (a.frz c o u e)⟩
 ·by_cases hL : c ∈ L
  ·exact .inl hL
  ·rcases b.new c hc with z | z
   ·exact a.new c z
   ·exact .inr (back c hL z)
 ·refine b.old c o (a.old c o e hc) fun z => ?_;rcases a.new c z with q | q
  ·exact hc q
  ·rw [q] at e; cases e
theorem Stp.grow (h : ∀ a o,H a = some o -> H' a = some o) : Stp L H L H':=⟨⟨[],by simp⟩,fun _ h => .inl h,fun a o e _ => h a o e,fun a _ e => h a _ e,fun a _ _ e => h a _ e⟩
theorem Stp.upd (h : H p = none) : Stp L H L (upd H p o):=.grow fun a u e => by rw [zk (zAa e h)]; exact e
theorem zB0 {L N : List Addr} {n : Nat} {a : Addr} (h : L[n]? = some a) : (L ++ N)[n]? = some a:=by
 rw [zU4 (zU0.mp h).1]; exact h
mutual
theorem Rep.stp {L L' : List Addr} {H H' : Hp} (s : Stp L H L' H') : ∀ {d : D} {v : V},Rep L H d v -> Rep L' H' d v
 | .non,_,h => by unfold Rep at h ⊢; exact h
 | .bl _,_,h => by unfold Rep at h ⊢; exact h
 | .int _,_,h => by unfold Rep at h ⊢; exact h
 | .str _,_,h => by unfold Rep at h ⊢; exact h
 | .tup ds,_,h => by
  unfold Rep at h ⊢;obtain ⟨a,vs,rfl,e,r⟩:=h;exact ⟨a,vs,rfl,s.tup a vs e,zZ.stp s r⟩
 | .ref n,_,h => by
  unfold Rep at h ⊢;obtain ⟨a,rfl,e⟩:=h;obtain ⟨N,rfl⟩:=s.pre;exact ⟨a,rfl,zB0 e⟩
theorem zZ.stp (s : Stp L H L' H') : ∀ {ds : List D} {vs : List V},zZ L H ds vs -> zZ L' H' ds vs
 | [],_,h => by unfold zZ at h ⊢; exact h
 | d :: ds,_,h => by
  unfold zZ at h ⊢;obtain ⟨v,r,rfl,h1,h2⟩:=h;exact ⟨v,r,rfl,Rep.stp s h1,zZ.stp s h2⟩
end
def zHN : D -> Option Key
 | .int i => some (.inl i)
 | .str x => some (.inr x)
 | _ => none
def zHk : List D -> Option (List Key)
 | [] => some []
 | d :: r => match zHN d,zHk r with
  | some k,some ks => some (k :: ks)
  | _,_ => none
def tkD : D -> Option (List Key)
 | .tup ds => zHk ds
 | _ => none
def zBg {κ : Type} (kf : D -> Option κ) (L : List Addr) (H : Hp) : List (D × D) -> List (κ × V) -> Prop
 | [],vs => vs = []
 | p :: r,vs => ∃ k v r',vs = (k,v) :: r' /\ kf p.1 = some k /\ Rep L H p.2 v /\ zBg kf L H r r'
theorem zBg.stp {κ : Type} {kf : D -> Option κ} {L L' : List Addr} {H H' : Hp} (s : Stp L H L' H') : ∀ {ps : List (D × D)} {vs : List (κ × V)},zBg kf L H ps vs -> zBg kf L' H' ps vs
 | [],_,h => h
 | p :: r,_,h => by
  obtain ⟨k,v,r',rfl,e,h1,h2⟩:=h;exact ⟨k,v,r',rfl,e,h1.stp s,zBg.stp s h2⟩
theorem zBg.length {κ : Type} {kf : D -> Option κ} {L : List Addr} {H : Hp} : ∀ {ps : List (D × D)} {vs : List (κ × V)},zBg kf L H ps vs -> vs.length = ps.length
 | [],_,h => by unfold zBg at h; subst h; rfl
 | p :: r,_,h => by
  obtain ⟨k,v,r',rfl,e,h1,h2⟩:=h;simp [zBg.length h2]
def zHB (K : PySem.W.Frag) (L : List Addr) (H : Hp) (a : Addr) : MO -> Prop
 | .lst xs => ∃ vs,H a = some (.lst vs) /\ zZ L H xs vs
 | .fro xs => ∃ o vs,H a = some (.frz o (.lst vs)) /\ zZ L H xs vs
 | .dict ps => ∃ vs,H a = some (.dK vs) /\ zBg zHN L H ps vs
 | .dicT ps => ∃ vs,H a = some (.dT vs) /\ zBg tkD L H ps vs
 | .set _ => False
theorem zHB.there {K : PySem.W.Frag} {L : List Addr} {H : Hp} {a : Addr} {m : MO} (h : zHB K L H a m) : ∃ o,H a = some o:=by
 cases m with
 | lst xs => obtain ⟨vs,e,_⟩:=h; exact ⟨_,e⟩
 | fro xs => obtain ⟨o,vs,e,_⟩:=h; exact ⟨_,e⟩
 | dict ps => obtain ⟨vs,e,_⟩:=h; exact ⟨_,e⟩
 | dicT ps => obtain ⟨vs,e,_⟩:=h; exact ⟨_,e⟩
 | set _ => exact h.elim
theorem zHB.stp {K : PySem.W.Frag} {L L' : List Addr} {H H' : Hp} {a : Addr} {m : MO} (s : Stp L H L' H') (hk : ∀ o,H a = some o -> H' a = some o) (h : zHB K L H a m) : zHB K L' H' a m:=by
 cases m with
 | lst xs => obtain ⟨vs,e,r⟩:=h; exact ⟨vs,hk _ e,r.stp s⟩
 | fro xs => obtain ⟨o,vs,e,r⟩:=h; exact ⟨o,vs,hk _ e,r.stp s⟩
 | dict ps => obtain ⟨vs,e,r⟩:=h; exact ⟨vs,hk _ e,r.stp s⟩
 | dicT ps => obtain ⟨vs,e,r⟩:=h; exact ⟨vs,hk _ e,r.stp s⟩
 | set _ => exact h.elim
structure Cor (K : PySem.W.Frag) (L : List Addr) (M : List MO) (H : Hp) : Prop where
 len : L.length = M.length
 nd : L.Nodup
 obj : ∀ (n : Nat) a m,L[n]? = some a -> M[n]? = some m -> zHB K L H a m
def zBz (L : List Addr) (H : Hp) (σ : List (Option D)) (τ : Sv) : Prop:=τ.length = σ.length /\ ∀ (i : Nat) d,σ[i]? = some (some d) -> ∃ v,τ[i]? = some (some v) /\ Rep L H d v
theorem zBz.stp (s : Stp L H L' H') (h : zBz L H σ τ) : zBz L' H' σ τ :=
 ⟨h.1,fun i d e => let ⟨v,e1,r⟩:=h.2 i d e; ⟨v,e1,r.stp s⟩⟩
theorem Cor.tracked {K : PySem.W.Frag} {L : List Addr} {M : List MO} {H : Hp} (c : Cor K L M H) {a : Addr} (h : a ∈ L) : ∃ o,H a = some o:=by
 obtain ⟨n,hn⟩:=List.getElem?_of_mem h;have hl : n < M.length:=by rw [<- c.len]; exact (zU0.mp hn).1
 have m:=c.obj n a M[n] hn (zU1 hl);exact m.there
theorem Cor.grow {K : PySem.W.Frag} {L : List Addr} {M : List MO} {H H' : Hp} (c : Cor K L M H) (h : ∀ a o,H a = some o -> H' a = some o) : Cor K L M H':=by
 exact ⟨c.len,c.nd,fun n a m e1 e2 => (c.obj n a m e1 e2).stp (.grow h) fun o e => h a o e⟩
theorem Cor.upd {K : PySem.W.Frag} {L : List Addr} {M : List MO} {H : Hp} {p : Addr} {o : HO} (c : Cor K L M H) (h : H p = none) : Cor K L M (upd H p o):=c.grow fun a u e => by rw [zk (zAa e h)]; exact e
theorem Cor.write {K : PySem.W.Frag} {L : List Addr} {M : List MO} {H : Hp} {n : Nat} {p : Addr} {xs xs' : List D} {vs' : List V} (c : Cor K L M H) (h1 : L[n]? = some p) (h2 : M[n]? = some (.lst xs)) (r : zZ L H xs' vs') :
  Cor K L (M.set n (.lst xs')) (L2.upd H p (.lst vs')) /\ Stp L H L (L2.upd H p (.lst vs')):=by
 obtain ⟨vs,hp,_⟩:=c.obj n p _ h1 h2;have st : Stp L H L (L2.upd H p (.lst vs')):=by
  refine ⟨⟨[],by simp⟩,fun a ha => .inl ha,fun a o e ha => ?_,fun a o e => ?_,fun a o u e => ?_⟩
  ·rw [zk (show a ≠ p from fun z => ha (by rw [z]; exact List.mem_of_getElem? h1))]; exact e
  ·rw [zk (zG3 e hp (by intro z; cases z))]; exact e
  ·rw [zk (zG3 e hp (by intro z; cases z))]; exact e
 refine ⟨⟨by simp [c.len],c.nd,fun k a m e1 e2 => ?_⟩,st⟩;rw [zWW] at e2;split at e2
 ·rename_i hk;subst hk;rw [h1] at e1; cases e1;split at e2
  ·cases e2; exact ⟨vs',zAg,r.stp st⟩
  ·cases e2
 ·rename_i hk;have hne : a ≠ p:=fun z => hk (by
   subst z;exact (List.getElem?_inj (zU0.mp h1).1 c.nd).mp (h1.trans e1.symm))
  exact (c.obj k a m e1 e2).stp st fun o e => by rw [zk hne]; exact e
set_option genInjectivity true in
inductive EV where
 | dat (d : D) | fl (xs : List D)
def zr (H0 : Hp) (L : List Addr) (H : Hp) : EV -> V -> Prop
 | .dat d,v => Rep L H d v
 | .fl xs,v => ∃ p vs,v = .ref p /\ H0 p = none /\ H p = some (.lst vs) /\ p ∉ L /\ zZ L H xs vs
abbrev Sd:=List (Option D)
abbrev Mem:=List MO
abbrev FE:=Sd -> Mem -> Option (EV × Mem)
abbrev FD:=Sd -> Mem -> Option (D × Mem)
abbrev FT:=Sd -> Mem -> Option (Bool × Mem)
abbrev FA:=Sd -> Mem -> Option (List D × Mem)
theorem Stp.out (s : Stp L H L' H') (h : H p = some o) (hp : p ∉ L) : p ∉ L':=fun z => by
 rcases s.new p z with q | q
 ·exact hp q
 ·rw [h] at q; cases q
theorem zr.stp (s : Stp L H L' H') (h : zr H0 L H e v) : zr H0 L' H' e v:=by
 cases e with
 | dat d => exact Rep.stp s h
 | fl xs =>
  obtain ⟨p,vs,rfl,e0,e1,e2,r⟩:=h;exact ⟨p,vs,rfl,e0,s.old p _ e1 e2,s.out e1 e2,r.stp s⟩
theorem zr.back {H0 H1 : Hp} {L0 L1 L : List Addr} {H : Hp} (s : Stp L0 H0 L1 H1) {M : List MO} {K : PySem.W.Frag} (c : Cor K L0 M H0) {e : EV} {v : V} (h : zr H1 L H e v) (hL : ∀ a ∈ L1,a ∈ L) : zr H0 L H e v:=by
 cases e with
 | dat d => exact h
 | fl xs =>
  obtain ⟨p,vs,rfl,e0,e1,e2,r⟩:=h;refine ⟨p,vs,rfl,?_,e1,e2,r⟩;cases q : H0 p with
  | none => rfl
  | some o =>
   by_cases hp : p ∈ L0
   ·obtain ⟨N,hN⟩:=s.pre;exact absurd (hL p (by rw [hN]; exact zWC _ hp)) e2
   ·rw [s.old p o q hp] at e0; cases e0
section
variable (K : PySem.W.Frag)
def trE (f : FE) : TE:=fun τ H Q => ∃ L σ M d M',Cor K L M H /\ zBz L H σ τ /\ f σ M = some (d,M') /\ ∀ L' H' v,Stp L H L' H' -> Cor K L' M' H' -> zr H L' H' d v -> Q v H'
def trD (f : FD) : TE:=fun τ H Q => ∃ L σ M d M',Cor K L M H /\ zBz L H σ τ /\ f σ M = some (d,M') /\ ∀ L' H' v,Stp L H L' H' -> Cor K L' M' H' -> Rep L' H' d v -> Q v H'
def trT (f : FT) : TT:=fun τ H Q => ∃ L σ M d M',Cor K L M H /\ zBz L H σ τ /\ f σ M = some (d,M') /\ ∀ L' H',Stp L H L' H' -> Cor K L' M' H' -> Q d H'
def trA (f : FA) : TA:=fun τ H Q => ∃ L σ M ds M',Cor K L M H /\ zBz L H σ τ /\ f σ M = some (ds,M') /\ ∀ L' H' vs,Stp L H L' H' -> Cor K L' M' H' -> zZ L' H' ds vs -> Q vs H'
end
section
variable {X : Cx} {e : Expr}
theorem PE.imp (h : PE X e t) (hi : ∀ τ H Q,t' τ H Q -> t τ H Q) : PE X e t':=fun zB s σ H Q I q => h zB s σ H Q I (hi _ _ _ q)
theorem PT.imp (h : PT X e t) (hi : ∀ τ H Q,t' τ H Q -> t τ H Q) : PT X e t':=fun zB s σ H Q I q => h zB s σ H Q I (hi _ _ _ q)
theorem PS.imp {st : Stmt} {t t' : TS} (h : PS X st t) (hi : ∀ D τ H,t' D τ H -> t D τ H) : PS X st t':=fun zB s σ H D I q => h zB s σ H D I (hi _ _ _ q)
theorem PSs.imp {st : List Stmt} {t t' : TS} (h : PSs X st t) (hi : ∀ D τ H,t' D τ H -> t D τ H) : PSs X st t':=fun zB s σ H D I q => h zB s σ H D I (hi _ _ _ q)
structure QE (X : Cx) (e : Expr) (f : FE) : Prop where
 un : PE X e (trE X.K f)
structure QD (X : Cx) (e : Expr) (f : FD) : Prop where
 un : PE X e (trD X.K f)
structure QT (X : Cx) (e : Expr) (f : FT) : Prop where
 un : PT X e (trT X.K f)
structure QA (X : Cx) (es : List Expr) (f : FA) : Prop where
 un : PA X es (trA X.K f)
def toD (f : FE) : FD:=fun σ M => match f σ M with
 | some (.dat d,M') => some (d,M')
 | some (.fl xs,M') => some (.ref M'.length,M' ++ [.lst xs])
 | none => none
mutual
theorem Rep.more (N : List Addr) : ∀ {d : D} {v : V},Rep L H d v -> Rep (L ++ N) H d v
 | .non,_,h => by unfold Rep at h ⊢; exact h
 | .bl _,_,h => by unfold Rep at h ⊢; exact h
 | .int _,_,h => by unfold Rep at h ⊢; exact h
 | .str _,_,h => by unfold Rep at h ⊢; exact h
 | .tup ds,_,h => by
  unfold Rep at h ⊢;obtain ⟨a,vs,rfl,e,r⟩:=h;exact ⟨a,vs,rfl,e,zZ.more N r⟩
 | .ref n,_,h => by
  unfold Rep at h ⊢;obtain ⟨a,rfl,e⟩:=h;exact ⟨a,rfl,zB0 e⟩
theorem zZ.more (N : List Addr) : ∀ {ds : List D} {vs : List V},zZ L H ds vs -> zZ (L ++ N) H ds vs
 | [],_,h => by unfold zZ at h ⊢; exact h
 | d :: ds,_,h => by
  unfold zZ at h ⊢;obtain ⟨v,r,rfl,h1,h2⟩:=h;exact ⟨v,r,rfl,Rep.more N h1,zZ.more N h2⟩
end
theorem zBg.more {κ : Type} {kf : D -> Option κ} {L : List Addr} {H : Hp} (N : List Addr) : ∀ {ps : List (D × D)} {vs : List (κ × V)},zBg kf L H ps vs -> zBg kf (L ++ N) H ps vs
 | [],_,h => h
 | p :: r,_,h => by
  obtain ⟨k,v,r',rfl,e,h1,h2⟩:=h;exact ⟨k,v,r',rfl,e,h1.more N,zBg.more N h2⟩
theorem zHB.more {K : PySem.W.Frag} {L : List Addr} {H : Hp} {a : Addr} {m : MO} (N : List Addr) (h : zHB K L H a m) : zHB K (L ++ N) H a m:=by
 cases m with
 | lst xs => obtain ⟨vs,e,r⟩:=h; exact ⟨vs,e,r.more N⟩
 | fro xs => obtain ⟨o,vs,e,r⟩:=h; exact ⟨o,vs,e,r.more N⟩
 | dict ps => obtain ⟨vs,e,r⟩:=h; exact ⟨vs,e,r.more N⟩
 | dicT ps => obtain ⟨vs,e,r⟩:=h; exact ⟨vs,e,r.more N⟩
 | set _ => exact h.elim
theorem zSA {K : PySem.W.Frag} {L L' : List Addr} {M' : List MO} {H H' : Hp} {p : Addr} {xs : List D} {vs : List V} (s : Stp L H L' H') (c : Cor K L' M' H') (h0 : H p = none) (h1 : H' p = some (.lst vs)) (h2 : p ∉ L') (r : zZ L' H' xs vs) :
  Cor K (L' ++ [p]) (M' ++ [.lst xs]) H' /\ Stp L H (L' ++ [p]) H':=by
 refine ⟨⟨by simp [c.len],?_,fun n a m e1 e2 => ?_⟩,?_⟩
 ·rw [zWB];exact ⟨c.nd,by simp,fun a ha b hb z => by
   have : b = p:=by simpa using hb
   subst this; subst z; exact h2 ha⟩
 ·by_cases hn : n < L'.length
  ·rw [zU4 hn] at e1;rw [zU4 (by rw [<- c.len]; exact hn)] at e2;exact (c.obj n a m e1 e2).more [p]
  ·have hn' : n = L'.length:=by
    have:=(zU0.mp e1).1;rw [zVD] at this;simp at this; omega
   subst hn';simp at e1;rw [c.len] at e2;simp at e2;subst e1; subst e2;exact ⟨vs,h1,r.more [p]⟩
 ·obtain ⟨N,hN⟩:=s.pre;refine ⟨⟨N ++ [p],by rw [hN]; simp⟩,fun a ha => ?_,s.old,s.tup,s.frz⟩;rcases zVN.mp ha with z | z
  ·exact s.new a z
  ·have : a = p:=by simpa using z
   subst this; exact .inr h0
theorem Rep.last {L : List Addr} {M : List MO} {H : Hp} {K : PySem.W.Frag} {p : Addr} (c : Cor K L M H) : Rep (L ++ [p]) H (.ref M.length) (.ref p):=by
 unfold Rep;exact ⟨p,rfl,by rw [<- c.len]; simp⟩
theorem zK {f : FE} (h : QE X e f) : QD X e (toD f):=.mk <| PE.imp h.un fun τ H Q zz => by
 obtain ⟨L,σ,M,d,M',c,rs,hf,q⟩:=zz;unfold toD at hf;split at hf
 ·rename_i d' M1 e1;cases hf;exact ⟨L,σ,M,_,_,c,rs,e1,fun L' H' v s c' r => q L' H' v s c' r⟩
 ·rename_i xs M1 e1;cases hf;refine ⟨L,σ,M,_,_,c,rs,e1,fun L' H' v s c' r => ?_⟩;obtain ⟨p,vs,rfl,e0,e2,e3,r⟩:=r;obtain ⟨c2,s2⟩:=zSA s c' e0 e2 e3 r;exact q _ H' _ s2 c2 (Rep.last c')
 ·cases hf
def zD (i : Nat) : FE:=fun σ M => match σ[i]? with
 | some (some d) => some (.dat d,M)
 | _ => none
theorem zE (h : PE X (.Name x pos) (zSR i)) : QE X (.Name x pos) (zD i):=.mk <| PE.imp h fun τ H Q zz => by
 obtain ⟨L,σ,M,d,M',c,rs,hf,q⟩:=zz;unfold zD at hf;split at hf
 ·rename_i d' e1;cases hf;obtain ⟨v,e2,r⟩:=rs.2 i d' e1;exact ⟨v,e2,q L H v (.refl L H) c r⟩
 ·cases hf
def fC (d : D) : FE:=fun _ M => some (.dat d,M)
theorem zJp (hd : ∀ L H,Rep L H d v) (h : PE X e (tC v)) : QE X e (fC d):=.mk <| PE.imp h fun τ H Q zz => by
 obtain ⟨L,σ,M,d',M',c,rs,hf,q⟩:=zz;unfold fC at hf;cases hf;exact q L H v (.refl L H) c (hd L H)
theorem ze {i j pos} : QE X (.Constant (.int i) j pos) (fC (.int i)):=zJp (fun _ _ => by unfold Rep; rfl) zS5
theorem zO8 {b j pos} : QE X (.Constant (.bool b) j pos) (fC (.bl b)):=zJp (fun _ _ => by unfold Rep; rfl) zTa
theorem zRu {j pos} : QE X (.Constant .none j pos) (fC .non):=zJp (fun _ _ => by unfold Rep; rfl) zTM
def zS : FA:=fun _ M => some ([],M)
def zI (f : FD) (g : FA) : FA:=fun σ M => match f σ M with
 | some (d,M1) => match g σ M1 with
  | some (ds,M2) => some (d :: ds,M2)
  | none => none
 | none => none
theorem PA.imp (h : PA X es t) (hi : ∀ τ H Q,t' τ H Q -> t τ H Q) : PA X es t':=fun pos zB s σ H Q I q => h pos zB s σ H Q I (hi _ _ _ q)
theorem zN : QA X [] zS:=.mk <| PA.imp zGJ fun τ H Q zz => by
 obtain ⟨L,σ,M,d,M',c,rs,hf,q⟩:=zz;unfold zS at hf;cases hf;exact q L H [] (.refl L H) c .nil
theorem zH (h1 : QD X e f) (h2 : QA X es g) (hs : starEach (e :: es) X.env = (false,eval e X.env) :: starEach es X.env:=by rfl) : QA X (e :: es) (zI f g) :=
 .mk <| PA.imp (zEr h1.un h2.un hs) fun τ H Q zz => by
  obtain ⟨L,σ,M,d,M',c,rs,hf,q⟩:=zz;unfold zI at hf;split at hf
  ·rename_i d1 M1 e1;split at hf
   ·rename_i ds M2 e2;cases hf;refine ⟨L,σ,M,_,_,c,rs,e1,fun L1 H1 v s1 c1 r1 => ⟨L1,σ,M1,_,_,c1,rs.stp s1,e2,fun L2 H2 vs s2 c2 r2 => ?_⟩⟩;exact q L2 H2 _ (s1.trans s2) c2 (.cons (r1.stp s2) r2)
   ·cases hf
  ·cases hf
def zCZ (g : FA) : FE:=fun σ M => match g σ M with
 | some (ds,M1) => if ds.length <= sizeLine then some (.dat (.tup ds),M1) else none
 | none => none
def zAh (g : FA) : FE:=fun σ M => match g σ M with
 | some (ds,M1) => if ds.length <= sizeLine then some (.fl ds,M1) else none
 | none => none
theorem Rep.newTup (h : H p = none) (r : zZ L H ds vs) : Rep L (upd H p (.tup vs)) (.tup ds) (.ref p):=by
 unfold Rep;exact ⟨p,vs,rfl,zAg,r.stp (.upd h)⟩
theorem zEG {x1 pos} (h : QA X es g) : QE X (.Tuple es x1 pos) (zCZ g):=.mk <| PE.imp (zTF h.un) fun τ H Q zz => by
 obtain ⟨L,σ,M,d,M',c,rs,hf,q⟩:=zz;unfold zCZ at hf;split at hf
 ·rename_i ds M1 e1;split at hf
  ·rename_i hz;cases hf;refine ⟨L,σ,M,_,_,c,rs,e1,fun L1 H1 vs s1 c1 r1 => ⟨by rw [r1.length]; exact hz,fun p hp => ?_⟩⟩;exact q L1 _ _ (s1.trans (.upd hp)) (c1.upd hp) (Rep.newTup hp r1)
  ·cases hf
 ·cases hf
theorem zN8 {L L1 : List Addr} {H H1 : Hp} {K : PySem.W.Frag} {M M1 : List MO} (s : Stp L H L1 H1) (c : Cor K L M H) (c1 : Cor K L1 M1 H1) {p : Addr} (hp : H1 p = none) : H p = none /\ p ∉ L1:=by
 have hp1 : p ∉ L1:=fun z => by obtain ⟨o,e⟩:=c1.tracked z; rw [hp] at e; cases e
 refine ⟨?_,hp1⟩;cases q : H p with
 | none => rfl
 | some o =>
  have : p ∉ L:=fun z => hp1 (by obtain ⟨N,hN⟩:=s.pre; rw [hN]; exact zWC _ z);rw [s.old p o q this] at hp; cases hp
theorem zr.newLst {L L1 : List Addr} {H H1 : Hp} {K : PySem.W.Frag} {M M1 : List MO} {p : Addr} {ds : List D} {vs : List V} (s : Stp L H L1 H1) (c : Cor K L M H) (c1 : Cor K L1 M1 H1) (hp : H1 p = none) (r : zZ L1 H1 ds vs) :
  zr H L1 (upd H1 p (.lst vs)) (.fl ds) (.ref p):=by
 obtain ⟨a,b⟩:=zN8 s c c1 hp;exact ⟨p,vs,rfl,a,zAg,b,r.stp (.upd hp)⟩
theorem zCP {pos} (h : QA X es g) : QE X (.List es pos) (zAh g):=.mk <| PE.imp (zTP h.un) fun τ H Q zz => by
 obtain ⟨L,σ,M,d,M',c,rs,hf,q⟩:=zz;unfold zAh at hf;split at hf
 ·rename_i ds M1 e1;split at hf
  ·rename_i hz;cases hf;refine ⟨L,σ,M,_,_,c,rs,e1,fun L1 H1 vs s1 c1 r1 => ⟨by rw [r1.length]; exact hz,fun p hp => ?_⟩⟩;exact q L1 _ _ (s1.trans (.upd hp)) (c1.upd hp) (zr.newLst s1 c c1 hp r1)
  ·cases hf
 ·cases hf
end
abbrev FAE:=Sd -> Mem -> Option (List EV × Mem)
def zDF (H0 : Hp) (L : List Addr) (H : Hp) : List EV -> List V -> Prop
 | [],vs => vs = []
 | e :: es,vs => ∃ v r,vs = v :: r /\ zr H0 L H e v /\ zDF H0 L H es r
theorem Stp.sub (s : Stp L H L' H') : ∀ a ∈ L,a ∈ L':=fun a h => by
 obtain ⟨N,hN⟩:=s.pre;rw [hN]; exact zWC _ h
theorem zDF.back {H0 H1 : Hp} {L0 L1 L : List Addr} {H : Hp} (s : Stp L0 H0 L1 H1) {M : List MO} {K : PySem.W.Frag} (c : Cor K L0 M H0) (hL : ∀ a ∈ L1,a ∈ L) : ∀ {es : List EV} {vs : List V},zDF H1 L H es vs -> zDF H0 L H es vs
 | [],_,h => h
 | e :: es,_,h => by
  obtain ⟨v,r,rfl,h1,h2⟩:=h;exact ⟨v,r,rfl,h1.back s c hL,zDF.back s c hL h2⟩
def zUL (K : PySem.W.Frag) (f : FAE) : TA:=fun τ H Q => ∃ L σ M ds M',Cor K L M H /\ zBz L H σ τ /\ f σ M = some (ds,M') /\ ∀ L' H' vs,Stp L H L' H' -> Cor K L' M' H' -> zDF H L' H' ds vs -> Q vs H'
structure QAE (X : Cx) (es : List Expr) (f : FAE) : Prop where
 un : PA X es (zUL X.K f)
section
variable {X : Cx} {a b e : Expr} {es : List Expr} {pos : Pos}
def zAC : FAE:=fun _ M => some ([],M)
def zg (f : FE) (g : FAE) : FAE:=fun σ M => match f σ M with
 | some (d,M1) => match g σ M1 with
  | some (ds,M2) => some (d :: ds,M2)
  | none => none
 | none => none
theorem zAE : QAE X [] zAC:=.mk <| PA.imp zGJ fun τ H Q zz => by
 obtain ⟨L,σ,M,d,M',c,rs,hf,q⟩:=zz;unfold zAC at hf;cases hf;exact q L H [] (.refl L H) c rfl
theorem zn (h1 : QE X e f) (h2 : QAE X es g) (hs : starEach (e :: es) X.env = (false,eval e X.env) :: starEach es X.env:=by rfl) : QAE X (e :: es) (zg f g) :=
 .mk <| PA.imp (zEr h1.un h2.un hs) fun τ H Q zz => by
  obtain ⟨L,σ,M,d,M',c,rs,hf,q⟩:=zz;unfold zg at hf;split at hf
  ·rename_i d1 M1 e1;split at hf
   ·rename_i ds M2 e2;cases hf;refine ⟨L,σ,M,_,_,c,rs,e1,fun L1 H1 v s1 c1 r1 => ⟨L1,σ,M1,_,_,c1,rs.stp s1,e2,fun L2 H2 vs s2 c2 r2 => ?_⟩⟩;exact q L2 H2 _ (s1.trans s2) c2 ⟨v,vs,rfl,r1.stp s2,r2.back s1 c s2.sub⟩
   ·cases hf
  ·cases hf
abbrev K2:=EV -> EV -> Mem -> Option (EV × Mem)
def zDk (K : PySem.W.Frag) (r : R2) (k : K2) : Prop:=∀ {L : List Addr} {M M' : Mem} {H H0 : Hp} {x y d : EV} {v w : V} {Q : VK},Cor K L M H -> zr H0 L H x v -> zr H0 L H y w -> k x y M = some (d,M') ->
 (∀ L' H' u,Stp L H L' H' -> Cor K L' M' H' -> zr H L' H' d u -> Q u H') -> r v w H Q
def fOp (k : K2) (f g : FE) : FE:=fun σ M => match f σ M with
 | some (x,M1) => match g σ M1 with
  | some (y,M2) => k x y M2
  | none => none
 | none => none
theorem zDM {K : PySem.W.Frag} {r : R2} {k : K2} {f g : FE} (hk : zDk K r k) {τ : Sv} {H : Hp} {Q : VK} (h : trE K (fOp k f g) τ H Q) : tOp r (trE K f) (trE K g) τ H Q:=by
 obtain ⟨L,σ,M,d,M',c,rs,hf,q⟩:=h;unfold fOp at hf;split at hf
 ·rename_i x M1 e1;split at hf
  ·rename_i y M2 e2;refine ⟨L,σ,M,_,_,c,rs,e1,fun L1 H1 v s1 c1 r1 => ⟨L1,σ,M1,_,_,c1,rs.stp s1,e2,fun L2 H2 w s2 c2 r2 => ?_⟩⟩;refine hk (H0:=H) c2 (r1.stp s2) (r2.back s1 c s2.sub) hf fun L3 H3 u s3 c3 r3 => ?_;exact q L3 H3 u ((s1.trans s2).trans s3) c3 (r3.back (s1.trans s2) c s3.sub)
  ·cases hf
 ·cases hf
theorem zL9 (hk : zDk X.K r k) (ho : OpR X (binaryOp op) r) (h1 : QE X a f) (h2 : QE X b g) : QE X (.BinOp a op b pos) (fOp k f g):=.mk <| PE.imp (zUD ho h1.un h2.un) fun _ _ _ h => zDM hk h
theorem zTl (hk : zDk X.K r k) (ho : OpR X (compareOp op) r) (h1 : QE X a f) (h2 : QE X b g) (hm : behindInMarks op b = false) : QE X (.Compare a [op] [b] pos) (fOp k f g) :=
 .mk <| PE.imp (zQ4 ho h1.un h2.un hm) fun _ _ _ h => zDM hk h
def tst (f : FE) : FT:=fun σ M => match f σ M with
 | some (.dat (.bl c),M') => some (c,M')
 | _ => none
theorem zEs {K : PySem.W.Frag} {f : FE} {τ : Sv} {H : Hp} {Q : Bool -> Hp -> Prop} (h : trT K (tst f) τ H Q) : zMl (trE K f) τ H Q:=by
 obtain ⟨L,σ,M,d,M',c,rs,hf,q⟩:=h;unfold tst at hf;split at hf
 ·rename_i k M1 e1;cases hf;refine ⟨L,σ,M,_,_,c,rs,e1,fun L1 H1 v s1 c1 r1 => ?_⟩;have : v = .bl d:=by unfold zr Rep at r1; exact r1
  exact ⟨d,this,q L1 H1 s1 c1⟩
 ·cases hf
theorem zFG (h : ∀ τ H Q,t τ H Q -> t' τ H Q) (q : zMl t τ H Q) : zMl t' τ H Q:=h _ _ _ q
theorem zE9 {op : CmpOp} {r : R2} {k : K2} {f g : FE} (hk : zDk X.K r k) (ho : OpR X (compareOp op) r) (h1 : QE X a f) (h2 : QE X b g) (hm : behindInMarks op b = false) : QT X (.Compare a [op] [b] pos) (tst (fOp k f g)) :=
 .mk <| PT.imp (zQk ho h1.un h2.un hm) fun _ _ _ h => zFG (fun _ _ _ z => zDM hk z) (zEs h)
theorem zSC (h : QE X e f) (he : ∀ whole,isTrue e X.env whole = (do let v <- whole; standAt e.pos; holding [v] (truthy v)):=by intro _; rfl) : QT X e (tst f) :=
 .mk <| PT.imp (zSE h.un he) fun _ _ _ h => zEs h
def kI (C : Int -> Int -> Bool) (g : Int -> Int -> D) : K2:=fun x y M => match x,y with
 | .dat (.int i),.dat (.int j) => if C i j then some (.dat (g i j),M) else none
 | _,_ => none
def kI0 (g : Int -> Int -> D) : K2:=kI (fun _ _ => true) g
theorem zKh {K : PySem.W.Frag} {C : Int -> Int -> Bool} {C' : Int -> Int -> Prop} {g : Int -> Int -> D} {g' : Int -> Int -> V} (hC : ∀ i j,C i j = true -> C' i j) (hg : ∀ L H i j,Rep L H (g i j) (g' i j)) : zDk K (rI C' g') (kI C g):=by
 intro L M M' H H0 x y d v w Q c rx ry hk q;unfold kI at hk;split at hk
 ·rename_i i j;split at hk
  ·rename_i hc;cases hk;refine ⟨i,j,by unfold zr Rep at rx; exact rx,by unfold zr Rep at ry; exact ry,hC i j hc,q L H _ (.refl L H) c (hg L H i j)⟩
  ·cases hk
 ·cases hk
theorem zHl {K : PySem.W.Frag} {g : Int -> Int -> D} {g' : Int -> Int -> V} (hg : ∀ L H i j,Rep L H (g i j) (g' i j)) : zDk K (rI0 g') (kI0 g):=by
 intro L M M' H H0 x y d v w Q c rx ry hk q;obtain ⟨i,j,h1,h2,_,h4⟩:=zKh (C:=fun _ _ => true) (C':=fun _ _ => True) (fun _ _ _ => trivial) hg c rx ry hk q;exact ⟨i,j,h1,h2,h4⟩
theorem zAi : Rep L H (.int i) (.int i):=by unfold Rep; rfl
theorem zC1 : Rep L H (.bl i) (.bl i):=by unfold Rep; rfl
def zNY (i j : Int) : Bool:=(decide (-(2 ^ 64) < i) && decide (i < 2 ^ 64)) || (decide (-(2 ^ 64) < j) && decide (j < 2 ^ 64))
abbrev zUp : K2:=kI0 fun i j => .int (i + j)
abbrev zMG : K2:=kI0 fun i j => .int (i - j)
abbrev zNy : K2:=kI zNY fun i j => .int (i * j)
abbrev zF7 : K2:=kI (fun _ j => decide (0 < j)) fun i j => .int (i % j)
abbrev zNS : K2:=kI (fun _ j => decide (0 < j) && decide (j < 1073741824)) fun i j => .int (i / j)
abbrev zPM : K2:=kI (fun i j => decide (0 <= j) && decide (j <= 1000000) && decide (i.natAbs < 2 ^ 64)) fun i j => .int (i ^ j.toNat)
abbrev kLt : K2:=kI0 fun i j => .bl (decide (i < j))
abbrev kGt : K2:=kI0 fun i j => .bl (decide (j < i))
abbrev kGe : K2:=kI0 fun i j => .bl (decide (j <= i))
section
variable {f g : FE}
theorem zMg (h1 : QE X a f) (h2 : QE X b g) : QE X (.BinOp a .Sub b pos) (fOp zMG f g):=zL9 (zHl fun _ _ _ _ => zAi) zS1 h1 h2
theorem zPn (h1 : QE X a f) (h2 : QE X b g) : QE X (.BinOp a .Mult b pos) (fOp zNy f g):=zL9 (zKh (fun i j h => by
 unfold zNY at h;simp only [Bool.or_eq_true,zVX,zWA] at h;exact h) fun _ _ _ _ => zAi) zSj h1 h2
theorem zFk (h1 : QE X a f) (h2 : QE X b g) : QE X (.BinOp a .Mod b pos) (fOp zF7 f g):=zL9 (zKh (fun i j h => zVt h) fun _ _ _ _ => zAi) zTA h1 h2
theorem zPE (h1 : QE X a f) (h2 : QE X b g) : QE X (.BinOp a .FloorDiv b pos) (fOp zNS f g):=zL9 (zKh (fun i j h => by
 simp only [zVX,zWA] at h;exact h) fun _ _ _ _ => zAi) zQm h1 h2
theorem zRz (h1 : QE X a f) (h2 : QE X b g) : QE X (.BinOp a .Pow b pos) (fOp zPM f g):=zL9 (zKh (fun i j h => by
 simp only [zVX,zWA] at h;exact ⟨h.1.1,h.1.2,h.2⟩) fun _ _ _ _ => zAi) zSf h1 h2
theorem zR7 (h1 : QE X a f) (h2 : QE X b g) : QT X (.Compare a [.Lt] [b] pos) (tst (fOp kLt f g)):=zE9 (zHl fun _ _ _ _ => zC1) zT7 h1 h2 (zET _)
theorem zTo (h1 : QE X a f) (h2 : QE X b g) : QT X (.Compare a [.Gt] [b] pos) (tst (fOp kGt f g)):=zE9 (zHl fun _ _ _ _ => zC1) zTw h1 h2 (zET _)
theorem zTy (h1 : QE X a f) (h2 : QE X b g) : QT X (.Compare a [.GtE] [b] pos) (tst (fOp kGe f g)):=zE9 (zHl fun _ _ _ _ => zC1) zT4 h1 h2 (zET _)
end
end
def zBy (M : Mem) : EV -> Option (List D)
 | .fl xs => some xs
 | .dat (.ref n) => match M[n]? with
  | some (.lst xs) => some xs
  | some (.fro xs) => some xs
  | _ => none
 | _ => none
def zDC : EV -> Option (List D)
 | .dat (.tup xs) => some xs
 | _ => none
def zAZ (M : Mem) (x : EV) : Option (List D):=match zDC x with
 | some xs => some xs
 | none => zBy M x
theorem zBS {K : PySem.W.Frag} {L : List Addr} {M : Mem} {H H0 : Hp} {x : EV} {v : V} {xs : List D} (c : Cor K L M H) (r : zr H0 L H x v) (h : zBy M x = some xs) : ∃ a vs,v = .ref a /\ Rd H a (.lst vs) /\ zZ L H xs vs:=by
 cases x with
 | fl ys =>
  cases h;obtain ⟨p,vs,rfl,_,e,_,r⟩:=r;exact ⟨p,vs,rfl,.inl e,r⟩
 | dat d =>
  cases d with
  | ref n =>
   unfold zr Rep at r;obtain ⟨a,rfl,e⟩:=r;unfold zBy at h;dsimp only at h;cases q : M[n]? with
   | none => rw [q] at h; cases h
   | some m =>
    rw [q] at h;have z:=c.obj n a m e q;cases m with
    | lst ys => cases h; obtain ⟨vs,e1,r1⟩:=z; exact ⟨a,vs,rfl,.inl e1,r1⟩
    | fro ys => cases h; obtain ⟨o,vs,e1,r1⟩:=z; exact ⟨a,vs,rfl,.inr ⟨o,e1⟩,r1⟩
    | dict _ => cases h
    | dicT _ => cases h
    | set _ => cases h
  | _ => cases h
theorem zBo {L : List Addr} {H H0 : Hp} {x : EV} {v : V} {xs : List D} (r : zr H0 L H x v) (h : zDC x = some xs) : ∃ a vs,v = .ref a /\ H a = some (.tup vs) /\ zZ L H xs vs:=by
 cases x with
 | fl ys => cases h
 | dat d =>
  cases d with
  | tup ys => cases h; unfold zr Rep at r; exact r
  | _ => cases h
theorem zGp {K : PySem.W.Frag} {L : List Addr} {M : Mem} {H H0 : Hp} {x : EV} {v : V} {xs : List D} (c : Cor K L M H) (r : zr H0 L H x v) (h : zAZ M x = some xs) : ∃ a vs,v = .ref a /\ (SqL K H a vs \/ SqT K H a vs) /\ zZ L H xs vs:=by
 unfold zAZ at h;cases q : zDC x with
 | some ys =>
  rw [q] at h; cases h;obtain ⟨a,vs,e,h1,h2⟩:=zBo r q;exact ⟨a,vs,e,.inr (.of h1),h2⟩
 | none =>
  rw [q] at h;obtain ⟨a,vs,e,h1,h2⟩:=zBS c r h;exact ⟨a,vs,e,.inl (.inl h1),h2⟩
theorem zTK {L : List Addr} {H : Hp} {xs : List D} {vs : List V} {i : Int} {d : D} (r : zZ L H xs vs) (h : atI xs i = some d) : ∃ v,atI vs i = some v /\ Rep L H d v:=by
 unfold atI at h ⊢;rw [r.length];cases q : ixN xs.length i with
 | none => rw [q] at h; cases h
 | some j => rw [q] at h; exact r.get h
theorem zQf {L : List Addr} {H : Hp} {i : Str} : Rep L H (.str i) (.str i):=by unfold Rep; rfl
def kIx : K2:=fun x y M => match y with
 | .dat (.int i) => match zAZ M x with
  | some xs => match atI xs i with
   | some d => some (.dat d,M)
   | none => none
  | none => match x with
   | .dat (.str z) => if z.length <= sizeLine then match atI z.cps.toList i with
     | some c => some (.dat (.str ⟨#[c]⟩),M)
     | none => none
    else none
   | _ => none
 | _ => none
theorem zSw {K : PySem.W.Frag} : zDk K (rIx K) kIx:=by
 intro L M M' H H0 x y d v w Q c rx ry hk q;unfold kIx at hk;split at hk
 ·rename_i i;have ew : w = .int i:=by unfold zr Rep at ry; exact ry
  split at hk
  ·rename_i xs e1;split at hk
   ·rename_i d' e2;cases hk;obtain ⟨a,vs,rfl,hs,r⟩:=zGp c rx e1;obtain ⟨u,e3,r3⟩:=zTK r e2;rcases hs with hs | hs
    ·exact .inl ⟨a,vs,i,u,rfl,ew,hs,e3,q L H u (.refl L H) c r3⟩
    ·exact .inr (.inl ⟨a,vs,i,u,rfl,ew,hs,e3,q L H u (.refl L H) c r3⟩)
   ·cases hk
  ·split at hk
   ·rename_i z _;split at hk
    ·rename_i hz;split at hk
     ·rename_i ch e2;cases hk;have ev : v = .str z:=by unfold zr Rep at rx; exact rx
      exact .inr (.inr ⟨z,i,ch,ev,ew,hz,e2,q L H _ (.refl L H) c (zQf (L:=L) (H:=H))⟩)
     ·cases hk
    ·cases hk
   ·cases hk
 ·cases hk
section
variable {prog : Program} {w : World} {A : Around} {E : Value -> Shared -> Prop} {s : Shared}
theorem zLh {t sl : Addr} {items : Array Value} {vl vu : Value} {lo hi : Option Int} {Q : Value -> Shared -> Prop} (T : IsTup s.heap t items) (S : s.heap.IsSliceOf sl vl vu .none) (pl : IsPart vl lo) (pu : IsPart vu hi)
  (h1 : HT.sIx items.size 0 lo = 0) (h2 : HT.sIx items.size items.size hi = items.size) (h : Q (.ref t) s) : wpAny (model prog w) A (getItem (.ref t) (.ref sl)) Q E s:=by
 obtain ⟨o,O,C,G⟩:=id S;have TS : s.TypeIs (.ref sl) "slice" := ⟨o,O,C⟩;unfold getItem;try with_reducible refine zVq ?_
 first | refine zUx (zUz ?_) | skip
 refine zUx (wpAny_sequenceKey T.typeIs (by decide) ?_);refine zUx (zVZ (name:=Str.ofString "__getitem__") T.typeIs zWV (zVa zWV T.typeIs entry_tuple_getitem ?_ (args_tuple_getitem _ _)));refine zUx (m:=Builtin.Tuple.tupleItemsOf (.ref t)) (tupleItemsOf_ T (zUx (wpAny_typeOf TS ?_)));rw [zVC (by decide)];refine zUx (HT.zDh S pl pu ?_);rw [h1,h2];show wpAny _ _ (if ((((0 : Nat) : Int) == 0 && (1 : Int) == 1 && (items.size - 0) == items.size)) = true then _ else _) _ _ s;rw [zVC (by simp)];unfold Builtin.Tuple.tupleIsExact;refine zUx (zUx (wpAny_typeOf T.typeIs (zUz ?_)));rw [zVC (by decide)];exact zUx (zWK (zUz ⟨_,rfl,zUz h⟩))
end
def zUc (K : PySem.W.Frag) : V -> Option Int -> Option Int -> Hp -> VK -> Prop:=fun x lo hi H Q => ∃ a xs,x = .ref a /\ SqT K H a xs /\ (HT.sIx xs.length 0 lo = 0 /\ HT.sIx xs.length xs.length hi = xs.length) /\ Q (.ref a) H
theorem zRg {X : Cx} : SlR X (zUc X.K):=by
 intro zB s σ H x v vl vu lo hi sl Q I rx hs pl pu h;obtain ⟨a,xs,rfl,hx,hw,q⟩:=h;cases rx;obtain ⟨its,r,ht,hz⟩:=I.tuple hx;have hlen : its.toArray.size = xs.length:=by rw [zU5]; exact r.length.symm
 exact ⟨"tuple", _,zWV.lookup,ht.typeIs,zLh ht hs pl pu (by rw [hlen]; exact hw.1) (by rw [hlen]; exact hw.2) ⟨.ref a,H,I,rfl,q⟩⟩
section
variable {X : Cx} {a b e : Expr} {es : List Expr} {pos : Pos} {f g : FE}
theorem zBA (h1 : QE X a f) (h2 : QE X b g) (hs : zMe b:=by intro _ _; rfl) : QE X (.Subscript a b pos) (fOp kIx f g):=.mk <| PE.imp (zT5 zSd h1.un h2.un hs) fun _ _ _ h => zDM zSw h
abbrev FO:=Sd -> Mem -> Option (Option Int × Mem)
def trO (K : PySem.W.Frag) (f : FO) : TO:=fun τ H Q => ∃ L σ M d M',Cor K L M H /\ zBz L H σ τ /\ f σ M = some (d,M') /\ ∀ L' H',Stp L H L' H' -> Cor K L' M' H' -> Q d H'
structure QO (X : Cx) (e : Option Expr) (f : FO) : Prop where
 un : PO X e (trO X.K f)
def zEz : FO:=fun _ M => some (none,M)
def zEZ (f : FE) : FO:=fun σ M => match f σ M with
 | some (.dat (.int i),M') => some (some i,M')
 | _ => none
theorem PO.imp {e : Option Expr} {t t' : TO} (h : PO X e t) (hi : ∀ τ H Q,t' τ H Q -> t τ H Q) : PO X e t':=fun zB s σ H Q I q => h zB s σ H Q I (hi _ _ _ q)
theorem zGs : QO X none zEz:=.mk <| PO.imp zQ7 fun τ H Q zz => by
 obtain ⟨L,σ,M,d,M',c,rs,hf,q⟩:=zz;unfold zEz at hf;cases hf;exact q L H (.refl L H) c
theorem zGn (h : QE X e f) : QO X (some e) (zEZ f):=.mk <| PO.imp (zQ5 h.un) fun τ H Q zz => by
 obtain ⟨L,σ,M,d,M',c,rs,hf,q⟩:=zz;unfold zEZ at hf;split at hf
 ·rename_i i M1 e1;cases hf;refine ⟨L,σ,M,_,_,c,rs,e1,fun L1 H1 v s1 c1 r1 => ?_⟩;exact ⟨i,by unfold zr Rep at r1; exact r1,q L1 H1 s1 c1⟩
 ·cases hf
def zGi (xs : List D) (lo hi : Option Int) : List D:=(xs.drop (HT.sIx xs.length 0 lo)).take (HT.sIx xs.length xs.length hi - HT.sIx xs.length 0 lo)
theorem zMd {L : List Addr} {H : Hp} {xs : List D} {vs : List V} {lo hi : Option Int} (r : zZ L H xs vs) : zZ L H (zGi xs lo hi) (zKC vs lo hi):=by
 unfold zGi zKC;rw [r.length];exact (r.drop _).take _
def kSl (x : EV) (lo hi : Option Int) (M : Mem) : Option (EV × Mem):=match zDC x with
 | some xs => some (.dat (.tup (zGi xs lo hi)),M)
 | none => match zBy M x with
  | some xs => some (.fl (zGi xs lo hi),M)
  | none => none
def fSl (f : FE) (fl fh : FO) : FE:=fun σ M => match f σ M with
 | some (x,M1) => match fl σ M1 with
  | some (lo,M2) => match fh σ M2 with
   | some (hi,M3) => kSl x lo hi M3
   | none => none
  | none => none
 | none => none
theorem zGl {lo hi : Option Expr} {p2 : Pos} {fl fh : FO} (h : QE X e f) (hl : QO X lo fl) (hh : QO X hi fh) : QE X (.Subscript e (.Slice lo hi none p2) pos) (fSl f fl fh) :=
 .mk <| PE.imp (zP4 (SlR.or zQt (SlR.or zS2 zRg)) h.un hl.un hh.un) fun τ H Q zz => by
  obtain ⟨L,σ,M,d,M',c,rs,hf,q⟩:=zz;unfold fSl at hf;split at hf
  ·rename_i x M1 e1;split at hf
   ·rename_i l M2 e2;split at hf
    ·rename_i u M3 e3;refine ⟨L,σ,M,_,_,c,rs,e1,fun L1 H1 v s1 c1 r1 => ⟨L1,σ,M1,_,_,c1,rs.stp s1,e2,fun L2 H2 s2 c2 => ⟨L2,σ,M2,_,_,c2,rs.stp (s1.trans s2),e3,fun L3 H3 s3 c3 => ?_⟩⟩⟩;have s:=(s1.trans s2).trans s3;have r3 : zr H L3 H3 x v:=(r1.stp s2).stp s3;unfold kSl at hf;cases t : zDC x with
     | some xs =>
      rw [t] at hf;dsimp only at hf;cases hf;obtain ⟨a,vs,rfl,e4,r4⟩:=zBo r3 t;by_cases hw : HT.sIx vs.length 0 l = 0 /\ HT.sIx vs.length vs.length u = vs.length
      ·refine .inr (.inr ⟨a,vs,rfl,.of e4,hw,?_⟩);have ec : zGi xs l u = xs:=by
        unfold zGi;rw [<- r4.length,hw.1,hw.2,r4.length];simp
       rw [ec] at q;refine q L3 H3 _ s c3 ?_;unfold zr Rep;exact ⟨a,vs,rfl,e4,r4⟩
      ·refine .inr (.inl ⟨a,vs,rfl,.of e4,hw,fun p hp => ?_⟩);exact q L3 _ _ (s.trans (.upd hp)) (c3.upd hp) (Rep.newTup hp (zMd r4))
     | none =>
      rw [t] at hf;dsimp only at hf;split at hf
      ·rename_i xs e4;cases hf;obtain ⟨a,vs,rfl,e5,r5⟩:=zBS c3 r3 e4;refine .inl ⟨a,vs,rfl,.inl e5,fun p hp => ?_⟩;exact q L3 _ _ (s.trans (.upd hp)) (c3.upd hp) (zr.newLst s c c3 hp (zMd r5))
      ·cases hf
    ·cases hf
   ·cases hf
  ·cases hf
abbrev KB:=List EV -> Mem -> Option (EV × Mem)
def zF0 (K : PySem.W.Frag) (r : List V -> Hp -> VK -> Prop) (k : KB) : Prop:=∀ {L : List Addr} {M M' : Mem} {H H0 : Hp} {xs : List EV} {d : EV} {vs : List V} {Q : VK},Cor K L M H -> zDF H0 L H xs vs -> k xs M = some (d,M') ->
 (∀ L' H' u,Stp L H L' H' -> Cor K L' M' H' -> zr H L' H' d u -> Q u H') -> r vs H Q
def fB (k : KB) (f : FAE) : FE:=fun σ M => match f σ M with
 | some (xs,M1) => k xs M1
 | none => none
theorem zPZ {K : PySem.W.Frag} {r : List V -> Hp -> VK -> Prop} {k : KB} {f : FAE} (hk : zF0 K r k) {τ : Sv} {H : Hp} {Q : VK} (h : trE K (fB k f) τ H Q) : tCB r (zUL K f) τ H Q:=by
 obtain ⟨L,σ,M,d,M',c,rs,hf,q⟩:=h;unfold fB at hf;split at hf
 ·rename_i xs M1 e1;refine ⟨L,σ,M,_,_,c,rs,e1,fun L1 H1 vs s1 c1 r1 => ?_⟩;refine hk c1 r1 hf fun L2 H2 u s2 c2 r2 => ?_;exact q L2 H2 u (s1.trans s2) c2 (r2.back s1 c s2.sub)
 ·cases hf
theorem zDF.one {H0 : Hp} {L : List Addr} {H : Hp} {x : EV} {vs : List V} (h : zDF H0 L H [x] vs) : ∃ v,vs = [v] /\ zr H0 L H x v:=by
 obtain ⟨v,r,rfl,h1,h2⟩:=h;unfold zDF at h2;subst h2;exact ⟨v,rfl,h1⟩
def zBq : KB:=fun xs M => match xs with
 | [x] => match zAZ M x with
  | some ys => some (.dat (.int ys.length),M)
  | none => none
 | _ => none
theorem zRS : zF0 X.K (fun xs H Q => ∃ p ys,xs = [.ref p] /\ (SqL X.K H p ys \/ SqT X.K H p ys) /\ Q (.int ys.length) H) zBq:=by
 intro L M M' H H0 xs d vs Q c r hk q;unfold zBq at hk;split at hk
 ·rename_i x;split at hk
  ·rename_i ys e1;cases hk;obtain ⟨v,rfl,r1⟩:=r.one;obtain ⟨a,ws,rfl,hs,r2⟩:=zGp c r1 e1;refine ⟨a,ws,rfl,hs,q L H _ (.refl L H) c ?_⟩;rw [r2.length]; exact (zAi (L:=L) (H:=H))
  ·cases hk
 ·cases hk
theorem zDo {x : Str} {p : Pos} {id : String} {r : List V -> Hp -> VK -> Prop} {k : KB} {f : FAE} (hk : zF0 X.K r k) (hc : zCQ X (.builtin id) r) (hv : bootBuiltins x = some (.builtin id)) (hg : Gl X x) (hm : X.mg x = none) (ha : QAE X (e :: es) f) (hn : x ≠ "__name__" := by decide) (hdb : (x == ("__debug__" : Str)) = false:=by decide)
  (he : starEach (e :: es) X.env = (false,eval e X.env) :: starEach es X.env:=by rfl) (hpl : (backTo pos (starEach es X.env)).any (·.1) = false:=by rfl) : QE X (.Call (.Name x p) (e :: es) [] pos) (fB k f) :=
 .mk <| PE.imp (zP6 hc hg hm hv ha.un hn hdb he hpl) fun _ _ _ h => zPZ hk h
theorem zHu {x : Str} {p : Pos} {T : String} {r : List V -> Hp -> VK -> Prop} {k : KB} {f : FAE} (hk : zF0 X.K r k) (hc : zCQ X (.type T) r) (hv : bootBuiltins x = some (.type T)) (hg : Gl X x) (hm : X.mg x = none) (ha : QAE X (e :: es) f) (hn : x ≠ "__name__" := by decide) (hdb : (x == ("__debug__" : Str)) = false:=by decide)
  (he : starEach (e :: es) X.env = (false,eval e X.env) :: starEach es X.env:=by rfl) (hpl : (backTo pos (starEach es X.env)).any (·.1) = false:=by rfl) : QE X (.Call (.Name x p) (e :: es) [] pos) (fB k f) :=
 .mk <| PE.imp (zDd hc hg hm hv ha.un hn hdb he hpl) fun _ _ _ h => zPZ hk h
def zBr : KB:=fun xs M => match xs with
 | [x] => match zAZ M x with
  | some ys => some (.dat (.tup ys),M)
  | none => none
 | _ => none
theorem zN0 : zF0 X.K (fun xs H Q => ∃ p ys,xs = [.ref p] /\ ((SqL X.K H p ys /\ ∀ l,H l = none -> Q (.ref l) (upd H l (.tup ys))) \/ (SqT X.K H p ys /\ Q (.ref p) H))) zBr:=by
 intro L M M' H H0 xs d vs Q c r hk q;unfold zBr at hk;split at hk
 ·rename_i x;split at hk
  ·rename_i ys e1;cases hk;obtain ⟨v,rfl,r1⟩:=r.one;unfold zAZ at e1;cases t : zDC x with
   | some zs =>
    rw [t] at e1; cases e1;obtain ⟨a,ws,rfl,e2,r2⟩:=zBo r1 t;refine ⟨a,ws,rfl,.inr ⟨.of e2,q L H _ (.refl L H) c ?_⟩⟩;unfold zr Rep;exact ⟨a,ws,rfl,e2,r2⟩
   | none =>
    rw [t] at e1;obtain ⟨a,ws,rfl,e2,r2⟩:=zBS c r1 e1;refine ⟨a,ws,rfl,.inl ⟨.inl e2,fun p hp => ?_⟩⟩;exact q L _ _ (.upd hp) (c.upd hp) (Rep.newTup hp r2)
  ·cases hk
 ·cases hk
end
set_option genInjectivity true in
inductive Out where
 | nx | ret (d : D) | brk | cnt
abbrev FS:=Sd -> Mem -> Option (Out × Sd × Mem)
def zTv (E : Ends) (L : List Addr) (H : Hp) (σ : Sd) : Out -> Prop
 | .nx => ∀ τ,zBz L H σ τ -> E.nx τ H
 | .ret d => ∀ v,Rep L H d v -> E.rt v H
 | .brk => ∀ τ,zBz L H σ τ -> E.bk τ H
 | .cnt => ∀ τ,zBz L H σ τ -> E.ct τ H
def trS (K : PySem.W.Frag) (f : FS) : TS:=fun E τ H => ∃ L σ M o σ' M',Cor K L M H /\ zBz L H σ τ /\ f σ M = some (o,σ',M') /\ ∀ L' H',Stp L H L' H' -> Cor K L' M' H' -> zTv E L' H' σ' o
structure QS (X : Cx) (st : Stmt) (f : FS) : Prop where
 un : PS X st (trS X.K f)
structure QSs (X : Cx) (st : List Stmt) (f : FS) : Prop where
 un : PSs X st (trS X.K f)
theorem zBz.set (h : zBz L H σ τ) (r : Rep L H d v) : zBz L H (σ.set i (some d)) (τ.set i (some v)):=by
 refine ⟨by simp [h.1],fun j e q => ?_⟩;rw [zWW] at q ⊢;split at q
 ·rename_i z;subst z;split at q
  ·rename_i hl;cases q;rw [zVC rfl,zVC (by rw [h.1]; exact hl)];exact ⟨v,rfl,r⟩
  ·cases q
 ·rename_i z;rw [zVF z];exact h.2 j e q
theorem zPg {K : PySem.W.Frag} {f : FE} {τ : Sv} {H : Hp} {Q : VK} (h : trD K (toD f) τ H Q) : trE K f τ H Q:=by
 obtain ⟨L,σ,M,d,M',c,rs,hf,q⟩:=h;unfold toD at hf;split at hf
 ·rename_i d' M1 e1;cases hf;exact ⟨L,σ,M,_,_,c,rs,e1,fun L' H' v s c' r => q L' H' v s c' r⟩
 ·rename_i xs M1 e1;cases hf;refine ⟨L,σ,M,_,_,c,rs,e1,fun L' H' v s c' r => ?_⟩;obtain ⟨p,vs,rfl,e0,e2,e3,r⟩:=r;obtain ⟨c2,s2⟩:=zSA s c' e0 e2 e3 r;exact q _ H' _ s2 c2 (Rep.last c')
 ·cases hf
def zB4 : FS:=fun σ M => some (.nx,σ,M)
def za (f g : FS) : FS:=fun σ M => match f σ M with
 | some (.nx,σ1,M1) => g σ1 M1
 | r => r
def sIf (c : FT) (f g : FS) : FS:=fun σ M => match c σ M with
 | some (true,M1) => f σ M1
 | some (false,M1) => g σ M1
 | none => none
def zAj (f : FE) : FS:=fun σ M => match toD f σ M with
 | some (d,M1) => some (.ret d,σ,M1)
 | none => none
def zAB (i : Nat) (f : FE) : FS:=fun σ M => match toD f σ M with
 | some (d,M1) => some (.nx,σ.set i (some d),M1)
 | none => none
def zAq (f : FE) : FS:=fun σ M => match f σ M with
 | some (_,M1) => some (.nx,σ,M1)
 | none => none
section
variable {X : Cx} {st : Stmt} {rest : List Stmt} {e c : Expr} {pos : Pos}
theorem zBf : QSs X [] zB4:=.mk <| PSs.imp zQX fun E τ H zz => by
 obtain ⟨L,σ,M,o,σ',M',c,rs,hf,q⟩:=zz;unfold zB4 at hf;cases hf;exact q L H (.refl L H) c τ rs
theorem zR (h1 : QS X st f) (h2 : QSs X rest g) : QSs X (st :: rest) (za f g):=.mk <| PSs.imp (zPj h1.un h2.un) fun E τ H zz => by
 obtain ⟨L,σ,M,o,σ',M',c,rs,hf,q⟩:=zz;unfold za at hf;split at hf
 ·rename_i σ1 M1 e1;refine ⟨L,σ,M,_,_,_,c,rs,e1,fun L1 H1 s1 c1 τ1 r1 => ⟨L1,σ1,M1,_,_,_,c1,r1,hf,fun L2 H2 s2 c2 => q L2 H2 (s1.trans s2) c2⟩⟩
 ·rename_i hne;refine ⟨L,σ,M,_,_,_,c,rs,hf,fun L1 H1 s1 c1 => ?_⟩;have z:=q L1 H1 s1 c1;cases o with
  | nx => exact absurd hf (hne σ' M')
  | ret d => exact z
  | brk => exact z
  | cnt => exact z
theorem zd (h1 : QS X st f) : QSs X [st] f:=.mk <| PSs.imp (zQ2 h1.un) fun _ _ _ h => h
theorem zEa (hc : QT X c fc) (ha : QSs X a f) (hb : QSs X b g) : QS X (.If c a b pos) (sIf fc f g):=.mk <| PS.imp (zUH hc.un ha.un hb.un) fun E τ H zz => by
 obtain ⟨L,σ,M,o,σ',M',c,rs,hf,q⟩:=zz;unfold sIf at hf;split at hf
 ·rename_i M1 e1;refine ⟨L,σ,M,_,_,c,rs,e1,fun L1 H1 s1 c1 => ?_⟩;exact zID ⟨L1,σ,M1,_,_,_,c1,rs.stp s1,hf,fun L2 H2 s2 c2 => q L2 H2 (s1.trans s2) c2⟩
 ·rename_i M1 e1;refine ⟨L,σ,M,_,_,c,rs,e1,fun L1 H1 s1 c1 => ?_⟩;exact zIL ⟨L1,σ,M1,_,_,_,c1,rs.stp s1,hf,fun L2 H2 s2 c2 => q L2 H2 (s1.trans s2) c2⟩
 ·cases hf
theorem zAS (h : QE X e f) : QS X (.Return (some e) pos) (zAj f):=.mk <| PS.imp (zSq (zK h).un) fun E τ H zz => by
 obtain ⟨L,σ,M,o,σ',M',c,rs,hf,q⟩:=zz;unfold zAj at hf;split at hf
 ·rename_i d M1 e1;cases hf;exact ⟨L,σ,M,_,_,c,rs,e1,fun L1 H1 v s1 c1 r1 => q L1 H1 s1 c1 v r1⟩
 ·cases hf
theorem zG5 {K : PySem.W.Frag} {i : Nat} {f : FE} {t : TE} (ht : ∀ τ H Q,trE K f τ H Q -> t τ H Q) {E : Ends} {τ : Sv} {H : Hp} (h : trS K (zAB i f) E τ H) : zO0 t (zEB i) E τ H:=by
 obtain ⟨L,σ,M,o,σ',M',c,rs,hf,q⟩:=h;unfold zAB at hf;split at hf
 ·rename_i d M1 e1;cases hf;exact ht _ _ _ (zPg ⟨L,σ,M,_,_,c,rs,e1,fun L1 H1 v s1 c1 r1 => q L1 H1 s1 c1 _ ((rs.stp s1).set r1)⟩)
 ·cases hf
theorem zT1 {i : Nat} {x : Str} {f : FE} {pos' : Pos} (hN : X.N.Nodup) (hi : X.N[i]? = some x) (hx : Loc X.env.scope x) (h : QE X e f) (hs : swapsWith e (some (.Name x pos')) pos.line X.env = pure false:=by rfl)
  (hf : X.fn x = true \/ X.env.scope.names.lookup x = some .local:=by first | exact .inl rfl | exact .inr rfl | assumption) : QS X (.Assign [.Name x pos'] e pos) (zAB i f) :=
 .mk <| PS.imp (zSZ hN hi hx h.un hs hf) fun _ _ _ z => zG5 (fun _ _ _ z => z) z
theorem zC7 (h : QE X e f) (hs : swapsWith e none pos.line X.env = pure false:=by rfl) : QS X (.Expr e pos) (zAq f):=.mk <| PS.imp (zRR h.un hs) fun E τ H zz => by
 obtain ⟨L,σ,M,o,σ',M',c,rs,hf,q⟩:=zz;unfold zAq at hf;split at hf
 ·rename_i d M1 e1;cases hf;exact ⟨L,σ,M,_,_,c,rs,e1,fun L1 H1 v s1 c1 r1 => q L1 H1 s1 c1 τ (rs.stp s1)⟩
 ·cases hf
abbrev FG:=D -> Sd -> Option Sd
def GOk (g : TG) (fg : FG) : Prop:=∀ {L : List Addr} {H : Hp} {σ σ' : Sd} {τ : Sv} {d : D} {v : V} {Q : Sv -> Hp -> Prop},zBz L H σ τ -> Rep L H d v -> fg d σ = some σ' -> (∀ τ',zBz L H σ' τ' -> Q τ' H) -> g v τ H Q
def gN (i : Nat) : FG:=fun d σ => some (σ.set i (some d))
theorem zA8 : GOk (zEB i) (gN i):=by
 intro L H σ σ' τ d v Q rs r hf q;unfold gN at hf;cases hf;exact q _ (rs.set r)
abbrev FI:=Sd -> Mem -> Option (List D × Option (Mem -> Prop) × Mem)
def zBD (g : Option (Mem -> Prop)) (xs : List D) (M : Mem) : Prop:=match g with
 | none => True
 | some p => p M
def zUB (K : PySem.W.Frag) (J : It) (L : List Addr) (H : Hp) (xs : List D) (g : Option (Mem -> Prop)) : Prop:=∀ L' H' M',Stp L H L' H' -> Cor K L' M' H' -> zBD g xs M' ->
 (∀ (i : Nat) d,xs[i]? = some d -> J.go i H' /\ ∀ v H'',J.yld i H' v H'' -> (∀ a o,H' a = some o -> H'' a = some o) /\ Rep L' H'' d v) /\ J.stop xs.length H'
def trI (K : PySem.W.Frag) (f : FI) : TI:=fun τ H R => ∃ L σ M xs g M',Cor K L M H /\ zBz L H σ τ /\ f σ M = some (xs,g,M') /\ ∀ L' H' J,Stp L H L' H' -> Cor K L' M' H' -> zUB K J L' H' xs g -> R J H'
structure QI (X : Cx) (tg e : Expr) (f : FI) : Prop where
 un : PI X tg e (trI X.K f)
theorem PI.imp (h : PI X tg e t) (hi : ∀ τ H R,t' τ H R -> t τ H R) : PI X tg e t':=fun zB s σ H R I q => h zB s σ H R I (hi _ _ _ q)
noncomputable def zCb (g : FG) (b : FS) (all : List D) (gd : Option (Mem -> Prop)) : List D -> Sd -> Mem -> Option (Out × Sd × Mem)
 | [],σ,M => open Classical in if zBD gd all M then some (.nx,σ,M) else none
 | x :: r,σ,M => open Classical in if zBD gd all M then match g x σ with
   | some σ1 => match b σ1 M with
    | some (.nx,σ2,M2) => zCb g b all gd r σ2 M2
    | some (.cnt,σ2,M2) => zCb g b all gd r σ2 M2
    | some (.brk,σ2,M2) => some (.nx,σ2,M2)
    | some (.ret d,σ2,M2) => some (.ret d,σ2,M2)
    | none => none
   | none => none
  else none
noncomputable def zCG (fi : FI) (g : FG) (b : FS) : FS:=fun σ M => match fi σ M with
 | some (xs,gd,M1) => zCb g b xs gd xs σ M1
 | none => none
theorem zCo {α : Type} {xs : List α} (h : i < xs.length) : xs.drop i = xs[i] :: xs.drop (i + 1):=List.drop_eq_getElem_cons h
theorem Stp.yld (s : Stp L H L' H') (h : ∀ a o,H' a = some o -> H'' a = some o) : Stp L H L' H'':=s.trans (.grow h)
theorem zO9 {K : PySem.W.Frag} {fi : FI} {g : TG} {fg : FG} {b : FS} (hg : GOk g fg) {E : Ends} {τ : Sv} {H : Hp} (h : trS K (zCG fi fg b) E τ H) : zTc (trI K fi) g (trS K b) E τ H:=by
 obtain ⟨L,σ,M,o,σf,Mf,c,rs,hf,q⟩:=h;unfold zCG at hf;split at hf
 ·rename_i xs gd M1 e1;refine ⟨L,σ,M,_,_,_,c,rs,e1,fun L1 H1 J s1 c1 it => ?_⟩
  refine ⟨fun i m τ' H' => m = xs.length - i /\ i <= xs.length /\ ∃ L' σ' M',Stp L1 H1 L' H' /\ Cor K L' M' H' /\ zBz L' H' σ' τ' /\ zCb fg b xs gd (xs.drop i) σ' M' = some (o,σf,Mf),
   ⟨xs.length,by simp,zVj _,L1,σ,M1,.refl _ _,c1,rs.stp s1,by simpa using hf⟩,?_⟩
  rintro i m τ' H' ⟨rfl,hi,L',σ',M',s',c',rs',e'⟩;by_cases hlt : i < xs.length
  ·rw [zCo hlt] at e';unfold zCb at e';split at e'
   ·rename_i hgd;obtain ⟨step,_⟩:=it L' H' M' s' c' hgd;obtain ⟨go,yl⟩:=step i xs[i] (zU1 hlt);cases eg : fg xs[i] σ' with
    | none => rw [eg] at e'; cases e'
    | some σ1 =>
     rw [eg] at e';dsimp only at e';refine .inr ⟨go,fun τ2 H2 => ∃ L2 σ2 M2,Stp L1 H1 L2 H2 /\ Cor K L2 M2 H2 /\ zBz L2 H2 σ2 τ2 /\ zCb fg b xs gd (xs.drop (i + 1)) σ2 M2 = some (o,σf,Mf),fun τ2 H2 ⟨L2,σ2,M2,a1,a2,a3,a4⟩ => ⟨xs.length - (i + 1),by omega,rfl,hlt,L2,σ2,M2,a1,a2,a3,a4⟩,fun v H2 hy => ?_⟩;obtain ⟨gr,rv⟩:=yl v H2 hy;refine hg (zBz.stp (.grow gr) rs') rv eg fun τ2 r2 => ?_;cases eb : b σ1 M' with
     | none => rw [eb] at e'; cases e'
     | some r =>
      obtain ⟨o2,σ2,M2⟩:=r;rw [eb] at e';refine ⟨L',σ1,M',_,_,_,c'.grow gr,r2,eb,fun L3 H3 s3 c3 => ?_⟩;have s13 : Stp L1 H1 L3 H3:=(s'.yld gr).trans s3;cases o2 with
      | nx => exact fun τ3 r3 => ⟨L3,σ2,M2,s13,c3,r3,e'⟩
      | cnt => exact fun τ3 r3 => ⟨L3,σ2,M2,s13,c3,r3,e'⟩
      | brk => cases e'; exact q L3 H3 (s1.trans s13) c3
      | ret d => cases e'; exact q L3 H3 (s1.trans s13) c3
   ·cases e'
  ·have hi' : i = xs.length:=by omega
   subst hi';rw [List.drop_length] at e';unfold zCb at e';split at e'
   ·rename_i hgd;cases e';obtain ⟨_,stop⟩:=it L' H' _ s' c' hgd;exact .inl ⟨stop,q L' H' (s1.trans s') c' τ' rs'⟩
   ·cases e'
 ·cases hf
theorem zDc (hg : GOk g fg) (hp : PassesOwn (model X.prog X.w) X.A X.env X.xe) (hc : X.calm = true) (hi : QI X tg iter fi) (ht : PG X tg g) (hb : QSs X body b)
  (hs : ∀ x,foldedSetIterable iter X.env x = pure x:=by intro _; rfl) : QS X (.For tg iter body [] pos) (zCG fi fg b):=.mk <| PS.imp (zS4 hp hc hi.un ht hb.un hs) fun _ _ _ h => zO9 hg h
end
section
variable {X : Cx} {e c iter tg elt : Expr} {pos : Pos} {scope : Scope} {ifs : List Expr}
def zBI (c : FT) (b : FS) : Nat -> Sd -> Mem -> Option (Out × Sd × Mem)
 | 0,_,_ => none
 | n + 1,σ,M => match c σ M with
  | some (true,M1) => match b σ M1 with
   | some (.nx,σ2,M2) => zBI c b n σ2 M2
   | some (.cnt,σ2,M2) => zBI c b n σ2 M2
   | some (.brk,σ2,M2) => some (.nx,σ2,M2)
   | some (.ret d,σ2,M2) => some (.ret d,σ2,M2)
   | none => none
  | some (false,M1) => some (.nx,σ,M1)
  | none => none
theorem zLq {K : PySem.W.Frag} {fc : FT} {b : FS} {n : Nat} {E : Ends} {τ : Sv} {H : Hp} (h : trS K (zBI fc b n) E τ H) : zQS (trT K fc) (trS K b) E τ H:=by
 obtain ⟨L,σ,M,o,σf,Mf,c,rs,hf,q⟩:=h;refine ⟨fun m τ' H' => ∃ L' σ' M',Stp L H L' H' /\ Cor K L' M' H' /\ zBz L' H' σ' τ' /\ zBI fc b m σ' M' = some (o,σf,Mf),⟨n,L,σ,M,.refl _ _,c,rs,hf⟩,?_⟩;rintro m τ' H' ⟨L',σ',M',s',c',rs',e'⟩;cases m with
 | zero => unfold zBI at e'; cases e'
 | succ m =>
  unfold zBI at e';split at e'
  ·rename_i M1 e1;refine ⟨L',σ',M',_,_,c',rs',e1,fun L1 H1 s1 c1 => zID ?_⟩;refine ⟨fun τ2 H2 => ∃ L2 σ2 M2,Stp L H L2 H2 /\ Cor K L2 M2 H2 /\ zBz L2 H2 σ2 τ2 /\ zBI fc b m σ2 M2 = some (o,σf,Mf),fun τ2 H2 h2 => ⟨m,zVu m,h2⟩,?_⟩;cases eb : b σ' M1 with
   | none => rw [eb] at e'; cases e'
   | some r =>
    obtain ⟨o2,σ2,M2⟩:=r;rw [eb] at e';refine ⟨L1,σ',M1,_,_,_,c1,rs'.stp s1,eb,fun L3 H3 s3 c3 => ?_⟩;have s13 : Stp L H L3 H3:=(s'.trans s1).trans s3;cases o2 with
    | nx => exact fun τ3 r3 => ⟨L3,σ2,M2,s13,c3,r3,e'⟩
    | cnt => exact fun τ3 r3 => ⟨L3,σ2,M2,s13,c3,r3,e'⟩
    | brk => cases e'; exact q L3 H3 s13 c3
    | ret d => cases e'; exact q L3 H3 s13 c3
  ·rename_i M1 e1;cases e';exact ⟨L',_,M',_,_,c',rs',e1,fun L1 H1 s1 c1 => zIL (q L1 H1 (s'.trans s1) c1 τ' (rs'.stp s1))⟩
  ·cases e'
theorem zFX (n : Nat) (hp : PassesOwn (model X.prog X.w) X.A X.env X.xe) (hc : QT X c fc) (hb : QSs X body b) : QS X (.While c body [] pos) (zBI fc b n) :=
 .mk <| PS.imp (zQA hp hc.un hb.un) fun _ _ _ h => zLq h
def zBc (own : List Nat) (σ : Sd) : Sd:=own.foldl (fun σ i => σ.set i none) σ
theorem zEu : ∀ (own : List Nat) {σ : Sd} {τ : Sv},zBz L H σ τ -> zBz L H (zBc own σ) (clr own τ)
 | [],_,_,h => h
 | i :: r,σ,τ,h => by
  refine zEu r (σ:=σ.set i none) (τ:=τ.set i none) ⟨by simp [h.1],fun j d q => ?_⟩;rw [zWW] at q ⊢;split at q
  ·split at q <;> cases q
  ·rename_i z;rw [zVF z];exact h.2 j d q
noncomputable def zBN (g : FG) (tc : FT) (te : FE) (σ : Sd) (all : List D) (gd : Option (Mem -> Prop)) : List D -> Mem -> Option (List D × Mem)
 | [],M => open Classical in if zBD gd all M then some ([],M) else none
 | x :: r,M => open Classical in if zBD gd all M then match g x σ with
   | some σ1 => match tc σ1 M with
    | some (true,M1) => match toD te σ1 M1 with
     | some (d,M2) => match zBN g tc te σ all gd r M2 with
      | some (ds,M3) => some (d :: ds,M3)
      | none => none
     | none => none
    | some (false,M1) => zBN g tc te σ all gd r M1
    | none => none
   | none => none
  else none
noncomputable def zAQ (own : List Nat) (fi : FI) (g : FG) (tc : FT) (te : FE) : FE:=fun σ M => match fi σ M with
 | some (xs,gd,M1) => if xs.length <= sizeLine then match zBN g tc te (zBc own σ) xs gd xs M1 with
   | some (ys,M2) => some (.fl ys,M2)
   | none => none
  else none
 | none => none
def zFZ (own : List Nat) (g : TG) (fg : FG) : Prop:=∀ {L : List Addr} {H : Hp} {σ σ' : Sd} {τ τ0 : Sv} {d : D} {v : V} {Q : Sv -> Hp -> Prop},zBz L H σ τ -> Ext (clr own τ0) τ -> Rep L H d v -> fg d σ = some σ' -> (∀ τ',zBz L H σ' τ' -> Ext (clr own τ0) τ' -> Q τ' H) -> g v τ H Q
theorem zl (hi : i ∈ own) : zFZ own (zEB i) (gN i):=by
 intro L H σ σ' τ τ0 d v Q rs ex r hf q;unfold gN at hf;cases hf;exact q _ (rs.set r) (ex.set hi)
theorem zIV {K : PySem.W.Frag} {own : List Nat} {fi : FI} {g : TG} {fg : FG} {tc : FT} {te : FE} (hg : zFZ own g fg) {τ : Sv} {H : Hp} {Q : VK} (h : trE K (zAQ own fi fg tc te) τ H Q) : zOS own (trI K fi) g (trT K tc) (trD K (toD te)) τ H Q:=by
 obtain ⟨L,σ,M,d,Mf,c,rs,hf,q⟩:=h;unfold zAQ at hf;split at hf
 ·rename_i xs gd M1 e1;split at hf
  ·rename_i hz;split at hf
   ·rename_i zs M2 e2;cases hf;refine ⟨L,σ,M,_,_,_,c,rs,e1,fun L1 H1 J s1 c1 it => ?_⟩
    refine ⟨fun i m ys H' => m = xs.length - i /\ i <= xs.length /\ ∃ L' M' as bs,Stp L1 H1 L' H' /\ Cor K L' M' H' /\ zZ L' H' as ys /\ as.length <= i /\ zBN fg tc te (zBc own σ) xs gd (xs.drop i) M' = some (bs,Mf) /\ as ++ bs = zs,
     ⟨xs.length,by simp,zVj _,L1,M1,[],zs,.refl _ _,c1,.nil,zU3 _,by simpa using e2,rfl⟩,?_⟩
    rintro i m ys H' ⟨rfl,hi,L',M',as,bs,s',c',r',hl,e',hab⟩;have hys : ys.length <= i:=by rw [r'.length]; exact hl
    by_cases hlt : i < xs.length
    ·rw [zCo hlt] at e';unfold zBN at e';split at e'
     ·rename_i hgd;obtain ⟨step,_⟩:=it L' H' M' s' c' hgd;obtain ⟨go,yl⟩:=step i xs[i] (zU1 hlt);split at e'
      ·rename_i σ1 eg;refine .inr ⟨go,fun v H2 hy => ?_⟩;obtain ⟨gr,rv⟩:=yl v H2 hy;have s2 : Stp L1 H1 L' H2:=s'.yld gr;refine hg (zEu own ((rs.stp s1).stp s2)) (.refl _) rv eg fun τ2 r2 x2 => ⟨x2,?_⟩;split at e'
       ·rename_i M3 e3;split at e'
        ·rename_i d M4 e4;split at e'
         ·rename_i ds M5 e5;cases e';refine ⟨L',σ1,M',_,_,c'.grow gr,r2,e3,fun L3 H3 s3 c3 => zID ?_⟩;refine ⟨L3,σ1,M3,_,_,c3,r2.stp s3,e4,fun L4 H4 w s4 c4 r4 => ?_⟩;have st : Stp L' H' L4 H4:=((Stp.grow gr).trans s3).trans s4;refine ⟨Nat.lt_of_le_of_lt hys (zVM hlt hz),xs.length - (i + 1),by omega,rfl,hlt,L4,M4,as ++ [d],ds,s'.trans st,c4,(r'.stp st).app (.cons r4 .nil),by simp; omega,e5,by rw [<- hab]; simp⟩
         ·cases e'
        ·cases e'
       ·rename_i M3 e3;refine ⟨L',σ1,M',_,_,c'.grow gr,r2,e3,fun L3 H3 s3 c3 => zIL ?_⟩;have st : Stp L' H' L3 H3:=(Stp.grow gr).trans s3;exact ⟨xs.length - (i + 1),by omega,rfl,hlt,L3,M3,as,bs,s'.trans st,c3,r'.stp st,by omega,e',hab⟩
       ·cases e'
      ·cases e'
     ·cases e'
    ·have hi' : i = xs.length:=by omega
     subst hi';rw [List.drop_length] at e';unfold zBN at e';split at e'
     ·rename_i hgd;cases e';obtain ⟨_,stop⟩:=it L' H' _ s' c' hgd;refine .inl ⟨stop,zVO hys hz,fun p hp => ?_⟩;rw [zVh] at hab;subst hab;exact q L' _ _ ((s1.trans s').trans (.upd hp)) (c'.upd hp) (zr.newLst (s1.trans s') c c' hp r')
     ·cases e'
   ·cases hf
  ·cases hf
 ·cases hf
structure QIfs (X : Cx) (ifs : List Expr) (f : FT) : Prop where
 un : zGf X ifs (trT X.K f)
def zAI : FT:=fun _ M => some (true,M)
theorem zA4 : QIfs X [] zAI:=.mk fun zB s σ H Q I h => by
 obtain ⟨L,σ',M,d,M',c,rs,hf,q⟩:=h;unfold zAI at hf;cases hf;exact zP9 zB s σ H Q I (q L H (.refl L H) c)
theorem zGC (h : QT X c f) : QIfs X [c] f:=.mk (zQF h.un)
structure QParts (X : Cx) (scope : Scope) (tg : Expr) (ifs : List Expr) (elt : Expr) (g : TG) (tc : FT) (te : FE) : Prop where
 g : ∀ zB cl s H fp,PG (zV X zB scope cl s H fp) tg g
 c : ∀ zB cl s H fp,QIfs (zV X zB scope cl s H fp) ifs tc
 e : ∀ zB cl s H fp,QE (zV X zB scope cl s H fp) elt te
theorem QParts.parts {g : TG} {tc : FT} {te : FE} (p : QParts X scope tg ifs elt g tc te) : CompParts X scope tg ifs elt g (trT X.K tc) (trD X.K (toD te)) :=
 ⟨p.g,fun zB cl s H fp => (p.c zB cl s H fp).un,fun zB cl s H fp => (zK (p.e zB cl s H fp)).un⟩
theorem zBt (hg : zFZ own g fg) (C : CompIn X scope own) (hcalm : X.calm = true) (hi : QI X tg iter fi) (p : QParts X scope tg ifs elt g tc te) (hs : ∀ x,foldedSetIterable iter X.env x = pure x:=by intro _; rfl) :
  QE X (.ListComp elt [⟨tg,iter,ifs,0⟩] scope pos) (zAQ own fi fg tc te):=.mk <| PE.imp (zQh C hcalm hi.un p.parts hs) fun _ _ _ h => zIV hg h
theorem zCk (hN : X.N.Nodup) (hi' : X.N[i]? = some x) (hx : Loc X.env.scope x) (hfn : X.fn x = true \/ X.env.scope.names.lookup x = some .local)
  (hsw : swapsWith (.ListComp elt [⟨tg,iter,ifs,0⟩] scope pos) (some (.Name x pos')) pos''.line X.env = pure true)
  (hg : zFZ own g fg) (C : CompIn X scope own) (hcalm : X.calm = true) (hi : QI X tg iter fi) (p : QParts X scope tg ifs elt g tc te) (hs : ∀ x,foldedSetIterable iter X.env x = pure x:=by intro _; rfl) :
  QS X (.Assign [.Name x pos'] (.ListComp elt [⟨tg,iter,ifs,0⟩] scope pos) pos'') (zAB i (zAQ own fi fg tc te)) :=
 .mk <| PS.imp (zLu hN hi' hx hfn C hcalm hi.un p.parts hsw hs) fun _ _ _ z => zG5 (fun _ _ _ z => zIV hg z) z
end
abbrev FF:=List D -> Mem -> Option (D × Mem)
def spF (K : PySem.W.Frag) (n : Nat) (g : FF) : Sp:=fun vs H Q _ => ∃ L ds M d M',Cor K L M H /\ zZ L H ds vs /\ ds.length = n /\ g ds M = some (d,M') /\ ∀ L' H' v,Stp L H L' H' -> Cor K L' M' H' -> Rep L' H' d v -> Q v H'
def zb (g : FF) (fa : FA) : FE:=fun σ M => match fa σ M with
 | some (ds,M1) => match g ds M1 with
  | some (d,M2) => some (.dat d,M2)
  | none => none
 | none => none
section
variable {X : Cx} {e : Expr} {es : List Expr} {pos p : Pos} {x : Str} {k : Nat} {f : Addr} {fd : FuncData} {ps : List Str}
theorem zSx (F : FnOk X.prog X.w X.K X.mg X.base CX0 k f fd ps (spF X.K (e :: es).length g)) (hr : Room k X.A) (hg : Gl X x) (hm : X.mg x = some (.ref f)) (hk : PySem.W.keepIn X.K (.ref f) = true) (hb : zHI X.K fd ps [])
  (ha : QA X (e :: es) fa) (hl : ∀ σ M ds M1,fa σ M = some (ds,M1) -> ds.length = (e :: es).length) (hdb : (x == ("__debug__" : Str)) = false:=by decide) (he : starEach (e :: es) X.env = (false,eval e X.env) :: starEach es X.env:=by rfl) (hpl : (backTo pos (starEach es X.env)).any (·.1) = false:=by rfl) :
  QE X (.Call (.Name x p) (e :: es) [] pos) (zb g fa) :=
 .mk <| PE.imp (zRa F hr hg hm hk hb .nil zUT ha.un hdb he hpl) fun τ H Q zz => by
  obtain ⟨L,σ,M,d,M',c,rs,hf,q⟩:=zz;unfold zb at hf;split at hf
  ·rename_i ds M1 e1;split at hf
   ·rename_i d' M2 e2;cases hf;refine ⟨L,σ,M,_,_,c,rs,e1,fun L1 H1 vs s1 c1 r1 => ?_⟩;dsimp only;rw [zVh];exact ⟨L1,ds,M1,d',_,c1,r1,hl _ _ _ _ e1,e2,fun L2 H2 v s2 c2 r2 => q L2 H2 v (s1.trans s2) c2 r2⟩
   ·cases hf
  ·cases hf
def zQo (fa : FA) (n : Nat) : Prop:=∀ σ M ds M1,fa σ M = some (ds,M1) -> ds.length = n
theorem zO : zQo zS 0:=fun σ M ds M1 h => by unfold zS at h; cases h; rfl
theorem zG {f : FD} {g : FA} {n : Nat} (h : zQo g n) : zQo (zI f g) (n + 1):=fun σ M ds M1 q => by
 unfold zI at q;split at q
 ·split at q
  ·rename_i e2;cases q;simp [h _ _ _ _ e2]
  ·cases q
 ·cases q
def zB9 (n : Nat) (b : FS) : FF:=fun ds M => match b (ds.map some ++ List.replicate (n - ds.length) none) M with
 | some (.ret d,_,M') => some (d,M')
 | some (.nx,_,M') => some (.non,M')
 | _ => none
theorem zIY : ∀ {ds : List D} {vs : List V},zZ L H ds vs -> zBz L H (ds.map some ++ List.replicate (N.length - ds.length) none) (L2.zE1 N vs):=fun {ds vs} r => by
 unfold L2.zE1;have hl:=r.length;refine ⟨by simp [hl],fun i d q => ?_⟩;by_cases hi : i < ds.length
 ·rw [zU4 (by simpa using hi),zVK] at q;rw [zU4 (by simpa [hl] using hi),zVK];cases e1 : ds[i]? with
  | none => rw [e1] at q; cases q
  | some d' =>
   rw [e1] at q; cases q;obtain ⟨v,e2,r2⟩:=r.get e1;exact ⟨v,by rw [e2]; rfl,r2⟩
 ·rw [zV7 (by simpa using hi),List.getElem?_replicate] at q;split at q <;> cases q
theorem zAd {P : Program} {w : World} {K : PySem.W.Frag} {mg : Str -> Option Value} {base : Heap} {qual : Str} {st : Stmt} {N : List Str} {b : FS} {n : Nat} (F : Fun K x qual st f fd) (S : FnScope N ps (zT st)) (hn : ps.length = n)
  (hb : ∀ (cdv : Value) (A : Around) (outer : List Env) (s : Shared) (H : Hp) (E : XK),Room k (A.deeper (envOfC qual (zT st) s.heap.objs.size f cdv)) -> QSs (zLZ CX0 P w K mg base N qual (zT st) f cdv A outer s H E).nox (zDN st) b) :
  FnOk P w K mg base CX0 (k + 1) f fd ps (spF K n (zB9 N.length b)):=by
 refine F.ok S (fun vs H Q E h => ?_) (fun cdv A outer s H vs Q E hr h => ⟨_,(hb cdv A outer s H E hr).un,?_⟩)
 ·obtain ⟨L,ds,M,d,M',c,r,hl,_⟩:=h;rw [r.length,hl,hn]
 ·obtain ⟨L,ds,M,d,M',c,r,hl,hf,q⟩:=h;unfold zB9 at hf;split at hf
  ·rename_i d' σ' M1 e1;cases hf;exact ⟨L,_,M,_,_,_,c,zIY r,e1,fun L1 H1 s1 c1 v r1 => q L1 H1 v s1 c1 r1⟩
  ·rename_i σ' M1 e1;cases hf;exact ⟨L,_,M,_,_,_,c,zIY r,e1,fun L1 H1 s1 c1 τ' r1 => q L1 H1 .non s1 c1 (by unfold Rep; rfl)⟩
  ·cases hf
mutual
def D.und (n : Nat) : D -> Bool
 | .tup ds => D.unds n ds
 | .ref k => decide (k < n)
 | _ => true
def D.unds (n : Nat) : List D -> Bool
 | [] => true
 | d :: ds => D.und n d && D.unds n ds
end
mutual
theorem Rep.less : ∀ {d : D} {v : V},D.und L.length d = true -> Rep (L ++ N) H d v -> Rep L H d v
 | .non,_,_,h => by unfold Rep at h ⊢; exact h
 | .bl _,_,_,h => by unfold Rep at h ⊢; exact h
 | .int _,_,_,h => by unfold Rep at h ⊢; exact h
 | .str _,_,_,h => by unfold Rep at h ⊢; exact h
 | .tup ds,_,hb,h => by
  unfold D.und at hb;unfold Rep at h ⊢;obtain ⟨a,vs,rfl,e,r⟩:=h;exact ⟨a,vs,rfl,e,zZ.less hb r⟩
 | .ref n,_,hb,h => by
  unfold D.und at hb;unfold Rep at h ⊢;obtain ⟨a,rfl,e⟩:=h;exact ⟨a,rfl,by rwa [zU4 (zVt hb)] at e⟩
theorem zZ.less : ∀ {ds : List D} {vs : List V},D.unds L.length ds = true -> zZ (L ++ N) H ds vs -> zZ L H ds vs
 | [],_,_,h => by unfold zZ at h ⊢; exact h
 | d :: ds,_,hb,h => by
  unfold D.unds at hb;rw [zVX] at hb;unfold zZ at h ⊢;obtain ⟨v,r,rfl,h1,h2⟩:=h;exact ⟨v,r,rfl,Rep.less hb.1 h1,zZ.less hb.2 h2⟩
end
theorem zBg.less {κ : Type} {kf : D -> Option κ} {L N : List Addr} {H : Hp} : ∀ {ps : List (D × D)} {vs : List (κ × V)},(ps.all fun p => D.und L.length p.1 && D.und L.length p.2) = true -> zBg kf (L ++ N) H ps vs -> zBg kf L H ps vs
 | [],_,_,h => h
 | p :: r,_,hb,h => by
  rw [List.all_cons,zVX,zVX] at hb;obtain ⟨k,v,r',rfl,e,h1,h2⟩:=h;exact ⟨k,v,r',rfl,e,Rep.less hb.1.2 h1,zBg.less hb.2 h2⟩
def MO.und (n : Nat) : MO -> Bool
 | .lst xs => D.unds n xs
 | .fro xs => D.unds n xs
 | .dict kvs => kvs.all fun p => D.und n p.1 && D.und n p.2
 | .dicT kvs => kvs.all fun p => D.und n p.1 && D.und n p.2
 | .set xs => D.unds n xs
def zIQ (g : FF) : FF:=fun ds M => match g ds M with
 | some (d,M') => if D.und M.length d && (M'.take M.length).all (MO.und M.length) && decide (M.length <= M'.length) then some (d,M'.take M.length) else none
 | none => none
theorem zMf {P : Program} {w : World} {K : PySem.W.Frag} {mg : Str -> Option Value} {base : Heap} {n : Nat} {g : FF} (h : FnOk P w K mg base CX0 k f fd ps (spF K n g)) : FnOk P w K mg base CX0 k f fd ps (spF K n (zIQ g)) :=
 h.imp fun vs H Q E ⟨L,ds,M,d,M',c,r,hl,hf,q⟩ => by
  unfold zIQ at hf;split at hf
  ·rename_i d' M1 e1;split at hf
   ·rename_i hb;cases hf;simp only [zVX,zWA,zVY] at hb;obtain ⟨⟨hb1,hb2⟩,hb3⟩:=hb;refine ⟨L,ds,M,_,_,c,r,hl,e1,fun L1 H1 v s1 c1 r1 => ?_⟩;obtain ⟨N,rfl⟩:=s1.pre;rw [<- c.len] at hb1 hb2 hb3;refine q L H1 v ⟨⟨[],by simp⟩,fun a ha => .inl ha,s1.old,s1.tup,s1.frz⟩ ⟨?_,?_,fun i a m e2 e3 => ?_⟩ (Rep.less hb1 r1)
    ·rw [zWL,<- c.len]; omega
    ·exact (zWB.mp c1.nd).1
    ·rw [<- c.len] at e3;have hi : i < L.length:=(zU0.mp e2).1;have hm : m ∈ M1.take L.length:=List.mem_of_getElem? e3;rw [List.getElem?_take_of_lt hi] at e3;have z:=c1.obj i a m (zB0 e2) e3;have bl:=hb2 m hm;cases m with
     | lst xs => obtain ⟨ws,e4,r4⟩:=z; exact ⟨ws,e4,zZ.less bl r4⟩
     | fro xs => obtain ⟨o,ws,e4,r4⟩:=z; exact ⟨o,ws,e4,zZ.less bl r4⟩
     | dict ps => obtain ⟨vs,e,r⟩:=z; exact ⟨vs,e,zBg.less bl r⟩
     | dicT ps => obtain ⟨vs,e,r⟩:=z; exact ⟨vs,e,zBg.less bl r⟩
     | set _ => exact z.elim
   ·cases hf
  ·cases hf
def zFW (g : FF) : FF:=fun ds M => if D.unds 0 ds then match g ds [] with
  | some (d,_) => if D.und 0 d then some (d,M) else none
  | none => none
 else none
theorem zFd {P : Program} {w : World} {K : PySem.W.Frag} {mg : Str -> Option Value} {base : Heap} {n : Nat} {g : FF} (h : FnOk P w K mg base CX0 k f fd ps (spF K n g)) : FnOk P w K mg base CX0 k f fd ps (spF K n (zFW g)) :=
 h.imp fun vs H Q E ⟨L,ds,M,d,M',c,r,hl,hf,q⟩ => by
  unfold zFW at hf;split at hf
  ·rename_i hb0;split at hf
   ·rename_i d' M1 e1;split at hf
    ·rename_i hb;cases hf;refine ⟨[],ds,[],_,_,⟨rfl,.nil,fun i a m e => by simp at e⟩,zZ.less (L:=[]) (N:=L) hb0 (by simpa using r),hl,e1,fun L1 H1 v s1 c1 r1 => ?_⟩;have gr : ∀ a o,H a = some o -> H1 a = some o:=fun a o e => s1.old a o e (by simp);exact q L H1 v (.grow gr) (c.grow gr) ((Rep.less (L:=[]) (N:=L1) hb (by simpa using r1)).more L |> fun z => by simpa using z)
    ·cases hf
   ·cases hf
  ·cases hf
theorem zS9 (hl : PE X l tl) : PI X tg l (fun σ H R => tl σ H fun x H1 => ∃ a,x = .ref a /\ ((∃ xs,SqL X.K H1 a xs) /\ R (Itl X.K a) H1 \/ (∃ xs,SqT X.K H1 a xs) /\ R (Itt X.K a) H1)):=by
 intro zB s σ H R I h;refine thn (hl zB s σ H _ I h) fun v s1 ⟨y,H1,I1,r1,a,hy,h1⟩ => ?_;subst hy;cases r1;have fpk : ∀ b ∈ [s1.heap.objs.size],zCr X zB H1 b:=fun b hb => by
  have e : b = s1.heap.objs.size:=by simpa using hb
  subst e;exact I1.fpOk (zU3 _) (I1.hok.fresh (zU3 _))
 rcases h1 with ⟨⟨xs,hq⟩,q⟩ | ⟨⟨xs,hq⟩,q⟩
 ·obtain ⟨its,rv,pl,hz⟩:=I1.list hq;exact wpAny_pyIter_list pl.isList ⟨s1.heap.objs.size,[s1.heap.objs.size],_,_,H1,rfl,I1.kept (t':=s1.toks) fun b o e => zUy _ e,zNi a _,⟨_,zU7 _ rfl,rfl,rfl⟩,fpk,q⟩
 ·obtain ⟨its,rv,pl,hz⟩:=I1.tuple hq;exact wpAny_pyIter_tuple (show s1.heap.IsTuple a its.toArray from pl) ⟨s1.heap.objs.size,[s1.heap.objs.size],_,_,H1,rfl,I1.kept (t':=s1.toks) fun b o e => zUy _ e,zLO a _,⟨_,zU7 _ rfl,rfl,rfl⟩,fpk,q⟩
def zDS (x : EV) (xs : List D) : Option (Mem -> Prop):=match x with
 | .dat (.ref n) => some fun M => M[n]? = some (.lst xs) \/ M[n]? = some (.fro xs)
 | _ => none
def zAW (f : FE) : FI:=fun σ M => match f σ M with
 | some (x,M1) => match zAZ M1 x with
  | some xs => some (xs,zDS x xs,M1)
  | none => none
 | none => none
def zAK (f : FA) : FI:=fun σ M => match f σ M with
 | some ([.int j],M1) => if -(2 ^ 62) <= j /\ j < 2 ^ 62 then some ((List.range j.toNat).map fun (k : Nat) => D.int k,none,M1) else none
 | some ([.int i,.int j],M1) => if -(2 ^ 62) <= i /\ i < 2 ^ 62 /\ -(2 ^ 62) <= j /\ j < 2 ^ 62 then some ((List.range (j - i).toNat).map fun (k : Nat) => D.int (i + k),none,M1) else none
 | _ => none
theorem zA5 (h : QE X e g) : QI X tg e (zAW g):=.mk <| PI.imp (zS9 h.un) fun τ H R zz => by
 obtain ⟨L,σ,M,xs,gd,M',c,rs,hf,q⟩:=zz;unfold zAW at hf;split at hf
 ·rename_i y M1 e1;split at hf
  ·rename_i zs e2;cases hf;refine ⟨L,σ,M,_,_,c,rs,e1,fun L1 H1 v s1 c1 r1 => ?_⟩;unfold zAZ at e2;cases t : zDC y with
   | some ws =>
    rw [t] at e2; cases e2;obtain ⟨a,vs,rfl,e3,r3⟩:=zBo r1 t;refine ⟨a,rfl,.inr ⟨⟨vs,.of e3⟩,q L1 H1 _ s1 c1 fun L2 H2 M2 s2 c2 _ => ?_⟩⟩;have e4:=s2.tup a vs e3;have r4:=r3.stp s2;refine ⟨fun i d hd => ?_,⟨vs,.of e4,by rw [r4.length]; exact zU3 _⟩⟩;obtain ⟨u,hu,ru⟩:=r4.get hd;refine ⟨⟨vs,u,.of e4,hu⟩,fun v H3 ⟨hH,hv⟩ => ?_⟩;subst hH;have:=hv vs (.of e4);rw [hu] at this; cases this;exact ⟨fun _ _ z => z,ru⟩
   | none =>
    rw [t] at e2;dsimp only at e2;obtain ⟨a,vs,rfl,e3,r3⟩:=zBS c1 r1 e2;refine ⟨a,rfl,.inl ⟨⟨vs,.inl e3⟩,q L1 H1 _ s1 c1 fun L2 H2 M2 s2 c2 hgd => ?_⟩⟩;have key : ∃ vs',SqL X.K H2 a vs' /\ zZ L2 H2 xs vs':=by
     cases y with
     | fl ys =>
      cases e2;obtain ⟨p',vs',hp',_,e5,e6,r6⟩:=r1;cases hp';exact ⟨vs',.of (s2.old _ _ e5 e6),r6.stp s2⟩
     | dat d =>
      cases d with
      | ref n =>
       unfold zr Rep at r1;obtain ⟨a',ha',e5⟩:=r1;cases ha';have e6 : L2[n]? = some a:=by obtain ⟨N,hN⟩:=s2.pre; rw [hN]; exact zB0 e5
       rcases hgd with z | z
       ·obtain ⟨vs',e7,r7⟩:=c2.obj n a _ e6 z; exact ⟨vs',.of e7,r7⟩
       ·obtain ⟨o,vs',e7,r7⟩:=c2.obj n a _ e6 z; exact ⟨vs',.inl (.inr ⟨o,e7⟩),r7⟩
      | _ => cases e2
    obtain ⟨vs',hq,r7⟩:=key;refine ⟨fun i d hd => ?_,⟨vs',hq,by rw [r7.length]; exact zU3 _⟩⟩;obtain ⟨u,hu,ru⟩:=r7.get hd;refine ⟨⟨vs',u,hq,hu⟩,fun v H3 ⟨hH,hv⟩ => ?_⟩;subst hH;have:=hv vs' hq;rw [hu] at this; cases this;exact ⟨fun _ _ z => z,ru⟩
  ·cases hf
 ·cases hf
theorem zIS (h : zZ L H [.int j] vs) : vs = [.int j]:=by
 unfold zZ at h;obtain ⟨v,r,rfl,h1,h2⟩:=h;unfold zZ at h2;unfold Rep at h1;subst h1 h2; rfl
theorem zQW {K : PySem.W.Frag} {L : List Addr} {H : Hp} {lo : Int} {n : Nat} : zUB K (Itr lo n) L H ((List.range n).map fun (k : Nat) => D.int (lo + k)) none:=by
 intro L' H' M' s c _;refine ⟨fun i d hd => ?_,by simp [Itr]⟩;rw [zVK] at hd;cases q : (List.range n)[i]? with
 | none => rw [q] at hd; cases hd
 | some k =>
  rw [q] at hd; cases hd;have hi : i < n:=by have:=(zU0.mp q).1; simpa using this
  rw [List.getElem?_range hi] at q; cases q;refine ⟨hi,fun v H'' ⟨hH,hv⟩ => ?_⟩;subst hH hv;exact ⟨fun _ _ z => z,zAi⟩
theorem zAF {tg a : Expr} {g : FA} (hg : Gl X "range") (hm : X.mg "range" = none) (ha : QA X [a] g) (hl : zQo g 1) (hs : starEach [a] X.env = [(false,eval a X.env)]:=by rfl) : QI X tg (.Call (.Name "range" p) [a] [] pos) (zAK g) :=
 .mk <| PI.imp (zNO hg hm ha.un hs) fun τ H R zz => by
  obtain ⟨L,σ,M,xs,gd,M',c,rs,hf,q⟩:=zz;unfold zAK at hf;split at hf
  ·rename_i j M1 e1;split at hf
   ·rename_i hb;cases hf;refine ⟨L,σ,M,_,_,c,rs,e1,fun L1 H1 vs s1 c1 r1 => ⟨j,zIS r1,hb.1,hb.2,q L1 H1 _ s1 c1 ?_⟩⟩;have z:=zQW (K:=X.K) (L:=L1) (H:=H1) (lo:=0) (n:=j.toNat);simpa using z
   ·cases hf
  ·rename_i e1;have:=hl _ _ _ _ e1;simp at this
  ·cases hf
end
section
variable {X : Cx} {a b c e : Expr} {es rest : List Expr} {pos p apos cpos : Pos}
def zCa (f g : FT) : FT:=fun σ M => match f σ M with
 | some (true,M1) => g σ M1
 | r => r
def zO4 (f g : FT) : FT:=fun σ M => match f σ M with
 | some (false,M1) => g σ M1
 | r => r
structure QW (X : Cx) (e : Expr) (f : FT) : Prop where
 un : PW X e (trT X.K f)
theorem PW.imp (h : PW X e t) (hi : ∀ τ H Q,t' τ H Q -> t τ H Q) : PW X e t':=fun wh zB s σ H Q I q => h wh zB s σ H Q I (hi _ _ _ q)
theorem zGq (h : QT X a f) : QW X (.BoolOp .And [a] pos) f:=.mk (zQ0 h.un)
theorem zSN (h : QT X a f) : QW X (.BoolOp .Or [a] pos) f:=.mk (zSv h.un)
theorem zJE (h1 : QT X a f) (h2 : QW X (.BoolOp .And (b :: rest) pos) g) : QW X (.BoolOp .And (a :: b :: rest) pos) (zCa f g):=.mk <| PW.imp (zS7 h1.un h2.un) fun τ H Q zz => by
 obtain ⟨L,σ,M,d,M',c,rs,hf,q⟩:=zz;unfold zCa at hf;split at hf
 ·rename_i M1 e1;exact ⟨L,σ,M,_,_,c,rs,e1,fun L1 H1 s1 c1 => zID ⟨L1,σ,M1,_,_,c1,rs.stp s1,hf,fun L2 H2 s2 c2 => q L2 H2 (s1.trans s2) c2⟩⟩
 ·rename_i hne;cases d with
  | true => exact absurd hf (hne M')
  | false => exact ⟨L,σ,M,_,_,c,rs,hf,fun L1 H1 s1 c1 => zIL (q L1 H1 s1 c1)⟩
theorem zTx (h1 : QT X a f) (h2 : QW X (.BoolOp .Or (b :: rest) pos) g) : QW X (.BoolOp .Or (a :: b :: rest) pos) (zO4 f g):=.mk <| PW.imp (zTu h1.un h2.un) fun τ H Q zz => by
 obtain ⟨L,σ,M,d,M',c,rs,hf,q⟩:=zz;unfold zO4 at hf;split at hf
 ·rename_i M1 e1;exact ⟨L,σ,M,_,_,c,rs,e1,fun L1 H1 s1 c1 => zIL ⟨L1,σ,M1,_,_,c1,rs.stp s1,hf,fun L2 H2 s2 c2 => q L2 H2 (s1.trans s2) c2⟩⟩
 ·rename_i hne;cases d with
  | false => exact absurd hf (hne M')
  | true => exact ⟨L,σ,M,_,_,c,rs,hf,fun L1 H1 s1 c1 => zID (q L1 H1 s1 c1)⟩
theorem zQK (h : QW X e f) : QT X e f:=.mk (PW.pt h.un)
theorem zNJ (h : zr H0 L H (.dat (.bl k)) v) : v = .bl k:=by unfold zr Rep at h; exact h
def vIf (t : FT) (f g : FE) : FE:=fun σ M => match t σ M with
 | some (true,M1) => f σ M1
 | some (false,M1) => g σ M1
 | none => none
theorem zRU (hc : QT X c t) (h1 : QE X a f) (h2 : QE X b g) : QE X (.IfExp c a b pos) (vIf t f g):=.mk <| PE.imp (zPt hc.un h1.un h2.un) fun τ H Q zz => by
 obtain ⟨L,σ,M,d,M',c,rs,hf,q⟩:=zz;unfold vIf at hf;split at hf
 ·rename_i M1 e1;exact ⟨L,σ,M,_,_,c,rs,e1,fun L1 H1 s1 c1 => zID ⟨L1,σ,M1,_,_,c1,rs.stp s1,hf,fun L2 H2 w s2 c2 r2 => q L2 H2 w (s1.trans s2) c2 (r2.back s1 c s2.sub)⟩⟩
 ·rename_i M1 e1;exact ⟨L,σ,M,_,_,c,rs,e1,fun L1 H1 s1 c1 => zIL ⟨L1,σ,M1,_,_,c1,rs.stp s1,hf,fun L2 H2 w s2 c2 r2 => q L2 H2 w (s1.trans s2) c2 (r2.back s1 c s2.sub)⟩⟩
 ·cases hf
abbrev KM:=EV -> List D -> Mem -> Option (D × Mem)
def fM (k : KM) (f : FE) (g : FA) : FE:=fun σ M => match f σ M with
 | some (x,M1) => match zBy M1 x with
  | some _ => match g σ M1 with
   | some (ds,M2) => match k x ds M2 with
    | some (d,M3) => some (.dat d,M3)
    | none => none
   | none => none
  | none => none
 | none => none
def zOu (K : PySem.W.Frag) (r : V -> List V -> Hp -> VK -> Prop) (k : KM) : Prop:=∀ {L : List Addr} {M M' : Mem} {H H0 : Hp} {x : EV} {ds : List D} {d : D} {v : V} {vs : List V} {Q : VK},Cor K L M H -> zr H0 L H x v -> zZ L H ds vs -> k x ds M = some (d,M') ->
 (∀ L' H' u,Stp L H L' H' -> Cor K L' M' H' -> Rep L' H' d u -> Q u H') -> r v vs H Q
theorem zJT {K : PySem.W.Frag} {r : V -> List V -> Hp -> VK -> Prop} {k : KM} {f : FE} {g : FA} (hk : zOu K r k) {τ : Sv} {H : Hp} {Q : VK} (h : trE K (fM k f g) τ H Q) : tBM K "list" r (trE K f) (trA K g) τ H Q:=by
 obtain ⟨L,σ,M,d,M',c,rs,hf,q⟩:=h;unfold fM at hf;split at hf
 ·rename_i x M1 e1;split at hf
  ·rename_i xs e2;split at hf
   ·rename_i ds M2 e3;split at hf
    ·rename_i d' M3 e4;cases hf;refine ⟨L,σ,M,_,_,c,rs,e1,fun L1 H1 v s1 c1 r1 => ?_⟩;obtain ⟨a,vs,rfl,e5,r5⟩:=zBS c1 r1 e2;refine ⟨.inl ⟨rfl,vs,.inl e5⟩,L1,σ,M1,_,_,c1,rs.stp s1,e3,fun L2 H2 ws s2 c2 r2 => ?_⟩;exact hk c2 (r1.stp s2) r2 e4 fun L3 H3 u s3 c3 r3 => q L3 H3 u ((s1.trans s2).trans s3) c3 r3
    ·cases hf
   ·cases hf
  ·cases hf
 ·cases hf
def z0 : KM:=fun x ds M => match x,ds with
 | .dat (.ref n),[d] => match M[n]? with
  | some (.lst xs) => if xs.length < sizeLine then some (.non,M.set n (.lst (xs ++ [d]))) else none
  | _ => none
 | _,_ => none
theorem zZ.one (h : zZ L H [d] vs) : ∃ v,vs = [v] /\ Rep L H d v:=by
 unfold zZ at h;obtain ⟨v,r,rfl,h1,h2⟩:=h;unfold zZ at h2;subst h2;exact ⟨v,rfl,h1⟩
theorem zL7 {K : PySem.W.Frag} : zOu K zMa z0:=by
 intro L M M' H H0 x ds d v vs Q c rx rd hk q;unfold z0 at hk;split at hk
 ·rename_i n d';split at hk
  ·rename_i xs e1;split at hk
   ·rename_i hz;cases hk;unfold zr Rep at rx;obtain ⟨a,rfl,e2⟩:=rx;obtain ⟨ws,e3,r3⟩:=c.obj n a _ e2 e1;obtain ⟨w,rfl,r4⟩:=rd.one;obtain ⟨c5,s5⟩:=c.write e2 e1 (r3.app (.cons r4 .nil));exact ⟨a,ws,w,rfl,rfl,e3,by rw [r3.length]; exact hz,q L _ _ s5 c5 (by unfold Rep; rfl)⟩
   ·cases hk
  ·cases hk
 ·cases hk
theorem zCW (h : QE X a f) (hg : QA X [e] g) (hbase : attributeBase a "append" X.env (eval a X.env) = eval a X.env:=by rfl)
  (hfew : ((backTo cpos (starEach [e] X.env)).all (fun x => !x.1) && (backToKw cpos (keywordEach [] X.env)).all (fun x => x.1.isSome) && decide ([e].length + ([] : List Keyword).length + (if ([] : List Keyword).isEmpty then 0 else 1) < 30)) = true:=by rfl)
  (hline : (apos.endLine == cpos.line) = true:=by rfl) (hs : starEach [e] X.env = (false,eval e X.env) :: starEach [] X.env:=by rfl) (hplain : (backTo cpos (starEach [] X.env)).any (·.1) = false:=by rfl) :
  QE X (.Call (.Attribute a "append" apos) [e] [] cpos) (fM z0 f g) :=
 .mk <| PE.imp (zM2 PySem.F.plainAttrs_list PySem.F.slot_list_append PySem.F.type_list_append zND h.un hg.un hbase hfew hline hs hplain) fun _ _ _ z => zJT zL7 z
def zKG : KM:=fun x ds M => match x,ds with
 | .dat (.ref n),[.int i] => match M[n]? with
  | some (.lst xs) => match ixN xs.length i with
   | some k => match xs[k]? with
    | some d => if -(2 ^ 63) <= i /\ i < 2 ^ 63 then some (d,M.set n (.lst (xs.eraseIdx k))) else none
    | none => none
   | none => none
  | _ => none
 | _,_ => none
theorem zRJ {K : PySem.W.Frag} : zOu K zPA zKG:=by
 intro L M M' H H0 x ds d v vs Q c rx rd hk q;unfold zKG at hk;split at hk
 ·rename_i n i;split at hk
  ·rename_i xs e1;split at hk
   ·rename_i k e2;split at hk
    ·rename_i d' e3;split at hk
     ·rename_i hb;cases hk;unfold zr Rep at rx;obtain ⟨a,rfl,e4⟩:=rx;obtain ⟨ws,e5,r5⟩:=c.obj n a _ e4 e1;obtain ⟨u,e6,r6⟩:=r5.get e3;obtain ⟨c5,s5⟩:=c.write e4 e1 (r5.eraseIdx k);exact ⟨a,ws,i,k,u,rfl,zIS rd,e5,hb.1,hb.2,by rw [r5.length]; exact (zJk e2).1,e6,q L _ _ s5 c5 (r6.stp s5)⟩
     ·cases hk
    ·cases hk
   ·cases hk
  ·cases hk
 ·cases hk
theorem zT2 (h : QE X a f) (hg : QA X [e] g) (hbase : attributeBase a "pop" X.env (eval a X.env) = eval a X.env:=by rfl)
  (hfew : ((backTo cpos (starEach [e] X.env)).all (fun x => !x.1) && (backToKw cpos (keywordEach [] X.env)).all (fun x => x.1.isSome) && decide ([e].length + ([] : List Keyword).length + (if ([] : List Keyword).isEmpty then 0 else 1) < 30)) = true:=by rfl)
  (hline : (apos.endLine == cpos.line) = true:=by rfl) (hs : starEach [e] X.env = (false,eval e X.env) :: starEach [] X.env:=by rfl) (hplain : (backTo cpos (starEach [] X.env)).any (·.1) = false:=by rfl) :
  QE X (.Call (.Attribute a "pop" apos) [e] [] cpos) (fM zKG f g) :=
 .mk <| PE.imp (zM2 PySem.F.plainAttrs_list PySem.F.slot_list_pop PySem.F.type_list_pop zPT h.un hg.un hbase hfew hline hs hplain) fun _ _ _ z => zJT zRJ z
def zLL (x : EV) (i : D) (d : D) (M : Mem) : Option Mem:=match x,i with
 | .dat (.ref n),.int i => match M[n]? with
  | some (.lst xs) => match ixN xs.length i with
   | some j => some (M.set n (.lst (xs.set j d)))
   | none => none
  | _ => none
 | _,_ => none
def zMI (fv fo fi : FE) : FS:=fun σ M => match toD fv σ M with
 | some (d,M1) => match fo σ M1 with
  | some (x,M2) => match toD fi σ M2 with
   | some (i,M3) => match zLL x i d M3 with
    | some M4 => some (.nx,σ,M4)
    | none => none
   | none => none
  | none => none
 | none => none
theorem zHd (hv : QE X v fv) (ho : QE X o fo) (hi : QE X i fi)
  (ha : ∀ v,assign (.Subscript o i p) X.env v = (do
   let ov <- holding [v] (eval o X.env);let iv <- holding [v,ov] (eval i X.env);standAt p;holding [v,ov,iv] (setItem ov iv v);release [v,ov,iv] []):=by intro _; rfl)
  (hs : swapsWithSole [.Subscript o i p] v pos.line X.env = pure false:=by rfl) (hw : swappedStores [.Subscript o i p] v X.env = pure none:=by rfl) (h1 : (assignEach [.Subscript o i p] X.env).map (·.2) = [assign (.Subscript o i p) X.env]:=by rfl) :
  QS X (.Assign [.Subscript o i p] v pos) (zMI fv fo fi):=.mk <| PS.imp (zSM (zK hv).un (zSt ho.un (zK hi).un zOf ha) hs hw h1) fun E τ H zz => by
 obtain ⟨L,σ,M,out,σ',M',c,rs,hf,q⟩:=zz;unfold zMI at hf;split at hf
 ·rename_i d M1 e1;split at hf
  ·rename_i x M2 e2;split at hf
   ·rename_i j M3 e3;split at hf
    ·rename_i M4 e4;cases hf;refine ⟨L,σ,M,_,_,c,rs,e1,fun L1 H1 u s1 c1 r1 => ⟨L1,σ,M1,_,_,c1,rs.stp s1,e2,fun L2 H2 w s2 c2 r2 => ⟨L2,σ,M2,_,_,c2,rs.stp (s1.trans s2),e3,fun L3 H3 z s3 c3 r3 => ?_⟩⟩⟩;have st:=(s1.trans s2).trans s3;unfold zLL at e4;split at e4
     ·rename_i n k;split at e4
      ·rename_i xs e5;split at e4
       ·rename_i m e6;cases e4;have r2':=r2.stp s3;unfold zr Rep at r2';obtain ⟨a,rfl,e7⟩:=r2';obtain ⟨ws,e8,r8⟩:=c3.obj n a _ e7 e5;obtain ⟨c9,s9⟩:=c3.write e7 e5 (zZ.set ((r1.stp s2).stp s3) m r8);exact ⟨a,ws,k,m,rfl,by unfold Rep at r3; exact r3,e8,by rw [r8.length]; exact e6,q L3 _ (st.trans s9) c9 τ ((rs.stp st).stp s9)⟩
       ·cases e4
      ·cases e4
     ·cases e4
    ·cases hf
   ·cases hf
  ·cases hf
 ·cases hf
def zIf : D -> Option V
 | .non => some .non
 | .bl k => some (.bl k)
 | .int i => some (.int i)
 | .str x => some (.str x)
 | _ => none
theorem zFJ (h : Rep L H d v) (e : zIf d = some u) : v = u:=by
 cases d with
 | non => cases e; unfold Rep at h; exact h
 | bl _ => cases e; unfold Rep at h; exact h
 | int _ => cases e; unfold Rep at h; exact h
 | str _ => cases e; unfold Rep at h; exact h
 | tup _ => cases e
 | ref _ => cases e
def zML (neg : Bool) : K2:=fun x y M => match x,y with
 | .dat d,.dat d' => match zIf d,zIf d' with
  | some u,some w => if zRM u w then some (.dat (.bl (if neg then !decide (u = w) else decide (u = w))),M) else none
  | _,_ => none
 | _,_ => none
theorem zIs (h : zML neg x y M = some (r,M')) : ∃ d d' u w,x = .dat d /\ y = .dat d' /\ zIf d = some u /\ zIf d' = some w /\ zRM u w = true /\ r = .dat (.bl (if neg then !decide (u = w) else decide (u = w))) /\ M' = M:=by
 unfold zML at h;split at h
 ·rename_i d d';split at h
  ·rename_i u w e1 e2;split at h
   ·rename_i hs;cases h;exact ⟨d,d',u,w,rfl,rfl,e1,e2,hs,rfl,rfl⟩
   ·cases h
  ·cases h
 ·cases h
theorem zMv {K : PySem.W.Frag} : zDk K rEq (zML false):=by
 intro L M M' H H0 x y d v w Q c rx ry hk q;obtain ⟨d1,d2,u,z,rfl,rfl,e1,e2,hs,rfl,rfl⟩:=zIs hk;have a1:=zFJ rx e1;have a2:=zFJ ry e2;subst a1 a2;exact ⟨hs,q L H _ (.refl L H) c (zC1 (L:=L) (H:=H))⟩
theorem zRQ {K : PySem.W.Frag} : zDk K rNe (zML true):=by
 intro L M M' H H0 x y d v w Q c rx ry hk q;obtain ⟨d1,d2,u,z,rfl,rfl,e1,e2,hs,rfl,rfl⟩:=zIs hk;have a1:=zFJ rx e1;have a2:=zFJ ry e2;subst a1 a2;exact ⟨hs,q L H _ (.refl L H) c (zC1 (L:=L) (H:=H))⟩
def zTN (neg : Bool) (K : PySem.W.Frag) : R2:=fun x y H Q => ∃ p q xs,x = .ref p /\ y = .ref q /\ SqL K H p xs /\ SqL K H q [] /\ Q (.bl (if neg then !xs.isEmpty else xs.isEmpty)) H
theorem zJR (r : zo [] its) : its = []:=by cases r; rfl
theorem zKK (hu : X.A.units < cLine) : OpR X (compareOp .Eq) (zTN false X.K):=by
 intro zB s σ H x y v u Q I rx ry h;obtain ⟨p,q,xs,rfl,rfl,h1,h2,hq⟩:=h;cases rx;cases ry;obtain ⟨its,rv,pl,_⟩:=I.list h1;obtain ⟨its2,rv2,pl2,_⟩:=I.list h2;cases zJR rv2;cases rv with
 | nil => exact SeqAt.eq_listAt (e:=fun _ => true) pl.isList pl2.isList rfl hu (fun j h1 => by simp at h1) ⟨.bl true,H,I,rfl,hq⟩
 | cons _ _ => exact SeqAt.eq_list_lengthsAt pl.isList pl2.isList (by simp) hu ⟨.bl false,H,I,rfl,hq⟩
theorem zOb (hu : X.A.units < cLine) : OpR X (compareOp .NotEq) (zTN true X.K):=by
 intro zB s σ H x y v u Q I rx ry h;obtain ⟨p,q,xs,rfl,rfl,h1,h2,hq⟩:=h;cases rx;cases ry;obtain ⟨its,rv,pl,_⟩:=I.list h1;obtain ⟨its2,rv2,pl2,_⟩:=I.list h2;cases zJR rv2;cases rv with
 | nil => exact SeqAt.RcNeAt.lists (e:=fun _ => true) pl.isList pl2.isList rfl hu (fun j h1 => by simp at h1) _ _ _ _ ⟨.bl false,H,I,rfl,hq⟩
 | cons _ _ => exact SeqAt.RcNeAt.lists_lengths pl.isList pl2.isList (by simp) hu _ _ _ _ ⟨.bl true,H,I,rfl,hq⟩
def zOo (neg : Bool) : K2:=fun x y M => match zBy M x,zBy M y with
 | some xs,some [] => some (.dat (.bl (if neg then !xs.isEmpty else xs.isEmpty)),M)
 | _,_ => none
theorem zJj {K : PySem.W.Frag} {neg : Bool} : zDk K (zTN neg K) (zOo neg):=by
 intro L M M' H H0 x y d v w Q c rx ry hk q;unfold zOo at hk;split at hk
 ·rename_i xs e1 e2;cases hk;obtain ⟨p1,vs,rfl,h1,r1⟩:=zBS c rx e1;obtain ⟨p2,ws,rfl,h2,r2⟩:=zBS c ry e2;unfold zZ at r2;subst r2;refine ⟨p1,p2,vs,rfl,rfl,.inl h1,.inl h2,q L H _ (.refl L H) c ?_⟩;have : vs.isEmpty = xs.isEmpty:=by
   have:=r1.length;cases vs <;> cases xs <;> simp_all
  rw [this];exact (zC1 (L:=L) (H:=H))
 ·cases hk
def kOr (k1 k2 : K2) : K2:=fun x y M => match k1 x y M with
 | some r => some r
 | none => k2 x y M
theorem zJS {K : PySem.W.Frag} {r1 r2 : R2} {k1 k2 : K2} (h1 : zDk K r1 k1) (h2 : zDk K r2 k2) : zDk K (fun x y H Q => r1 x y H Q \/ r2 x y H Q) (kOr k1 k2):=by
 intro L M M' H H0 x y d v w Q c rx ry hk q;unfold kOr at hk;split at hk
 ·rename_i r e1;cases hk;exact .inl (h1 c rx ry e1 q)
 ·exact .inr (h2 c rx ry hk q)
abbrev kEq : K2:=kOr (zML false) (zOo false)
abbrev kNe : K2:=kOr (zML true) (zOo true)
variable {f g : FE}
theorem zTr (hu : X.A.units < cLine) (h1 : QE X a f) (h2 : QE X b g) : QE X (.Compare a [.Eq] [b] pos) (fOp kEq f g):=zTl (zJS zMv zJj) (zRv.or (zKK hu)) h1 h2 (zET _)
theorem zDQ (hu : X.A.units < cLine) (h1 : QE X a f) (h2 : QE X b g) : QT X (.Compare a [.Eq] [b] pos) (tst (fOp kEq f g)):=zE9 (zJS zMv zJj) (zRv.or (zKK hu)) h1 h2 (zET _)
theorem zMo (hu : X.A.units < cLine) (h1 : QE X a f) (h2 : QE X b g) : QT X (.Compare a [.NotEq] [b] pos) (tst (fOp kNe f g)):=zE9 (zJS zRQ zJj) (zTZ.or (zOb hu)) h1 h2 (zET _)
def zOH : KB:=fun xs M => match xs with
 | [.dat (.int i)] => some (.dat (.int (if i < 0 then -i else i)),M)
 | _ => none
theorem zRd {K : PySem.W.Frag} : zF0 K (fun xs H Q => ∃ i,xs = [.int i] /\ Q (.int (if i < 0 then -i else i)) H) zOH:=by
 intro L M M' H H0 xs d vs Q c r hk q;unfold zOH at hk;split at hk
 ·rename_i i;cases hk;obtain ⟨v,rfl,r1⟩:=r.one;have : v = .int i:=by unfold zr Rep at r1; exact r1
  subst this;exact ⟨i,rfl,q L H _ (.refl L H) c (zAi (L:=L) (H:=H))⟩
 ·cases hk
def zLX : KB:=fun xs M => match xs with
 | [.dat (.int i)] => some (.dat (.int i),M)
 | [.dat (.bl k)] => some (.dat (.int (if k then 1 else 0)),M)
 | _ => none
theorem zRb {K : PySem.W.Frag} : zF0 K (fun xs H Q => (∃ i,xs = [.int i] /\ Q (.int i) H) \/ ∃ k,xs = [.bl k] /\ Q (.int (if k then 1 else 0)) H) zLX:=by
 intro L M M' H H0 xs d vs Q c r hk q;unfold zLX at hk;split at hk
 ·rename_i i;cases hk;obtain ⟨v,rfl,r1⟩:=r.one;have : v = .int i:=by unfold zr Rep at r1; exact r1
  subst this;exact .inl ⟨i,rfl,q L H _ (.refl L H) c (zAi (L:=L) (H:=H))⟩
 ·rename_i k;cases hk;obtain ⟨v,rfl,r1⟩:=r.one;have:=zNJ r1;subst this;exact .inr ⟨k,rfl,q L H _ (.refl L H) c (zAi (L:=L) (H:=H))⟩
 ·cases hk
end
section
variable {X : Cx} {a b c e : Expr} {es rest : List Expr} {pos p apos cpos : Pos}
theorem zOc {prog : Program} {w : World} {A : Around} {E : Value -> Shared -> Prop} {s : Shared} {t b : Addr} {ws : List Value} {Q : Value -> Shared -> Prop} (ht : IsTup s.heap t #[]) (hb : IsTup s.heap b ws.toArray) (h1 : Q (.ref b) s) :
  wpAny (model prog w) A (binaryOp .Add (.ref t) (.ref b)) Q E s:=by
 obtain ⟨⟨cls,dd,data,sl⟩,ho,hc,n,hd⟩:=id ht;obtain ⟨⟨cls2,dd2,data2,sl2⟩,ho2,hc2,n2,hd2⟩:=id hb;simp only at hc hd hc2 hd2;subst hc hd hc2 hd2
 exact concat_meets ⟨_,ho,rfl⟩ ⟨_,ho2,rfl⟩ noFill_tuple_add seq_tuple_add PySem.F.slot_tuple_add PySem.F.entry_tuple_add (PySem.F.args_tuple_add_2 _ _)
   (tuple_addW0 t b #[] ws.toArray n n2 dd dd2 sl sl2 (by simp)) ⟨ho,ho2,h1⟩
def zO2 (K : PySem.W.Frag) : R2:=fun x y H Q => ∃ a b ys,x = .ref a /\ y = .ref b /\ SqT K H a [] /\ SqT K H b ys /\ Q (.ref b) H
theorem zPz : OpR X (binaryOp .Add) (zO2 X.K):=by
 intro zB s σ H x y v u Q I rx ry h;obtain ⟨a,b,ys,rfl,rfl,ha,hb,q⟩:=h;cases rx;cases ry;obtain ⟨its,r1,p1,_⟩:=I.tuple ha;obtain ⟨its2,r2,p2,_⟩:=I.tuple hb;cases zJR r1;exact zOc p1 p2 ⟨.ref b,H,I,rfl,q⟩
def zKs : K2:=fun x y M => match zDC x,zDC y with
 | some xs,some ys => if xs.length + ys.length <= sizeLine then some (.dat (.tup (xs ++ ys)),M) else none
 | _,_ => none
theorem zOz {K : PySem.W.Frag} : zDk K (fun x y H Q => zR9 K x y H Q \/ zO2 K x y H Q) zKs:=by
 intro L M M' H H0 x y d v w Q c rx ry hk q;unfold zKs at hk;split at hk
 ·rename_i xs ys e1 e2;split at hk
  ·rename_i hz;cases hk;obtain ⟨p1,vs,rfl,h1,r1⟩:=zBo rx e1;obtain ⟨p2,ws,rfl,h2,r2⟩:=zBo ry e2;cases xs with
   | nil =>
    refine .inr ⟨p1,p2,ws,rfl,rfl,.of (by unfold zZ at r1; subst r1; exact h1),.of h2,q L H _ (.refl L H) c ?_⟩;unfold zr Rep;exact ⟨p2,ws,rfl,h2,r2⟩
   | cons x0 xr =>
    have hv : vs ≠ []:=fun z => by have:=r1.length; rw [z] at this; simp at this
    refine .inl ⟨p1,p2,vs,ws,rfl,rfl,.of h1,.of h2,hv,by rw [r1.length,r2.length]; exact hz,fun z => ?_,fun z pp hp => ?_⟩
    ·have : ys = []:=by
      have:=r2.length; rw [z] at this;cases ys with
      | nil => rfl
      | cons _ _ => simp at this
     subst this;refine q L H _ (.refl L H) c ?_;unfold zr Rep;rw [zVh];exact ⟨p1,vs,rfl,h1,r1⟩
    ·exact q L _ _ (.upd hp) (c.upd hp) (Rep.newTup hp (r1.app r2))
  ·cases hk
 ·cases hk
abbrev zAt : K2:=kOr zUp zKs
variable {f g : FE}
theorem zBp (h1 : QE X a f) (h2 : QE X b g) : QE X (.BinOp a .Add b pos) (fOp zAt f g):=zL9 (zJS (zHl fun _ _ _ _ => zAi) zOz) (zTQ.or (zRP.or zPz)) h1 h2
def isT (t T : String) : Bool:=decide (t = T) || (decide (t = "bool") && decide (T = "int"))
theorem zZ.two (h : zZ L H [d,d'] vs) : ∃ v v',vs = [v,v'] /\ Rep L H d v /\ Rep L H d' v':=by
 unfold zZ at h;obtain ⟨v,r,rfl,h1,h2⟩:=h;obtain ⟨v',rfl,h3⟩:=h2.one;exact ⟨v,v',rfl,h1,h3⟩
section
variable {fa : FAE}
theorem zDL (hg : Gl X "len") (hm : X.mg "len" = none) (ha : QAE X [e] fa) (he : starEach [e] X.env = (false,eval e X.env) :: starEach [] X.env:=by rfl) (hpl : (backTo pos (starEach [] X.env)).any (·.1) = false:=by rfl) : QE X (.Call (.Name "len" p) [e] [] pos) (fB zBq fa) :=
 zDo zRS zJH PySem.boot_len hg hm ha (by decide) (by decide) he hpl
theorem zDK (hg : Gl X "tuple") (hm : X.mg "tuple" = none) (ha : QAE X [e] fa) (he : starEach [e] X.env = (false,eval e X.env) :: starEach [] X.env:=by rfl) (hpl : (backTo pos (starEach [] X.env)).any (·.1) = false:=by rfl) : QE X (.Call (.Name "tuple" p) [e] [] pos) (fB zBr fa) :=
 zHu zN0 zH5 (by rfl) hg hm ha (by decide) (by decide) he hpl
theorem zRt (hg : Gl X "abs") (hm : X.mg "abs" = none) (ha : QAE X [e] fa) (he : starEach [e] X.env = (false,eval e X.env) :: starEach [] X.env:=by rfl) (hpl : (backTo pos (starEach [] X.env)).any (·.1) = false:=by rfl) : QE X (.Call (.Name "abs" p) [e] [] pos) (fB zOH fa) :=
 zDo zRd zPP (by rfl) hg hm ha (by decide) (by decide) he hpl
theorem zOw (hg : Gl X "int") (hm : X.mg "int" = none) (ha : QAE X [e] fa) (he : starEach [e] X.env = (false,eval e X.env) :: starEach [] X.env:=by rfl) (hpl : (backTo pos (starEach [] X.env)).any (·.1) = false:=by rfl) : QE X (.Call (.Name "int" p) [e] [] pos) (fB zLX fa) :=
 zHu zRb zOC (by rfl) hg hm ha (by decide) (by decide) he hpl
end
end
def zKn (sc scope : Scope) : Bool:=scope.names.all fun y =>
 (y.2 != .local || scope.names.lookup y.1 == some .local) && (y.2 != .cell || scope.names.lookup y.1 == some .cell) && (y.2 != .free || (sc.names.lookup y.1 == some .cell || sc.names.lookup y.1 == some .free))
def zM5 (N : List Str) (scope : Scope) (own : List Nat) : Bool:=(List.range N.length).all fun i => match N[i]? with
 | some x => decide (i ∈ own) || (scope.names.lookup x == none) || (scope.names.lookup x == some .free)
 | none => true
theorem zm (hk : scope.kind = .function) (hs : X.env.scope = sc) (hN : X.N = N) (h1 : zKn sc scope = true) (h2 : zM5 N scope own = true) : CompIn X scope own:=by
 unfold zKn at h1;rw [zVY] at h1;refine ⟨⟨hk,fun y hy e => ?_,fun y hy e => ?_,fun y hy e => ?_⟩,fun i x e => ?_⟩
 ·have:=h1 y hy;simp [e] at this;exact this
 ·have:=h1 y hy;simp [e] at this;exact this
 ·have:=h1 y hy;simp [e] at this;show X.env.scope.names.lookup y.1 = _ \/ X.env.scope.names.lookup y.1 = _;rw [hs];exact this
 ·unfold zM5 at h2;rw [zVY] at h2;rw [hN] at e;have hi : i < N.length:=(zU0.mp e).1;have:=h2 i (by simpa using hi);rw [e] at this;simp only [Bool.or_eq_true,zWA,beq_iff_eq,or_assoc] at this;exact this
def zJf (K : PySem.W.Frag) : Bool:=K.all fun p => match p.2.cls with
 | .type n => n != "list"
 | _ => true
theorem zK8 : ∀ {K : PySem.W.Frag},K.lookup a = some o -> (a,o) ∈ K
 | [],h => by cases h
 | (b,u) :: r,h => by
  have h' : List.lookup a ((b,u) :: r) = some o:=h;rw [zW2] at h';cases q : a == b with
  | true => rw [q] at h'; cases h'; rw [beq_iff_eq.mp q]; exact zVB
  | false => rw [q] at h'; exact zVA _ (zK8 h')
theorem zN7 {K : PySem.W.Frag} (h : zJf K = true) {o : Obj} (e : K.lookup a = some o) (hc : o.cls = .type "list") : False:=by
 unfold zJf at h;rw [zVY] at h;have:=h (a,o) (zK8 e);simp [hc] at this
theorem zIw : ∀ (ns : List Int),zZ L H (ns.map D.int) (ns.map V.int)
 | [] => .nil
 | n :: r => .cons (by unfold Rep; rfl) (zIw r)
theorem zM7 {K : PySem.W.Frag} {m : FF} {H : Hp} {a : Addr} {ns : List Int} {E : XK} (hL : zJf K = true) (hO : zQ6 H) (hS : SqL K H a (ns.map V.int)) (h : ∃ M',m [.ref 0] [.fro (ns.map D.int)] = some (.bl true,M')) :
  spF K 1 m [.ref a] H (fun v _ => v = .bl true) E:=by
 obtain ⟨M',e⟩:=h;have hf : ∃ o,H a = some (.frz o (.lst (ns.map V.int))):=by
  rcases hS with (h1 | h1) | ⟨o,its,n,h1,h2,_⟩
  ·rcases hO a with z | ⟨o,xs,z⟩
   ·rw [h1] at z; cases z
   ·rw [h1] at z; cases z
  ·exact h1
  ·exact (zN7 hL h1 h2).elim
 obtain ⟨o,hf⟩:=hf;refine ⟨[a],[.ref 0],[.fro (ns.map D.int)],_,_,⟨rfl,by simp,fun n b m e1 e2 => ?_⟩,.cons ?_ .nil,rfl,e,fun L' H' v s c r => ?_⟩
 ·cases n with
  | zero => simp at e1 e2; subst e1; subst e2; exact ⟨o,_,hf,zIw ns⟩
  | succ n => simp at e1
 ·unfold Rep; exact ⟨a,rfl,rfl⟩
 ·unfold Rep at r; exact r
def Ok {α : Type} (x : Option (α × Mem)) (P : α -> Mem -> Prop) : Prop:=∃ a M,x = some (a,M) /\ P a M
def OkS (x : Option (Out × Sd × Mem)) (P : Out -> Sd -> Mem -> Prop) : Prop:=∃ o σ M,x = some (o,σ,M) /\ P o σ M
theorem Ok.mono {α : Type} {x : Option (α × Mem)} {P Q : α -> Mem -> Prop} (h : Ok x P) (hq : ∀ a M,P a M -> Q a M) : Ok x Q:=let ⟨a,M,e,p⟩:=h; ⟨a,M,e,hq a M p⟩
theorem OkS.mono {x : Option (Out × Sd × Mem)} {P Q : Out -> Sd -> Mem -> Prop} (h : OkS x P) (hq : ∀ o σ M,P o σ M -> Q o σ M) : OkS x Q:=let ⟨a,σ,M,e,p⟩:=h; ⟨a,σ,M,e,hq a σ M p⟩
theorem zAJ {α : Type} {a : α} {M : Mem} {P : α -> Mem -> Prop} : Ok (some (a,M)) P ↔ P a M:=⟨fun ⟨_,_,e,p⟩ => by cases e; exact p,fun p => ⟨a,M,rfl,p⟩⟩
theorem zFq {α : Type} {P : α -> Mem -> Prop} : Ok (none : Option (α × Mem)) P ↔ False:=⟨(fun ⟨_,_,e,_⟩ => (nomatch e)),fun h => h.elim⟩
theorem zQL {o : Out} {σ : Sd} {M : Mem} {P : Out -> Sd -> Mem -> Prop} : OkS (some (o,σ,M)) P ↔ P o σ M:=⟨fun ⟨_,_,_,e,p⟩ => by cases e; exact p,fun p => ⟨o,σ,M,rfl,p⟩⟩
section
variable {σ : Sd} {M : Mem} {f g : FE} {P : EV -> Mem -> Prop}
theorem zAR {i : Nat} : Ok (zD i σ M) P ↔ ∃ d,σ[i]? = some (some d) /\ P (.dat d) M:=by
 unfold zD;constructor
 ·rintro ⟨a,M1,e,p⟩;split at e
  ·rename_i d e1; cases e; exact ⟨d,e1,p⟩
  ·cases e
 ·rintro ⟨d,e1,p⟩;rw [e1]; exact ⟨_,_,rfl,p⟩
theorem zCf {d : D} : Ok (fC d σ M) P ↔ P (.dat d) M:=zAJ
theorem zAm {k : K2} : Ok (fOp k f g σ M) P ↔ Ok (f σ M) fun x M1 => Ok (g σ M1) fun y M2 => Ok (k x y M2) P:=by
 unfold fOp;constructor
 ·rintro ⟨a,M1,e,p⟩;split at e
  ·rename_i x M2 e1;split at e
   ·rename_i y M3 e2;exact ⟨x,M2,e1,y,M3,e2,a,M1,e,p⟩
   ·cases e
  ·cases e
 ·rintro ⟨x,M2,e1,y,M3,e2,a,M1,e,p⟩;rw [e1]; dsimp only; rw [e2]; exact ⟨a,M1,e,p⟩
def zIM (P : D -> Mem -> Prop) : EV -> Mem -> Prop
 | .dat d,M => P d M
 | .fl xs,M => P (.ref M.length) (M ++ [.lst xs])
theorem zAz {P : D -> Mem -> Prop} : Ok (toD f σ M) P ↔ Ok (f σ M) (zIM P):=by
 unfold toD;constructor
 ·rintro ⟨a,M1,e,p⟩;split at e
  ·rename_i d M2 e1; cases e; exact ⟨_,_,e1,p⟩
  ·rename_i xs M2 e1; cases e; exact ⟨_,_,e1,p⟩
  ·cases e
 ·rintro ⟨x,M2,e1,p⟩;rw [e1];cases x with
  | dat d => exact ⟨d,M2,rfl,p⟩
  | fl xs => exact ⟨_,_,rfl,p⟩
theorem zX {P : D -> Mem -> Prop} {d : D} {M : Mem} : zIM P (.dat d) M ↔ P d M:=Iff.rfl
theorem zFM {P : D -> Mem -> Prop} {xs : List D} {M : Mem} : zIM P (.fl xs) M ↔ P (.ref M.length) (M ++ [.lst xs]):=Iff.rfl
section
variable {P : List D -> Mem -> Prop}
theorem zB3 : Ok (zS σ M) P ↔ P [] M:=zAJ
theorem zAp {f : FD} {g : FA} : Ok (zI f g σ M) P ↔ Ok (f σ M) fun d M1 => Ok (g σ M1) fun ds M2 => P (d :: ds) M2:=by
 unfold zI;constructor
 ·rintro ⟨a,M1,e,p⟩;split at e
  ·rename_i x M2 e1;split at e
   ·rename_i y M3 e2;cases e;exact ⟨x,M2,e1,y,_,e2,p⟩
   ·cases e
  ·cases e
 ·rintro ⟨x,M2,e1,y,M3,e2,p⟩;rw [e1]; dsimp only; rw [e2]; exact ⟨_,_,rfl,p⟩
end
section
variable {P : List EV -> Mem -> Prop}
theorem zGu : Ok (zAC σ M) P ↔ P [] M:=zAJ
theorem zFx {f : FE} {g : FAE} : Ok (zg f g σ M) P ↔ Ok (f σ M) fun d M1 => Ok (g σ M1) fun ds M2 => P (d :: ds) M2:=by
 unfold zg;constructor
 ·rintro ⟨a,M1,e,p⟩;split at e
  ·rename_i x M2 e1;split at e
   ·rename_i y M3 e2;cases e;exact ⟨x,M2,e1,y,_,e2,p⟩
   ·cases e
  ·cases e
 ·rintro ⟨x,M2,e1,y,M3,e2,p⟩;rw [e1]; dsimp only; rw [e2]; exact ⟨_,_,rfl,p⟩
end
theorem zSQ {a : FA} : Ok (zCZ a σ M) P ↔ Ok (a σ M) fun ds M1 => ds.length <= sizeLine /\ P (.dat (.tup ds)) M1:=by
 unfold zCZ;constructor
 ·rintro ⟨x,M1,e,p⟩;split at e
  ·rename_i ds M2 e1;split at e
   ·rename_i hz; cases e; exact ⟨ds,_,e1,hz,p⟩
   ·cases e
  ·cases e
 ·rintro ⟨ds,M1,e1,hz,p⟩;rw [e1]; dsimp only; rw [zVC hz]; exact ⟨_,_,rfl,p⟩
theorem zJN {a : FA} : Ok (zAh a σ M) P ↔ Ok (a σ M) fun ds M1 => ds.length <= sizeLine /\ P (.fl ds) M1:=by
 unfold zAh;constructor
 ·rintro ⟨x,M1,e,p⟩;split at e
  ·rename_i ds M2 e1;split at e
   ·rename_i hz; cases e; exact ⟨ds,_,e1,hz,p⟩
   ·cases e
  ·cases e
 ·rintro ⟨ds,M1,e1,hz,p⟩;rw [e1]; dsimp only; rw [zVC hz]; exact ⟨_,_,rfl,p⟩
theorem zRB {k : KB} {a : FAE} : Ok (fB k a σ M) P ↔ Ok (a σ M) fun xs M1 => Ok (k xs M1) P:=by
 unfold fB;constructor
 ·rintro ⟨x,M1,e,p⟩;split at e
  ·rename_i ds M2 e1; exact ⟨ds,_,e1,x,M1,e,p⟩
  ·cases e
 ·rintro ⟨ds,M1,e1,p⟩;rw [e1]; exact p
theorem zCj {m : FF} {a : FA} : Ok (zb m a σ M) P ↔ Ok (a σ M) fun ds M1 => Ok (m ds M1) fun d M2 => P (.dat d) M2:=by
 unfold zb;constructor
 ·rintro ⟨x,M1,e,p⟩;split at e
  ·rename_i ds M2 e1;split at e
   ·rename_i d M3 e2; cases e; exact ⟨ds,_,e1,d,_,e2,p⟩
   ·cases e
  ·cases e
 ·rintro ⟨ds,M1,e1,d,M2,e2,p⟩;rw [e1]; dsimp only; rw [e2]; exact ⟨_,_,rfl,p⟩
theorem zH8 {k : KM} {a : FA} : Ok (fM k f a σ M) P ↔ Ok (f σ M) fun x M1 => (∃ xs,zBy M1 x = some xs) /\ Ok (a σ M1) fun ds M2 => Ok (k x ds M2) fun d M3 => P (.dat d) M3:=by
 unfold fM;constructor
 ·rintro ⟨x,M1,e,p⟩;split at e
  ·rename_i y M2 e1;split at e
   ·rename_i xs e2;split at e
    ·rename_i ds M3 e3;split at e
     ·rename_i d M4 e4; cases e; exact ⟨y,_,e1,⟨xs,e2⟩,ds,_,e3,d,_,e4,p⟩
     ·cases e
    ·cases e
   ·cases e
  ·cases e
 ·rintro ⟨y,M1,e1,⟨xs,e2⟩,ds,M2,e3,d,M3,e4,p⟩;rw [e1]; dsimp only; rw [e2]; dsimp only; rw [e3]; dsimp only; rw [e4]; exact ⟨_,_,rfl,p⟩
section
variable {P : Option Int -> Mem -> Prop}
theorem zG2 : Ok (zEz σ M) P ↔ P none M:=zAJ
def zTi (P : Option Int -> Mem -> Prop) : EV -> Mem -> Prop
 | .dat (.int i),M => P (some i) M
 | _,_ => False
theorem zHM {i : Int} {M : Mem} : zTi P (.dat (.int i)) M ↔ P (some i) M:=Iff.rfl
theorem zHE : Ok (zEZ f σ M) P ↔ Ok (f σ M) (zTi P):=by
 unfold zEZ;constructor
 ·rintro ⟨x,M1,e,p⟩;split at e
  ·rename_i i M2 e1; cases e; exact ⟨_,_,e1,p⟩
  ·cases e
 ·rintro ⟨x,M1,e1,p⟩;rw [e1];cases x with
  | fl xs => exact p.elim
  | dat d =>
   cases d with
   | int i => exact ⟨_,_,rfl,p⟩
   | _ => exact p.elim
end
theorem zPJ {l h : FO} : Ok (fSl f l h σ M) P ↔ Ok (f σ M) fun x M1 => Ok (l σ M1) fun lo M2 => Ok (h σ M2) fun hi M3 => Ok (kSl x lo hi M3) P:=by
 unfold fSl;constructor
 ·rintro ⟨x,M1,e,p⟩;split at e
  ·rename_i y M2 e1;split at e
   ·rename_i lo M3 e2;split at e
    ·rename_i hi M4 e3; exact ⟨y,_,e1,lo,_,e2,hi,_,e3,x,M1,e,p⟩
    ·cases e
   ·cases e
  ·cases e
 ·rintro ⟨y,M1,e1,lo,M2,e2,hi,M3,e3,p⟩;rw [e1]; dsimp only; rw [e2]; dsimp only; rw [e3]; exact p
def blP (P : Bool -> Mem -> Prop) : EV -> Mem -> Prop
 | .dat (.bl k),M => P k M
 | _,_ => False
theorem zHJ {P : Bool -> Mem -> Prop} {k : Bool} {M : Mem} : blP P (.dat (.bl k)) M ↔ P k M:=Iff.rfl
theorem zHS {P : Bool -> Mem -> Prop} : Ok (tst f σ M) P ↔ Ok (f σ M) (blP P):=by
 unfold tst;constructor
 ·rintro ⟨x,M1,e,p⟩;split at e
  ·rename_i i M2 e1; cases e; exact ⟨_,_,e1,p⟩
  ·cases e
 ·rintro ⟨x,M1,e1,p⟩;rw [e1];cases x with
  | fl xs => exact p.elim
  | dat d =>
   cases d with
   | bl i => exact ⟨_,_,rfl,p⟩
   | _ => exact p.elim
section
variable {P : Bool -> Mem -> Prop} {s t : FT}
theorem zKY : Ok (zAI σ M) P ↔ P true M:=zAJ
theorem zRF : Ok (zCa s t σ M) P ↔ Ok (s σ M) fun k M1 => if k then Ok (t σ M1) P else P false M1:=by
 unfold zCa;constructor
 ·rintro ⟨x,M1,e,p⟩;split at e
  ·rename_i M2 e1; exact ⟨true,M2,e1,by dsimp only; rw [zVC rfl]; exact ⟨x,M1,e,p⟩⟩
  ·rename_i hn;cases x with
   | true => exact absurd e (hn M1)
   | false => exact ⟨false,M1,e,by simpa using p⟩
 ·rintro ⟨x,M1,e1,p⟩;rw [e1];cases x with
  | true => simpa using p
  | false => exact ⟨false,M1,rfl,by simpa using p⟩
end
theorem zSg {t : FT} : Ok (vIf t f g σ M) P ↔ Ok (t σ M) fun k M1 => if k then Ok (f σ M1) P else Ok (g σ M1) P:=by
 unfold vIf;constructor
 ·rintro ⟨x,M1,e,p⟩;split at e
  ·rename_i M2 e1; exact ⟨_,_,e1,by dsimp only; rw [zVC rfl]; exact ⟨x,M1,e,p⟩⟩
  ·rename_i M2 e1; exact ⟨_,_,e1,by simpa using ⟨x,M1,e,p⟩⟩
  ·cases e
 ·rintro ⟨x,M1,e1,p⟩;rw [e1];cases x with
  | true => simpa using p
  | false => simpa using p
end
section
variable {σ : Sd} {M : Mem} {f g : FS} {P : Out -> Sd -> Mem -> Prop}
def nxP (k : Sd -> Mem -> Prop) (P : Out -> Sd -> Mem -> Prop) : Out -> Sd -> Mem -> Prop
 | .nx,σ,M => k σ M
 | o,σ,M => P o σ M
theorem zc {k : Sd -> Mem -> Prop} : nxP k P .nx σ M ↔ k σ M:=Iff.rfl
theorem zDy {k : Sd -> Mem -> Prop} {d : D} : nxP k P (.ret d) σ M ↔ P (.ret d) σ M:=Iff.rfl
theorem zBG : OkS (zB4 σ M) P ↔ P .nx σ M:=zQL
theorem zW : OkS (za f g σ M) P ↔ OkS (f σ M) (nxP (fun σ1 M1 => OkS (g σ1 M1) P) P):=by
 unfold za;constructor
 ·rintro ⟨o,σ1,M1,e,p⟩;split at e
  ·rename_i σ2 M2 e1; exact ⟨_,_,_,e1,o,σ1,M1,e,p⟩
  ·rename_i hn;refine ⟨o,σ1,M1,e,?_⟩;cases o with
   | nx => exact absurd e (hn σ1 M1)
   | _ => exact p
 ·rintro ⟨o,σ1,M1,e1,p⟩;rw [e1];cases o with
  | nx => exact p
  | _ => exact ⟨_,_,_,rfl,p⟩
theorem zBh {c : FT} : OkS (sIf c f g σ M) P ↔ Ok (c σ M) fun k M1 => if k then OkS (f σ M1) P else OkS (g σ M1) P:=by
 unfold sIf;constructor
 ·rintro ⟨o,σ1,M1,e,p⟩;split at e
  ·rename_i M2 e1; exact ⟨_,_,e1,by dsimp only; rw [zVC rfl]; exact ⟨o,σ1,M1,e,p⟩⟩
  ·rename_i M2 e1; exact ⟨_,_,e1,by simpa using ⟨o,σ1,M1,e,p⟩⟩
  ·cases e
 ·rintro ⟨x,M1,e1,p⟩;rw [e1];cases x with
  | true => simpa using p
  | false => simpa using p
theorem zAx {h : FE} : OkS (zAj h σ M) P ↔ Ok (h σ M) (zIM fun d M1 => P (.ret d) σ M1):=by
 rw [<- zAz];unfold zAj;constructor
 ·rintro ⟨o,σ1,M1,e,p⟩;split at e
  ·rename_i d M2 e1; cases e; exact ⟨_,_,e1,p⟩
  ·cases e
 ·rintro ⟨x,M1,e1,p⟩;rw [e1]; exact ⟨_,_,_,rfl,p⟩
theorem zi {i : Nat} {h : FE} : OkS (zAB i h σ M) P ↔ Ok (h σ M) (zIM fun d M1 => P .nx (σ.set i (some d)) M1):=by
 rw [<- zAz];unfold zAB;constructor
 ·rintro ⟨o,σ1,M1,e,p⟩;split at e
  ·rename_i d M2 e1; cases e; exact ⟨_,_,e1,p⟩
  ·cases e
 ·rintro ⟨x,M1,e1,p⟩;rw [e1]; exact ⟨_,_,_,rfl,p⟩
theorem zBm {h : FE} : OkS (zAq h σ M) P ↔ Ok (h σ M) fun _ M1 => P .nx σ M1:=by
 unfold zAq;constructor
 ·rintro ⟨o,σ1,M1,e,p⟩;split at e
  ·rename_i d M2 e1; cases e; exact ⟨_,_,e1,p⟩
  ·cases e
 ·rintro ⟨x,M1,e1,p⟩;rw [e1]; exact ⟨_,_,_,rfl,p⟩
theorem zJe {v o i : FE} : OkS (zMI v o i σ M) P ↔ Ok (v σ M) (zIM fun d M1 => Ok (o σ M1) fun x M2 => Ok (i σ M2) (zIM fun j M3 => ∃ M4,zLL x j d M3 = some M4 /\ P .nx σ M4)):=by
 rw [<- zAz];unfold zMI;constructor
 ·rintro ⟨o,σ1,M1,e,p⟩;split at e
  ·rename_i d M2 e1;split at e
   ·rename_i x M3 e2;split at e
    ·rename_i j M4 e3;split at e
     ·rename_i M5 e4;cases e;refine ⟨_,_,e1,_,_,e2,?_⟩;dsimp only; rw [<- zAz];exact ⟨_,_,e3,_,e4,p⟩
     ·cases e
    ·cases e
   ·cases e
  ·cases e
 ·rintro ⟨d,M1,e1,x,M2,e2,p⟩;rw [<- zAz] at p;obtain ⟨j,M3,e3,M4,e4,p⟩:=p;rw [e1]; dsimp only; rw [e2]; dsimp only; rw [e3]; dsimp only; rw [e4]; exact ⟨_,_,_,rfl,p⟩
theorem zAe {n : Nat} {ds : List D} {Q : D -> Mem -> Prop} : Ok (zB9 n f ds M) Q ↔ OkS (f (ds.map some ++ List.replicate (n - ds.length) none) M) fun o _ M1 => match o with | .ret d => Q d M1 | .nx => Q .non M1 | _ => False:=by
 unfold zB9;constructor
 ·rintro ⟨o,M1,e,p⟩;split at e
  ·rename_i d σ1 M2 e1; cases e; exact ⟨_,_,_,e1,p⟩
  ·rename_i σ1 M2 e1; cases e; exact ⟨_,_,_,e1,p⟩
  ·cases e
 ·rintro ⟨o,σ1,M1,e1,p⟩;rw [e1];cases o with
  | ret d => exact ⟨_,_,rfl,p⟩
  | nx => exact ⟨_,_,rfl,p⟩
  | brk => exact p.elim
  | cnt => exact p.elim
theorem zCH {c : FT} {b : FS} (I : Nat -> Sd -> Mem -> Prop) (hs : ∀ m σ M,I m σ M -> Ok (c σ M) fun k M1 => if k then OkS (b σ M1) fun o σ2 M2 => match o with | .nx => ∃ m',m' < m /\ I m' σ2 M2 | .cnt => ∃ m',m' < m /\ I m' σ2 M2 | .brk => P .nx σ2 M2 | .ret d => P (.ret d) σ2 M2 else P .nx σ M1) :
  ∀ (n m : Nat) (σ : Sd) (M : Mem),m < n -> I m σ M -> OkS (zBI c b n σ M) P
 | 0,m,σ,M,h,_ => absurd h (Nat.not_lt_zero _)
 | n + 1,m,σ,M,h,hi => by
  obtain ⟨k,M1,e,q⟩:=hs m σ M hi;unfold zBI;rw [e];cases k with
  | false => exact ⟨_,_,_,rfl,by simpa using q⟩
  | true =>
   rw [zVC rfl] at q;obtain ⟨o,σ2,M2,e2,q⟩:=q;dsimp only;rw [e2];cases o with
   | nx => obtain ⟨m',hm,q⟩:=q; exact zCH I hs n m' σ2 M2 (by omega) q
   | cnt => obtain ⟨m',hm,q⟩:=q; exact zCH I hs n m' σ2 M2 (by omega) q
   | brk => exact ⟨_,_,_,rfl,q⟩
   | ret d => exact ⟨_,_,_,rfl,q⟩
theorem zBX {g : FG} {b : FS} {all : List D} {gd : Option (Mem -> Prop)} (I : List D -> Sd -> Mem -> Prop)
  (hs : ∀ x r σ M,I (x :: r) σ M -> zBD gd all M /\ ∃ σ1,g x σ = some σ1 /\ OkS (b σ1 M) fun o σ2 M2 => match o with | .nx => I r σ2 M2 | .cnt => I r σ2 M2 | .brk => P .nx σ2 M2 | .ret d => P (.ret d) σ2 M2)
  (he : ∀ σ M,I [] σ M -> zBD gd all M /\ P .nx σ M) : ∀ (xs : List D) (σ : Sd) (M : Mem),I xs σ M -> OkS (zCb g b all gd xs σ M) P
 | [],σ,M,hi => by
  unfold zCb;obtain ⟨h1,h2⟩:=he σ M hi;rw [zVC h1];exact ⟨_,_,_,rfl,h2⟩
 | x :: r,σ,M,hi => by
  unfold zCb;obtain ⟨h1,σ1,e1,o,σ2,M2,e2,q⟩:=hs x r σ M hi;rw [zVC h1,e1];dsimp only;rw [e2];cases o with
  | nx => exact zBX I hs he r σ2 M2 q
  | cnt => exact zBX I hs he r σ2 M2 q
  | brk => exact ⟨_,_,_,rfl,q⟩
  | ret d => exact ⟨_,_,_,rfl,q⟩
theorem zBd {i : FI} {g : FG} {b : FS} : OkS (zCG i g b σ M) P ↔ ∃ xs gd M1,i σ M = some (xs,gd,M1) /\ OkS (zCb g b xs gd xs σ M1) P:=by
 unfold zCG;constructor
 ·rintro ⟨o,σ1,M1,e,p⟩;split at e
  ·rename_i xs gd M2 e1; exact ⟨_,_,_,e1,_,_,_,e,p⟩
  ·cases e
 ·rintro ⟨xs,gd,M1,e1,p⟩;rw [e1]; exact p
theorem zDl {g : FG} {tc : FT} {te : FE} {all : List D} {gd : Option (Mem -> Prop)} (I : List D -> List D -> Mem -> Prop)
  (hs : ∀ x r acc M,I (x :: r) acc M -> zBD gd all M /\ ∃ σ1,g x σ = some σ1 /\ Ok (tc σ1 M) fun k M1 => if k then Ok (te σ1 M1) (zIM fun d M2 => I r (acc ++ [d]) M2) else I r acc M1)
  {Q : List D -> Mem -> Prop} (he : ∀ acc M,I [] acc M -> zBD gd all M /\ Q acc M) : ∀ (xs acc : List D) (M : Mem),I xs acc M -> Ok (zBN g tc te σ all gd xs M) fun ys M1 => Q (acc ++ ys) M1
 | [],acc,M,hi => by
  unfold zBN;obtain ⟨h1,h2⟩:=he acc M hi;rw [zVC h1];exact ⟨_,_,rfl,by simpa using h2⟩
 | x :: r,acc,M,hi => by
  unfold zBN;obtain ⟨h1,σ1,e1,k,M1,e2,q⟩:=hs x r acc M hi;rw [zVC h1,e1];dsimp only;rw [e2];cases k with
  | false => exact zDl I hs he r acc M1 (by simpa using q)
  | true =>
   rw [zVC rfl,<- zAz] at q;obtain ⟨d,M2,e3,q⟩:=q;dsimp only;rw [e3];obtain ⟨ys,M3,e4,p⟩:=zDl I hs he r (acc ++ [d]) M2 q;dsimp only;rw [e4];exact ⟨_,_,rfl,by simpa using p⟩
theorem zDz {own : List Nat} {i : FI} {g : FG} {tc : FT} {te : FE} {Q : EV -> Mem -> Prop} : Ok (zAQ own i g tc te σ M) Q ↔ ∃ xs gd M1,i σ M = some (xs,gd,M1) /\ xs.length <= sizeLine /\ Ok (zBN g tc te (zBc own σ) xs gd xs M1) fun ys M2 => Q (.fl ys) M2:=by
 unfold zAQ;constructor
 ·rintro ⟨o,M1,e,p⟩;split at e
  ·rename_i xs gd M2 e1;split at e
   ·rename_i hz;split at e
    ·rename_i ys M3 e2; cases e; exact ⟨_,_,_,e1,hz,_,_,e2,p⟩
    ·cases e
   ·cases e
  ·cases e
 ·rintro ⟨xs,gd,M1,e1,hz,ys,M2,e2,p⟩;rw [e1]; dsimp only; rw [zVC hz,e2]; exact ⟨_,_,rfl,p⟩
theorem zFY {h : FE} {x : EV} {M1 : Mem} {xs : List D} (e : h σ M = some (x,M1)) (e2 : zAZ M1 x = some xs) : zAW h σ M = some (xs,zDS x xs,M1):=by
 unfold zAW; rw [e]; dsimp only; rw [e2]
theorem zHs {a : FA} {M1 : Mem} {j : Int} (e : a σ M = some ([.int j],M1)) (h1 : 0 <= j) (h2 : j < 2 ^ 62) : zAK a σ M = some ((List.range j.toNat).map fun (k : Nat) => D.int k,none,M1):=by
 unfold zAK; rw [e]; dsimp only; rw [zVC ⟨by omega,h2⟩]
end
section
variable {M : Mem} {P : EV -> Mem -> Prop} {i j : Int}
theorem zGN : Ok (zAt (.dat (.int i)) (.dat (.int j)) M) P ↔ P (.dat (.int (i + j))) M:=zAJ
theorem zPG : Ok (zNy (.dat (.int i)) (.dat (.int j)) M) P ↔ zNY i j = true /\ P (.dat (.int (i * j))) M:=by
 unfold zNy kI; dsimp only; split
 ·rename_i h; rw [zAJ]; simp [h]
 ·rename_i h; rw [zFq]; simp [h]
theorem zGc : Ok (zF7 (.dat (.int i)) (.dat (.int j)) M) P ↔ 0 < j /\ P (.dat (.int (i % j))) M:=by
 unfold zF7 kI; dsimp only; split
 ·rename_i h; rw [zAJ]; simp at h; simp [h]
 ·rename_i h; rw [zFq]; simp at h; simp; intro h'; omega
theorem zPY : Ok (zNS (.dat (.int i)) (.dat (.int j)) M) P ↔ (0 < j /\ j < 1073741824) /\ P (.dat (.int (i / j))) M:=by
 unfold zNS kI; dsimp only; split
 ·rename_i h; rw [zAJ]; simp at h; simp [h]
 ·rename_i h; rw [zFq]; simp at h; simp; intro h' h2; have:=h h'; omega
theorem zR1 : Ok (zPM (.dat (.int i)) (.dat (.int j)) M) P ↔ (0 <= j /\ j <= 1000000 /\ i.natAbs < 2 ^ 64) /\ P (.dat (.int (i ^ j.toNat))) M:=by
 unfold zPM kI; dsimp only; split
 ·rename_i h; rw [zAJ]; simp only [zVX,zWA] at h; simp [h]
 ·rename_i h; rw [zFq]; simp only [zVX,zWA,not_and] at h; simp only [false_iff,not_and]; intro ⟨a,b,c⟩; exact absurd c (h ⟨a,b⟩)
theorem zTn : Ok (kLt (.dat (.int i)) (.dat (.int j)) M) P ↔ P (.dat (.bl (decide (i < j)))) M:=zAJ
theorem zUh : Ok (kGe (.dat (.int i)) (.dat (.int j)) M) P ↔ P (.dat (.bl (decide (j <= i)))) M:=zAJ
theorem zKF : Ok (kEq (.dat (.int i)) (.dat (.int j)) M) P ↔ P (.dat (.bl (decide (i = j)))) M:=by
 have : kEq (.dat (.int i)) (.dat (.int j)) M = some (.dat (.bl (decide (V.int i = V.int j))),M):=rfl;rw [this,zAJ]; simp
theorem zUi : Ok (kNe (.dat (.int i)) (.dat (.int j)) M) P ↔ P (.dat (.bl (decide (i ≠ j)))) M:=by
 have : kNe (.dat (.int i)) (.dat (.int j)) M = some (.dat (.bl (!decide (V.int i = V.int j))),M):=rfl;rw [this,zAJ]; simp
theorem zUQ {xs ys : List D} : Ok (zAt (.dat (.tup xs)) (.dat (.tup ys)) M) P ↔ xs.length + ys.length <= sizeLine /\ P (.dat (.tup (xs ++ ys))) M:=by
 have : zAt (.dat (.tup xs)) (.dat (.tup ys)) M = zKs (.dat (.tup xs)) (.dat (.tup ys)) M:=rfl;rw [this]; unfold zKs; dsimp only [zDC]; split
 ·rename_i h; rw [zAJ]; simp [h]
 ·rename_i h; rw [zFq]; simp [h]
theorem zMT {x : EV} {xs : List D} (h : zBy M x = some xs) (hx : ∀ d,x = .dat d -> zIf d = none) : Ok (kNe x (.fl []) M) P ↔ P (.dat (.bl (!xs.isEmpty))) M:=by
 have e1 : zML true x (.fl []) M = none:=by cases x <;> rfl
 have e2 : kNe x (.fl []) M = some (.dat (.bl (!xs.isEmpty)),M):=by
  unfold kNe kOr; rw [e1]; unfold zOo; rw [h]; rfl
 rw [e2,zAJ]
theorem zOU {x : EV} {xs : List D} {d : D} (h : zAZ M x = some xs) (hd : atI xs i = some d) (p : P (.dat d) M) : Ok (kIx x (.dat (.int i)) M) P:=by
 have : kIx x (.dat (.int i)) M = some (.dat d,M):=by unfold kIx; dsimp only; rw [h]; dsimp only; rw [hd]
 rw [this,zAJ]; exact p
theorem zLM {xs : List D} {k : Nat} {d : D} (h : xs[k]? = some d) : atI xs (k : Int) = some d:=zM4 h
theorem zPf {xs : List D} {i : Int} {d : D} (h0 : 0 <= i) (h : xs[i.toNat]? = some d) : atI xs i = some d:=by
 have : i = ((i.toNat : Nat) : Int):=by omega
 rw [this]; exact zM4 h
theorem zSB {x : EV} {xs : List D} (h : zAZ M x = some xs) : Ok (zBq [x] M) P ↔ P (.dat (.int xs.length)) M:=by
 have : zBq [x] M = some (.dat (.int xs.length),M):=by unfold zBq; dsimp only; rw [h]
 rw [this,zAJ]
theorem zMr {x : EV} {xs : List D} (h : zAZ M x = some xs) : Ok (zBr [x] M) P ↔ P (.dat (.tup xs)) M:=by
 have : zBr [x] M = some (.dat (.tup xs),M):=by unfold zBr; dsimp only; rw [h]
 rw [this,zAJ]
theorem zR6 : Ok (zOH [.dat (.int i)] M) P ↔ P (.dat (.int (if i < 0 then -i else i))) M:=zAJ
theorem zMK {x : EV} {xs : List D} {lo hi : Option Int} (h : zBy M x = some xs) (ht : zDC x = none) : Ok (kSl x lo hi M) P ↔ P (.fl (zGi xs lo hi)) M:=by
 have : kSl x lo hi M = some (.fl (zGi xs lo hi),M):=by unfold kSl; rw [ht]; dsimp only; rw [h]
 rw [this,zAJ]
theorem zAU {xs : List D} : zAZ M (.dat (.tup xs)) = some xs:=rfl
theorem zER {xs : List D} : zAZ M (.fl xs) = some xs:=rfl
theorem zSX {xs : List D} : zBy M (.fl xs) = some xs:=rfl
theorem zBT {n : Nat} {xs : List D} (h : M[n]? = some (.lst xs)) : zBy M (.dat (.ref n)) = some xs:=by unfold zBy; dsimp only; rw [h]
theorem zJ1 {n : Nat} {xs : List D} (h : M[n]? = some (.fro xs)) : zBy M (.dat (.ref n)) = some xs:=by unfold zBy; dsimp only; rw [h]
theorem zAA {n : Nat} {xs : List D} (h : M[n]? = some (.lst xs)) : zAZ M (.dat (.ref n)) = some xs:=zBT h
theorem zRh {n : Nat} {xs : List D} (h : M[n]? = some (.fro xs)) : zAZ M (.dat (.ref n)) = some xs:=zJ1 h
theorem zCv {n : Nat} {xs : List D} {d : D} {Q : D -> Mem -> Prop} (h : M[n]? = some (.lst xs)) (hz : xs.length < sizeLine) : Ok (z0 (.dat (.ref n)) [d] M) Q ↔ Q .non (M.set n (.lst (xs ++ [d]))):=by
 have : z0 (.dat (.ref n)) [d] M = some (.non,M.set n (.lst (xs ++ [d]))):=by unfold z0; dsimp only; rw [h]; dsimp only; rw [zVC hz]
 rw [this,zAJ]
theorem zSh {n : Nat} {x : D} {xs : List D} {Q : D -> Mem -> Prop} (h : M[n]? = some (.lst (x :: xs))) : Ok (zKG (.dat (.ref n)) [.int 0] M) Q ↔ Q x (M.set n (.lst xs)):=by
 have : zKG (.dat (.ref n)) [.int 0] M = some (x,M.set n (.lst xs)):=by
  unfold zKG; dsimp only; rw [h]; dsimp only;have e : ixN (x :: xs).length 0 = some 0:=by unfold ixN; rw [zVC (by omega),zVC (by simp)]; rfl
  rw [e]; dsimp only [List.getElem?_cons_zero]; rw [zVC (by decide)]; rfl
 rw [this,zAJ]
theorem zHZ {n k : Nat} {xs : List D} {d : D} (h : M[n]? = some (.lst xs)) (hk : k < xs.length) : zLL (.dat (.ref n)) (.int k) d M = some (M.set n (.lst (xs.set k d))):=by
 unfold zLL; dsimp only; rw [h]; dsimp only;have e : ixN xs.length (k : Int) = some k:=by unfold ixN; rw [zVC (by omega),zVC (by omega)]; simp
 rw [e]
end
theorem zMh {m : FF} {ds : List D} {M : Mem} {Q : D -> Mem -> Prop} (h : Ok (m ds M) fun d M1 => (D.und M.length d = true /\ M.length <= M1.length /\ ∀ (j : Nat) u,j < M.length -> M1[j]? = some u -> MO.und M.length u = true) /\ Q d (M1.take M.length)) : Ok (zIQ m ds M) Q:=by
 obtain ⟨d,M1,e,⟨h1,h2,h3⟩,q⟩:=h;unfold zIQ;rw [e];dsimp only;rw [zVC]
 ·exact ⟨_,_,rfl,q⟩
 ·simp only [zVX,zWA,zVY];refine ⟨⟨h1,fun u hu => ?_⟩,h2⟩;obtain ⟨j,hj⟩:=List.getElem?_of_mem hu;have hlt : j < M.length:=by
   have:=(zU0.mp hj).1;rw [zWL] at this; omega
  rw [List.getElem?_take_of_lt hlt] at hj;exact h3 j u hlt hj
theorem zFr {m : FF} {ds : List D} {M : Mem} {Q : D -> Mem -> Prop} (h0 : D.unds 0 ds = true) (h : Ok (m ds []) fun d _ => D.und 0 d = true /\ Q d M) : Ok (zFW m ds M) Q:=by
 obtain ⟨d,M1,e,h1,q⟩:=h;unfold zFW;rw [zVC h0,e];dsimp only;rw [zVC h1];exact ⟨_,_,rfl,q⟩
section
variable {prog : Program} {w : World} {A : Around} {E : Value -> Shared -> Prop} {s : Shared}
theorem Tup.but (x : h.IsTuple a its) (hs : Heap.ExtBut b h h') (n : a ≠ b) : h'.IsTuple a its:=x.extBut hs n
theorem zLP (I : s.heap.IsTupleIter it t i) (T : s.heap.IsTuple t its) (hx : its[i]? = some x)
  (q : ∀ h',h'.IsTupleIter it t (i + 1) -> Heap.SameBut it s.heap h' -> Q x { s with heap:=h' }) : wpAny (model prog w) A (Builtin.SmallTypes.nextOf (.ref it)) Q E s:=by
 obtain ⟨o,O,C,FD⟩:=id I;obtain ⟨u,U,_,m,G⟩:=T;unfold Builtin.SmallTypes.nextOf;refine zUx (zVZ (name:=Str.ofString "__next__") I.typeIs PySem.F.slot_tuple_iterator_next (zVa PySem.F.slot_tuple_iterator_next I.typeIs PySem.F.entry_tuple_iterator_next ?_ (PySem.F.args_tuple_iterator_next_1 _)));refine zUx (m:=field (.ref it) 0) (wpAny_field O FD (x:=.ref t) rfl ?_);rw [zVF (show ¬ ((Value.ref t == Value.none) = true) by exact zVJ)];refine zUx (m:=field (.ref it) 1) (wpAny_field O FD (x:=.int i 0) rfl ?_);refine zUx (m:=seqItems? (.ref t)) (wpAny_seqItems U G ?_);simp only [hx,Int.toNat_natCast];refine zUx (wpAny_setField O FD (by simp) (zUz ⟨x,rfl,zUz (q _ ⟨_,zVk _ O (Obj.isFreed_of_fields (zWE FD _)),(Obj.cls_mapFields ..).trans C,?_⟩ (zV0 ..))⟩));rw [zWE FD];simp [rawInt]
theorem zI5 (hh : A.handled = none) (I : s.heap.IsTupleIter it t i) (T : s.heap.IsTuple t its) (hx : its[i]? = none)
  (q : ∀ h' e,Heap.ExtBut it s.heap h' -> (∃ o,h'.get? e = some o /\ o.cls = .type "StopIteration") -> E (.ref e) { s with heap:=h' }) : wpAny (model prog w) A (Builtin.SmallTypes.nextOf (.ref it)) Q E s:=by
 obtain ⟨o,O,C,FD⟩:=id I;obtain ⟨u,U,_,m,G⟩:=T;unfold Builtin.SmallTypes.nextOf;refine zUx (zVZ (name:=Str.ofString "__next__") I.typeIs PySem.F.slot_tuple_iterator_next (zVa PySem.F.slot_tuple_iterator_next I.typeIs PySem.F.entry_tuple_iterator_next ?_ (PySem.F.args_tuple_iterator_next_1 _)));refine zUx (m:=field (.ref it) 0) (wpAny_field O FD (x:=.ref t) rfl ?_);rw [zVF (show ¬ ((Value.ref t == Value.none) = true) by exact zVJ)];refine zUx (m:=field (.ref it) 1) (wpAny_field O FD (x:=.int i 0) rfl ?_);refine zUx (m:=seqItems? (.ref t)) (wpAny_seqItems U G ?_);simp only [hx,Int.toNat_natCast];refine zUx (zWK (zUx (wpAny_setField O FD (by simp) ?_)));refine zUx (m:=newExc (.type "StopIteration") []) ?_;simp only [newTuple,newExc];refine zUx (zVQ (zUx (m:=firstArgMember _ _) (wpAny_of_eq (a:=Value.none) (by first | rfl | (simp only [firstArgMember]; rfl)) (zVQ ?_ (by size_fits)))) (by size_fits));simp only [raiseNew];refine zUx (wpAny_handled ?_);first | rw [hh] | rw [show A.in1.handled = none from hh]
 exact zUx (zUz (wpAny_throw (q _ _ (((zV0 ..).extBut.push _).push _) ⟨_,zU7 _ rfl,rfl⟩)))
end
theorem zKA {X : Cx} {zB : List (Addr × Obj)} {σ : L2.St} {H : Hp} {s : Shared} {h' : Heap} {t' : Nat} {ch : List Addr} {T : Addr} {o : HO} (I : Inv X zB σ H s) (hf : ∀ b ∈ ch,zCr X zB H b)
  (k : ∀ b u,b ∉ ch -> s.heap.get? b = some u -> h'.get? b = some u) (hT : s.heap.objs.size <= T) (new : zBC X.prog X.w (upd H T o) h' T o) : Inv X zB σ (upd H T o) { s with heap:=h',toks:=t' }:=by
 have hn : H T = none:=I.hok.fresh hT;have nch : ∀ b u,H b = some u -> b ∉ ch:=fun b u e z => by rw [(hf b z).1] at e; cases e
 have un : ∀ b u,H b = some u -> upd H T o b = some u:=fun b u e => by rw [zk (zAa e hn)]; exact e
 refine I.step (g':=s.gens) (d':=s.drawn) (ch:=ch) (fun b hb => ⟨(hf b hb).2.2.2.1,(hf b hb).2.1,(hf b hb).2.2.2.2.1,(hf b hb).2.2.2.2.2⟩) (fun b u _ _ hc e _ => k b u hc e) (fun b u _ _ hc e _ => ⟨u.slots,k b u hc e⟩)
  (fun b u _ e n => by rw [zk (fun z => by rw [z] at e; exact absurd (zU8 e) (Nat.not_lt.mpr hT))]; exact n) (fun b u hc e => ⟨u,k b u hc e⟩) (fun b xs e => un b _ e) (fun b p u e => un b _ e) (fun b ps e => ⟨#[],by rw [un b _ e]; simp⟩) (fun m hm => ?_) (fun b u e => ?_) I.bare
 ·obtain ⟨p,es,ep,ho,r⟩:=hm;exact ⟨p,es,ep,k _ p (fun z => (hf _ z).2.1 rfl) ho,r⟩
 ·by_cases hb : b = T
  ·subst hb; rw [zAg] at e; cases e; exact new
  ·rw [zk hb] at e;refine (I.hok b u e).stay (fun c v hc q => k c v ?_ q) (fun c q => un c _ q) fun c xs q => un c _ q;rcases hc with z | z
   ·rw [z]; exact nch b u e
   ·exact nch c _ z
theorem zNn {X : Cx} {zB : List (Addr × Obj)} {σ : L2.St} {H : Hp} {s : Shared} {h' : Heap} {t' : Nat} {ch : List Addr} (I : Inv X zB σ H s) (hf : ∀ b ∈ ch,zCr X zB H b)
  (k : ∀ b u,b ∉ ch -> s.heap.get? b = some u -> h'.get? b = some u) : Inv X zB σ H { s with heap:=h',toks:=t' }:=by
 have nch : ∀ b u,H b = some u -> b ∉ ch:=fun b u e z => by rw [(hf b z).1] at e; cases e
 refine I.step (g':=s.gens) (d':=s.drawn) (ch:=ch) (fun b hb => ⟨(hf b hb).2.2.2.1,(hf b hb).2.1,(hf b hb).2.2.2.2.1,(hf b hb).2.2.2.2.2⟩) (fun b u _ _ hc e _ => k b u hc e) (fun b u _ _ hc e _ => ⟨u.slots,k b u hc e⟩)
  (fun b u _ e n => n) (fun b u hc e => ⟨u,k b u hc e⟩) (fun b xs e => e) (fun b p u e => e) (fun b ps e => ⟨#[],by rw [e]; simp⟩) (fun m hm => ?_) (fun b u e => ?_) I.bare
 ·obtain ⟨p,es,ep,ho,r⟩:=hm;exact ⟨p,es,ep,k _ p (fun z => (hf _ z).2.1 rfl) ho,r⟩
 ·refine (I.hok b u e).stay (fun c v hc q => k c v ?_ q) (fun c q => q) fun c xs q => q;rcases hc with z | z
  ·rw [z]; exact nch b u e
  ·exact nch c _ z
section
variable {X : Cx} {a b : Expr} {es : List Expr} {ek : Nat} {ep p pos : Pos}
def zMk (i j : Nat) : FG:=fun d σ => match d with
 | .tup [x,y] => some ((σ.set i (some x)).set j (some y))
 | _ => none
abbrev gP2 (K : PySem.W.Frag) (i j : Nat) : TG:=zUS K 2 (zOh (zEB i) (zOh (zEB j) zUR))
theorem zN9 {K : PySem.W.Frag} {own : List Nat} {i j : Nat} (hi : i ∈ own) (hj : j ∈ own) : zFZ own (gP2 K i j) (zMk i j):=by
 intro L H σ σ' τ τ0 d v Q rs ex r hf q;unfold zMk at hf;split at hf
 ·rename_i x y;cases hf;unfold Rep at r;obtain ⟨a,vs,rfl,e,r⟩:=r;obtain ⟨v1,v2,rfl,r1,r2⟩:=r.two;exact ⟨a,_,rfl,.of e,rfl,v1,[v2],rfl,v2,[],rfl,rfl,q _ ((rs.set r1).set r2) ((ex.set hi).set hj)⟩
 ·cases hf
end
section
variable {X : Cx} {a b c e : Expr} {es : List Expr} {pos p p2 pos2 : Pos} {f g h : FE}
theorem zMU : ∀ {bs : List Bool} {its : List Value},zo (bs.map V.bl) its -> ∀ (i : Nat) v,its[i]? = some v -> ∃ k,bs[i]? = some k /\ v = .bool k
 | [],_,.nil,_,_,h => by simp at h
 | k :: bs,_,.cons r t,0,v,h => by
  simp at h; subst h;exact ⟨k,rfl,r⟩
 | k :: bs,_,.cons r t,i + 1,v,h => by
  obtain ⟨k',e1,e2⟩:=zMU t i v (by simpa using h);exact ⟨k',by simpa using e1,e2⟩
theorem zMM (bs : List Bool) : ((List.range bs.length).any fun i => (bs[i]?).getD false) = bs.any id:=by
 rw [Bool.eq_iff_iff,List.any_eq_true,List.any_eq_true];constructor
 ·rintro ⟨i,hi,q⟩;rw [zU1 (zVb.mp hi)] at q;exact ⟨_,zVV _,q⟩
 ·rintro ⟨k,hk,q⟩;obtain ⟨i,hi,rfl⟩:=zW0 hk;exact ⟨i,zVb.mpr hi,by rw [zU1 hi]; exact q⟩
def zUM (K : PySem.W.Frag) (F : List Bool -> Bool) : List V -> Hp -> VK -> Prop:=fun xs H Q => ∃ q bs,xs = [.ref q] /\ SqL K H q (bs.map V.bl) /\ Q (.bl (F bs)) H
theorem zOG (hc : X.calm = true) : zCQ X (.builtin "any") (zUM X.K fun bs => bs.any id):=by
 intro zB s σ H xs us Q I r h;obtain ⟨l,bs,rfl,hq,q⟩:=h;obtain ⟨u,rfl,rx⟩:=zD7 r;cases rx;obtain ⟨its,rv,pl,_⟩:=I.list hq;have hlt : l < s.heap.objs.size:=by obtain ⟨_,z,_⟩:=pl.isList; exact zU8 z
 refine call_any_walk (wpAny_pyIter_list pl.isList ⟨s.heap.objs.size,[s.heap.objs.size,l],[s.heap.objs.size],its.toArray.size,_,_,fun i => (bs[i]?).getD false,rfl,Walks.list (A:=X.A.in1) (I.ok.hd hc) _ l (zVI hlt) its.toArray,
  ⟨⟨_,zU7 _ rfl,rfl,rfl⟩,pl.isList.push _⟩,fun i v s' Q' E' hP hQ => ?_,fun h' tk hk => ?_⟩)
 ·obtain ⟨k,z,rfl⟩:=zMU rv i v (by simpa using hP);dsimp only at hQ; rw [z] at hQ;exact wpAny_truthy_bool hQ
 ·have hl:=rv.length;rw [zU6] at hl;rw [zU5,<- hl,zMM];exact ⟨.bl _,H,I.kept (t':=tk) fun b o z => hk b o (fun m => by rw [zVP.mp m] at z; exact zVf _ (zU8 z)) (zUy _ z),rfl,q⟩
def zFL : List D -> Option (List Bool)
 | [] => some []
 | .bl k :: r => match zFL r with
  | some bs => some (k :: bs)
  | none => none
 | _ => none
theorem zMm : ∀ {ds : List D} {bs : List Bool} {vs : List V},zFL ds = some bs -> zZ L H ds vs -> vs = bs.map V.bl
 | [],bs,vs,e,r => by cases e; unfold zZ at r; exact r
 | d :: ds,bs,vs,e,r => by
  unfold zZ at r;obtain ⟨v,r',rfl,r1,r2⟩:=r;cases d with
  | bl k =>
   unfold zFL at e;cases q : zFL ds with
   | none => rw [q] at e; cases e
   | some bs' =>
    rw [q] at e; cases e;unfold Rep at r1;rw [r1,zMm q r2]; rfl
  | _ => cases e
def zNd (F : List Bool -> Bool) : KB:=fun xs M => match xs with
 | [x] => match zBy M x with
  | some ds => match zFL ds with
   | some bs => some (.dat (.bl (F bs)),M)
   | none => none
  | none => none
 | _ => none
theorem zRc {K : PySem.W.Frag} {F : List Bool -> Bool} : zF0 K (zUM K F) (zNd F):=by
 intro L M M' H H0 xs d vs Q c r hk q;unfold zNd at hk;split at hk
 ·rename_i x;split at hk
  ·rename_i ds e1;split at hk
   ·rename_i bs e2;cases hk;obtain ⟨v,rfl,r1⟩:=r.one;obtain ⟨l,ws,rfl,h1,r2⟩:=zBS c r1 e1;have:=zMm e2 r2;subst this;exact ⟨l,bs,rfl,.inl h1,q L H _ (.refl L H) c (zC1 (L:=L) (H:=H))⟩
   ·cases hk
  ·cases hk
 ·cases hk
abbrev zTG : KB:=zNd fun bs => bs.any id
section
variable {fa : FAE}
theorem zTY (hc : X.calm = true) (hg : Gl X "any") (hm : X.mg "any" = none) (ha : QAE X [e] fa) (he : starEach [e] X.env = (false,eval e X.env) :: starEach [] X.env:=by rfl) (hpl : (backTo pos (starEach [] X.env)).any (·.1) = false:=by rfl) : QE X (.Call (.Name "any" p) [e] [] pos) (fB zTG fa) :=
 zDo zRc (zOG hc) (by rfl) hg hm ha (by decide) (by decide) he hpl
end
theorem zUG (h : zBy M x = some ds) (hb : zFL ds = some bs) : Ok (zNd F [x] M) P ↔ P (.dat (.bl (F bs))) M:=by
 have : zNd F [x] M = some (.dat (.bl (F bs)),M):=by unfold zNd; dsimp only; rw [h]; dsimp only; rw [hb]
 rw [this,zAJ]
theorem zIO : ∀ bs : List Bool,zFL (bs.map D.bl) = some bs
 | [] => rfl
 | k :: bs => by rw [zVG]; unfold zFL; rw [zIO bs]
def zL0 : V -> Bool
 | .non => true
 | .bl _ => true
 | _ => false
theorem zOv : OpR X (compareOp .IsNot) (fun x y H Q => zL0 y = true /\ Q (.bl (!decide (x = y))) H):=by
 intro zB s σ H x y v u Q I rx ry h;obtain ⟨hp,q⟩:=h;cases y with
 | non =>
  cases ry;refine wpAny_isNot_plain (by cases x <;> first | (cases rx; rfl) | (obtain ⟨t,rfl⟩:=rx; rfl)) (zAD I q ?_);cases x <;> first | (cases rx; rfl) | (obtain ⟨t,rfl⟩:=rx; rfl)
 | bl k =>
  cases ry;refine wpAny_isNot_plain (by cases x <;> first | (cases rx; rfl) | (obtain ⟨t,rfl⟩:=rx; rfl)) (zAD I q ?_);cases x with
  | bl k' => cases rx; cases k <;> cases k' <;> rfl
  | _ => first | (cases rx; rfl) | (obtain ⟨t,rfl⟩:=rx; rfl)
 | _ => cases hp
def isD : EV -> D -> Option Bool
 | x,.non => match x with
  | .dat .non => some true
  | _ => some false
 | x,.bl k => match x with
  | .dat (.bl k') => some (decide (k' = k))
  | _ => some false
 | _,_ => none
def kIs (neg : Bool) : K2:=fun x y M => match y with
 | .dat d => match isD x d with
  | some k => some (.dat (.bl (if neg then !k else k)),M)
  | none => none
 | _ => none
theorem zQs (rx : zr H0 L H x v) (ry : Rep L H d w) (e : isD x d = some k) : zL0 w = true /\ decide (v = w) = k:=by
 cases d with
 | non =>
  unfold Rep at ry; subst ry;refine ⟨rfl,?_⟩;cases x with
  | fl xs => obtain ⟨q,vs,rfl,_⟩:=rx; cases e; rfl
  | dat d' =>
   cases d' with
   | non => unfold zr Rep at rx; subst rx; cases e; rfl
   | bl _ => unfold zr Rep at rx; subst rx; cases e; rfl
   | int _ => unfold zr Rep at rx; subst rx; cases e; rfl
   | str _ => unfold zr Rep at rx; subst rx; cases e; rfl
   | tup _ => unfold zr Rep at rx; obtain ⟨q,vs,rfl,_⟩:=rx; cases e; rfl
   | ref _ => unfold zr Rep at rx; obtain ⟨q,rfl,_⟩:=rx; cases e; rfl
 | bl k' =>
  unfold Rep at ry; subst ry;refine ⟨rfl,?_⟩;cases x with
  | fl xs => obtain ⟨q,vs,rfl,_⟩:=rx; cases e; rfl
  | dat d' =>
   cases d' with
   | non => unfold zr Rep at rx; subst rx; cases e; rfl
   | bl j => unfold zr Rep at rx; subst rx; cases e; cases j <;> cases k' <;> rfl
   | int _ => unfold zr Rep at rx; subst rx; cases e; rfl
   | str _ => unfold zr Rep at rx; subst rx; cases e; rfl
   | tup _ => unfold zr Rep at rx; obtain ⟨q,vs,rfl,_⟩:=rx; cases e; rfl
   | ref _ => unfold zr Rep at rx; obtain ⟨q,rfl,_⟩:=rx; cases e; rfl
 | _ => cases e
theorem zOs (h : kIs neg x y M = some (r,M')) : ∃ d k,y = .dat d /\ isD x d = some k /\ r = .dat (.bl (if neg then !k else k)) /\ M' = M:=by
 unfold kIs at h;split at h
 ·rename_i d;split at h
  ·rename_i k e1; cases h; exact ⟨d,k,rfl,e1,rfl,rfl⟩
  ·cases h
 ·cases h
theorem zPN {K : PySem.W.Frag} : zDk K (fun x y H Q => zL0 y = true /\ Q (.bl (!decide (x = y))) H) (kIs true):=by
 intro L M M' H H0 x y d v w Q cc rx ry hk q;obtain ⟨d',k,rfl,e,rfl,rfl⟩:=zOs hk;obtain ⟨h1,h2⟩:=zQs rx ry e;refine ⟨h1,?_⟩;rw [h2];exact q L H _ (.refl L H) cc (zC1 (L:=L) (H:=H))
theorem zQZ (h1 : QE X a f) (h2 : QE X b g) : QT X (.Compare a [.IsNot] [b] pos) (tst (fOp (kIs true) f g)):=zE9 zPN zOv h1 h2 (zET _)
def zNx (f : FE) : FE:=fun σ M => match f σ M with
 | some (.dat (.int i),M1) => some (.dat (.int (-i)),M1)
 | _ => none
theorem zRw (h1 : QE X a f) : QE X (.UnaryOp .USub a pos) (zNx f):=.mk <| PE.imp (zTj zSW h1.un) fun τ H Q zz => by
 obtain ⟨L,σ,M,d,M',cc,rs,hf,q⟩:=zz;unfold zNx at hf;split at hf
 ·rename_i i M1 e1;cases hf;refine ⟨L,σ,M,_,_,cc,rs,e1,fun L1 H1 v s1 c1 r1 => ?_⟩;exact ⟨i,by unfold zr Rep at r1; exact r1,q L1 H1 _ s1 c1 (zAi (L:=L1) (H:=H1))⟩
 ·cases hf
def zFb : KB:=fun xs M => match xs with
 | [x] => match zAZ M x with
  | some ys => some (.fl ys,M)
  | none => none
 | _ => none
theorem zOR : zF0 X.K (fun xs H Q => ∃ q ys,xs = [.ref q] /\ (SqL X.K H q ys \/ SqT X.K H q ys) /\ ∀ l,H l = none -> Q (.ref l) (upd H l (.lst ys))) zFb:=by
 intro L M M' H H0 xs d vs Q cc r hk q;unfold zFb at hk;split at hk
 ·rename_i x;split at hk
  ·rename_i ys e1;cases hk;obtain ⟨v,rfl,r1⟩:=r.one;obtain ⟨l,ws,rfl,hs,r2⟩:=zGp cc r1 e1;refine ⟨l,ws,rfl,hs,fun k hk => ?_⟩;exact q L _ _ (.upd hk) (cc.upd hk) (zr.newLst (.refl L H) cc cc hk r2)
  ·cases hk
 ·cases hk
theorem zO7 (hg : Gl X "list") (hm : X.mg "list" = none) (ha : QAE X [e] fa) (he : starEach [e] X.env = (false,eval e X.env) :: starEach [] X.env:=by rfl) (hpl : (backTo pos (starEach [] X.env)).any (·.1) = false:=by rfl) : QE X (.Call (.Name "list" p) [e] [] pos) (fB zFb fa) :=
 zHu zOR zJn (by rfl) hg hm ha (by decide) (by decide) he hpl
end
open AutoSeq1 (wpAny_loadPart')
section
variable {prog : Program} {w : World} {A : Around} {E : Value -> Shared -> Prop} {s : Shared}
theorem zO3 {r : Addr} {lo hi : Int} {t u v : Tok} {n : Nat} {Q : List Value -> Shared -> Prop} (hh : A.handled = none) (R : IsRange s.heap r lo hi 1 t u v) (sm : Builtin.Range.small lo hi 1 = true) (hn : Builtin.Range.rangeSize lo hi 1 = n) (hz : n <= 2 ^ 24)
  (q : ∀ h' tk (acc : Array Value),(∀ b o,s.heap.get? b = some o -> h'.get? b = some o) -> ItemsOf (fun i v => ∃ t,v = .int (lo + i * 1) t) acc n -> Q acc.toList { s with heap:=h',toks:=tk }) : wpAny (model prog w) A (collect (.ref r)) Q E s:=by
 unfold collect;refine zUx (wpAny_runValue (zV2 PySem.F.entry_proto_collect ?_));rw [zVs PySem.F.plain_proto_collect _];refine zUx (m:=newList []) (zVQ (zUz ⟨plainId_quiet PySem.F.plain_list_iadd _,zV2 PySem.F.entry_list_iadd ?_⟩));rw [zVs PySem.F.plain_list_iadd _];have S0 : (s.heap.push { cls:=.type "list", data:=.seq ([] : List Value).toArray }).get? s.heap.objs.size = some { cls:=.type "list", data:=.seq #[] 0 }:=zU7 _ rfl
 have fin : ∀ (h' : Heap) (tk : Nat) (acc : Array Value) (k : Nat),(∀ b o,b ≠ s.heap.objs.size -> (s.heap.push { cls:=.type "list", data:=.seq ([] : List Value).toArray }).get? b = some o -> h'.get? b = some o) ->
   h'.get? s.heap.objs.size = some { cls:=.type "list", dict:=none,data:=.seq acc k,slots:=#[] } -> ItemsOf (fun i v => ∃ t,v = .int (lo + i * 1) t) acc n ->
   wpAny (model prog w) A (match Value.ref s.heap.objs.size with
    | Value.ref a => do
     match (<- load a).data with
      | Data.seq xs _ => pure xs.toList
      | _ => unsupported "internal:collect"
    | _ => unsupported "internal:collect") Q E { s with heap:=h',toks:=tk }:=fun h' tk acc k kp e it => by
  refine zUx (m:=load s.heap.objs.size) (wpAny_load e (zUz (q h' tk acc (fun b o m => kp b o (zVI (zU8 m)) (zUy _ m)) it)))
 refine zVT (wpAny_extend_range (A:=A) (s:={ s with heap:=s.heap.push { cls:=.type "list", data:=.seq ([] : List Value).toArray } })
  (R:=fun r s' => r = .ok (.ret (.ref s.heap.objs.size)) /\ ∃ h' tk acc k,s' = { s with heap:=h',toks:=tk } /\ (∀ b o,b ≠ s.heap.objs.size -> (s.heap.push { cls:=.type "list", data:=.seq ([] : List Value).toArray }).get? b = some o -> h'.get? b = some o) /\
   h'.get? s.heap.objs.size = some { cls:=.type "list", dict:=none,data:=.seq acc k,slots:=#[] } /\ ItemsOf (fun i v => ∃ t,v = .int (lo + i * 1) t) acc n)
  hh (zUy _ R) sm hn hz s.heap.objs.size (.ref s.heap.objs.size) 0 S0 fun h' tk acc k kp e it => ⟨rfl,h',tk,acc,k,rfl,kp,e,it⟩) (fun f s' z => ?_) (fun e s' z => ?_)
 ·cases f with
  | done f =>
   obtain ⟨e,h',tk,acc,k,rfl,z1,z2,z3⟩:=z;cases e;exact fin h' tk acc k z1 z2 z3
  | again c' => exact ⟨z.1,codeAny_mono z.2 fun r s'' z => by obtain ⟨rfl,h',tk,acc,k,rfl,z1,z2,z3⟩:=z; exact fin h' tk acc k z1 z2 z3⟩
 ·exact absurd z.1 (by simp)
end
theorem zJw (r : Addr) (lo hi : Int) (t u v : Tok) (n : Nat) (sm : Builtin.Range.small lo hi 1 = true) (hn : Builtin.Range.rangeSize lo hi 1 = n) (hz : n <= 2 ^ 24) :
  Meets (Builtin.«tuple.__new__» ⟨[.type "tuple", .ref r],[]⟩) (fun A R s => A.handled = none /\ IsRange s.heap r lo hi 1 t u v /\
   ∀ (h' : Heap) (tk : Nat) (acc : Array Value),(∀ b o,s.heap.get? b = some o -> h'.get? b = some o) -> ItemsOf (fun i v => ∃ t,v = .int (lo + i * 1) t) acc n -> R (.ok (.ret (.ref h'.objs.size))) { s with heap:=h'.push { cls:=.type "tuple", data:=.seq acc },toks:=tk }) :=
 .of_wp fun prog w A R s h => by
  obtain ⟨hp,g,d,tk,os⟩:=s;obtain ⟨hh,Ra,h⟩:=h;have h1:=sub_tuple_self;have h2:=init_tuple_lookup;have h3:=madeHere_tuple;have T : Shared.TypeIs ⟨hp,g,d,tk,os⟩ (.ref r) "range" := ⟨_,Ra,rfl⟩;wp_walk using wpAny_loadPart' Ra,wpAny_typeOf T,zO3 (show A.in1.handled = none from hh) Ra sm hn hz;intro h' tk' acc kp it;refine zUx (m:=Builtin.Tuple.tupleExact acc.toList.toArray) ?_;unfold Builtin.Tuple.tupleExact;have sz : acc.toList.toArray.size <= sizeLine:=by rw [zU5,zVg,it.1,sizeLine_eq]; omega
  refine zVQ (zUz ⟨_,rfl,?_⟩) sz;have e : acc.toList.toArray = acc:=by simp
  rw [e];exact h h' tk' acc kp it
section
variable {X : Cx} {a e : Expr} {es : List Expr} {pos p p2 pos2 : Pos} {f : FE}
theorem zKB : zCQ X (.type "range") (fun xs H Q => ∃ j,xs = [.int j] /\ ∀ l,H l = none -> Q (.ref l) (upd H l (.rng 0 j))):=by
 intro zB s σ H xs us Q I r h;obtain ⟨j,rfl,q⟩:=h;obtain ⟨u,rfl,rx⟩:=zD7 r;obtain ⟨t,rfl⟩:=rx;refine call_range_1 ⟨.ref s.heap.objs.size,_,I.laid (fun b o z => zUy _ z) (zU3 _) ?_,rfl,q _ (I.hok.fresh (zU3 _))⟩;exact ⟨_,_,_,zU7 _ rfl⟩
def upV (n : Nat) : List V:=(List.range n).map fun (k : Nat) => V.int k
theorem zLI (h : ItemsOf (fun i v => ∃ t,v = .int ((0 : Int) + i * 1) t) acc n) : zo (upV n) acc.toList:=by
 obtain ⟨hz,hi⟩:=h;have : ∀ (xs : List Value) (k : Nat),(∀ j v,xs[j]? = some v -> ∃ t,v = Value.int ((k + j : Nat) : Int) t) -> zo ((List.range' k xs.length).map fun (k : Nat) => V.int k) xs:=by
  intro xs;induction xs with
  | nil => intro k _; exact .nil
  | cons x xs ih =>
   intro k hk;rw [zVU,List.range'_succ,zVG];refine .cons ?_ (ih (k + 1) fun j v e => ?_)
   ·obtain ⟨t,e⟩:=hk 0 x rfl;exact ⟨t,by simpa using e⟩
   ·obtain ⟨t,e'⟩:=hk (j + 1) v (by simpa using e);exact ⟨t,by rw [e']; congr 2; omega⟩
 have q:=this acc.toList 0 (fun j v e => by
  obtain ⟨t,e'⟩:=hi j v (by simpa using e);exact ⟨t,by rw [e']; congr 1; omega⟩)
 unfold upV;rw [List.range_eq_range'];rw [zVg,hz] at q;exact q
theorem zIk (h0 : 0 <= j) (h1 : j <= 16777216) : Builtin.Range.small 0 j 1 = true /\ Builtin.Range.rangeSize 0 j 1 = (j.toNat : Int):=by
 refine ⟨small_one (by omega) (by omega) (by omega) (by omega),?_⟩;rw [rangeSize_one]; split <;> omega
def zTp (mk : List V -> HO) : List V -> Hp -> VK -> Prop:=fun xs H Q => ∃ r j,xs = [.ref r] /\ H r = some (.rng 0 j) /\ 0 <= j /\ j <= 16777216 /\ ∀ l,H l = none -> Q (.ref l) (upd H l (mk (upV j.toNat)))
theorem zH1 (n : Nat) : (upV n).length = n:=by unfold upV; simp
theorem zNm (hc : X.calm = true) : zCQ X (.type "tuple") (zTp HO.tup):=by
 intro zB s σ H xs us Q I r h;obtain ⟨l,j,rfl,hr,h0,h1,q⟩:=h;obtain ⟨u,rfl,rx⟩:=zD7 r;cases rx;obtain ⟨t,u,v,er⟩:=(show zBC X.prog X.w H s.heap l (.rng 0 j) from I.hok l _ hr);obtain ⟨sm,sz⟩:=zIk h0 h1
 refine callType_new PySem.F.called_tuple (by decide) (PySem.F.typeCall_tuple_1 _) (PySem.F.newCall_tuple_1 _) (fun obj => PySem.F.args_object_init_2 obj _) PySem.F.entry_tuple_new (zJw l 0 j t u v j.toNat sm sz (by omega))
  ⟨I.ok.hd hc,er,fun h' tk acc kp it => ⟨⟨_,zU7 _ rfl,rfl⟩,?_⟩⟩
 have I1 : Inv X zB σ H { s with heap:=h',toks:=tk }:=I.kept kp;refine ⟨.ref h'.objs.size,_,I1.laid (t':=tk) (fun b o z => zUy _ z) (zU3 _) ?_,rfl,q _ (I1.hok.fresh (zU3 _))⟩;exact ⟨by rw [zH1,sizeLine_eq]; omega,acc.toList,zLI it,by simpa using zC9.new h' acc⟩
theorem zNT (hc : X.calm = true) : zCQ X (.type "list") (zTp HO.lst):=by
 intro zB s σ H xs us Q I r h;obtain ⟨l,j,rfl,hr,h0,h1,q⟩:=h;obtain ⟨u,rfl,rx⟩:=zD7 r;cases rx;obtain ⟨t,u,v,er⟩:=(show zBC X.prog X.w H s.heap l (.rng 0 j) from I.hok l _ hr);obtain ⟨sm,sz⟩:=zIk h0 h1;refine call_list_range (I.ok.hd hc) er sm sz (by omega) fun h' tk acc k kp z it => ?_;refine ⟨.ref s.heap.objs.size,_,I.laid (t':=tk) kp (zU3 _) (show zBC X.prog X.w _ h' _ (.lst (upV j.toNat)) from ⟨by rw [zH1,sizeLine_eq]; omega,acc.toList,k,zLI it,by simpa using z⟩),rfl,q _ (I.hok.fresh (zU3 _))⟩
def upD (n : Nat) : List D:=(List.range n).map fun (k : Nat) => D.int k
theorem zM0 (n : Nat) : zZ L H (upD n) (upV n):=by
 have : ∀ xs : List Nat,zZ L H (xs.map fun (k : Nat) => D.int k) (xs.map fun (k : Nat) => V.int k):=by
  intro xs;induction xs with
  | nil => exact .nil
  | cons x xs ih => exact .cons zAi ih
 exact this _
def zHm (f : FE) : FE:=fun σ M => match f σ M with
 | some (.dat (.int j),M1) => if 0 <= j /\ j <= 16777216 then some (.dat (.tup (upD j.toNat)),M1) else none
 | _ => none
def zGT (f : FE) : FE:=fun σ M => match f σ M with
 | some (.dat (.int j),M1) => if 0 <= j /\ j <= 16777216 then some (.fl (upD j.toNat),M1) else none
 | _ => none
theorem zPK (hc : X.calm = true) (hg : Gl X "tuple") (hm : X.mg "tuple" = none) (hg2 : Gl X "range") (hm2 : X.mg "range" = none) (ha : QE X a f)
  (he : starEach [Expr.Call (.Name "range" p2) [a] [] pos2] X.env = (false,eval (Expr.Call (.Name "range" p2) [a] [] pos2) X.env) :: starEach [] X.env:=by rfl) (hpl : (backTo pos (starEach [] X.env)).any (·.1) = false:=by rfl)
  (he2 : starEach [a] X.env = (false,eval a X.env) :: starEach [] X.env:=by rfl) (hpl2 : (backTo pos2 (starEach [] X.env)).any (·.1) = false:=by rfl) :
  QE X (.Call (.Name "tuple" p) [.Call (.Name "range" p2) [a] [] pos2] [] pos) (zHm f) :=
 .mk <| PE.imp (zDd (zNm hc) hg hm (by rfl) (zEr (zDd zKB hg2 hm2 boot_range (zEr ha.un zGJ he2) (by decide) (by decide) he2 hpl2) zGJ he) (by decide) (by decide) he hpl) fun τ H Q zz => by
  obtain ⟨L,σ,M,d,M',c,rs,hf,q⟩:=zz;unfold zHm at hf;split at hf
  ·rename_i j M1 e1;split at hf
   ·rename_i hb;cases hf;refine ⟨L,σ,M,_,_,c,rs,e1,fun L1 H1 v s1 c1 r1 => ⟨j,by unfold zr Rep at r1; rw [r1],fun l hl => ⟨l,j,rfl,zAg,hb.1,hb.2,fun k hk => ?_⟩⟩⟩;exact q L1 _ _ ((s1.trans (.upd hl)).trans (.upd hk)) ((c1.upd hl).upd hk) (Rep.newTup hk (zM0 _))
   ·cases hf
  ·cases hf
theorem zSF (hc : X.calm = true) (hg : Gl X "list") (hm : X.mg "list" = none) (hg2 : Gl X "range") (hm2 : X.mg "range" = none) (ha : QE X a f)
  (he : starEach [Expr.Call (.Name "range" p2) [a] [] pos2] X.env = (false,eval (Expr.Call (.Name "range" p2) [a] [] pos2) X.env) :: starEach [] X.env:=by rfl) (hpl : (backTo pos (starEach [] X.env)).any (·.1) = false:=by rfl)
  (he2 : starEach [a] X.env = (false,eval a X.env) :: starEach [] X.env:=by rfl) (hpl2 : (backTo pos2 (starEach [] X.env)).any (·.1) = false:=by rfl) :
  QE X (.Call (.Name "list" p) [.Call (.Name "range" p2) [a] [] pos2] [] pos) (zGT f) :=
 .mk <| PE.imp (zDd (zNT hc) hg hm (by rfl) (zEr (zDd zKB hg2 hm2 boot_range (zEr ha.un zGJ he2) (by decide) (by decide) he2 hpl2) zGJ he) (by decide) (by decide) he hpl) fun τ H Q zz => by
  obtain ⟨L,σ,M,d,M',c,rs,hf,q⟩:=zz;unfold zGT at hf;split at hf
  ·rename_i j M1 e1;split at hf
   ·rename_i hb;cases hf;refine ⟨L,σ,M,_,_,c,rs,e1,fun L1 H1 v s1 c1 r1 => ⟨j,by unfold zr Rep at r1; rw [r1],fun l hl => ⟨l,j,rfl,zAg,hb.1,hb.2,fun k hk => ?_⟩⟩⟩;have s2 : Stp L H L1 (upd H1 l (.rng 0 j)):=s1.trans (.upd hl);exact q L1 _ _ (s2.trans (.upd hk)) ((c1.upd hl).upd hk) (zr.newLst s2 c (c1.upd hl) hk (zM0 _))
   ·cases hf
  ·cases hf
section
variable {M : Mem} {σ : Sd} {P : EV -> Mem -> Prop}
theorem zQi (e : f σ M = some (.dat (.int j),M)) (h0 : 0 <= j) (h1 : j <= 16777216) (q : P (.dat (.tup (upD j.toNat))) M) : Ok (zHm f σ M) P:=by
 refine ⟨_,_,?_,q⟩;unfold zHm; rw [e]; dsimp only; rw [zVC ⟨h0,h1⟩]
theorem zQn (e : f σ M = some (.dat (.int j),M)) (h0 : 0 <= j) (h1 : j <= 16777216) (q : P (.fl (upD j.toNat)) M) : Ok (zGT f σ M) P:=by
 refine ⟨_,_,?_,q⟩;unfold zGT; rw [e]; dsimp only; rw [zVC ⟨h0,h1⟩]
end
end
def zJ5 : Expr -> Bool
 | .Starred .. => false
 | _ => true
theorem zC (h : zJ5 e = true) : starEach (e :: es) env = (false,eval e env) :: starEach es env:=by
 cases e <;> first | rfl | cases h
theorem zAO (h : zJ5 e = true) : starEach [e] env = [(false,eval e env)]:=zC h
theorem zY : ∀ {es : List Expr},es.all zJ5 = true -> (backTo pos (starEach es env)).any (·.1) = false
 | [],_ => rfl
 | e :: es,h => by
  rw [List.all_cons,zVX] at h;rw [zC h.1];have:=zY (pos:=pos) (env:=env) h.2;simpa [backTo] using this
theorem Cor.pushO {K : PySem.W.Frag} {L : List Addr} {M : List MO} {H : Hp} {p : Addr} {o : HO} {m : MO} (c : Cor K L M H) (h : H p = none) (new : zHB K (L ++ [p]) (L2.upd H p o) p m) :
  Cor K (L ++ [p]) (M ++ [m]) (L2.upd H p o) /\ Stp L H (L ++ [p]) (L2.upd H p o):=by
 have hp : p ∉ L:=fun z => by obtain ⟨o,e⟩:=c.tracked z; rw [h] at e; cases e
 have st : Stp L H (L ++ [p]) (L2.upd H p o):=by
  refine ⟨⟨[p],rfl⟩,fun a ha => ?_,fun a o e _ => ?_,fun a o e => ?_,fun a o u e => ?_⟩
  ·rcases zVN.mp ha with z | z
   ·exact .inl z
   ·have : a = p:=by simpa using z
    subst this; exact .inr h
  all_goals (rw [zk (zAa e h)]; exact e)
 refine ⟨⟨by simp [c.len],?_,fun n a m e1 e2 => ?_⟩,st⟩
 ·rw [zWB];exact ⟨c.nd,by simp,fun a ha b hb z => by
   have : b = p:=by simpa using hb
   subst this; subst z; exact hp ha⟩
 ·by_cases hn : n < L.length
  ·rw [zU4 hn] at e1;rw [zU4 (by rw [<- c.len]; exact hn)] at e2;exact (c.obj n a m e1 e2).stp st fun o e => by rw [zk (zAa e h)]; exact e
  ·have hn' : n = L.length:=by
    have:=(zU0.mp e1).1;rw [zVD] at this;simp at this; omega
   subst hn';simp at e1;rw [c.len] at e2;simp at e2;subst e1; subst e2;exact new
theorem Cor.put {K : PySem.W.Frag} {L : List Addr} {M : List MO} {H : Hp} {n : Nat} {p : Addr} {o o' : HO} {m : MO} (c : Cor K L M H) (h1 : L[n]? = some p) (ho : H p = some o) (ht : ∀ xs,o ≠ .tup xs) (hf : ∀ a u,o ≠ .frz a u)
  (new : Stp L H L (L2.upd H p o') -> zHB K L (L2.upd H p o') p m) : Cor K L (M.set n m) (L2.upd H p o') /\ Stp L H L (L2.upd H p o'):=by
 have st : Stp L H L (L2.upd H p o'):=by
  refine ⟨⟨[],by simp⟩,fun a ha => .inl ha,fun a o e ha => ?_,fun a xs e => ?_,fun a b u e => ?_⟩
  ·rw [zk (show a ≠ p from fun z => ha (by rw [z]; exact List.mem_of_getElem? h1))]; exact e
  ·rw [zk (zG3 e ho (fun z => ht xs z.symm))]; exact e
  ·rw [zk (zG3 e ho (fun z => hf b u z.symm))]; exact e
 refine ⟨⟨by simp [c.len],c.nd,fun k a m' e1 e2 => ?_⟩,st⟩;rw [zWW] at e2;split at e2
 ·rename_i hk;subst hk;rw [h1] at e1; cases e1;split at e2
  ·cases e2; exact new st
  ·cases e2
 ·rename_i hk;have hne : a ≠ p:=fun z => hk (by
   subst z;exact (List.getElem?_inj (zU0.mp h1).1 c.nd).mp (h1.trans e1.symm))
  exact (c.obj k a m' e1 e2).stp st fun o e => by rw [zk hne]; exact e
section
variable {X : Cx} {a b e : Expr} {pos : Pos} {f g : FE}
def zHR : FE:=fun _ M => some (.dat (.ref M.length),M ++ [.dicT []])
theorem zJd : QE X (.Dict [] [] pos) zHR:=.mk <| PE.imp zPS fun τ H Q ⟨L,σ,M,d,M',c,rs,hf,q⟩ p hp => by
 unfold zHR at hf;cases hf;obtain ⟨c2,s2⟩:=c.pushO (m:=.dicT []) hp ⟨[],zAg,rfl⟩;refine q _ _ _ s2 c2 ?_;unfold zr Rep;exact ⟨p,rfl,by rw [<- c.len]; simp⟩
theorem zJG (h : Rep L H d v) (e : zHN d = some k) : v = kV k:=by
 cases d with
 | int i => cases e; unfold Rep at h; exact h
 | str x => cases e; unfold Rep at h; exact h
 | _ => cases e
def zMC (M : Mem) : EV -> Option (List D)
 | .fl xs => some xs
 | .dat (.ref n) => match M[n]? with
  | some (.lst xs) => some xs
  | _ => none
 | _ => none
theorem zOr {K : PySem.W.Frag} {L : List Addr} {M : Mem} {H H0 : Hp} {x : EV} {v : V} {xs : List D} (c : Cor K L M H) (r : zr H0 L H x v) (h : zMC M x = some xs) : ∃ a vs,v = .ref a /\ H a = some (.lst vs) /\ zZ L H xs vs:=by
 cases x with
 | fl ys =>
  cases h;obtain ⟨p,vs,rfl,_,e,_,r⟩:=r;exact ⟨p,vs,rfl,e,r⟩
 | dat d =>
  cases d with
  | ref n =>
   unfold zr Rep at r;obtain ⟨a,rfl,e⟩:=r;unfold zMC at h;dsimp only at h;split at h
   ·rename_i ys q;cases h;obtain ⟨vs,e1,r1⟩:=c.obj n a _ e q;exact ⟨a,vs,rfl,e1,r1⟩
   ·cases h
  | _ => cases h
def zIm : K2:=fun x y M => match zMC M x,zMC M y with
 | some xs,some ys => if xs.length + ys.length <= sizeLine then some (.fl (xs ++ ys),M) else none
 | _,_ => none
theorem zOn {K : PySem.W.Frag} : zDk K zT8 zIm:=by
 intro L M M' H H0 x y d v w Q c rx ry hk q;unfold zIm at hk;split at hk
 ·rename_i xs ys e1 e2;split at hk
  ·rename_i hz;cases hk;obtain ⟨l,vs,rfl,h1,r1⟩:=zOr c rx e1;obtain ⟨l2,ws,rfl,h2,r2⟩:=zOr c ry e2;refine ⟨l,l2,vs,ws,rfl,rfl,h1,h2,by rw [r1.length,r2.length]; exact hz,fun p hp => ?_⟩;exact q L _ _ (.upd hp) (c.upd hp) (zr.newLst (.refl L H) c c hp (r1.app r2))
  ·cases hk
 ·cases hk
theorem zSP (h1 : QE X a f) (h2 : QE X b g) : QE X (.BinOp a .Add b pos) (fOp zIm f g):=zL9 zOn zS6 h1 h2
theorem zTD (h1 : zMC M x = some xs) (h2 : zMC M y = some ys) (hz : xs.length + ys.length <= 100000) (q : P (.fl (xs ++ ys)) M) : Ok (zIm x y M) P:=by
 refine ⟨_,_,?_,q⟩;unfold zIm; rw [h1,h2]; dsimp only; rw [zVC (zVO hz (by decide))]
end
end L3
namespace LR
open PySem PySem.Spec PyProof.Rows
open Sem (wp)
open Sem (wp)
open AutoSeq1 (wpAny_loadPart')
open Sem (wp)
open AutoSeq1 (wpAny_loadPart')
end LR
namespace L3
open PySem PySem.Spec PyProof.Rows L2
section
variable {X : Cx} {a b e : Expr} {p p2 pos pos2 : Pos} {f g : FE}
theorem zRj (hu : X.A.units < cLine) : OpR X (compareOp .Eq) (fun x y H Q => ∃ p q xs,x = .ref p /\ y = .ref q /\ SqT X.K H p xs /\ SqT X.K H q [] /\ Q (.bl xs.isEmpty) H):=by
 intro zB s σ H x y v u Q I rx ry z;obtain ⟨p,q,xs,rfl,rfl,hp,hq,z⟩:=z;cases rx;cases ry;obtain ⟨its,r,ht,hz⟩:=I.tuple hp;obtain ⟨its2,r2,ht2,_⟩:=I.tuple hq;have e2:=r2.zero;subst e2;refine SeqAt.eq_tupleAt (e:=fun _ => true) ht ht2 hu (fun j h1 h2 => by simp at h2) ?_;have e : ((List.range (min its.toArray.size ([] : List Value).toArray.size)).all (fun _ => true) && its.toArray.size == ([] : List Value).toArray.size) = xs.isEmpty:=by
  have hl:=r.length;rw [zU5,<- hl];cases xs with
  | nil => rfl
  | cons x r => simp
 rw [e];exact zAD I z rfl
def zKS : K2:=fun x y M => match x,y with
 | .dat (.tup xs),.dat (.tup []) => some (.dat (.bl xs.isEmpty),M)
 | _,_ => none
theorem zPU {K : PySem.W.Frag} : zDk K (fun x y H Q => ∃ p q xs,x = .ref p /\ y = .ref q /\ SqT K H p xs /\ SqT K H q [] /\ Q (.bl xs.isEmpty) H) zKS:=by
 intro L M M' H H0 x y d v w Q cc rx ry hk q;unfold zKS at hk;split at hk
 ·rename_i xs;cases hk;obtain ⟨a,ws,rfl,e2,r2⟩:=zBo (xs:=xs) rx rfl;obtain ⟨b,ws',rfl,e3,r3⟩:=zBo (xs:=[]) ry rfl;have : ws' = []:=by unfold zZ at r3; exact r3
  subst this;refine ⟨a,b,ws,rfl,rfl,.of e2,.of e3,?_⟩;have e : ws.isEmpty = xs.isEmpty:=by
   have hl:=r2.length;cases xs <;> cases ws <;> first | rfl | (simp at hl)
  rw [e];exact q L H _ (.refl L H) cc (zC1 (L:=L) (H:=H))
 ·cases hk
theorem zRo (hu : X.A.units < cLine) (h1 : QE X a f) (h2 : QE X b g) : QT X (.Compare a [.Eq] [b] pos) (tst (fOp zKS f g)):=zE9 zPU (zRj hu) h1 h2 (zET _)
end
section
variable {X : Cx} {a b e o : Expr} {pos p apos cpos : Pos} {f g : FE}
def zA9 : List D -> Option (List Int)
 | [] => some []
 | .int i :: r => match zA9 r with
  | some bs => some (i :: bs)
  | none => none
 | _ => none
theorem zD3 : ∀ {ds : List D} {bs : List Int} {vs : List V},zA9 ds = some bs -> zZ L H ds vs -> vs = bs.map V.int
 | [],bs,vs,e,r => by cases e; unfold zZ at r; exact r
 | d :: ds,bs,vs,e,r => by
  unfold zZ at r;obtain ⟨v,r',rfl,r1,r2⟩:=r;cases d with
  | int k =>
   unfold zA9 at e;cases q : zA9 ds with
   | none => rw [q] at e; cases e
   | some bs' =>
    rw [q] at e; cases e;unfold Rep at r1;rw [r1,zD3 q r2]; rfl
  | _ => cases e
theorem zD1 : ∀ xs : List Int,zA9 (xs.map D.int) = some xs
 | [] => rfl
 | x :: r => by rw [zVG]; unfold zA9; rw [zD1 r]
end
end L3
namespace L2
open PySem PySem.Spec PyProof.Rows
section
variable {prog : Program} {w : World} {A : Around} {E : Value -> Shared -> Prop} {R : Result -> Shared -> Prop} {s : Shared}
theorem zIK (I : Nat -> Shared -> Prop)
  (turn : ∀ n s,I n s -> wpAny (model prog w) A (pyNext it) (fun r s₁ => match r with
   | none => R (.ok .next) s₁
   | some v => wpAny (model prog w) A (letOwnedTupleGo target it v) (fun _ s₁' => wpAny (model prog w) A (assign target env v) (fun _ s₂ =>
     wpAny (model prog w) A (forIn ifs true fun c r => if r = true then do let ok <- isTrue c env (eval c env); pure (ForInStep.yield ok) else pure (ForInStep.yield r)) (fun ok s₃ =>
      if ok = true then wpAny (model prog w) A (eval kx env) (fun kv s₄ => wpAny (model prog w) A (eval vx env) (fun vv s₅ =>
       wpAny (model prog w) A (dictSet D kv vv) (fun _ s₆ => ∃ m,m < n /\ I m s₆) (fun _ _ => False) s₅) (fun _ _ => False) s₄) (fun _ _ => False) s₃
      else ∃ m,m < n /\ I m s₃) (fun _ _ => False) s₂) (fun _ _ => False) s₁') (fun _ _ => False) s₁) (fun _ _ => False) s)
  (n : Nat) (h : I n s) :
  codeAny (model prog w) A (.compLoop (.DictComp kx vx [⟨target,iter,ifs,0⟩] scope pos) 0 it (.ref D) env) R s:=by
 refine codeAny_loop rfl I (fun n s hI => ?_) n h;show wpAny _ A ((compTurn (.DictComp kx vx [⟨target,iter,ifs,0⟩] scope pos) 0 it (.ref D) env).onRaise (fun x => do noteFrame x env; theTreesLotGoes x)) _ _ s;refine wpAny_noted ?_;rw [compTurn_dict];refine zUx (zVv (zUx (zVT (turn n s hI) (fun r s₁ h₁ => ?_) fun _ _ h' => h'.elim)));cases r with
 | none => exact zUz h₁
 | some v =>
  refine zUx (zVT h₁ (fun _ s₁' h₁' => ?_) fun _ _ h' => h'.elim);refine zUx (zVT h₁' (fun _ s₂ h₂ => zUx (zVT h₂ (fun ok s₃ h₃ => ?_) fun _ _ h' => h'.elim)) fun _ _ h' => h'.elim);cases ok with
  | false => exact zUz ⟨rfl,h₃⟩
  | true =>
   exact zUx (zUx (zVT h₃ (fun kv s₄ h₄ => zUx (zVq (zVT h₄ (fun vv s₅ h₅ => zUx (zVv (zVq (zVT h₅ (fun _ s₆ h₆ => zUz ⟨rfl,h₆⟩) fun _ _ h' => h'.elim)))) fun _ _ h' => h'.elim))) fun _ _ h' => h'.elim))
theorem zJ6 (elt target iter : Expr) (ifs : List Expr) (scope : Scope) (pos : Pos) (it acc : Value) (env : Env) :
  compTurn (.SetComp elt [⟨target,iter,ifs,0⟩] scope pos) 0 it acc env = (do
   standAt iter.pos;match <- pyNext it with
   | none => pure (.done .next)
   | some v =>
    letOwnedTupleGo target it v;assign target env v;let mut ok:=true
    for c in ifs do
     if ok then ok <- isTrue c env (eval c env)
    if ok then (do let v <- eval elt env; standAt elt.pos; let _ <- call (.builtin "set.add") [acc,v])
    again (.compLoop (.SetComp elt [⟨target,iter,ifs,0⟩] scope pos) 0 it acc env)):=by rfl
theorem zJF (I : Nat -> Shared -> Prop)
  (turn : ∀ n s,I n s -> wpAny (model prog w) A (pyNext it) (fun r s₁ => match r with
   | none => R (.ok .next) s₁
   | some v => wpAny (model prog w) A (letOwnedTupleGo target it v) (fun _ s₁' => wpAny (model prog w) A (assign target env v) (fun _ s₂ =>
     wpAny (model prog w) A (forIn ifs true fun c r => if r = true then do let ok <- isTrue c env (eval c env); pure (ForInStep.yield ok) else pure (ForInStep.yield r)) (fun ok s₃ =>
      if ok = true then wpAny (model prog w) A (eval elt env) (fun x s₄ =>
       wpAny (model prog w) A (call (.builtin "set.add") [acc,x]) (fun _ s₅ => ∃ m,m < n /\ I m s₅) (fun _ _ => False) s₄) (fun _ _ => False) s₃
      else ∃ m,m < n /\ I m s₃) (fun _ _ => False) s₂) (fun _ _ => False) s₁') (fun _ _ => False) s₁) (fun _ _ => False) s)
  (n : Nat) (h : I n s) :
  codeAny (model prog w) A (.compLoop (.SetComp elt [⟨target,iter,ifs,0⟩] scope pos) 0 it acc env) R s:=by
 refine codeAny_loop rfl I (fun n s hI => ?_) n h;show wpAny _ A ((compTurn (.SetComp elt [⟨target,iter,ifs,0⟩] scope pos) 0 it acc env).onRaise (fun x => do noteFrame x env; theTreesLotGoes x)) _ _ s;refine wpAny_noted ?_;rw [zJ6];refine zUx (zVv (zUx (zVT (turn n s hI) (fun r s₁ h₁ => ?_) fun _ _ h' => h'.elim)));cases r with
 | none => exact zUz h₁
 | some v =>
  refine zUx (zVT h₁ (fun _ s₁' h₁' => ?_) fun _ _ h' => h'.elim);refine zUx (zVT h₁' (fun _ s₂ h₂ => zUx (zVT h₂ (fun ok s₃ h₃ => ?_) fun _ _ h' => h'.elim)) fun _ _ h' => h'.elim);cases ok with
  | false => exact zUz ⟨rfl,h₃⟩
  | true =>
   exact zUx (zUx (zVT h₃ (fun x s₄ h₄ => zUx (zVv (zUx (zVT h₄ (fun _ s₅ h₅ => zUz (zUz ⟨rfl,h₅⟩)) fun _ _ h' => h'.elim)))) fun _ _ h' => h'.elim))
end
end L2
namespace LR
open PySem PySem.Spec PyProof.Rows
open Sem (wp)
end LR
namespace L3
open PySem PySem.Spec PyProof.Rows L2
end L3
namespace ST
open PySem
abbrev Up (xs : Array Nat) : Prop:=xs.toList.Pairwise (· < ·)
theorem Up.get (h : Up xs) (hik : i < k) (hk : k < xs.size) : xs[i]'(by omega) < xs[k]:=by
 have:=List.pairwise_iff_getElem.mp h i k (by simpa using (show i < xs.size by omega)) (by simpa using hk) hik;simpa using this
theorem zJt (h : Up xs) (j : Nat) : ∀ (fuel lo hi : Nat),lo <= hi -> hi <= xs.size -> hi - lo <= fuel -> (∀ i (hi' : i < xs.size),i < lo -> xs[i] < j) -> (∀ i (hi' : i < xs.size),hi <= i -> j <= xs[i]) ->
  (SetTable.below.go xs j fuel lo hi <= xs.size) /\ (∀ i (hi' : i < xs.size),i < SetTable.below.go xs j fuel lo hi -> xs[i] < j) /\ (∀ i (hi' : i < xs.size),SetTable.below.go xs j fuel lo hi <= i -> j <= xs[i])
 | 0,lo,hi,h1,h2,h3,a,b => by
  have : lo = hi:=by omega
  subst this;unfold SetTable.below.go;exact ⟨h2,a,b⟩
 | fuel + 1,lo,hi,h1,h2,h3,a,b => by
  unfold SetTable.below.go;by_cases hl : lo < hi
  ·rw [zVC hl];dsimp only;have hm : (lo + hi) / 2 < xs.size:=by omega
   have eg : xs.getD ((lo + hi) / 2) j = xs[(lo + hi) / 2]:=by simp [Array.getD,hm]
   rw [eg];by_cases hc : xs[(lo + hi) / 2] < j
   ·rw [zVC hc];refine zJt h j fuel _ _ (by omega) h2 (by omega) (fun i hi' hlt => ?_) b;rcases zWJ i ((lo + hi) / 2) with z | z
    ·exact Nat.lt_trans (h.get z hm) hc
    ·have : i = (lo + hi) / 2:=by omega
     subst this; exact hc
   ·rw [zVF hc];refine zJt h j fuel _ _ (by omega) (by omega) (by omega) a (fun i hi' hge => ?_);rcases zWJ ((lo + hi) / 2) i with z | z
    ·have:=h.get z hi'; omega
    ·have : i = (lo + hi) / 2:=by omega
     subst this; omega
  ·rw [zVF hl];have : lo = hi:=by omega
   subst this;exact ⟨h2,a,b⟩
theorem zD2 (h : Up xs) (j : Nat) : SetTable.below xs j <= xs.size /\ (∀ i (hi' : i < xs.size),i < SetTable.below xs j -> xs[i] < j) /\ (∀ i (hi' : i < xs.size),SetTable.below xs j <= i -> j <= xs[i]):=by
 unfold SetTable.below;exact zJt h j xs.size 0 xs.size (zVj _) (zU3 _) (by omega) (fun i _ z => by omega) (fun i hi' z => by omega)
theorem zLw (h : Up xs) : SetTable.below xs 0 = 0:=by
 obtain ⟨a,b,c⟩:=zD2 h 0;rcases Nat.eq_zero_or_pos (SetTable.below xs 0) with z | z
 ·exact z
 ·have:=b 0 (by omega) z; omega
theorem zMN (h : Up xs) (hk : k < xs.size) : SetTable.below xs (xs[k] + 1) = k + 1:=by
 obtain ⟨a,b,c⟩:=zD2 h (xs[k] + 1);rcases Nat.lt_trichotomy (SetTable.below xs (xs[k] + 1)) (k + 1) with z | z | z
 ·have:=c k hk (by omega); omega
 ·exact z
 ·have h1 : k + 1 < xs.size:=by omega
  have:=b (k + 1) h1 z;have:=h.get (show k < k + 1 by omega) h1;omega
theorem zGj {α : Type} (xs : Array α) (p : Nat) (x : α) : (SetTable.insertAt xs p x).toList = xs.toList.take p ++ x :: xs.toList.drop p:=by
  unfold SetTable.insertAt;simp;have : xs.toList.length <= xs.size:=by simp
  rw [List.take_of_length_le (by simp)]
theorem zNg (h : Up xs) (hj : j ∉ xs.toList) : Up (SetTable.insertAt xs (SetTable.below xs j) j) := by
  obtain ⟨a, b, c⟩ := zD2 h j;unfold Up;rw [zGj];rw [List.pairwise_append];have hT : ∀ x ∈ xs.toList.take (SetTable.below xs j), x < j := fun x hx => by
    obtain ⟨i,hi,e⟩:=zW0 hx;rw [List.getElem_take] at e;rw [zWL] at hi
    have h1 : i < xs.size := by have : xs.toList.length = xs.size := by simp
                                omega
    have:=b i h1 (by omega);rw [<- e]; simpa using this
  have hD : ∀ x ∈ xs.toList.drop (SetTable.below xs j), j < x := fun x hx => by
    obtain ⟨i,hi,e⟩:=zW0 hx;rw [List.getElem_drop] at e;rw [zXQ] at hi
    have h1 : SetTable.below xs j + i < xs.size := by have : xs.toList.length = xs.size := by simp
                                                      omega
    have h2:=c _ h1 (by omega);have h3 : x ≠ j:=fun z => hj (z ▸ List.mem_of_mem_drop hx);have e' : xs[SetTable.below xs j + i] = x:=by simpa using e
    omega
  refine ⟨h.sublist (List.take_sublist _ _),List.pairwise_cons.mpr ⟨hD,h.sublist (List.drop_sublist _ _)⟩,fun x hx y hy => ?_⟩;rcases zU9.mp hy with z | z
  · rw [z]; exact hT x hx
  · exact Nat.lt_trans (hT x hx) (hD y z)
theorem zIW (j : Nat) : SetTable.has #[] j = false:=by
 unfold SetTable.has; simp
theorem zLT {t : SetTable} (h : Up t.place) (he : t.slot j = .empty) : j ∉ t.place.toList:=fun hm => by
 obtain ⟨a,b,c⟩:=zD2 h j;obtain ⟨k,hk,e⟩:=zW0 hm;have hk' : k < t.place.size:=by simpa using hk
 have e' : t.place[k] = j:=by simpa using e
 have eb : SetTable.below t.place j = k:=by
  rcases Nat.lt_trichotomy (SetTable.below t.place j) k with z | z | z
  ·have h1 : SetTable.below t.place j < t.place.size:=by omega
   have:=c _ h1 (zU3 _);have:=h.get z hk';omega
  ·exact z
  ·have:=b k hk' z; omega
 unfold SetTable.slot at he;dsimp only at he;rw [eb,zVC (by simp [hk',e'])] at he;cases he
theorem zKJ (hd : t.dummies = #[]) : ∀ (fuel : Nat) (p : SetTable.Probe) {j : Nat} {d : Option Nat},p.dummy = none -> SetTable.probe.go t hashAt h fuel p = some (.empty j d) -> d = none /\ t.slot j = .empty
 | 0,_,_,_,_,e => by unfold SetTable.probe.go at e; cases e
 | fuel + 1,p,j,d,hp,e => by
  unfold SetTable.probe.go at e;split at e
  ·rename_i hs;cases e;exact ⟨hp,hs⟩
  ·rename_i hs;unfold SetTable.slot at hs;dsimp only at hs;rw [hd,zIW] at hs;split at hs <;> first | cases hs | simp at hs
  ·split at e
   ·cases e
   ·refine zKJ hd fuel _ ?_ e;unfold SetTable.advance;split <;> simp [hp]
theorem zOE {t : SetTable} (hu : Up t.place) (hd : t.dummies = #[]) (e : t.freeSlot h = some (j,b)) : b = false /\ j ∉ t.place.toList:=by
 unfold SetTable.freeSlot at e;split at e
 ·rename_i j' d hp;unfold SetTable.probe at hp;obtain ⟨h1,h2⟩:=zKJ hd _ _ (by rfl) hp;subst h1;simp at e;obtain ⟨rfl,rfl⟩:=e;exact ⟨rfl,zLT hu h2⟩
 ·cases e
structure TabOk (w : World) (t : SetTable) : Prop where
 led : t.led = !w.params.followText "set-order"
 up : Up t.place
 nod : t.dummies = #[]
theorem zQI (n : Nat) : Up (Array.range n):=by
 unfold Up;rw [Array.toList_range];exact List.pairwise_lt_range
theorem TabOk.standIn (h : TabOk w t) (n : Nat) : TabOk w (t.standIn n):=⟨h.led,zQI n,rfl⟩
theorem TabOk.orStandIn (h : TabOk w t) (n : Nat) : TabOk w (t.orStandIn n):=by
 unfold SetTable.orStandIn;split
 ·exact h
 ·exact h.standIn n
theorem TabOk.put (h : TabOk w t) (hj : j ∉ t.place.toList) : TabOk w (t.put j).1:=by
 unfold SetTable.put;refine ⟨h.led,zNg h.up hj,?_⟩;show (if SetTable.has t.dummies j = true then _ else t.dummies) = #[];rw [h.nod,zIW]; rfl
theorem TabOk.layNew (h : TabOk w t) (es : Array (Int × Value)) (hh : Int) (x : Value) : TabOk w (layNew t es hh x).2.1:=by
 unfold PySem.layNew;split
 ·rename_i j b e;exact (h.put (zOE h.up h.nod e).2).orStandIn _
 ·exact h.standIn _
theorem TabOk.relaid (h : TabOk w t) (e : t.relaid hs wanted = some (t',order)) : TabOk w t':=by
 unfold SetTable.relaid SetTable.laid at e;cases q : SetTable.layClean (SetTable.sizeAbove wanted - 1) hs with
 | none => rw [q] at e; cases e
 | some owner =>
  rw [q] at e;simp only [Option.bind_eq_bind,Option.bind_some,Option.pure_def,Option.some.injEq,Prod.mk.injEq] at e;obtain ⟨rfl,_⟩:=e;refine ⟨h.led,?_,rfl⟩;unfold Up;dsimp only;rw [List.pairwise_map,List.pairwise_filterMap];refine List.pairwise_lt_range.imp fun {a b} hab x hx y hy => ?_;cases o1 : owner.getD a none with
  | none => rw [o1] at hx; cases hx
  | some u =>
   cases o2 : owner.getD b none with
   | none => rw [o2] at hy; cases hy
   | some v =>
    rw [o1] at hx; rw [o2] at hy;cases hx; cases hy;exact hab
theorem TabOk.relayAll (h : TabOk w t) (es : Array (Int × Value)) (wanted : Nat) : TabOk w (relayAll t es wanted).2.1:=by
 unfold PySem.relayAll;split
 ·rename_i t' order e;dsimp only;split
  ·exact h.relaid e
  ·exact h.standIn _
 ·exact h.standIn _
theorem TabOk.plain (h : TabOk w t) (b : Bool) : TabOk w { t with plain:=b }:=⟨h.led,h.up,h.nod⟩
theorem TabOk.fresh : TabOk w (SetTable.fresh 0 0 (!w.params.followText "set-order")):=⟨rfl,List.Pairwise.nil,rfl⟩
open Sem (wp)
set_option genInjectivity true in
inductive F2 {α β : Type} (R : α -> β -> Prop) : List α -> List β -> Prop
 | nil : F2 R [] []
 | cons {x y xs ys} : R x y -> F2 R xs ys -> F2 R (x :: xs) (y :: ys)
section
variable {prog : Program} {w : World} {K : Type} [DecidableEq K]
def zTB (knd : KeyKind prog w K) (e : Int × Value) (k : K) : Prop:=(knd.is k e.2 = true /\ e.1 = knd.hash k) /\ e.2.scannable = true
structure SetK (knd : KeyKind prog w K) (o : Obj) (es : Array (Int × Value)) (ep : Nat) (t : SetTable) (ks : List K) : Prop where
 ex : o.ExactSet
 data : o.data = .set es ep t
 tab : TabOk w t
 fits : t.fits es.size = true
 bound : es.size < scanBound
 ent : ∃ ks',ks'.Perm ks /\ F2 (zTB knd) es.toList ks'
def ins (ks : List K) (k : K) : List K:=if k ∈ ks then ks else ks ++ [k]
variable {knd : KeyKind prog w K} {o : Obj} {es : Array (Int × Value)} {ep : Nat} {t : SetTable} {ks : List K}
theorem zCt {α β : Type} {R : α -> β -> Prop} : ∀ {xs : List α} {ys : List β},F2 R xs ys -> xs.length = ys.length
 | _,_,.nil => rfl
 | _,_,.cons _ h => by simp [zCt h]
theorem zEg {α β : Type} {R : α -> β -> Prop} : ∀ {xs : List α} {ys : List β},F2 R xs ys -> ∀ x ∈ xs,∃ y ∈ ys,R x y
 | _,_,.nil,x,hx => by cases hx
 | _,_,.cons h r,x,hx => by
  rcases zU9.mp hx with z | z
  ·subst z; exact ⟨_,zVB,h⟩
  ·obtain ⟨y,hy,q⟩:=zEg r x z; exact ⟨y,zVA _ hy,q⟩
theorem zFw {α β : Type} {R : α -> β -> Prop} : ∀ {xs : List α} {ys : List β},F2 R xs ys -> ∀ y ∈ ys,∃ x ∈ xs,R x y
 | _,_,.nil,x,hx => by cases hx
 | _,_,.cons h r,x,hx => by
  rcases zU9.mp hx with z | z
  ·subst z; exact ⟨_,zVB,h⟩
  ·obtain ⟨y,hy,q⟩:=zFw r x z; exact ⟨y,zVA _ hy,q⟩
theorem zEf {α β : Type} {R : α -> β -> Prop} : ∀ {xs : List α} {ys : List β} {us : List α} {vs : List β},F2 R xs ys -> F2 R us vs -> F2 R (xs ++ us) (ys ++ vs)
 | _,_,_,_,.nil,h => h
 | _,_,_,_,.cons h r,q => .cons h (zEf r q)
theorem zFU {α β : Type} {R : α -> β -> Prop} {xs xs' : List α} (p : xs'.Perm xs) : ∀ {ys : List β},F2 R xs ys -> ∃ ys',ys'.Perm ys /\ F2 R xs' ys':=by
 have p':=p.symm;clear p;induction p' with
 | nil => intro ys h; exact ⟨ys,.refl _,h⟩
 | cons x _ ih =>
  intro ys h;cases h with
  | cons h r =>
   obtain ⟨ys',q1,q2⟩:=ih r;exact ⟨_,q1.cons _,.cons h q2⟩
 | swap x y l =>
  intro ys h;cases h with
  | cons h r =>
   cases r with
   | cons h2 r =>
    exact ⟨_,List.Perm.swap _ _ _,.cons h2 (.cons h r)⟩
 | trans _ _ ih1 ih2 =>
  intro ys h;obtain ⟨ys',q1,q2⟩:=ih1 h;obtain ⟨ys'',r1,r2⟩:=ih2 q2;exact ⟨ys'',r1.trans q1,r2⟩
theorem SetK.size (h : SetK knd o es ep t ks) : es.size = ks.length:=by
 obtain ⟨ks',p,f⟩:=h.ent;rw [<- p.length_eq,<- zCt f,zVg]
theorem SetK.elems (h : SetK knd o es ep t ks) : ElemsOf knd es.toList:=fun e he => by
 obtain ⟨ks',p,f⟩:=h.ent;obtain ⟨k,_,q⟩:=zEg f e he;exact ⟨⟨k,q.1⟩,q.2⟩
theorem SetK.mem (h : SetK knd o es ep t ks) (k : K) : k ∈ ks ↔ ∃ e ∈ es.toList,knd.is k e.2 = true:=by
 obtain ⟨ks',p,f⟩:=h.ent;rw [<- p.mem_iff];constructor
 ·intro hk;obtain ⟨e,he,q⟩:=zFw f k hk;exact ⟨e,he,q.1.1⟩
 ·rintro ⟨e,he,q⟩;obtain ⟨k',hk',q'⟩:=zEg f e he;rw [knd.inj e.2 k k' q q'.1.1]; exact hk'
variable {A : Around} {E : Value -> Shared -> Prop} {s : Shared} {a : Addr} {k : K} {x : Value}
theorem SetK.typeIs (h : SetK knd o es ep t ks) (ho : s.heap.get? a = some o) : s.TypeIs (.ref a) "set" := ⟨o,ho,h.ex.1⟩
theorem zIN {h : Heap} (ho : h.get? a = some o) (hd : o.data = .set es ep t) :
  (h.update a (Obj.putSet es' t')).get? a = some { o with data:=.set es' (ep + 1) t' }:=by
 have:=zVk (Obj.putSet es' t') ho (by rw [putSet_of es' t' hd]; rfl);rw [putSet_of es' t' hd] at this; exact this
theorem zEC {Q : Bool -> Shared -> Prop} (hkey : knd.is k x = true) (hsc : x.scannable = true) (ho : s.heap.get? a = some o) (hS : SetK knd o es ep t ks) (hroom : ks.length + 1 < scanBound)
  (h : ∀ h' o' es' ep' t' b,Heap.SameBut a s.heap h' -> h'.get? a = some o' -> SetK knd o' es' ep' t' (ins ks k) -> Q b { s with heap:=h' }) :
  wpAny (model prog w) A (setAddHashed a x (knd.hash k)) Q E s:=by
 have hd:=hS.data;have hf:=hS.fits;have hel:=hS.elems;have hb:=hS.bound;have hb1 : es.size + 1 < scanBound:=by rw [hS.size]; exact hroom
 unfold setAddHashed setAddHashedIn;refine zVq (zUx (wpAny_setState_of ho hd hf ?_));dsimp only;rw [byScan_of hsc hb hel];simp only [↓reduceIte];unfold setAddByScan;refine zUx ?_;refine zUx (zWK ?_);refine zUx (wpAny_setScan_of hkey ho hd hf hel ?_);cases hr : List.findIdx? (fun e => knd.is k e.2) es.toList with
 | some j =>
  dsimp only;obtain ⟨hj,hpj,_⟩:=List.findIdx?_eq_some_iff_getElem.mp hr;have hSk : k ∈ ks:=(hS.mem k).mpr ⟨es.toList[j],zVV hj,hpj⟩;refine zUz (zUz ?_);have e : s = { s with heap:=s.heap }:=by cases s; rfl
  rw [e];refine h s.heap o es ep t _ (Heap.SameBut.refl a s.heap) ho ?_;unfold ins;rw [zVC hSk]; exact hS
 | none =>
  dsimp only;have hSk : k ∉ ks:=fun hk => by
   obtain ⟨e,he,hp⟩:=(hS.mem k).mp hk; have:=List.findIdx?_eq_none_iff.mp hr e he; rw [hp] at this; exact Bool.noConfusion this
  have hgw : ∀ (b : Bool) {s₁ : Shared} {Q' : Unit -> Shared -> Prop},Q' () s₁ -> wpAny (model prog w) A (match b with | true => rule "set.scan.the-table-gave-way" | false => pure ()) Q' E s₁ :=
   fun b s₁ Q' hq => by cases b <;> first | exact zUz hq | exact zWK hq
  have hperm:=layNew_perm t es (knd.hash k) x;have hfits:=layNew_fits t es (knd.hash k) x;have htab:=hS.tab.layNew es (knd.hash k) x;generalize hL : layNew t es (knd.hash k) x = L at hperm hfits htab ⊢;obtain ⟨es1,t1,wasDummy,gave⟩:=L;dsimp only at hperm hfits htab ⊢;rw [Array.toList_push] at hperm;have hb1' : es1.size < scanBound:=by rw [<- zVg,hperm.length_eq,zVD,zVg]; simpa using hb1
  obtain ⟨ks',p,f⟩:=hS.ent;have f1 : F2 (zTB knd) (es.toList ++ [(knd.hash k,x)]) (ks' ++ [k]):=zEf f (.cons ⟨⟨hkey,rfl⟩,hsc⟩ .nil);obtain ⟨ks1,p1,f2⟩:=zFU hperm f1;have pI : ks1.Perm (ins ks k):=by
   unfold ins;rw [zVF hSk];exact p1.trans (p.append_right _)
  refine zUx (hgw _ ?_)
  have tail : ∀ t2 : SetTable,TabOk w t2 -> t2.fits es1.size = true -> wpAny (model prog w) A (do
    storeSet a es1 t2
    if (!wasDummy && t2.tooFull) = true then do
      (match (relayAll t2 es1 (SetTable.grown es1.size)).2.2 with | true => rule "set.scan.the-table-gave-way" | false => pure ())
      storeSet a (relayAll t2 es1 (SetTable.grown es1.size)).1 (relayAll t2 es1 (SetTable.grown es1.size)).2.1;pure (some true)
     else pure (some true)) (fun r s' => wpAny (model prog w) A (match r with | some added => pure added | none => setAddHashedIn a x (knd.hash k) 99999) Q E s') E s:=by
   intro t2 T2 F2;refine zUx (wpAny_storeSet_of ho hd ?_ (fits_of_scanBound hb1'));have g1:=zIN (es':=es1) (t':=t2) ho hd;have sb1:=zV0 s.heap a (Obj.putSet es1 t2);have S1 : SetK knd { o with data:=.set es1 (ep + 1) t2 } es1 (ep + 1) t2 (ins ks k):=⟨hS.ex,rfl,T2,F2,hb1',ks1,pI,f2⟩;split
   ·have hp:=relayAll_perm t2 es1 (SetTable.grown es1.size);have hfr:=relayAll_fits t2 es1 (SetTable.grown es1.size);have htr:=T2.relayAll es1 (SetTable.grown es1.size);generalize hRl : relayAll t2 es1 (SetTable.grown es1.size) = Rl at hp hfr htr ⊢;obtain ⟨es2,t3,gave2⟩:=Rl;dsimp only at hp hfr htr ⊢;have hsz : es2.size = es1.size:=by rw [<- zVg,hp.length_eq,zVg]
    have hb2 : es2.size < scanBound:=by rw [hsz]; exact hb1'
    obtain ⟨ks2,p2,f3⟩:=zFU hp f2;refine zUx (hgw _ ?_);refine zUx (wpAny_storeSet_of g1 rfl ?_ (fits_of_scanBound hb2));have g2:=zIN (es':=es2) (t':=t3) g1 rfl;exact zUz (zUz (h _ _ _ _ _ _ (sb1.trans (zV0 _ a _)) g2 ⟨hS.ex,rfl,htr,hfr,hb2,ks2,p2.trans pI,f3⟩))
   ·exact zUz (zUz (h _ _ _ _ _ _ sb1 g1 S1))
  split
  ·refine zUx ?_;rw [hashByValue_scannable 8 hsc];refine zUz ?_;refine tail _ ?_ ?_
   ·split
    ·exact htab
    ·exact htab.plain _
   ·split
    ·exact hfits
    ·exact SetTable.fits_plain_off hfits
  ·refine zUx (zUz ?_);simp only [↓reduceIte];exact tail _ htab hfits
theorem zQJ (hkey : knd.is k x = true) (hsc : x.scannable = true) (ho : s.heap.get? a = some o) (hS : SetK knd o es ep t ks) (hroom : ks.length + 1 < scanBound)
  (h : ∀ h' o' es' ep' t',Heap.SameBut a s.heap h' -> h'.get? a = some o' -> SetK knd o' es' ep' t' (ins ks k) -> Q .none { s with heap:=h',toks:=s.toks + 1 }) :
  wpAny (model prog w) A (call (.builtin "set.add") [.ref a,x]) Q E s:=by
 refine zVa F.slot_set_add (hS.typeIs ho) F.entry_set_add ?_ (F.args_set_add_2 _ _);unfold Builtin.«set.add» Builtin.Frozenset.oneOther;simp only [List.isEmpty_nil,bind_assoc];unfold Builtin.Frozenset.addrOf setAdd;refine zUx (zUz ?_);try dsimp only
 refine zUx (zUz ?_);try dsimp only
 refine zUx ?_;refine zVq ?_;refine zUx (knd.pyHash hkey ?_);refine zEC (s:={ s with toks:=s.toks + 1 }) hkey hsc ho hS hroom fun h' o' es' ep' t' b hsb ho' hS' => ?_;show wpAny _ _ (ret Value.none) _ _ _;exact zUz ⟨_,rfl,h h' o' es' ep' t' hsb ho' hS'⟩
def zq (w : World) : Obj:={ cls:=.type "set", dict:=none,data:=.set #[] 0 (.fresh 0 0 (!w.params.followText "set-order")) }
theorem SetK.fresh : SetK knd (zq w) #[] 0 (.fresh 0 0 (!w.params.followText "set-order")) []:=⟨⟨rfl,rfl,rfl⟩,rfl,.fresh,by rfl,by decide,[],.refl _,.nil⟩
theorem zNq (h : Q (.ref s.heap.objs.size) { s with heap:=s.heap.push (zq w) }) :
  wpAny (model prog w) A (newSet (.type "set")) Q E s:=by
 unfold newSet setsByText;refine zUx (zUx (wpAny_askSetting (zUz ?_)));dsimp only;simp only [newObj];exact zUx (wpAny_alloc (zUz h))
end
open PySem.Spec PyProof.Rows
open Sem (wp)
theorem zKi : Manifest.owners.lookup (String.ofList ['r','o','t','a','r','e','t','i','_','t','e','s'].reverse) = some Manifest.sig_set_iterator:=by kernel_rfl
theorem zAT : Slot "set_iterator" "__next__" "set_iterator.__next__" := .of (owner := "set_iterator") (n := "__next__") (by rw [typeLookup_type,builtinLookup_eq_fast]; kernel_rfl) (by decide +kernel) (by decide +kernel) (by decide +kernel) (by first | exact .inl (by decide +kernel) | exact .inr (by decide +kernel)) (by rw [isSubtype_type]; kernel_rfl)
theorem zFo : Slot "set_iterator" "__iter__" "set_iterator.__iter__" := .of (owner := "set_iterator") (n := "__iter__") (by rw [typeLookup_type,builtinLookup_eq_fast]; kernel_rfl) (by decide +kernel) (by decide +kernel) (by decide +kernel) (by first | exact .inl (by decide +kernel) | exact .inr (by decide +kernel)) (by rw [isSubtype_type]; kernel_rfl)
theorem zCg (a : Value) : argsOk "set_iterator.__next__" ⟨[a],[]⟩:=by
 unfold argsOk; rw [signature?_of (id := "set_iterator.__next__") (n:=['_','_','t','x','e','n','_','_']) (o:=['r','o','t','a','r','e','t','i','_','t','e','s']) (by kernel_rfl) zKi]; kernel_rfl
theorem zJh (a : Value) : argsOk "set_iterator.__iter__" ⟨[a],[]⟩:=by
 unfold argsOk; rw [signature?_of (id := "set_iterator.__iter__") (n:=['_','_','r','e','t','i','_','_']) (o:=['r','o','t','a','r','e','t','i','_','t','e','s']) (by kernel_rfl) zKi]; kernel_rfl
theorem zCL : entryFor table "set_iterator.__next__" = some Builtin.«set_iterator.__next__»:=entryFor_of_tree (by kernel_rfl)
theorem zIB : entryFor table "set_iterator.__iter__" = some Builtin.«dict_keyiterator.__iter__» :=
 entryFor_alias (id' := "dict_keyiterator.__iter__") (by kernel_rfl) (by first | rfl | decide +kernel | (unfold String.splitOn; simp +decide [String.splitOnAux])) (by decide +kernel) (by kernel_rfl)
theorem zHr : entryFor table "set.__iter__" = some Builtin.«frozenset.__iter__» :=
 entryFor_alias (id' := "frozenset.__iter__") (by kernel_rfl) rfl (by decide +kernel) (by kernel_rfl)
def zBj (f : Value) (i : Nat) (a : Addr) (n ep : Nat) : Obj:={ cls:=.type "set_iterator", data:=.fields #[f,rawInt i,.ref a,rawInt n,rawInt ep] }
theorem zFH {α : Type} : ∀ {l : List α} {i : Nat} (h : i < l.length),(l[i] :: l.eraseIdx i).Perm l
 | [],i,h => by simp at h
 | x :: l,0,h => by simp
 | x :: l,i + 1,h => by
  have:=zFH (l:=l) (i:=i) (by simpa using h);rw [List.getElem_cons_succ,List.eraseIdx_cons_succ];exact (List.Perm.swap _ _ _).trans (this.cons x)
theorem zIl {α : Type} {l : List α} (h : i < l.length) (e : n + 1 = l.length) : n = (l.eraseIdx i).length:=by
 rw [List.length_eraseIdx,zVC h]; omega
theorem zIR {α : Type} (next : Nat -> Nat) : ∀ (fuel k : Nat) (left : List α) (out : Array α),fuel = left.length -> (pickOrder.go next fuel k left out).toList.Perm (out.toList ++ left)
 | 0,k,left,out,h => by
  have : left = []:=List.length_eq_zero_iff.mp h.symm;subst this;unfold pickOrder.go;simp
 | fuel + 1,k,left,out,h => by
  unfold pickOrder.go;have hl : 0 < left.length:=by omega
  have hm : next k % left.length < left.length:=Nat.mod_lt _ hl
  rw [zU1 hm];dsimp only;refine (zIR next fuel (k + 1) _ _ (zIl hm h)).trans ?_;rw [Array.toList_push,zV3];exact (zFH hm).append_left _
theorem zEQ {α : Type} (next : Nat -> Nat) (xs : Array α) : (pickOrder next xs).toList.Perm xs.toList:=by
 unfold pickOrder;simpa using zIR next xs.size 0 xs.toList #[] (by simp)
section
variable {prog : Program} {w : World} {A : Around} {E : Value -> Shared -> Prop} {s : Shared}
theorem zJM (h0 : n ≠ 0) (h : ∀ r d,r < n -> Q r { s with drawn:=d }) : wpAny (model prog w) A (choose src n) Q E s :=
 fun Γ p hΓ => ⟨h0,h _ _ (Nat.mod_lt _ (by omega))⟩
theorem zD9 {α : Type} : ∀ (n : Nat) (xs : List α) {s : Shared} {Q : List α -> Shared -> Prop},n = xs.length -> (∀ ys d,ys.Perm xs -> Q ys { s with drawn:=d }) -> wpAny (model prog w) A (drawOrder n xs) Q E s
 | 0,xs,s,Q,h,q => by
  have : xs = []:=List.length_eq_zero_iff.mp h.symm;subst this;have e : s = { s with drawn:=s.drawn }:=by cases s; rfl
  rw [e];exact zUz (q [] s.drawn (.refl _))
 | n + 1,[],s,Q,h,q => by cases h
 | n + 1,x :: xs,s,Q,h,q => by
  unfold drawOrder;refine zUx (zJM (by simp) fun r d hr => ?_);rw [zU1 hr];dsimp only;refine zUx (zD9 n _ (zIl hr h) fun ys d' hp => zUz ?_);exact q _ d' ((hp.cons _).trans (zFH hr))
variable {K : Type} [DecidableEq K] {knd : KeyKind prog w K} {o : Obj} {es : Array (Int × Value)} {ep : Nat} {t : SetTable} {ks : List K} {a I : Addr}
theorem zHt (h : s.heap.get? I = some (zBj f i a n ep)) : s.TypeIs (.ref I) "set_iterator" := ⟨_,h,rfl⟩
theorem zMb (hI : s.heap.get? I = some (zBj f i a n ep)) (h : Q (.ref I) s) : wpAny (model prog w) A (pyIter (.ref I)) Q E s:=by
 refine wpAny_pyIter_slot (zHt hI) zFo (zVa zFo (zHt hI) zIB ?_ (zJh _));show wpAny _ _ (ret (.ref I)) _ _ s;exact zUz ⟨_,rfl, "set_iterator", _,zHt hI,zAT.lookup,h⟩
structure Nexts (prog : Program) (w : World) (o : Obj) (a : Addr) (ep : Nat) (n : Nat) (at_ : Nat -> Nat) (ord : List Value) : Prop where
 len : ord.length = n
 nx : ∀ (A : Around) (E : Value -> Shared -> Prop) (i : Nat) (s : Shared) (Q : Option (Value × Nat) -> Shared -> Prop),i <= n -> s.heap.get? a = some o -> Q ((ord[i]?).map fun x => (x,at_ (i + 1))) s -> wpAny (model prog w) A (setNext a (at_ i) i ep) Q E s
theorem zNl (N : Nexts prog w o a ep ks.length at_ ord) (hS : SetK knd o es ep t ks) (hI : s.heap.get? I = some (zBj (rawInt (at_ i)) i a ks.length ep)) (ho : s.heap.get? a = some o)
  (hx : ord[i]? = some x) (hQ : ∀ h',h'.get? I = some (zBj (rawInt (at_ (i + 1))) (i + 1) a ks.length ep) -> Heap.SameBut I s.heap h' -> Q (some x) { s with heap:=h' }) : wpAny (model prog w) A (pyNext (.ref I)) Q E s:=by
 have hT:=zHt hI;have hi : i < ks.length:=by have:=(zU0.mp hx).1; rw [N.len] at this; exact this
 unfold pyNext;refine zUx (wpAny_attempt (zVZ (name:=Str.ofString "__next__") hT zAT (zVa zAT hT zCL ?_ (zCg _))));unfold Builtin.«set_iterator.__next__» slotArgs;simp only [List.isEmpty_nil,Bool.not_true,zVy,↓reduceIte,List.length_nil,bne_self_eq_false,pure_bind,bind_assoc];refine zUx (wpAny_fieldsOf hI rfl ?_);dsimp only [rawInt];refine zUx (wpAny_setEntries_of ho hS.data hS.fits ?_);rw [zVF (by rw [hS.size]; simp)];refine zUx (N.nx _ _ i s _ (by omega) ho ?_);rw [hx];dsimp only [Option.map];refine zUx (wpAny_setField hI rfl (by simp) ?_);have e1:=zVk (Obj.mapFields fun vs => vs.set! 0 (rawInt (at_ (i + 1)))) hI (Obj.isFreed_of_fields (zWE rfl _));refine zUx (wpAny_setField e1 (zWE rfl _) (by simp) ?_);have e2:=zVk (Obj.mapFields fun vs => vs.set! 1 (rawInt ((i : Int) + 1))) e1 (Obj.isFreed_of_fields (zWE (zWE rfl _) _));refine zUz ⟨x,rfl,zUz (hQ _ ?_ ((zV0 ..).trans (zV0 ..)))⟩;refine e2.trans ?_;simp [Obj.mapFields,zBj,rawInt]
end
open Sem (wp)
section
variable {prog : Program} {w : World} {A : Around} {E : Value -> Shared -> Prop} {s : Shared}
variable {K : Type} [DecidableEq K] {knd : KeyKind prog w K} {o : Obj} {es : Array (Int × Value)} {ep : Nat} {t : SetTable} {ks : List K} {a I : Addr}
theorem zOd (hh : A.handled = none) (N : Nexts prog w o a ep ks.length at_ ord) (hS : SetK knd o es ep t ks) (hI : s.heap.get? I = some (zBj (rawInt (at_ ks.length)) ks.length a ks.length ep)) (ho : s.heap.get? a = some o)
  (hQ : ∀ h',Heap.ExtBut I s.heap h' -> Q none { s with heap:=h' }) : wpAny (model prog w) A (pyNext (.ref I)) Q E s:=by
 have hT:=zHt hI;unfold pyNext;refine zUx (wpAny_attempt (zVZ (name:=Str.ofString "__next__") hT zAT (zVa zAT hT zCL ?_ (zCg _))));unfold Builtin.«set_iterator.__next__» slotArgs;simp only [List.isEmpty_nil,Bool.not_true,zVy,↓reduceIte,List.length_nil,bne_self_eq_false,pure_bind,bind_assoc];refine zUx (wpAny_fieldsOf hI rfl ?_);dsimp only [rawInt];refine zUx (wpAny_setEntries_of ho hS.data hS.fits ?_);rw [zVF (by rw [hS.size]; simp)];refine zUx (N.nx _ _ ks.length s _ (zU3 _) ho ?_);rw [zV6 (by rw [N.len]; exact zU3 _)];dsimp only [Option.map];refine zUx (wpAny_setField hI rfl (by simp) ?_);simp only [newExc,newTuple,bind_assoc,pure_bind];refine zUx (zVQ (zUx (m:=firstArgMember _ _) (wpAny_of_eq (a:=Value.none) (by first | rfl | (simp only [firstArgMember]; rfl)) (zUx (zVQ ?_ (by size_fits))))) (by size_fits));simp only [raiseNew];refine zUx (wpAny_handled ?_);rw [show A.in1.handled = none from hh];refine zUx (zUz (wpAny_throw ?_));refine zUx (wpAny_isInstance (T := "StopIteration") (b:=true) ⟨_,zU7 _ rfl,rfl⟩ isSubtype_stop (zUz ?_));exact hQ _ (((zV0 ..).extBut.push _).push _)
theorem zKW (hh : A.handled = none) (hne : a ≠ I) (N : Nexts prog w o a ep ks.length at_ ord) (hS : SetK knd o es ep t ks) :
  Walks prog w A I [I,a] [I] ks.length (fun i v => ord[i]? = some v) (fun i h => h.get? I = some (zBj (rawInt (at_ i)) i a ks.length ep) /\ h.get? a = some o) where
 sub:=fun b hb => by simp at hb; simp [hb]
 frame:=fun _ _ _ st hk => ⟨hk I (by simp) _ st.1,hk a (by simp) _ st.2⟩;item:=fun i s Q E hi st hQ => by
  have hx : ord[i]? = some (ord[i]'(by rw [N.len]; exact hi)):=zU1 _;refine zNl N hS st.1 st.2 hx fun h' hI' hs' => ?_;exact hQ _ h' s.toks hx ⟨hI',hs'.extBut a o hne st.2⟩ fun b u hb ee => hs'.extBut b u (fun h => hb (by simp [h])) ee
 done:=fun s Q E st hQ => zOd hh N hS st.1 st.2 fun h' he' => hQ h' s.toks fun b u hb ee => he' b u (fun h => hb (by simp [h])) ee;self:=fun _ _ _ _ st hQ => zMb st.1 hQ
theorem zMH {pl : List Nat} (hS : SetK knd o es ep t ks) (hl : pl.length = ks.length) (hI : s.heap.get? I = some (zBj (.ref T) i a ks.length ep)) (ho : s.heap.get? a = some o)
  (hT : IsTup s.heap T (pl.map fun (k : Nat) => rawInt k).toArray)
  (hx : (pl[i]?).bind (fun k => (es[k]?).map (·.2)) = some x) (hQ : ∀ h',h'.get? I = some (zBj (.ref T) (i + 1) a ks.length ep) -> Heap.SameBut I s.heap h' -> Q (some x) { s with heap:=h' }) : wpAny (model prog w) A (pyNext (.ref I)) Q E s:=by
 have hTy:=zHt hI;obtain ⟨oT,hoT,hcT,nT,hdT⟩:=id hT;cases hp : pl[i]? with
 | none => rw [hp] at hx; cases hx
 | some k =>
  rw [hp] at hx;cases he : es[k]? with
  | none => simp only [Option.bind_some] at hx; rw [he] at hx; cases hx
  | some e =>
   simp only [Option.bind_some] at hx;rw [he] at hx;cases hx;unfold pyNext;refine zUx (wpAny_attempt (zVZ (name:=Str.ofString "__next__") hTy zAT (zVa zAT hTy zCL ?_ (zCg _))));unfold Builtin.«set_iterator.__next__» slotArgs;simp only [List.isEmpty_nil,Bool.not_true,zVy,↓reduceIte,List.length_nil,bne_self_eq_false,pure_bind,bind_assoc];refine zUx (wpAny_fieldsOf hI rfl ?_);dsimp only [rawInt];refine zUx (wpAny_setEntries_of ho hS.data hS.fits ?_);rw [zVF (by rw [hS.size]; simp)];refine zUx (wpAny_seqItems hoT hdT ?_);dsimp only;have e5 : (List.map (fun (k : Nat) => rawInt k) pl).toArray[(i : Int).toNat]? = some (rawInt k):=by simp [hp]
   rw [e5];dsimp only [rawInt];unfold setNextDrawn;simp only [bind_assoc];refine zUx (wpAny_setState_of ho hS.data hS.fits ?_);dsimp only;rw [zVF (by simp)];have e6 : es[(k : Int).toNat]? = some e:=by simpa using he
   rw [e6];obtain ⟨e1,e2⟩:=e;dsimp only;simp only [pure_bind];refine zUx (wpAny_setField hI rfl (by simp) ?_);refine zUz ⟨e2,rfl,zUz (hQ _ ?_ (zV0 ..))⟩;refine (zVk _ hI (Obj.isFreed_of_fields (zWE rfl _))).trans ?_;simp [Obj.mapFields,zBj,rawInt]
theorem zOK {pl : List Nat} (hh : A.handled = none) (hS : SetK knd o es ep t ks) (hl : pl.length = ks.length) (hI : s.heap.get? I = some (zBj (.ref T) ks.length a ks.length ep)) (ho : s.heap.get? a = some o)
  (hT : IsTup s.heap T (pl.map fun (k : Nat) => rawInt k).toArray) (hQ : ∀ h',Heap.ExtBut I s.heap h' -> Q none { s with heap:=h' }) : wpAny (model prog w) A (pyNext (.ref I)) Q E s:=by
 have hTy:=zHt hI;obtain ⟨oT,hoT,hcT,nT,hdT⟩:=id hT;unfold pyNext;refine zUx (wpAny_attempt (zVZ (name:=Str.ofString "__next__") hTy zAT (zVa zAT hTy zCL ?_ (zCg _))));unfold Builtin.«set_iterator.__next__» slotArgs;simp only [List.isEmpty_nil,Bool.not_true,zVy,↓reduceIte,List.length_nil,bne_self_eq_false,pure_bind,bind_assoc];refine zUx (wpAny_fieldsOf hI rfl ?_);dsimp only [rawInt];refine zUx (wpAny_setEntries_of ho hS.data hS.fits ?_);rw [zVF (by rw [hS.size]; simp)];refine zUx (wpAny_seqItems hoT hdT ?_);dsimp only;have e5 : (List.map (fun (k : Nat) => rawInt k) pl).toArray[(ks.length : Int).toNat]? = none:=by simp [hl]
 rw [e5];dsimp only [rawInt];refine zUx (wpAny_setField hI rfl (by simp) ?_);have e1:=zVk (Obj.mapFields fun vs => vs.set! 0 (rawInt 0)) hI (Obj.isFreed_of_fields (zWE rfl _));refine zUx (wpAny_setField e1 (zWE rfl _) (by simp) ?_);simp only [newExc,newTuple,bind_assoc,pure_bind];refine zUx (zVQ (zUx (m:=firstArgMember _ _) (wpAny_of_eq (a:=Value.none) (by first | rfl | (simp only [firstArgMember]; rfl)) (zUx (zVQ ?_ (by size_fits))))) (by size_fits));simp only [raiseNew];refine zUx (wpAny_handled ?_);rw [show A.in1.handled = none from hh];refine zUx (zUz (wpAny_throw ?_));refine zUx (wpAny_isInstance (T := "StopIteration") (b:=true) ⟨_,zU7 _ rfl,rfl⟩ isSubtype_stop (zUz ?_));exact hQ _ ((((zV0 ..).trans (zV0 ..)).extBut.push _).push _)
theorem zKZ {pl : List Nat} (hh : A.handled = none) (hne : a ≠ I) (hneT : T ≠ I) (hS : SetK knd o es ep t ks) (hl : pl.length = ks.length) (hb : ∀ k ∈ pl,k < es.size) :
  Walks prog w A I [I,a,T] [I] ks.length (fun i v => (pl[i]?).bind (fun k => (es[k]?).map (·.2)) = some v) (fun i h => h.get? I = some (zBj (.ref T) i a ks.length ep) /\ h.get? a = some o /\ IsTup h T (pl.map fun (k : Nat) => rawInt k).toArray) where
 sub:=fun b hb => by simp at hb; simp [hb]
 frame:=fun _ _ _ st hk => ⟨hk I (by simp) _ st.1,hk a (by simp) _ st.2.1,let ⟨oT,ho,r⟩:=st.2.2; ⟨oT,hk T (by simp) oT ho,r⟩⟩;item:=fun i s Q E hi st hQ => by
  have hi' : i < pl.length:=by rw [hl]; exact hi
  have hk : pl[i] < es.size:=hb _ (zVV hi');have hx : (pl[i]?).bind (fun k => (es[k]?).map (·.2)) = some (es[pl[i]].2):=by
   rw [zU1 hi']; simp [hk]
  refine zMH hS hl st.1 st.2.1 st.2.2 hx fun h' hI' hs' => ?_;exact hQ _ h' s.toks hx ⟨hI',hs'.extBut a o hne st.2.1,st.2.2.extBut hs'.extBut hneT⟩ fun b u hb ee => hs'.extBut b u (fun h => hb (by simp [h])) ee
 done:=fun s Q E st hQ => zOK hh hS hl st.1 st.2.1 st.2.2 fun h' he' => hQ h' s.toks fun b u hb ee => he' b u (fun h => hb (by simp [h])) ee;self:=fun _ _ _ _ st hQ => zMb st.1 hQ
end
open Sem (wp)
theorem zNE {prog : Program} {w : World} {A : Around} {I : Addr} {fp wr : List Addr} {n : Nat} {P P' : Nat -> Value -> Prop} {St : Nat -> Heap -> Prop} (W : Walks prog w A I fp wr n P St) (h : ∀ i v,P i v -> P' i v) : Walks prog w A I fp wr n P' St where
 sub:=W.sub;frame:=W.frame;item:=fun i s Q E hi st hQ => W.item i s Q E hi st fun v h' tk hP => hQ v h' tk (h i v hP);done:=W.done;self:=W.self
section
variable {prog : Program} {w : World} {A : Around} {E : Value -> Shared -> Prop} {s : Shared}
variable {K : Type} [DecidableEq K] {knd : KeyKind prog w K} {o : Obj} {es : Array (Int × Value)} {ep : Nat} {t : SetTable} {ks : List K} {a I : Addr}
theorem zDP (h : Q (w.params.followText "set-order") s) : wpAny (model prog w) A setsByText Q E s:=by
 unfold setsByText;exact zUx (wpAny_askSetting (zUz h))
theorem zLj (hS : SetK knd o es ep t ks) (hT : w.params.followText "set-order" = true) : Nexts prog w o a ep ks.length (fun _ => 0) ((pickOrder (w.params.setOrder a ep) es).toList.map (·.2)) where
 len:=by rw [zU6,(zEQ _ es).length_eq,zVg,hS.size]
 nx:=fun A E i s Q hi ho hQ => by
  unfold setNext;refine zUx (wpAny_setState_of ho hS.data hS.fits ?_);dsimp only;refine zUx (zDP ?_);rw [hT,zVC rfl,zVF (by simp)];refine zUx ?_;unfold setWalk;refine zUx (wpAny_setState_of ho hS.data hS.fits ?_);dsimp only;refine zUx (zDP ?_);rw [hT,zVC rfl];refine zUx (wpAny_askSetting (zUz ?_));refine zUz ?_;have e : (Option.map (fun (e : Int × Value) => (e.2,0)) (pickOrder (w.params.setOrder a ep) es)[i]?) = Option.map (fun x => (x,0)) ((pickOrder (w.params.setOrder a ep) es).toList.map (·.2))[i]?:=by
   rw [zVK,zWc];cases (pickOrder (w.params.setOrder a ep) es)[i]? <;> rfl
  show Q (Option.map (fun (e : Int × Value) => (e.2,0)) (pickOrder (w.params.setOrder a ep) es)[i]?) s;rw [e]; exact hQ
def zL4 (t : SetTable) : Nat -> Nat
 | 0 => 0
 | i + 1 => t.place.getD i 0 + 1
theorem zPo (h : Up t.place) (hi : i <= t.place.size) : SetTable.below t.place (zL4 t i) = i:=by
 cases i with
 | zero => exact zLw h
 | succ i =>
  show SetTable.below t.place (t.place.getD i 0 + 1) = i + 1;have hl : i < t.place.size:=by omega
  have e : t.place.getD i 0 = t.place[i]:=by simp [Array.getD,hl]
  rw [e]; exact zMN h hl
theorem zM8 (hS : SetK knd o es ep t ks) : t.place.size = es.size:=by
 have:=hS.fits;simp only [SetTable.fits,zVX,beq_iff_eq] at this;exact this.1
theorem zKw (hS : SetK knd o es ep t ks) (hT : w.params.followText "set-order" = false) (hd : (!t.plain && decide (es.size > 1)) = false) : Nexts prog w o a ep ks.length (zL4 t) (es.toList.map (·.2)) where
 len:=by rw [zU6,zVg,hS.size]
 nx:=fun A E i s Q hi ho hQ => by
  have hz:=zM8 hS;unfold setNext;refine zUx (wpAny_setState_of ho hS.data hS.fits ?_);dsimp only;refine zUx (zDP ?_);rw [hT,zVF (by decide)];show wpAny _ _ (if (!t.plain && decide (es.size > 1)) = true then _ else _) _ _ _;rw [zVF (by rw [hd]; decide)];have hl : t.led = true:=by rw [hS.tab.led,hT]; rfl
  refine zUx ?_;show wpAny _ _ (if (!t.led && !es.isEmpty) = true then unsupported "set:maker-not-led" else pure ()) _ _ _;rw [zVF (by rw [hl]; simp)];refine zUz ?_;rw [zPo hS.tab.up (by rw [hz,hS.size]; exact hi)];refine zUz ?_;rw [zVK,zWc] at hQ;by_cases q : i < es.size
  ·have q2 : i < t.place.size:=by rw [hz]; exact q
   rw [zVi q,zVi q2];rw [zVi q] at hQ;have e : zL4 t (i + 1) = t.place[i] + 1:=by
    show t.place.getD i 0 + 1 = _;simp [Array.getD,q2]
   simp only [Option.map] at hQ;rw [e] at hQ;exact hQ
  ·have : i = es.size:=by rw [hS.size] at q ⊢; omega
   rw [Array.getElem?_eq_none (by omega)] at hQ ⊢;exact hQ
theorem zPm (ho : s.heap.get? a = some o) (hS : SetK knd o es ep t ks)
  (h : ∀ (h' : Heap) (d : Drawn) (I : Addr) (fp : List Addr) (ord : List Value) (St : Nat -> Heap -> Prop),(∀ b u,s.heap.get? b = some u -> h'.get? b = some u) -> s.heap.objs.size <= I -> (∀ b ∈ fp,b < h'.objs.size /\ (b = a \/ s.heap.objs.size <= b)) ->
   (∀ A : Around,A.handled = none -> Walks prog w A I fp [I] ks.length (fun i v => ord[i]? = some v) St) -> St 0 h' -> ord.Perm (es.toList.map (·.2)) -> Q (.ref I) { s with heap:=h',drawn:=d }) :
  wpAny (model prog w) A (pyIter (.ref a)) Q E s:=by
 have hT:=hS.typeIs ho;have hal : a < s.heap.objs.size:=zU8 ho;refine wpAny_pyIter_slot hT F.slot_set_iter (zVa F.slot_set_iter hT zHr ?_ (F.args_set_iter_1 _));unfold Builtin.«frozenset.__iter__» Builtin.Frozenset.slot0 slotArgs Builtin.Frozenset.addrOf Builtin.Frozenset.sizeOf;simp only [List.isEmpty_nil,Bool.not_true,zVy,↓reduceIte,List.length_nil,bne_self_eq_false,pure_bind,bind_assoc];refine zUx (wpAny_setEntries_of ho hS.data hS.fits ?_);unfold setDrawn;simp only [bind_assoc];refine zUx (wpAny_setState_of ho hS.data hS.fits ?_);dsimp only;refine zUx (zDP ?_);simp only [pure_bind];have hsz:=hS.size;have plain : ∀ (at_ : Nat -> Nat) (ord : List Value),at_ 0 = 0 -> Nexts prog w o a ep ks.length at_ ord -> ord.Perm (es.toList.map (·.2)) -> Q (.ref s.heap.objs.size) { s with heap:=s.heap.push (zBj (rawInt 0) 0 a ks.length ep) }:=by
  intro at_ ord h0 N hp;have e : s.heap.push (zBj (rawInt 0) 0 a ks.length ep) = s.heap.push (zBj (rawInt 0) 0 a ks.length ep):=rfl
  have:=h (s.heap.push (zBj (rawInt 0) 0 a ks.length ep)) s.drawn s.heap.objs.size [s.heap.objs.size,a] ord (fun i h => h.get? s.heap.objs.size = some (zBj (rawInt (at_ i)) i a ks.length ep) /\ h.get? a = some o)
   (fun b u e => zUy _ e) (zU3 _) (fun b hb => by
    rw [zVd];rcases zU9.mp hb with z | z
    ·rw [z]; exact ⟨zVu _,.inr (zU3 _)⟩
    ·rw [zVP.mp z]; exact ⟨zVm hal,.inl rfl⟩)
   (fun A hh => zKW hh (zVI hal) N hS) ⟨by rw [h0]; exact zU7 _ rfl,zUy _ ho⟩ hp
  exact this
 have mk : ∀ (s1 : Shared) (f : Value) (hv : s1.heap.get? a = some o) {Q' : Fin -> Shared -> Prop},Q' (.done (.ret (.ref s1.heap.objs.size))) { s1 with heap:=s1.heap.push (zBj f 0 a ks.length ep) } -> wpAny (model prog w) A.in1 (do
   let e <- setEpoch a;let r <- newFields "set_iterator" [f,rawInt 0,Value.ref a,rawInt es.size,rawInt e];ret r) Q' E s1:=by
  intro s1 f hv Q' hq;refine zUx (wpAny_setEpoch_of hv hS.data hS.fits ?_);unfold newFields;refine zUx (zVQ (zUz ?_));rw [hsz]; exact hq
 have ty : ∀ (s1 : Shared) (f : Value),(∃ T' r,Shared.TypeIs { s1 with heap:=s1.heap.push (zBj f 0 a ks.length ep) } (.ref s1.heap.objs.size) T' /\ typeLookup (Value.type T') (Str.ofString "__next__") = pure (some r) /\ True):=fun s1 f => ⟨"set_iterator", _,⟨_,zU7 _ rfl,rfl⟩,zAT.lookup,trivial⟩;show wpAny _ _ (if (!w.params.followText "set-order" && (!t.plain && decide (es.size > 1))) = true then _ else _) _ _ _;by_cases hc : (!w.params.followText "set-order" && (!t.plain && decide (es.size > 1))) = true
 ·rw [zVC hc];refine zUx (zD9 _ _ (by simp) fun pl d hp => ?_);refine zUx ?_;unfold newTuple;have hpl : pl.length = ks.length:=by rw [hp.length_eq,zWu,hsz]
  refine zVQ ?_ (by
   show (List.map (fun (i : Nat) => rawInt i) pl).toArray.size <= sizeLine;rw [zU5,zU6,hpl,<- hsz]; exact fits_of_scanBound hS.bound)
  generalize hH : s.heap.push { cls:=.type "tuple", data:=.seq (List.map (fun (i : Nat) => rawInt i) pl).toArray } = H;have kH : ∀ b u,s.heap.get? b = some u -> H.get? b = some u:=fun b u e => by rw [<- hH]; exact zUy _ e
  have hT1 : IsTup H s.heap.objs.size (pl.map fun (k : Nat) => rawInt k).toArray:=⟨_,by rw [<- hH]; exact zU7 _ rfl,rfl,0,rfl⟩;have szH : H.objs.size = s.heap.objs.size + 1:=by rw [<- hH]; exact zVd ..
  have szlt : s.heap.objs.size < H.objs.size:=by rw [szH]; exact zVu _
  have alt : a < H.objs.size:=Nat.lt_trans hal szlt;refine mk { s with heap:=H,drawn:=d } (.ref s.heap.objs.size) (kH _ _ ho) ?_;obtain ⟨T',r,e1,e2,_⟩:=ty { s with heap:=H,drawn:=d } (.ref s.heap.objs.size);refine ⟨_,rfl,T',r,e1,e2,?_⟩;have kH2 : ∀ b u,s.heap.get? b = some u -> (H.push (zBj (.ref s.heap.objs.size) 0 a ks.length ep)).get? b = some u:=fun b u e => zUy _ (kH b u e);refine h _ d H.objs.size [H.objs.size,a,s.heap.objs.size] (pl.map fun k => ((es[k]?).map (·.2)).getD .none) (fun i h => h.get? H.objs.size = some (zBj (.ref s.heap.objs.size) i a ks.length ep) /\ h.get? a = some o /\ IsTup h s.heap.objs.size (pl.map fun (k : Nat) => rawInt k).toArray) kH2 (by rw [szH]; exact zWf _) (fun b hb => ?_) (fun A hh => ?_) ⟨zU7 _ rfl,kH2 a o ho,?_⟩ ?_
  ·rw [zVd];simp only [zU9,zVS,or_false] at hb;rcases hb with z | z | z
   ·rw [z]; exact ⟨zVu _,.inr (Nat.le_of_lt szlt)⟩
   ·rw [z]; exact ⟨zVm alt,.inl rfl⟩
   ·rw [z]; exact ⟨zVm szlt,.inr (zU3 _)⟩
  ·have hb : ∀ k ∈ pl,k < es.size:=fun k hk => by have:=hp.mem_iff.mp hk; simpa using this
   refine zNE (zKZ hh (a:=a) (I:=H.objs.size) (T:=s.heap.objs.size) (zVI alt) (zVI szlt) hS hpl hb) fun i v hv => ?_;rw [zVK];cases q : pl[i]? with
   | none => rw [q] at hv; cases hv
   | some k =>
    rw [q] at hv;simp only [Option.bind_some] at hv;rw [Option.map_some,hv]; rfl
  ·exact hT1.push _
  ·have e : es.toList.map (·.2) = (List.range es.size).map fun k => ((es[k]?).map (·.2)).getD .none:=by
    apply List.ext_getElem?;intro i;rw [zVK,zVK,zWc];by_cases q : i < es.size
    ·rw [List.getElem?_range q,zVi q]; simp [q]
    ·rw [Array.getElem?_eq_none (by omega),zV6 (by simp; omega)]; rfl
   rw [e];exact hp.map _
 ·rw [zVF hc];refine mk s (rawInt 0) ho ?_;obtain ⟨T',r,e1,e2,_⟩:=ty s (rawInt 0);refine ⟨_,rfl,T',r,e1,e2,?_⟩;cases hX : w.params.followText "set-order" with
  | true => exact plain _ _ rfl (zLj hS hX) ((zEQ _ es).map _)
  | false =>
   rw [hX] at hc;exact plain _ _ rfl (zKw hS hX (by simpa using hc)) (.refl _)
end
open Sem (wp)
section
variable {prog : Program} {w : World} {A : Around} {E : Value -> Shared -> Prop} {s : Shared}
variable {K : Type} [DecidableEq K] {knd : KeyKind prog w K} {o : Obj} {es : Array (Int × Value)} {ep : Nat} {t : SetTable} {ks : List K} {a I : Addr}
theorem zQB : isSubtype (.type "set") (.type "set") = pure true:=sub_set_self
theorem zNR (hT : s.TypeIs (.ref a) "set") (h : Q false s) : wpAny (model prog w) A (Builtin.List.listLengthHint (.ref a)) Q E s:=by
 unfold Builtin.List.listLengthHint;refine zUx (wpAny_specialOf hT F.slot_set_len.lookup ?_);have hsp : splitId "set.__len__" = some ("set", "__len__"):=by decide +kernel
 dsimp only;rw [hsp];dsimp only;refine zUx (wpAny_isInstance hT zQB ?_);rw [zVF (by decide),zVC (by decide +kernel)];refine zUx (wpAny_typeOf hT ?_);exact zUz h
theorem zKe (hh : A.handled = none) (ho : s.heap.get? a = some o) (hS : SetK knd o es ep t ks)
  (hQ : ∀ (s' : Shared) (acc : List Value),(∀ b u,s.heap.get? b = some u -> s'.heap.get? b = some u) -> s'.os = s.os -> s'.gens = s.gens -> acc.Perm (es.toList.map (·.2)) -> Q acc s') : wpAny (model prog w) A (collect (.ref a)) Q E s:=by
 have hal : a < s.heap.objs.size:=zU8 ho;have hn : ks.length <= sizeLine:=by rw [<- hS.size]; exact fits_of_scanBound hS.bound
 unfold collect;refine zUx (wpAny_runValue (zV2 F.entry_proto_collect ?_));rw [zVs F.plain_proto_collect _];show wpAny _ A.in1 (newList [] >>= fun l => again (.builtin "list.__iadd__" ⟨[l,.ref a],[]⟩)) _ _ s;refine zUx (zVQ (zUz ⟨plainId_quiet F.plain_list_iadd _,zV2 F.entry_list_iadd ?_⟩));rw [zVs F.plain_list_iadd _];generalize hH : s.heap.push { cls:=.type "list", data:=.seq ([] : List Value).toArray } = H;have kH : ∀ b u,s.heap.get? b = some u -> H.get? b = some u:=fun b u e => by rw [<- hH]; exact zUy _ e
 have szH : H.objs.size = s.heap.objs.size + 1:=by rw [<- hH]; exact zVd ..
 have hL1 : H.get? s.heap.objs.size = some { cls:=.type "list", data:=.seq ([] : List Value).toArray }:=by rw [<- hH]; exact zU7 _ rfl
 have ho1:=kH a o ho;show wpAny _ A.in1 (Builtin.List.listExtendWith (.ref s.heap.objs.size) (.ref a) (.ref s.heap.objs.size)) _ _ { s with heap:=H };unfold Builtin.List.listExtendWith;have hT1 : Shared.TypeIs { s with heap:=H } (.ref a) "set" := ⟨o,ho1,hS.ex.1⟩;refine zUx (wpAny_typeOf hT1 ?_);have hneL : s.heap.objs.size ≠ a:=Nat.ne_of_gt hal;have h1 : Builtin.List.listSameRef (.ref s.heap.objs.size) (.ref a) = false:=by simp [Builtin.List.listSameRef,hneL]
 have h2 : (Value.type "set" == Value.type "list") = false:=by decide
 have h3 : (Value.type "set" == Value.type "tuple") = false:=by decide
 simp only [h1,h2,h3,Bool.or_false,zVy,if_false];refine zUx (zPm (s:={ s with heap:=H }) ho1 hS fun h2 d I fp ord St k2 hI2 hfp W st0 hp => ?_);have ho2:=k2 a o ho1;refine zUx (zVq (zNR (s:={ s with heap:=h2,drawn:=d }) ⟨o,ho2,hS.ex.1⟩ ?_));rw [zVC (by decide +kernel)];refine zUx (zWK (zUx ?_));show wpAny _ A.in1 (updateSeq s.heap.objs.size (·.push .none) >>= fun _ => updateSeq s.heap.objs.size (·.pop)) _ _ _;have hL2:=k2 _ _ hL1;refine zUx (wpAny_updateSeq (s:={ s with heap:=h2,drawn:=d }) hL2 rfl ?_);have hS2:=zVk (Obj.mapSeq (·.push Value.none)) hL2 rfl;refine wpAny_updateSeq hS2 rfl ?_;have hS3:=zVk (Obj.mapSeq (·.pop)) hS2 rfl;generalize hH3 : (h2.update s.heap.objs.size (Obj.mapSeq (·.push Value.none))).update s.heap.objs.size (Obj.mapSeq (·.pop)) = H3 at hS3;have oth : ∀ b u,b ≠ s.heap.objs.size -> h2.get? b = some u -> H3.get? b = some u:=fun b u hb e => by
  rw [<- hH3]; exact (zVe _ _ (Ne.symm hb)).trans ((zVe _ _ (Ne.symm hb)).trans e)
 have hSf : s.heap.objs.size ∉ fp:=fun hm => by
  rcases (hfp _ hm).2 with z | z
  ·exact hneL z
  ·have z' : H.objs.size <= s.heap.objs.size:=z;rw [szH] at z'; exact absurd z' (Nat.not_succ_le_self _)
 have WS:=(W A.in1.in1 hh).toS;have st3 : St 0 H3:=(W A.in1.in1 hh).frame 0 _ _ st0 fun b hb u e => oth b u (fun z => hSf (z ▸ hb)) e;have hI3 : I ≠ s.heap.objs.size:=fun z => by
  have z' : H.objs.size <= I:=hI2;rw [szH,z] at z'; exact absurd z' (Nat.not_succ_le_self _)
 refine zUz ⟨plainId_quiet F.plain_extend_loop _,codeAny_extend_loopS (A:=A) (WalksS.of_in1 WS) hn _ hSf _ ks.length 0 { s with heap:=H3,drawn:=d } _ _ rfl (zVj _) st3 hS3 (ItemsOf.nil _) fun s' acc' c' hm hS' hacc => ?_⟩;show wpAny _ A (load s.heap.objs.size >>= _) _ _ s';refine zUx (wpAny_load hS' (zUz (hQ s' _ (fun b u e => hm.heap b u (fun q => ?_) (oth b u (fun z => zVf _ (z ▸ zU8 e)) (k2 b u (kH b u e)))) hm.os hm.gens ?_)))
 ·rcases zU9.mp q with z | z
  ·exact zVf _ (z ▸ zU8 e)
  ·have z' : H.objs.size <= I:=hI2;rw [<- zVP.mp z,szH] at z';exact zVf _ (Nat.lt_trans (zVM (zVu _) z') (zU8 e))
 ·have e : acc'.toList = ord:=by
   have hl : ord.length = ks.length:=by rw [hp.length_eq,zU6,zVg,hS.size]
   apply List.ext_getElem?;intro i;rw [zWc];by_cases q : i < ks.length
   ·have q' : i < acc'.size:=by rw [hacc.1]; exact q
    rw [zVi q'];exact (hacc.2 i _ (zVi q')).symm
   ·rw [Array.getElem?_eq_none (by rw [hacc.1]; omega),zV6 (by omega)]
  rw [e]; exact hp
end
end ST
namespace L2
open PySem PySem.Spec PyProof.Rows ST
section
variable {prog : Program} {w : World} {A : Around} {R : Result -> Shared -> Prop} {s : Shared}
theorem zED {elt target iter ifs rest scope pos it acc env}
  (h0 : codeAny (model prog w) A (.compLoop (.SetComp elt (⟨target,iter,ifs,0⟩ :: rest) scope pos) 0 it acc env) R s)
  (h : wpAny (model prog w) A (pyIter it) (fun it' s' => codeAny (model prog w) A (.compLoop (.SetComp elt (⟨target,iter,ifs,0⟩ :: rest) scope pos) 0 it' acc env) R s')
   (notedBy (model prog w) A env fun x s' => R (.error x) s') s) :
  codeAny (model prog w) A (.compStart (.SetComp elt (⟨target,iter,ifs,0⟩ :: rest) scope pos) 0 it acc env) R s:=by
 refine codeAny_of_tree ?_;show wpAny _ _ ((compStart (.SetComp elt (⟨target,iter,ifs,0⟩ :: rest) scope pos) 0 it acc env).onRaise (fun x => do noteFrame x env; standAt theWindowsPlace)) _ _ s;refine wpAny_notedAt ?_;unfold compStart;show wpAny _ _ (ask >>= _) _ _ s;refine zUx (wpAny_askSetting (wpAny_ite ?_));split
 ·first
   | exact zUx (zUz (zUz (And.intro rfl h0)))
   | exact zUz (And.intro rfl h0)
 ·first
   | exact zUx (zWK (zUx (zVv (zUx (zVT h (fun it' s' h' => zUz (And.intro rfl h')) fun _ _ x => x)))))
   | (refine zUx (zWK ?_); show wpAny _ _ (standAt iter.pos >>= _) _ _ s; exact zUx (zVv (zUx (zVT h (fun it' s' h' => zUz (And.intro rfl h')) fun _ _ x => x))))
end
section
variable {X : Cx} {zB : List (Addr × Obj)} {σ : St} {H : Hp} {s : Shared} {scope : Scope} {cl : List (Str × Addr)} {fp : List Addr} {it : Addr} {tn : Nat -> Heap -> Prop} {J : It} {tg elt iter : Expr} {ifs : List Expr} {pos : Pos}
 {own : List Nat} {g : TG} {tc : TT} {te : TE} {E : Value -> Shared -> Prop}
theorem zMP (h : SetK (intKind prog w) o es ep t ks) : ∀ v,o.data ≠ .cell v:=fun v z => by rw [h.data] at z; cases z
theorem zG7 (C : CompIn X scope own) (hcalm : X.calm = true) (I : Inv X zB σ H s) (T : Turn X.prog X.w X.K tg J fp it tn) (st : tn 0 s.heap) (hf : ∀ b ∈ fp,zCr X zB H b)
  (c1 : ∀ x c,cl.lookup x = some c -> X.env.cells.lookup x = some c) (c2 : ∀ y ∈ scope.names,y.2 = .free -> (cl.lookup y.1).isSome = true)
  (hg : PG (zV X zB scope cl s H fp) tg g) (hi : zGf (zV X zB scope cl s H fp) ifs tc) (he : PE (zV X zB scope cl s H fp) elt te)
  {RR : Value -> Addr -> Result -> Shared -> Prop} {QQ : List Int -> Hp -> Prop} {W : Nat -> Nat -> List Int -> Hp -> Prop} {m0 : Nat} (w0 : W 0 m0 [] H)
  (turn : ∀ i m ys H,W i m ys H -> (J.stop i H /\ QQ ys H) \/
   (J.go i H /\ ∀ x H',J.yld i H x H' -> g x (clr own σ) H' fun σ2 H2 => Ext (clr own σ) σ2 /\ tc σ2 H2 fun b H3 =>
    if b = true then te σ2 H3 fun v H4 => ∃ k,v = .int k /\ ys.length + 1 < scanBound /\ ∃ m',m' < m /\ W (i + 1) m' (ins ys k) H4 else ∃ m',m' < m /\ W (i + 1) m' ys H3))
  (fin : ∀ σc H' s' o es ep t ys,Inv (zV X zB scope cl s H fp) [(s.heap.objs.size,o)] σc H' s' -> SetK (intKind X.prog X.w) o es ep t ys -> QQ ys H' -> RR (.ref s.heap.objs.size) (s.heap.objs.size + 1) (.ok .next) s') :
  wpAny (model X.prog X.w) X.A (newSet (.type "set")) (fun acc s₃ => wpAny (model X.prog X.w) X.A (newFunctionEnv scope X.env.globals cl [] X.env.qual none .none (some X.env)) (fun cenv s₄ =>
   codeAny (model X.prog X.w) X.A (.compStart (.SetComp elt [⟨tg,iter,ifs,0⟩] scope pos) 0 (.ref it) acc { cenv with scope:=relabel scope X.env }) (RR acc cenv.locals) s₄) E s₃) E s:=by
 have ob : ∀ b : Nat,b ∈ fp -> b < s.heap.objs.size:=fun b hb => let ⟨_,e,_⟩:=T.obj 0 _ st b hb; zU8 e;refine zNq (zDJ ?_);have sz1 : (s.heap.push (zq X.w)).objs.size = s.heap.objs.size + 1:=zVd ..;have I4:=zFe (X:=X) (zB:=zB) (σ:=σ) (σc:=clr own σ) (H:=H) (s:=s) (scope:=scope) (cl:=cl) (fp:=fp) C.sc I hf ob c1 c2 (zBs own σ) (fun i x v h1 h2 h3 => by
  obtain ⟨a,b⟩:=zDD own σ i v h2;rcases C.nm i x h1 with z | z | z
  ·exact absurd z b
  ·exact absurd (zCi x z) h3
  ·exact ⟨z,a⟩) (zq X.w) (by intro v z; cases z) rfl rfl
 have st4 : tn 0 (pushCells ((s.heap.push (zq X.w)).push { cls:=.type "dict", data:=.dict #[] }) scope.names):=T.keep 0 _ _ st fun b _ o e => pushCells_keeps _ _ b o (zUy _ (zUy _ e));dsimp only;unfold newEnv;dsimp only;rw [sz1];have hDfp : s.heap.objs.size ∉ fp:=fun z => zVf _ (ob _ z);have hcD : ∀ x c,(zV X zB scope cl s H fp).env.cells.lookup x = some c -> c ≠ s.heap.objs.size:=fun x c e z => by
  obtain ⟨v,o,ho,hd⟩:=I4.cell x c e;obtain ⟨q,_⟩:=I4.pin (s.heap.objs.size,zq X.w) (by simp);rw [z,q] at ho;cases ho; cases hd
 have fpk : ∀ {H' : Hp} {pl : List (Addr × Obj)},(∀ b ∈ fp,H' b = none) -> (∀ p ∈ pl,p.1 = s.heap.objs.size) -> ∀ b ∈ fp,zCr (zV X zB scope cl s H fp) pl H' b:=fun {H' pl} hn hp b hb =>
  ⟨hn b hb,(I4.ok.exf b hb).1,I4.ok.exfs b hb,.inl hb,(I4.ok.exf b hb).2,fun p hq => by
   rcases zVN.mp hq with z | z
   ·exact (hf b hb).2.2.2.2.2 p z
   ·intro e;have e2:=hp p z;rw [e] at e2;exact hDfp (e2 ▸ hb)⟩
 have loop : codeAny (model X.prog X.w) X.A (.compLoop (.SetComp elt [⟨tg,iter,ifs,0⟩] scope pos) 0 (.ref it) (.ref s.heap.objs.size) (zV X zB scope cl s H fp).env) (RR (.ref s.heap.objs.size) (s.heap.objs.size + 1))
   { s with heap:=pushCells ((s.heap.push (zq X.w)).push { cls:=.type "dict", data:=.dict #[] }) scope.names }:=by
  refine zJF (fun n s' => ∃ i H' ys o es ep t,Inv (zV X zB scope cl s H fp) [(s.heap.objs.size,o)] (clr own σ) H' s' /\ SetK (intKind X.prog X.w) o es ep t ys /\ tn i s'.heap /\ (∀ b ∈ fp,H' b = none) /\ W i n ys H') ?_ m0
   ⟨0,H,[],zq X.w,_,_,_,I4,.fresh,st4,fun b hb => (hf b hb).1,w0⟩
  rintro n s5 ⟨i,H5,ys,o,es,ep,t,I5,r5,st5,f5,w5⟩;have pinD : ∀ p ∈ [(s.heap.objs.size,o)],p.1 = s.heap.objs.size:=fun p hp => by
   have : p = (s.heap.objs.size,o):=by simpa using hp
   rw [this]
  rcases turn i n ys H5 w5 with ⟨stop,qq⟩ | ⟨go,step⟩
  ·refine thn (T.done (zV X zB scope cl s H fp) rfl rfl rfl hcalm i _ s5 _ H5 _ I5 (fpk f5 pinD) st5 stop) fun r s6 ⟨hr,I6⟩ => ?_;subst hr;exact fin _ H5 s6 o es ep t ys I6 r5 qq
  ·refine thn (T.item (zV X zB scope cl s H fp) rfl rfl rfl hcalm i _ s5 _ H5 _ I5 (fpk f5 pinD) st5 go) fun r s6 ⟨u,hr,h6⟩ => ?_;subst hr;refine thn h6 fun _ s7 ⟨x,H7,I7,r7,y7,st7,f7⟩ => ?_;have I7':=I7.pinned (fpk f7 pinD) (T.obj _ _ st7);refine thn (hg _ s7 _ H7 x u _ I7' r7 (step x H7 y7)) fun _ s8 ⟨σ8,H8,I8,x8,q8⟩ => ?_;refine thn (hi _ s8 σ8 H8 _ I8 q8) fun ok s9 ⟨H9,I9,q9⟩ => ?_;have back : ∀ {s' : Shared} {Hx : Hp},Inv (zV X zB scope cl s H fp) ([(s.heap.objs.size,o)] ++ zDV fp s7.heap) σ8 Hx s' -> tn (i + 1) s'.heap /\ ∀ b ∈ fp,Hx b = none:=fun {s' Hx} Ix =>
    ⟨T.keep _ _ _ st7 fun b hb o e => (Ix.pin (b,o) (zVH _ (zVH _ (zAb hb e)))).1,fun b hb => by
     obtain ⟨o,e,d⟩:=T.obj _ _ st7 b hb;exact (Ix.pin (b,o) (zVH _ (zVH _ (zAb hb e)))).2.1⟩
   cases ok with
   | false =>
    obtain ⟨m',hm,w'⟩:=q9;obtain ⟨b1,b2⟩:=back I9;exact ⟨m',hm,i + 1,H9,ys,o,es,ep,t,(I9.weak (by rw [x8.1]) x8.2).unpinned,r5,b1,b2,w'⟩
   | true =>
    refine thn (he _ s9 σ8 H9 _ I9 q9) fun v s10 ⟨y,H10,I10,r10,k,hk,hlt,m',hm,w'⟩ => ?_;subst hk;obtain ⟨b1,b2⟩:=back I10;have J10:=(I10.weak (by rw [x8.1]) x8.2).unpinned;obtain ⟨e10,n10,ne10,nf10,d10⟩:=J10.pin (s.heap.objs.size,o) (by simp);obtain ⟨tk,hv⟩ : ∃ tk,v = .int k tk:=r10;subst hv;refine zQJ (knd:=intKind X.prog X.w) (intKind_is _ _ _ _) rfl e10 r5 hlt fun h' o' es' ep' t' hs' e' S' => ?_;refine ⟨m',hm,i + 1,H10,ins ys k,o',es',ep',t',?_,S',T.keep _ _ _ b1 fun b hb o e => hs'.extBut b o (fun z => hDfp (z ▸ hb)) e,b2,w'⟩;refine (Inv.repin (pl:=[]) J10 (fun p hp => ?_) hs' (zU3 _) hcD e' (zMP S')).tok _;rw [zVh] at hp;have hp' : p ∈ X.pn ++ zB:=hp;exact zVI (zU8 (I.pin p hp').1)
 exact zED loop (T.self _ 0 _ _ _ st4 loop)
theorem zJQ (I : Inv X zB σ H s) (hf : ∀ b ∈ fp,zCr X zB H b)
  (Ic : Inv (zV X zB scope cl s H fp) [(s.heap.objs.size,oD)] σc H' s') (hs : Heap.SameBut (s.heap.objs.size + 1) s'.heap h') :
  Inv X zB σ H' { s' with heap:=h' } /\ h'.get? s.heap.objs.size = some oD:=by
 obtain ⟨eD,nD,_⟩:=Ic.pin (s.heap.objs.size,oD) (by simp);have nC : H' (s.heap.objs.size + 1) = none:=Ic.free;have eD' : h'.get? s.heap.objs.size = some oD:=hs.extBut _ _ (zVI (zVu _)) eD;have lt1 : ∀ {b : Addr} {o : Obj},s.heap.get? b = some o -> b ≠ s.heap.objs.size + 1:=fun e => zVI (zVm (zU8 e));have tr : ∀ b u,H' b = some u -> b ≠ s.heap.objs.size + 1:=fun b u e z => by rw [z,nC] at e; cases e
 refine ⟨?_,eD'⟩;have B:=Ic.base;have un : Un (frs X.stack) fp H H' s.heap h':=by
  refine ⟨fun b o e q hb hx => hs.extBut b o (lt1 e) (B.keep b o e q hb hx),fun b o e q hb hx => ?_,fun b o e q hx => B.free b o e q hx,fun b o e hx => ?_,fun b xs e => B.tups b xs e,fun b o xs e => B.frzs b o xs e,fun b ps e => B.tbls b ps e⟩
  ·obtain ⟨sl,e1⟩:=B.slot b o e q hb hx;exact ⟨sl,hs.extBut b _ (lt1 e) e1⟩
  ·obtain ⟨o',e1⟩:=B.there b o e hx;exact ⟨o',hs.extBut b _ (lt1 e) e1⟩
 have hok : HOk X.prog X.w H' h':=fun b u e => by
  refine (Ic.hok b u e).stay (fun c v hc q => hs.extBut c v ?_ q) (fun c q => q) fun c xs q => q;rcases hc with z | z
  ·rw [z]; exact tr b u e
  ·exact tr c _ z
 exact I.call' (s':={ s' with heap:=h' }) (ch:=fp) Ic.os un hok Ic.bare fun b hb => ⟨(hf b hb).2.2.2.1,(hf b hb).2.1,(hf b hb).2.2.2.2.1,(hf b hb).2.2.2.2.2⟩
end
abbrev TZ:=St -> Hp -> (List Int -> Hp -> Prop) -> Prop
def PZ (X : Cx) (e : Expr) (t : TZ) : Prop:=∀ (zB : List (Addr × Obj)) (s : Shared) (σ : St) (H : Hp) (Q : List Int -> Hp -> Prop),Inv X zB σ H s -> t σ H Q ->
 wpAny (model X.prog X.w) X.A (eval e X.env) (fun v s' => ∃ a o es ep tb ks H',v = .ref a /\ s'.heap.get? a = some o /\ SetK (intKind X.prog X.w) o es ep tb ks /\ Inv X zB σ H' s' /\ Q ks H') X.xe s
def zKV (own : List Nat) (wi : TI) (g : TG) (tc : TT) (te : TE) : TZ:=fun σ H Q => wi σ H fun J H1 => ∃ W : Nat -> Nat -> List Int -> Hp -> Prop,(∃ m,W 0 m [] H1) /\ ∀ i m ys H,W i m ys H ->
 (J.stop i H /\ Q ys H) \/
 (J.go i H /\ ∀ x H',J.yld i H x H' -> g x (clr own σ) H' fun σ2 H2 => Ext (clr own σ) σ2 /\ tc σ2 H2 fun b H3 =>
  if b = true then te σ2 H3 fun v H4 => ∃ k,v = .int k /\ ys.length + 1 < scanBound /\ ∃ m',m' < m /\ W (i + 1) m' (ins ys k) H4 else ∃ m',m' < m /\ W (i + 1) m' ys H3)
section
variable {X : Cx} {scope : Scope} {tg elt iter : Expr} {ifs : List Expr} {pos : Pos} {own : List Nat} {wi : TI} {g : TG} {tc : TT} {te : TE}
theorem zQd (C : CompIn X scope own) (hcalm : X.calm = true) (hi : PI X tg iter wi) (p : CompParts X scope tg ifs elt g tc te) (hs : ∀ x,foldedSetIterable iter X.env x = pure x:=by intro _; rfl) :
  PZ X (.SetComp elt [⟨tg,iter,ifs,0⟩] scope pos) (zKV own wi g tc te):=by
 intro zB s σ H Q I h;obtain ⟨cl,hcl,c1,c2⟩:=C.sc.closure I;rw [arm_eval_SetComp];refine zWr (use:=none) rfl hs hcl C.sc.kind C.sc.names (thn (hi zB s σ H _ I h) fun v s1 h1 => thn h1 fun itv s2 h2 => ?_);obtain ⟨it,fp,tn,J,H2,e,I2,T,st2,f2,W,⟨m0,w0⟩,turn⟩:=h2;subst e;refine zG7 C hcalm I2 T st2 f2 c1 c2 (p.g _ _ _ _ _) (p.c _ _ _ _ _) (p.e _ _ _ _ _) (RR:=fun acc C r s' => compPost (model X.prog X.w) X.A X.xe none (fun v s' => ∃ a o es ep tb ks H',v = .ref a /\ s'.heap.get? a = some o /\ SetK (intKind X.prog X.w) o es ep tb ks /\ Inv X zB σ H' s' /\ Q ks H') acc C r s') (QQ:=Q) w0 turn ?_;intro σc H' s' o es ep t ys Ic rv qq;obtain ⟨m,hn,_⟩:=Ic.loc;refine ⟨m,hn,fun h' hs' => ?_⟩;obtain ⟨J',eD⟩:=zJQ I2 f2 Ic hs';exact ⟨_,o,es,ep,t,ys,H',rfl,eD,rv,J',qq⟩
end
end L2
namespace ST
open PySem PySem.Spec PyProof.Rows
open Sem (wp)
section
variable {prog : Program} {w : World} {A : Around} {E : Value -> Shared -> Prop} {s : Shared}
variable {K : Type} [DecidableEq K] {knd : KeyKind prog w K}
def zAM (ks : List K) : List K:=ks.foldl ins []
theorem zGW (ks : List K) (k : K) : zAM (ks ++ [k]) = ins (zAM ks) k:=by unfold zAM; rw [zWv]; rfl
theorem zRE (ks : List K) (k : K) : (ins ks k).length <= ks.length + 1:=by unfold ins; split <;> simp
theorem zCs (ks : List K) : (zAM ks).length <= ks.length:=by
 have : ∀ (l acc : List K),(l.foldl ins acc).length <= acc.length + l.length:=by
  intro l;induction l with
  | nil => intro acc; simp
  | cons x r ih => intro acc; have:=ih (ins acc x); have:=zRE acc x; simp only [List.foldl_cons,zVU]; omega
 simpa [zAM] using this ks []
theorem zRL (ks : List K) (k x : K) : x ∈ ins ks k ↔ x ∈ ks \/ x = k:=by
 unfold ins;split
 ·rename_i h; constructor
  ·exact .inl
  ·rintro (z | z)
   ·exact z
   ·rw [z]; exact h
 ·simp
theorem zLQ (ks : List K) (x : K) : x ∈ zAM ks ↔ x ∈ ks:=by
  have : ∀ (l acc : List K),x ∈ l.foldl ins acc ↔ x ∈ acc \/ x ∈ l:=by
    intro l;induction l with
    | nil => intro acc; simp
    | cons y r ih => intro acc; rw [List.foldl_cons,ih,zRL,zU9]; simp [or_assoc]
  simpa [zAM] using this ks []
theorem zNc (h : ks.Nodup) (k : K) : (ins ks k).Nodup := by
  unfold ins;split
  · exact h
  · rename_i q
    rw [zWB]
    exact ⟨h, by simp, fun a ha b hb z => by have : b = k := by simpa using hb
                                             subst this; subst z; exact q ha⟩
theorem zJK (ks : List K) : (zAM ks).Nodup:=by
 have : ∀ (l acc : List K),acc.Nodup -> (l.foldl ins acc).Nodup:=by
  intro l;induction l with
  | nil => intro acc h; exact h
  | cons y r ih => intro acc h; exact ih _ (zNc h y)
 exact this ks [] (by simp)
theorem zQM (a : Value) (h : Q₁ (.ref s.heap.objs.size) { s with heap:=s.heap.push (zq w) }) :
  codeAny (model prog w) A (.call (.builtin "set.__new__") ⟨[.type "set", a],[]⟩) (wants Q₁ E) s:=by
 refine codeAny_of_tree ?_;show wpAny _ A.in1 (do checkBuiltinCall "set.__new__" ⟨[.type "set", a],[]⟩; again (.builtin "set.__new__" ⟨[.type "set", a],[]⟩)) _ _ s;refine zUx (wpAny_of_eq (F.newCall_set_1 a) (zUz ⟨plainId_quiet F.plain_set_new _,zV2 F.entry_set_new ?_⟩));rw [zVs F.plain_set_new _];unfold Builtin.«set.__new__» Builtin.Frozenset.newClass;have hsub:=sub_set_self;obtain ⟨hp,g,d,tk,os⟩:=s;dsimp only;wp_walk;refine wpAny_askSetting (zUz ?_);dsimp only;simp only [newObj];refine zUx (wpAny_alloc (zUz ?_));exact zUz h
variable {R : Result -> Shared -> Prop} {I : Addr} {fp wr : List Addr} {G : Array GenState -> Array GenState -> Prop} {n : Nat} {P : Nat -> Value -> Prop} {St : Nat -> Shared -> Prop}
theorem zK6 (W : WalksS prog w A.in1 I fp wr G n P St) (S : Addr) (hSf : S ∉ fp) (val : Nat -> K) (hval : ∀ i v,P i v -> knd.is (val i) v = true /\ v.scannable = true) (hb : n + 1 < scanBound) :
  ∀ (k i : Nat) (s : Shared) (o : Obj) (es : Array (Int × Value)) (ep : Nat) (t : SetTable),n - i = k -> i <= n -> St i s -> s.heap.get? S = some o -> SetK knd o es ep t (zAM ((List.range i).map val)) ->
   (∀ s' o' es' ep' t',Moved (S :: wr) G s s' -> s'.heap.get? S = some o' -> SetK knd o' es' ep' t' (zAM ((List.range n).map val)) -> R (.ok (.ret .none)) s') ->
   codeAny (model prog w) A (.builtin "set.update.loop" ⟨[.ref S,.ref I],[]⟩) R s:=by
 have hSw : S ∉ wr:=fun h => hSf (W.sub _ h);have hsub : ∀ b ∈ wr,b ∈ S :: wr:=fun b hb => zVA _ hb;intro k;induction k with
 | zero =>
  intro i s o es ep t hk hi hst ho hS hR;have hin : i = n:=by omega
  subst hin;refine zV2 F.entry_set_update_loop ?_;rw [zVs F.plain_set_update_loop _];show wpAny _ A.in1 (pyNext (.ref I) >>= _) _ _ s;refine zUx (W.done s _ _ hst fun s' hm => ?_);show wpAny _ A.in1 (ret Value.none) _ _ s';exact zUz (hR s' o es ep t (hm.mono hsub) (hm.heap S _ hSw ho) hS)
 | succ k ih =>
  intro i s o es ep t hk hi hst ho hS hR;have hlt : i < n:=by omega
  refine zV2 F.entry_set_update_loop ?_;rw [zVs F.plain_set_update_loop _];show wpAny _ A.in1 (pyNext (.ref I) >>= _) _ _ s;refine zUx (W.item i s _ _ hlt hst fun v s' hP hst' hm => ?_);obtain ⟨hv1,hv2⟩:=hval i v hP;have ho':=hm.heap S _ hSw ho;show wpAny _ A.in1 (holding [v] (setAdd S v) >>= _) _ _ s';refine zUx (zVq ?_);unfold setAdd;refine zVq ?_;refine zUx (knd.pyHash (k:=val i) hv1 ?_);have hroom : (zAM ((List.range i).map val)).length + 1 < scanBound:=by have:=zCs ((List.range i).map val); simp at this; omega
  refine zEC (s:={ s' with toks:=s'.toks + 1 }) hv1 hv2 ho' hS hroom fun h' o2 es2 ep2 t2 b hsb ho2 hS2 => ?_;have hS3 : SetK knd o2 es2 ep2 t2 (zAM ((List.range (i + 1)).map val)):=by
   rw [List.range_succ,zVp];rw [show List.map val [i] = [val i] from rfl,zGW];exact hS2
  refine zUz ⟨plainId_quiet F.plain_set_update_loop _,ih (i + 1) _ o2 es2 ep2 t2 (by omega) hlt (W.frame _ s' _ _ hst' (zWf _) fun b hb o e => ?_) ho2 hS3 fun s'' o' es' ep' t' hm'' ho'' hS'' => ?_⟩
  ·rw [hsb.2 b (fun h : b = S => hSf (by rw [<- h]; exact hb))]; exact e
  ·refine hR s'' o' es' ep' t' (Moved.trans W.gtrans ((hm.mono hsub).then_heap (zWf _) fun b o hb e => ?_) hm'') ho'' hS'';rw [hsb.2 b (fun h : b = S => hb (by rw [h]; exact zVB))]; exact e
end
section
variable {prog : Program} {w : World} {A : Around} {E : Value -> Shared -> Prop} {s : Shared}
variable {K : Type} [DecidableEq K] {knd : KeyKind prog w K}
theorem zIJ : isSubtype (.type "tuple") (.type "set") = pure false:=by rw [isSubtype_type]; kernel_rfl
theorem zEw : isSubtype (.type "tuple") (.type "frozenset") = pure false:=by rw [isSubtype_type]; kernel_rfl
theorem zLs {K : Type} (ks : List K) (d : K) : (List.range ks.length).map (fun i => ks.getD i d) = ks:=by
 apply List.ext_getElem?;intro i;rw [zVK];by_cases q : i < ks.length
 ·rw [List.getElem?_range q,zU1 q]; simp [q]
 ·rw [zV6 (l:=List.range ks.length) (by simpa using q),zV6 (l:=ks) (Nat.le_of_not_lt q)]; rfl
set_option maxHeartbeats 3200000 in
theorem zOV [Inhabited K] (hty : ty = "list" \/ ty = "tuple")
  (hh : A.handled = none) (hl : ∃ ol,s.heap.get? l = some ol /\ ol.cls = .type ty /\ ∃ nl,ol.data = .seq items nl) (hi : F2 (fun v k => knd.is k v = true /\ v.scannable = true) items.toList ks) (hb : ks.length + 1 < scanBound)
  (h : ∀ (h' : Heap) (tk : Nat) (o : Obj) (es : Array (Int × Value)) (ep : Nat) (t : SetTable),h'.get? s.heap.objs.size = some o -> SetK knd o es ep t (zAM ks) ->
   (∀ b o,b < s.heap.objs.size -> s.heap.get? b = some o -> h'.get? b = some o) -> Q (.ref s.heap.objs.size) { s with heap:=h',toks:=tk }) :
  wpAny (model prog w) A (call (.type "set") [.ref l]) Q E s:=by
 obtain ⟨c,tl,hmro⟩:=F.called_set.mro;have hmade:=F.called_set.made;have hsub:=F.called_set.sub;have hlen : items.size = ks.length:=by rw [<- zVg]; exact zCt hi
 refine wpAny_call (codeAny_of_tree ?_);show wpAny _ _ (callAny (.type "set") _) _ _ _;refine zUz ⟨Code.quiet_builtin _ (by decide +kernel),zV2 F.entry_type_call ?_⟩;rw [Around.under_plain (weight_type_call_type "set" [.ref l] []) rfl];have h1:=F.called_set.notType;have h2:=F.called_set.canCreate;have hct:=F.typeCall_set_1 (.ref l);repeat (any_goals (first | assumption | wp_step))
 refine codeAny_mono (zQM (.ref l) (E:=E) (Q₁:=fun obj s₁ => obj = .ref s.heap.objs.size /\ s₁ = { s with heap:=s.heap.push (zq w) }) ⟨rfl,rfl⟩) fun r s₁ hr => ?_;cases r with
 | error e => exact hr
 | ok fl =>
  cases fl with
  | ret obj =>
   obtain ⟨rfl,rfl⟩:=hr;have hS : (s.heap.push (zq w)).get? s.heap.objs.size = some (zq w):=zU7 _ rfl;have hT : Shared.TypeIs { s with heap:=s.heap.push (zq w) } (.ref s.heap.objs.size) "set" := ⟨_,hS,rfl⟩;have hli:=F.called_set.init.lookup;have hbi:=F.called_set.init.bind (.ref s.heap.objs.size);repeat (any_goals (first | assumption | wp_step))
   refine codeAny_mono (codeAny_call_builtin (R:=wants (fun r s₂ => r = .none /\ ∃ h' tk o es ep t,s₂ = { s with heap:=h',toks:=tk } /\ h'.get? s.heap.objs.size = some o /\ SetK knd o es ep t (zAM ks) /\
     (∀ b o,b < s.heap.objs.size -> s.heap.get? b = some o -> h'.get? b = some o)) E) F.called_set.init.plain F.entry_set_init (check_set_init_1 hT ?_)) fun r₂ s₂ hr₂ => ?_
   ·obtain ⟨ol,hol,hcl,nl,hdl⟩:=hl;obtain ⟨ocls,odict,odata,oslots⟩:=ol;simp only at hcl hdl;subst hcl; subst hdl;have hlS : l < s.heap.objs.size:=zU8 hol;have hol' : (s.heap.push (zq w)).get? l = some { cls:=.type ty,dict:=odict,data:=.seq items nl,slots:=oslots }:=zUy _ hol;have hh3 : A.in1.in1.in1.handled = none:=by simp [hh]
    have hneI : l ≠ (s.heap.push (zq w)).objs.size:=by
     rw [zVd]; exact zVI (zVm hlS)
    have hSf : s.heap.objs.size ∉ [(s.heap.push (zq w)).objs.size,l]:=by
     rw [zVd]; simp only [zU9,zVP,zVS,or_false,not_or];exact ⟨zVI (zVu _),Nat.ne_of_gt hlS⟩
    have hval : ∀ (d : K) (i : Nat) (v : Value),items[i]? = some v -> knd.is (ks.getD i d) v = true /\ v.scannable = true:=fun d i v hv => by
     have e : items.toList[i]? = some v:=by rw [zWc]; exact hv
     have : ∀ {xs : List Value} {ys : List K},F2 (fun v k => knd.is k v = true /\ v.scannable = true) xs ys -> ∀ (i : Nat),xs[i]? = some v -> knd.is (ys.getD i d) v = true /\ v.scannable = true:=by
      intro xs ys f;induction f with
      | nil => intro i e; simp at e
      | cons q _ ih =>
       intro i e;cases i with
       | zero => simp at e; subst e; exact q
       | succ i => exact ih i (by simpa using e)
     exact this hi i e
    have fin : ∀ (I : Addr) (hI : I = (s.heap.push (zq w)).objs.size) (P' : Fin -> Shared -> Prop) (s' : Shared) (o' : Obj) (es' : Array (Int × Value)) (ep' : Nat) (t' : SetTable) (itO : Obj),
      Moved (s.heap.objs.size :: [I]) (fun a b => b = a) { s with heap:=(s.heap.push (zq w)).push itO } s' -> s'.heap.get? s.heap.objs.size = some o' -> SetK knd o' es' ep' t' (zAM ks) ->
      (∃ h' tk o es ep t,s' = { s with heap:=h',toks:=tk } /\ h'.get? s.heap.objs.size = some o /\ SetK knd o es ep t (zAM ks) /\ (∀ b o,b < s.heap.objs.size -> s.heap.get? b = some o -> h'.get? b = some o)):=by
     intro I hI P' s' o' es' ep' t' itO hm ho' hS';obtain ⟨h',g',d',tk',os'⟩:=s';have eg : g' = s.gens:=hm.gens;have ed : d' = s.drawn:=hm.drawn;have eo : os' = s.os:=hm.os;subst eg; subst ed; subst eo;refine ⟨h',tk',o',es',ep',t',rfl,ho',hS',fun b o hb e => ?_⟩;have hb1 : b ≠ s.heap.objs.size:=zVI hb;have hb2 : b ≠ I:=by rw [hI,zVd]; exact zVI (zVm hb)
     exact hm.heap b o (by simp only [zU9,zVP,zVS,or_false,not_or]; exact ⟨hb1,hb2⟩) (zUy _ (zUy _ e))
    have go : ∀ (d : K) (St : Nat -> Heap -> Prop) (itO : Obj) (W : Walks prog w A.in1.in1.in1 (s.heap.push (zq w)).objs.size [(s.heap.push (zq w)).objs.size,l] [(s.heap.push (zq w)).objs.size] items.size (fun i v => items[i]? = some v) St),St 0 ((s.heap.push (zq w)).push itO) ->
      ∀ {R' : Result -> Shared -> Prop},(∀ s',(∃ h' tk o es ep t,s' = { s with heap:=h',toks:=tk } /\ h'.get? s.heap.objs.size = some o /\ SetK knd o es ep t (zAM ks) /\ (∀ b o,b < s.heap.objs.size -> s.heap.get? b = some o -> h'.get? b = some o)) -> R' (.ok (.ret .none)) s') ->
      codeAny (model prog w) A.in1.in1 (.builtin "set.update.loop" ⟨[.ref s.heap.objs.size,.ref (s.heap.push (zq w)).objs.size],[]⟩) R' { s with heap:=(s.heap.push (zq w)).push itO }:=by
     intro d St itO W st R' hR;refine zK6 (knd:=knd) W.toS s.heap.objs.size hSf (fun i => ks.getD i d) (hval d) (by rw [hlen]; exact hb) (items.size - 0) 0 _ (zq w) _ _ _ (by omega) (zVj _) st (zUy _ hS) .fresh fun s' o' es' ep' t' hm ho' hS' => ?_;refine hR s' (fin _ rfl (fun _ _ => True) s' o' es' ep' t' itO hm ho' ?_);rw [hlen,zLs] at hS';exact hS'
    rcases hty with rfl | rfl
    ·have hsls:=F.sub_list_set;have hslf:=F.sub_list_frozenset;have hne : (Value.type "list" == Value.type "dict") = false:=by decide
     have hl1 : (s.heap.push (zq w)).IsList l items:=⟨_,hol',rfl,nl,rfl⟩;unfold Builtin.«set.__init__» noKeywords Builtin.Frozenset.updateFrom;generalize hPI : pyIter = PI;wp_walk;subst hPI;refine wpAny_pyIter_list hl1 ?_;refine zUx (wpAny_runValue ?_);refine go default _ _ (Walks.list hh3 _ l hneI items) ⟨⟨_,zU7 _ rfl,rfl,rfl⟩,(hl1.push _)⟩ fun s' q => ?_;refine zUz ?_;show wpAny _ _ (ret Value.none) _ _ _;exact zUz ⟨rfl,q⟩
    ·have hsls:=zIJ;have hslf:=zEw;have hne : (Value.type "tuple" == Value.type "dict") = false:=by decide
     have hl1 : (s.heap.push (zq w)).IsTuple l items:=⟨_,hol',rfl,nl,rfl⟩;unfold Builtin.«set.__init__» noKeywords Builtin.Frozenset.updateFrom;generalize hPI : pyIter = PI;wp_walk;subst hPI;refine wpAny_pyIter_tuple hl1 ?_;refine zUx (wpAny_runValue ?_);refine go default _ _ (Walks.tuple hh3 _ l hneI items) ⟨⟨_,zU7 _ rfl,rfl,rfl⟩,(hl1.push _)⟩ fun s' q => ?_;refine zUz ?_;show wpAny _ _ (ret Value.none) _ _ _;exact zUz ⟨rfl,q⟩
   ·cases r₂ with
    | error e => exact hr₂
    | ok fl₂ =>
     cases fl₂ with
     | ret r =>
      obtain ⟨rfl,h',tk,o,es,ep,t,rfl,ho',hS',hk'⟩:=hr₂;repeat (any_goals (first | assumption | wp_step))
      exact h _ _ _ _ _ _ ho' hS' hk'
     | _ => exact hr₂.elim
  | _ => exact hr.elim
end
def zEA (ks : List Int) : List Int:=ks.mergeSort fun a b => decide (a <= b)
theorem zCE (ks : List Int) : (zEA ks).Perm ks:=List.mergeSort_perm _ _
theorem zHa (ks : List Int) : (zEA ks).Pairwise (· <= ·):=by
 have:=List.pairwise_mergeSort (le:=fun (a b : Int) => decide (a <= b)) (fun a b c h1 h2 => by simp at h1 h2 ⊢; omega) (fun a b => by simp; omega) ks;exact this.imp fun h => by simpa using h
theorem zIu : ∀ {xs ys : List Int},xs.Perm ys -> xs.Pairwise (· <= ·) -> ys.Pairwise (· <= ·) -> xs = ys
 | [],ys,p,_,_ => by have:=p.length_eq; simp at this; rw [List.length_eq_zero_iff.mp this.symm]
 | x :: xs,[],p,_,_ => by have:=p.length_eq; simp at this
 | x :: xs,y :: ys,p,h1,h2 => by
  have hx:=List.pairwise_cons.mp h1;have hy:=List.pairwise_cons.mp h2;have e : x = y:=by
   have a : x ∈ y :: ys:=p.mem_iff.mp zVB;have b : y ∈ x :: xs:=p.mem_iff.mpr zVB;rcases zU9.mp a with z | z
   ·exact z
   ·rcases zU9.mp b with q | q
    ·exact q.symm
    ·exact Int.le_antisymm (hx.1 y q) (hy.1 x z)
  subst e;rw [zIu (p.cons_inv) hx.2 hy.2]
theorem zKc (p : xs.Perm ys) (h : xs.Pairwise (· <= ·)) : xs = zEA ys:=zIu (p.trans (zCE ys).symm) h (zHa ys)
section
variable {prog : Program} {w : World} {A : Around} {E : Value -> Shared -> Prop} {s : Shared}
theorem zLY
  (hc : wpAny (model prog w) A.in1 (collect v) (fun vs s1 => ∃ ns,IntsAre vs ns /\ vs.length < 64 /\ ∀ (h' : Heap) (out : List Value) (n : Nat),(∀ b u,s1.heap.get? b = some u -> h'.get? b = some u) -> h'.get? s1.heap.objs.size = some (seqObj "list" out.toArray n) -> IntsAre out (zEA ns) -> Q (.ref s1.heap.objs.size) { s1 with heap:=h' }) E s) :
  wpAny (model prog w) A (call (.builtin "sorted") [v]) Q E s:=by
 refine Calls.call_function_entry kind_sorted plain_sorted entry_sorted (args_sorted1 _) ?_;unfold Builtin.«sorted»;refine zUx (m:=checkCount "sorted" 1 1 _) (zUz ?_);refine zUx (zVT hc (fun vs s1 h1 => ?_) fun _ _ h' => h');obtain ⟨ns,hI,h64,h⟩:=h1;refine zUx (wpAny_newList ?_ (by rw [sizeLine_eq]; omega));have hoL : (s1.heap.push (seqObj "list" vs.toArray 0)).get? s1.heap.objs.size = some (seqObj "list" vs.toArray 0):=zU7 _ rfl;refine zUx (zVq (zVa slot_list_sort ⟨_,hoL,rfl⟩ entry_list_sort (list_sort_tree (s:={ s1 with heap:=s1.heap.push (seqObj "list" vs.toArray 0) }) hoL hI h64 fun out ns' a1 a2 a3 => ⟨_,rfl,?_⟩) (args_list_sort _)));refine zUz ⟨_,rfl,?_⟩;have g1:=get?_update_seq hoL (fun _ => #[]);have g2 : (((s1.heap.push (seqObj "list" vs.toArray 0)).update s1.heap.objs.size (Obj.mapSeq fun _ => #[])).push (seqObj "tuple" vs.toArray 0)).get? s1.heap.objs.size = _:=zUy _ g1;have g3:=zUy (seqObj "list" #[] 0) g2;have g4:=get?_update_seq g3 (fun _ => out);have eS:=zKc a2 a3;subst eS;refine h _ out.toList _ (fun b u e => ?_) (by rw [Array.toArray_toList]; exact g4) a1;have hb : s1.heap.objs.size ≠ b:=fun z => zVf _ (z ▸ zU8 e);exact (zVe _ _ hb).trans (zUy _ (zUy _ ((zVe _ _ hb).trans (zUy _ e))))
theorem zNF (h : F2 (zTB (intKind prog w)) es ks) : IntsAre (es.map (·.2)) ks:=by
 induction h with
 | nil => exact .nil
 | cons h _ ih =>
  obtain ⟨⟨h1,_⟩,_⟩:=h;obtain ⟨t,e⟩:=Value.isInt_shape h1;rw [zVG,e];exact .cons _ _ ih
theorem zNL (p : us.Perm vs) : ∀ {ks : List Int},IntsAre vs ks -> ∃ ks',ks'.Perm ks /\ IntsAre us ks':=by
 have p':=p.symm;clear p;induction p' with
 | nil => intro ks h; exact ⟨ks,.refl _,h⟩
 | cons x _ ih =>
  intro ks h;cases h with
  | cons n t r =>
   obtain ⟨ys',q1,q2⟩:=ih r;exact ⟨_,q1.cons _,.cons _ _ q2⟩
 | swap x y l =>
  intro ks h;cases h with
  | cons n t r =>
   cases r with
   | cons n2 t2 r => exact ⟨_,List.Perm.swap _ _ _,.cons _ _ (.cons _ _ r)⟩
 | trans _ _ ih1 ih2 =>
  intro ks h;obtain ⟨ys',q1,q2⟩:=ih1 h;obtain ⟨ys'',r1,r2⟩:=ih2 q2;exact ⟨ys'',r1.trans q1,r2⟩
theorem zKr (p : xs.Perm ys) : zEA xs = zEA ys:=zKc ((zCE xs).trans p) (zHa xs)
theorem zLV (hh : A.handled = none) (ho : s.heap.get? a = some o) (hS : SetK (intKind prog w) o es ep t ks) (h64 : ks.length < 64)
  (h : ∀ (s1 : Shared) (h' : Heap) (out : List Value) (n : Nat),(∀ b u,s.heap.get? b = some u -> s1.heap.get? b = some u) -> s1.os = s.os -> s1.gens = s.gens -> (∀ b u,s1.heap.get? b = some u -> h'.get? b = some u) -> h'.get? s1.heap.objs.size = some (seqObj "list" out.toArray n) -> IntsAre out (zEA ks) -> Q (.ref s1.heap.objs.size) { s1 with heap:=h' }) :
  wpAny (model prog w) A (call (.builtin "sorted") [.ref a]) Q E s:=by
 refine zLY (zKe (A:=A.in1) hh ho hS fun s' acc k1 k2 k3 hp => ?_);obtain ⟨ks',p,f⟩:=hS.ent;obtain ⟨ks2,p2,f2⟩:=zNL hp (zNF f);refine ⟨ks2,f2,?_,fun h' out n e1 e2 e3 => ?_⟩
 ·rw [hp.length_eq,zU6,zVg,hS.size]; exact h64
 ·rw [zKr (p2.trans p)] at e3;exact h s' h' out n k1 k2 k3 e1 e2 e3
end
end ST
namespace L2
open PySem PySem.Spec PyProof.Rows ST
section
variable {X : Cx} {e : Expr} {p pos : Pos} {zB : List (Addr × Obj)} {σ : St} {H : Hp} {s : Shared}
theorem Inv.kept' (I : Inv X zB σ H s) (k : ∀ b u,s.heap.get? b = some u -> s1.heap.get? b = some u) (ho : s1.os = s.os) (hg : s1.gens = s.gens) : Inv X zB σ H s1 :=
 I.call' (ch:=[]) ho (Un.kept k) (I.hok.kept k) (by rw [hg]; exact I.bare) fun b hb => nomatch hb
theorem zG4 : ∀ {ns : List Int} {us : List Value},IntsAre us ns -> zo (ns.map V.int) us
 | _,_,.nil => .nil
 | _,_,.cons n t h => .cons ⟨t,rfl⟩ (zG4 h)
theorem zGz : ∀ {ns : List Int} {us : List Value},zo (ns.map V.int) us -> IntsAre us ns
 | [],_,.nil => .nil
 | n :: ns,_,.cons r h => by obtain ⟨t,rfl⟩:=r; exact .cons n t (zGz h)
theorem zOg (ks : List Int) : (zEA ks).length = ks.length:=(zCE ks).length_eq
theorem zQD (hc : X.calm = true) (hg : Gl X "sorted") (hm : X.mg "sorted" = none) (ha : PZ X e t) (hs : starEach [e] X.env = (false,eval e X.env) :: starEach [] X.env:=by rfl) (hpl : (backTo pos (starEach [] X.env)).any (·.1) = false:=by rfl) :
  PE X (.Call (.Name "sorted" p) [e] [] pos) (fun σ H Q => t σ H fun ks H1 => ks.length < 64 /\ ∀ q,H1 q = none -> Q (.ref q) (upd H1 q (.lst ((zEA ks).map V.int)))):=by
 intro zB s σ H Q I h;refine wpAny_Call_Name_kw (zF4 I hg hm (by rfl) ?_ (by decide) (by decide));refine callWith_builtin1 ?_ hs hpl;rw [hs];show wpAny _ _ (spliced ((false,eval e X.env) :: backTo pos (starEach [] X.env))) _ _ s;refine zWF (thn (ha zB s σ H _ I h) fun u s1 ⟨a,o,es,ep,tb,ks,H1,hv,ho,hS,I1,h64,q⟩ => Calls.spliced_nil ?_);subst hv;refine zLV (I1.ok.hd hc) ho hS h64 fun s2 h' out n k1 k2 k3 k4 e4 i4 => ?_;have I2 : Inv X zB σ H1 s2:=I1.kept' k1 k2 k3;have hf : H1 s2.heap.objs.size = none:=I2.hok.fresh (zU3 _);refine ⟨.ref s2.heap.objs.size,upd H1 s2.heap.objs.size (.lst ((zEA ks).map V.int)),I2.laid (t':=s2.toks) k4 (zU3 _) ⟨by rw [zU6,zOg,sizeLine_eq]; omega,out,n,zG4 i4,e4⟩,rfl,q _ hf⟩
theorem zSU (hc : X.calm = true) (hg : Gl X "set") (hm : X.mg "set" = none) (ha : PE X e te) (hs : starEach [e] X.env = (false,eval e X.env) :: starEach [] X.env:=by rfl) (hpl : (backTo pos (starEach [] X.env)).any (·.1) = false:=by rfl) :
  PZ X (.Call (.Name "set" p) [e] [] pos) (fun σ H Q => te σ H fun x H1 => ∃ a ns,x = .ref a /\ (SqL X.K H1 a (ns.map V.int) \/ SqT X.K H1 a (ns.map V.int)) /\ ns.length + 1 < scanBound /\ Q (zAM ns) H1):=by
 intro zB s σ H Q I h;refine wpAny_Call_Name_kw (zF4 I hg hm (by rfl) ?_ (by decide) (by decide));refine callWith_type1 ?_ hs hpl;rw [hs];show wpAny _ _ (spliced ((false,eval e X.env) :: backTo pos (starEach [] X.env))) _ _ s;refine zWF (thn (ha zB s σ H _ I h) fun u s1 ⟨x,H1,I1,r1,a,ns,hx,hq,hb,q⟩ => Calls.spliced_nil ?_);subst hx;cases r1;have key : ∃ (ty : String) (its : List Value),(ty = "list" \/ ty = "tuple") /\ (∃ ol,s1.heap.get? a = some ol /\ ol.cls = .type ty /\ ∃ nl,ol.data = .seq its.toArray nl) /\ zo (ns.map V.int) its:=by
  rcases hq with hq | hq
  ·obtain ⟨its,rv,⟨ol,nl,e1,e2,_,e3⟩,_⟩:=I1.list hq;exact ⟨"list", its,.inl rfl,⟨ol,e1,e2,nl,e3⟩,rv⟩
  ·obtain ⟨its,rv,⟨ol,e1,e2,nl,e3⟩,_⟩:=I1.tuple hq;exact ⟨"tuple", its,.inr rfl,⟨ol,e1,e2,nl,e3⟩,rv⟩
 obtain ⟨ty,its,hty,hl,rv⟩:=key;have hi : F2 (fun v k => (intKind X.prog X.w).is k v = true /\ v.scannable = true) its.toArray.toList ns:=by
  rw [List.toList_toArray];have:=zGz rv;clear rv hq q hb hl;induction this with
  | nil => exact .nil
  | cons n t _ ih => exact .cons ⟨intKind_is _ _ _ _,rfl⟩ ih
 refine zOV (knd:=intKind X.prog X.w) hty (I1.ok.hd hc) hl hi hb fun h' tk o es ep t ho hS k => ?_;have I2 : Inv X zB σ H1 { s1 with heap:=h',toks:=tk }:=I1.kept (t':=tk) fun b u e => k b u (zU8 e) e;exact ⟨_,o,es,ep,t,_,H1,rfl,ho,hS,I2,q⟩
end
end L2
namespace L3
open PySem PySem.Spec PyProof.Rows L2 ST
abbrev FZ:=Sd -> Mem -> Option (List Int × Mem)
def trZ (K : PySem.W.Frag) (f : FZ) : TZ:=fun τ H Q => ∃ L σ M ks M',Cor K L M H /\ zBz L H σ τ /\ f σ M = some (ks,M') /\ ∀ L' H',Stp L H L' H' -> Cor K L' M' H' -> Q ks H'
structure QZ (X : Cx) (e : Expr) (f : FZ) : Prop where
 un : PZ X e (trZ X.K f)
theorem PZ.imp (h : PZ X e t) (hi : ∀ τ H Q,t' τ H Q -> t τ H Q) : PZ X e t':=fun zB s σ H Q I q => h zB s σ H Q I (hi _ _ _ q)
noncomputable def zIy (own : List Nat) (fi : FI) (g : FG) (tc : FT) (te : FE) : FZ:=fun σ M => match zAQ own fi g tc te σ M with
 | some (.fl ys,M2) => match zA9 ys with
  | some ks => if ks.length + 1 < scanBound then some (zAM ks,M2) else none
  | none => none
 | _ => none
theorem zHy : ∀ {as bs : List D} {zs : List Int},zA9 (as ++ bs) = some zs -> ∃ xs ys,zA9 as = some xs /\ zA9 bs = some ys /\ zs = xs ++ ys
 | [],bs,zs,h => ⟨[],zs,rfl,h,rfl⟩
 | a :: as,bs,zs,h => by
  cases a with
  | int i =>
   rw [List.cons_append] at h;unfold zA9 at h;split at h
   ·rename_i us e;cases h;obtain ⟨xs,ys,e1,e2,e3⟩:=zHy e;refine ⟨i :: xs,ys,?_,e2,by rw [e3]; rfl⟩;unfold zA9; rw [e1]
   ·cases h
  | _ => cases h
theorem zKg (h : zA9 as = some xs) : zA9 (as ++ [.int i]) = some (xs ++ [i]):=by
 induction as generalizing xs with
 | nil => cases h; rfl
 | cons a as ih =>
  cases a with
  | int j =>
   unfold zA9 at h;split at h
   ·rename_i us e; cases h;rw [List.cons_append]; unfold zA9; rw [ih e]; rfl
   ·cases h
  | _ => cases h
theorem zNb {K : PySem.W.Frag} {own : List Nat} {fi : FI} {g : TG} {fg : FG} {tc : FT} {te : FE} (hg : zFZ own g fg) {τ : Sv} {H : Hp} {Q : List Int -> Hp -> Prop} (h : trZ K (zIy own fi fg tc te) τ H Q) : zKV own (trI K fi) g (trT K tc) (trD K (toD te)) τ H Q:=by
 obtain ⟨L,σ,M,d,Mf,c,rs,hf,q⟩:=h;unfold zIy zAQ at hf;cases e1 : fi σ M with
 | none => rw [e1] at hf; cases hf
 | some r =>
  obtain ⟨xs,gd,M1⟩:=r;rw [e1] at hf;dsimp only at hf;by_cases hz : xs.length <= sizeLine
  ·rw [zVC hz] at hf;cases e2 : zBN fg tc te (zBc own σ) xs gd xs M1 with
   | none => rw [e2] at hf; cases hf
   | some r =>
    obtain ⟨zs,M2⟩:=r;rw [e2] at hf;dsimp only at hf;split at hf
    ·rename_i kz ez;split at hf
     ·rename_i hb;cases hf;refine ⟨L,σ,M,_,_,_,c,rs,e1,fun L1 H1 J s1 c1 it => ?_⟩
      refine ⟨fun i m ys H' => m = xs.length - i /\ i <= xs.length /\ ∃ L' M' as bs ka,Stp L1 H1 L' H' /\ Cor K L' M' H' /\ zA9 as = some ka /\ ys = zAM ka /\ zBN fg tc te (zBc own σ) xs gd (xs.drop i) M' = some (bs,Mf) /\ as ++ bs = zs,
       ⟨xs.length,by simp,zVj _,L1,M1,[],zs,[],.refl _ _,c1,rfl,rfl,by simpa using e2,rfl⟩,?_⟩
      rintro i m ys H' ⟨rfl,hi,L',M',as,bs,ka,s',c',r',hl,e',hab⟩;by_cases hlt : i < xs.length
      ·rw [zCo hlt] at e';unfold zBN at e';split at e'
       ·rename_i hgd;obtain ⟨step,_⟩:=it L' H' M' s' c' hgd;obtain ⟨go,yl⟩:=step i xs[i] (zU1 hlt);split at e'
        ·rename_i σ1 eg;refine .inr ⟨go,fun v H2 hy => ?_⟩;obtain ⟨gr,rv⟩:=yl v H2 hy;have s2 : Stp L1 H1 L' H2:=s'.yld gr;refine hg (zEu own ((rs.stp s1).stp s2)) (.refl _) rv eg fun τ2 r2 x2 => ⟨x2,?_⟩;split at e'
         ·rename_i M3 e3;split at e'
          ·rename_i d M4 e4;split at e'
           ·rename_i ds M5 e5;cases e';refine ⟨L',σ1,M',_,_,c'.grow gr,r2,e3,fun L3 H3 s3 c3 => zID ?_⟩;refine ⟨L3,σ1,M3,_,_,c3,r2.stp s3,e4,fun L4 H4 w s4 c4 r4 => ?_⟩;have st : Stp L' H' L4 H4:=((Stp.grow gr).trans s3).trans s4;have ez':=ez;rw [<- hab] at ez';obtain ⟨x1,y1,g1,g2,g3⟩:=zHy ez';obtain ⟨k,hk⟩ : ∃ k,d = .int k:=by
             cases d with
             | int k => exact ⟨k,rfl⟩
             | _ => cases g2
            subst hk;have ew : w = .int k:=by unfold Rep at r4; exact r4
            have hka : ka.length <= kz.length:=by
             rw [r'] at g1; cases g1;rw [g3,zVD]; omega
            refine ⟨k,ew,?_,xs.length - (i + 1),by omega,rfl,hlt,L4,M4,as ++ [.int k],ds,ka ++ [k],s'.trans st,c4,zKg r',by rw [hl,zGW],e5,by rw [<- hab]; simp⟩;rw [hl];have:=zCs ka;omega
           ·cases e'
          ·cases e'
         ·rename_i M3 e3;refine ⟨L',σ1,M',_,_,c'.grow gr,r2,e3,fun L3 H3 s3 c3 => zIL ?_⟩;have st : Stp L' H' L3 H3:=(Stp.grow gr).trans s3;exact ⟨xs.length - (i + 1),by omega,rfl,hlt,L3,M3,as,bs,ka,s'.trans st,c3,r',hl,e',hab⟩
         ·cases e'
        ·cases e'
       ·cases e'
      ·have hi' : i = xs.length:=by omega
       subst hi';rw [List.drop_length] at e';unfold zBN at e';split at e'
       ·rename_i hgd;cases e';obtain ⟨_,stop⟩:=it L' H' _ s' c' hgd;rw [zVh] at hab;subst hab;rw [r'] at ez; cases ez;refine .inl ⟨stop,?_⟩;rw [hl];exact q L' H' (s1.trans s') c'
       ·cases e'
     ·cases hf
    ·cases hf
  ·rw [zVF hz] at hf; cases hf
section
variable {X : Cx} {scope : Scope} {tg elt iter : Expr} {ifs : List Expr} {pos p : Pos} {own : List Nat} {e : Expr} {f : FE}
theorem zTV (hg : zFZ own g fg) (C : CompIn X scope own) (hcalm : X.calm = true) (hi : QI X tg iter fi) (p : QParts X scope tg ifs elt g tc te) (hs : ∀ x,foldedSetIterable iter X.env x = pure x:=by intro _; rfl) :
  QZ X (.SetComp elt [⟨tg,iter,ifs,0⟩] scope pos) (zIy own fi fg tc te) :=
 .mk <| PZ.imp (zQd C hcalm hi.un p.parts hs) fun _ _ _ h => zNb hg h
def zHw (f : FE) : FZ:=fun σ M => match f σ M with
 | some (x,M1) => match zAZ M1 x with
  | some ds => match zA9 ds with
   | some ks => if ks.length + 1 < scanBound then some (zAM ks,M1) else none
   | none => none
  | none => none
 | none => none
theorem zRi (hc : X.calm = true) (hg : Gl X "set") (hm : X.mg "set" = none) (h : QE X e f) (hs : starEach [e] X.env = (false,eval e X.env) :: starEach [] X.env:=by rfl) (hpl : (backTo pos (starEach [] X.env)).any (·.1) = false:=by rfl) :
  QZ X (.Call (.Name "set" p) [e] [] pos) (zHw f):=.mk <| PZ.imp (zSU hc hg hm h.un hs hpl) fun τ H Q zz => by
 obtain ⟨L,σ,M,d,M',c,rs,hf,q⟩:=zz;unfold zHw at hf;split at hf
 ·rename_i x M1 e1;split at hf
  ·rename_i ds e2;split at hf
   ·rename_i ks e3;split at hf
    ·rename_i hb;cases hf;refine ⟨L,σ,M,_,_,c,rs,e1,fun L1 H1 v s1 c1 r1 => ?_⟩;obtain ⟨a,vs,rfl,hsq,r⟩:=zGp c1 r1 e2;have:=zD3 e3 r;subst this;exact ⟨a,ks,rfl,hsq,hb,q L1 H1 s1 c1⟩
    ·cases hf
   ·cases hf
  ·cases hf
 ·cases hf
def zGA (f : FZ) : FE:=fun σ M => match f σ M with
 | some (ks,M1) => if ks.length < 64 then some (.fl ((zEA ks).map D.int),M1) else none
 | none => none
theorem zIX : ∀ (ns : List Int),zZ L H (ns.map D.int) (ns.map V.int)
 | [] => .nil
 | n :: ns => .cons zAi (zIX ns)
theorem zMY (hc : X.calm = true) (hg : Gl X "sorted") (hm : X.mg "sorted" = none) (h : QZ X e fz) (hs : starEach [e] X.env = (false,eval e X.env) :: starEach [] X.env:=by rfl) (hpl : (backTo pos (starEach [] X.env)).any (·.1) = false:=by rfl) :
  QE X (.Call (.Name "sorted" p) [e] [] pos) (zGA fz):=.mk <| PE.imp (zQD hc hg hm h.un hs hpl) fun τ H Q zz => by
 obtain ⟨L,σ,M,d,M',c,rs,hf,q⟩:=zz;unfold zGA at hf;split at hf
 ·rename_i ks M1 e1;split at hf
  ·rename_i hb;cases hf;refine ⟨L,σ,M,_,_,c,rs,e1,fun L1 H1 s1 c1 => ⟨hb,fun p hp => ?_⟩⟩;exact q L1 _ _ (s1.trans (.upd hp)) (c1.upd hp) (zr.newLst s1 c c1 hp (zIX _))
  ·cases hf
 ·cases hf
end
open AutoSeq1 (wpAny_loadPart')
theorem zS0 (hh : A.handled = none) (it l : Addr) (hne : l ≠ it) (items : Array Value) :
  Draws prog w A it [it,l] items.size (fun i v => items[i]? = some v) (fun i h => h.IsTupleIter it l i /\ h.IsTuple l items) where
 live:=fun _ _ st => let ⟨o,ho,_⟩:=st.1; ⟨o,ho⟩;frame:=fun _ _ _ st hk => ⟨let ⟨o,ho,r⟩:=st.1; ⟨o,hk it (by simp) o ho,r⟩,let ⟨o,ho,r⟩:=st.2; ⟨o,hk l (by simp) o ho,r⟩⟩;item:=fun i s Q E hi st hQ => by
  refine zLP st.1 st.2 (x:=items[i]) (by simp [hi]) fun h' hit' hs' => ?_;exact hQ _ h' s.toks (by simp [hi]) ⟨hit',Tup.but st.2 hs'.extBut hne⟩ hs'
 done:=fun s Q E st hE => zI5 hh st.1 st.2 (by simp) hE
theorem zKy (l : Addr) (items : Array Value) (n : Nat) (dct : Option Addr) (sl : Array (Option Value)) :
  Meets (Builtin.«enumerate.__new__» ⟨[.type "enumerate", .ref l],[]⟩) (fun _ R s => s.heap.get? l = some { cls:=.type "tuple", dict:=dct,data:=.seq items n,slots:=sl } /\
   R (.ok (.ret (.ref (s.heap.push { cls:=.type "tuple_iterator", data:=.fields #[.ref l,.int 0 0] }).objs.size)))
    { s with heap:=(s.heap.push { cls:=.type "tuple_iterator", data:=.fields #[.ref l,.int 0 0] }).push { cls:=.type "enumerate", data:=.fields #[.none,.bool false,.ref s.heap.objs.size,rawInt 0,.none,.none] } }) :=
 .of_wp fun prog w A R s h => by
  obtain ⟨hp,g,d,tk,os⟩:=s; obtain ⟨hl,h⟩:=h;have hsub:=sub_enumerate;have hL : Heap.IsTuple (Shared.heap ⟨hp,g,d,tk,os⟩) l items:=⟨_,hl,rfl,n,rfl⟩;wp_walk using wpAny_loadPart' hl;refine wpAny_stack_any fun st => zUz ?_;split
  ·rename_i c _ _ _ _ _;cases (c == Value.type "enumerate")
   ·wp_walk using wpAny_loadPart' hl,wpAny_pyIter_tuple hL;exact ⟨_,rfl,h⟩
   ·wp_walk using wpAny_loadPart' hl,wpAny_pyIter_tuple hL;exact ⟨_,rfl,h⟩
  ·wp_walk using wpAny_loadPart' hl,wpAny_pyIter_tuple hL;exact ⟨_,rfl,h⟩
section
variable {prog : Program} {w : World} {A : Around} {E : Value -> Shared -> Prop} {s : Shared}
theorem zLg (hL : s.heap.IsTuple l items)
  (h : ∀ h',IsEnum h' (s.heap.objs.size + 1) s.heap.objs.size 0 .none -> h'.IsTupleIter s.heap.objs.size l 0 -> (∀ c o,s.heap.get? c = some o -> h'.get? c = some o) -> Q (.ref (s.heap.objs.size + 1)) { s with heap:=h' }) :
  wpAny (model prog w) A (call (.type "enumerate") [.ref l]) Q E s:=by
 obtain ⟨o,ho,hc,n,hd⟩:=hL;obtain ⟨ocls,odict,odata,oslots⟩:=o;simp only at hc hd;subst hc; subst hd;refine callType_new PySem.F.called_enumerate (by decide) (PySem.F.typeCall_enumerate_1 _) (PySem.F.newCall_enumerate_1 _) (fun obj => PySem.F.args_object_init_2 obj _) PySem.F.entry_enumerate_new (zKy l items n odict oslots) ⟨ho,?_⟩;have q1 : (s.heap.push { cls:=.type "tuple_iterator", data:=.fields #[.ref l,.int 0 0] }).objs.size = s.heap.objs.size + 1:=zVd ..;have p2 : ((s.heap.push { cls:=.type "tuple_iterator", data:=.fields #[.ref l,.int 0 0] }).push { cls:=.type "enumerate", data:=.fields #[.none,.bool false,.ref s.heap.objs.size,rawInt 0,.none,.none] }).get? (s.heap.push { cls:=.type "tuple_iterator", data:=.fields #[.ref l,.int 0 0] }).objs.size = some _:=zU7 _ rfl;show _ /\ _;rw [q1] at p2;rw [q1];exact ⟨⟨_,p2,rfl⟩,h _ p2 ⟨_,zUy _ (zU7 _ rfl),rfl,rfl⟩ fun c o x => zUy _ (zUy _ x)⟩
theorem zLF (he : IsEnum s.heap e it i old)
  (hn : ∀ (Q' : Value -> Shared -> Prop) (E' : Value -> Shared -> Prop),(∀ h' x,Heap.ExtBut it s.heap h' -> (∃ o,h'.get? x = some o /\ o.cls = .type "StopIteration") -> E' (.ref x) { s with heap:=h' }) -> wpAny (model prog w) A.in1 (Builtin.SmallTypes.nextOf (.ref it)) Q' E' s)
  (hQ : ∀ h',Heap.ExtBut it s.heap h' -> Q none { s with heap:=h' }) : wpAny (model prog w) A (pyNext (.ref e)) Q E s:=by
 have hT : s.TypeIs (.ref e) "enumerate" := ⟨_,he,rfl⟩;unfold pyNext
 refine zUx (wpAny_attempt (zVZ (name:=Str.ofString "__next__") hT PySem.F.slot_enumerate_next
  (zVa PySem.F.slot_enumerate_next hT PySem.F.entry_enumerate_next ?_ (PySem.F.args_enumerate_next_1 _))))
 show wpAny _ _ (field (.ref e) 2 >>= _) _ _ _;refine zUx (wpAny_field he rfl (x:=.ref it) rfl ?_);refine zUx (hn _ _ fun h' x he' hx' => ?_);obtain ⟨o,ho,hc⟩:=hx';refine zUx (wpAny_isInstance (T := "StopIteration") (b:=true) ⟨o,ho,hc⟩ isSubtype_stop ?_);exact zUz (hQ _ he')
end
def zKN (K : PySem.W.Frag) (isT : Bool) (a : Addr) : It :=
 ⟨fun i H => ∃ xs x,(if isT then SqT K H a xs else SqL K H a xs) /\ xs[i]? = some x,
  fun i H v H' => ∃ T x,v = .ref T /\ H T = none /\ H' = upd H T (.tup [.int i,x]) /\ ∀ xs,(if isT then SqT K H a xs else SqL K H a xs) -> xs[i]? = some x,
  fun i H => ∃ xs,(if isT then SqT K H a xs else SqL K H a xs) /\ xs.length <= i⟩
def zRN (isT : Bool) (it a : Addr) (i : Nat) (h : Heap) : Prop:=if isT then h.IsTupleIter it a i else h.IsListIter it a i
theorem zNu {P : Program} {w : World} {K : PySem.W.Frag} {es : List Expr} {ek : Nat} {ep : Pos} {isT : Bool} {e it a : Addr} (hei : e ≠ it) (hae : a ≠ e) (hai : a ≠ it) :
  Turn P w K (.Tuple es ek ep) (zKN K isT a) [e,it] e (fun i h => (∃ old,IsEnum h e it i old) /\ zRN isT it a i h) where
 mem:=by simp
 obj:=fun i h ⟨⟨old,he⟩,st⟩ c hc => by
  simp only [zU9,zVS,or_false] at hc;rcases hc with rfl | rfl
  ·exact ⟨_,he,fun v m => by cases m⟩
  ·cases isT with
   | true => obtain ⟨o1,e1,_,d1⟩:=(show h.IsTupleIter c a i from st); exact ⟨_,e1,fun v m => by rw [d1] at m; cases m⟩
   | false => obtain ⟨o1,e1,_,d1⟩:=(show h.IsListIter c a i from st); exact ⟨_,e1,fun v m => by rw [d1] at m; cases m⟩
 keep:=fun i h h' ⟨⟨old,he⟩,st⟩ k => by
  refine ⟨⟨old,k e (by simp) _ he⟩,?_⟩;cases isT with
  | true => obtain ⟨o1,e1,r⟩:=(show h.IsTupleIter it a i from st); exact ⟨o1,k it (by simp) _ e1,r⟩
  | false => obtain ⟨o1,e1,r⟩:=(show h.IsListIter it a i from st); exact ⟨o1,k it (by simp) _ e1,r⟩
 item:=by
  intro X hP hw hK hc i zB s σ H E I hf Z hg;subst hP hw hK;obtain ⟨⟨old,he⟩,st⟩:=Z;obtain ⟨xs,x,sa,hx⟩:=hg;have hch : ∀ c ∈ [e,it],zCr X zB H c:=hf;have elt : e < s.heap.objs.size:=zU8 he
  have fin : ∀ (its : List Value) (u : Value) (h' : Heap) (tk : Nat),zo xs its -> its[i]? = some u -> IsEnumOut h' e it ((i : Int) + 1) u s.heap.objs.size -> zRN isT it a (i + 1) h' -> h'.get? s.heap.objs.size = some { cls:=.type "tuple", data:=.seq #[.int i tk,u] } ->
    (∀ b o,b ≠ e -> b ≠ it -> s.heap.get? b = some o -> h'.get? b = some o) -> it < s.heap.objs.size ->
    ∃ u',some (Value.ref s.heap.objs.size) = some u' /\ wpAny (model X.prog X.w) X.A (letOwnedTupleGo (.Tuple es ek ep) (.ref e) u') (fun _ s2 => ∃ x H',Inv X zB σ H' s2 /\ zx x u' /\ (zKN X.K isT a).yld i H x H' /\ ((∃ old,IsEnum s2.heap e it ((i + 1 : Nat) : Int) old) /\ zRN isT it a (i + 1) s2.heap) /\ ∀ b ∈ [e,it],H' b = none) E { s with heap:=h',toks:=tk + 1 }:=by
   intro its u h' tk rv hu ho st' hT hk ilt;refine ⟨_,rfl,wpAny_letOwnedTupleGo_enum ho fun h2 he2 e2 => ?_⟩;have kk : ∀ c o,c ∉ [e,it] -> s.heap.get? c = some o -> h2.get? c = some o:=fun c o n q => by
    simp only [zU9,zVS,or_false,not_or] at n;exact e2.extBut _ _ n.1 (hk c o n.1 n.2 q)
   have NT:=e2.extBut _ _ (Nat.ne_of_gt elt) hT;have hfr : H s.heap.objs.size = none:=I.hok.fresh (zU3 _);obtain ⟨u2,hu2,ru⟩:=rv.get hx;rw [hu] at hu2; cases hu2;refine ⟨.ref s.heap.objs.size,upd H s.heap.objs.size (.tup [.int i,x]),zKA (s:=s) (h':=h2) (t':=tk + 1) I hch kk (zU3 _) ?_,rfl,⟨_,x,rfl,hfr,rfl,fun ws hw => ?_⟩,⟨⟨u,by simpa using he2⟩,?_⟩,fun c hm => ?_⟩
   ·exact ⟨by show 2 <= sizeLine; decide,[.int i tk,u],.cons ⟨tk,rfl⟩ (.cons ru .nil),⟨_,NT,rfl,⟨_,rfl⟩,rfl⟩⟩
   ·cases isT with
    | true => rw [I.tuple_inj hw sa]; exact hx
    | false => rw [I.list_inj hw sa]; exact hx
   ·cases isT with
    | true => obtain ⟨o1,e1,r⟩:=(show h'.IsTupleIter it a (i + 1) from st'); exact ⟨o1,e2.extBut _ _ hei.symm e1,r⟩
    | false => obtain ⟨o1,e1,r⟩:=(show h'.IsListIter it a (i + 1) from st'); exact ⟨o1,e2.extBut _ _ hei.symm e1,r⟩
   ·have lt : c < s.heap.objs.size:=by
     simp only [zU9,zVS,or_false] at hm;rcases hm with rfl | rfl
     ·exact elt
     ·exact ilt
    rw [zk (zVI lt)];exact (hf c hm).1
  have hef : e ∉ [it,a]:=by simp only [zU9,zVS,or_false,not_or]; exact ⟨hei,hae.symm⟩
  cases isT with
  | true =>
   obtain ⟨its,rv,p1,z1⟩:=I.tuple sa;have st' : s.heap.IsTupleIter it a i:=st;obtain ⟨o1,e1,_⟩:=id st';refine wpAny_pyNext_enum_itemD (zS0 (prog:=X.prog) (w:=X.w) (A:=X.A.in1) (I.ok.hd hc) it a hai its.toArray) he ⟨st',show s.heap.IsTuple a its.toArray from p1⟩ (by have:=rv.length; have:=(zU0.mp hx).1; rw [zU5]; omega) hei hef fun u h' tk hu ho hs hT _ hk => ?_;exact fin its u h' tk rv (by simpa using hu) ho hs.1 hT hk (zU8 e1)
  | false =>
   obtain ⟨its,rv,p1,z1⟩:=I.list sa;have st' : s.heap.IsListIter it a i:=st;obtain ⟨o1,e1,_⟩:=id st';refine wpAny_pyNext_enum_itemD (Draws.list (prog:=X.prog) (w:=X.w) (A:=X.A.in1) (I.ok.hd hc) it a hai its.toArray) he ⟨st',p1.isList⟩ (by have:=rv.length; have:=(zU0.mp hx).1; rw [zU5]; omega) hei hef fun u h' tk hu ho hs hT _ hk => ?_;exact fin its u h' tk rv (by simpa using hu) ho hs.1 hT hk (zU8 e1)
 done:=by
  intro X hP hw hK hc i zB s σ H E I hf Z hg;subst hP hw hK;obtain ⟨⟨old,he⟩,st⟩:=Z;obtain ⟨xs,sa,hz⟩:=hg;have out : ∀ h',Heap.ExtBut it s.heap h' -> (none : Option Value) = none /\ Inv X zB σ H { s with heap:=h' }:=fun h' x => ⟨rfl,zNn (s:=s) (h':=h') (t':=s.toks) I hf fun c o n q => x c o (fun m => n (by simp [m])) q⟩;cases isT with
  | true =>
   obtain ⟨its,rv,p1,z1⟩:=I.tuple sa;refine zLF he (fun Q' E' hq => zI5 (I.ok.hd hc) (show s.heap.IsTupleIter it a i from st) (show s.heap.IsTuple a its.toArray from p1) (by have:=rv.length; simp; omega) hq) out
  | false =>
   obtain ⟨its,rv,p1,z1⟩:=I.list sa;refine zLF he (fun Q' E' hq => wpAny_nextOf_list_end (I.ok.hd hc) (show s.heap.IsListIter it a i from st) p1.isList (by have:=rv.length; simp; omega) hq) out
 self:=fun _ _ _ _ _ Z h => let ⟨⟨_,he⟩,_⟩:=Z; wpAny_pyIter_enum he h
section
variable {X : Cx} {a : Expr} {es : List Expr} {ek : Nat} {ep p pos : Pos}
theorem zRY {te : TE} (hg : Gl X "enumerate") (hm : X.mg "enumerate" = none) (ha : PE X a te) (hs : starEach [a] X.env = (false,eval a X.env) :: starEach [] X.env:=by rfl) (hpl : (backTo pos (starEach [] X.env)).any (·.1) = false:=by rfl) :
  PI X (.Tuple es ek ep) (.Call (.Name "enumerate" p) [a] [] pos) (fun σ H R => te σ H fun x H1 => ∃ l,x = .ref l /\ ((∃ xs,SqT X.K H1 l xs) /\ R (zKN X.K true l) H1 \/ (∃ xs,SqL X.K H1 l xs) /\ R (zKN X.K false l) H1)):=by
 intro zB s σ H R I h;refine wpAny_Call_Name_kw (zF4 I hg hm (by rfl) ?_ (by decide) (by decide));refine callWith_type1 ?_ hs hpl;rw [hs];show wpAny _ _ (spliced ((false,eval a X.env) :: backTo pos (starEach [] X.env))) _ _ s;refine zWF (thn (ha zB s σ H _ I h) fun u s1 ⟨x,H1,I1,r1,l,hx,q⟩ => Calls.spliced_nil ?_);subst hx;cases r1
 have out : ∀ (isT : Bool) (h' : Heap),l < s1.heap.objs.size -> IsEnum h' (s1.heap.objs.size + 1) s1.heap.objs.size 0 .none -> zRN isT s1.heap.objs.size l 0 h' -> (∀ c o,s1.heap.get? c = some o -> h'.get? c = some o) -> R (zKN X.K isT l) H1 ->
   wpAny (model X.prog X.w) X.A (pyIter (.ref (s1.heap.objs.size + 1))) (PIE X zB σ (.Tuple es ek ep) R) X.xe { s1 with heap:=h' }:=by
  intro isT h' hl he st kp q;refine wpAny_pyIter_enum (s:={ s1 with heap:=h' }) he ?_;refine ⟨s1.heap.objs.size + 1,[s1.heap.objs.size + 1,s1.heap.objs.size],_,_,H1,rfl,I1.kept (t':=s1.toks) kp,zNu (isT:=isT) (Nat.ne_of_gt (zVu _)) (zVI (zVm hl)) (zVI hl),⟨⟨_,he⟩,st⟩,fun c hc => ?_,q⟩;have ge : s1.heap.objs.size <= c:=by
   simp only [zU9,zVS,or_false] at hc;rcases hc with rfl | rfl
   ·exact zWf _
   ·exact zU3 _
  exact I1.fpOk ge (I1.hok.fresh ge)
 rcases q with ⟨⟨xs,hq⟩,q⟩ | ⟨⟨xs,hq⟩,q⟩
 ·obtain ⟨its,rv,p1,_⟩:=I1.tuple hq;have hl : l < s1.heap.objs.size:=by obtain ⟨_,e,_⟩:=p1; exact zU8 e
  exact zLg (show s1.heap.IsTuple l its.toArray from p1) fun h' he st kp => out true h' hl he st kp q
 ·obtain ⟨its,rv,p1,_⟩:=I1.list hq;have hl : l < s1.heap.objs.size:=by obtain ⟨_,_,e,_⟩:=p1; exact zU8 e
  exact call_enumerate_list p1.isList fun h' he st _ kp => out false h' hl he st kp q
def zLC (xs : List D) : List D:=((List.range xs.length).zip xs).map fun q => D.tup [.int (q.1 : Nat),q.2]
theorem zPp {xs : List D} {i : Nat} {d : D} (h : (zLC xs)[i]? = some d) : ∃ x,xs[i]? = some x /\ d = .tup [.int (i : Nat),x]:=by
 unfold zLC at h;rw [zVK] at h;cases e : ((List.range xs.length).zip xs)[i]? with
 | none => rw [e] at h; cases h
 | some pr =>
  rw [e] at h;cases h;obtain ⟨f1,f2⟩:=List.getElem?_zip_eq_some.mp e;have hi : i < xs.length:=(zU0.mp f2).1;rw [List.getElem?_range hi] at f1;cases f1;exact ⟨pr.2,f2,rfl⟩
theorem zP3 (xs : List D) : (zLC xs).length = xs.length:=by unfold zLC; simp
def zKT (f : FE) : FI:=fun σ M => match f σ M with
 | some (x,M1) => match zAZ M1 x with
  | some xs => some (zLC xs,zDS x xs,M1)
  | none => none
 | none => none
theorem zRH {g : FE} (hg : Gl X "enumerate") (hm : X.mg "enumerate" = none) (h : QE X a g) (hs : starEach [a] X.env = (false,eval a X.env) :: starEach [] X.env:=by rfl) (hpl : (backTo pos (starEach [] X.env)).any (·.1) = false:=by rfl) :
  QI X (.Tuple es ek ep) (.Call (.Name "enumerate" p) [a] [] pos) (zKT g):=.mk <| PI.imp (zRY hg hm h.un hs hpl) fun τ H R zz => by
 obtain ⟨L,σ,M,xs,gd,M',c,rs,hf,q⟩:=zz;unfold zKT at hf;split at hf
 ·rename_i y M1 e1;split at hf
  ·rename_i zs e2;cases hf;refine ⟨L,σ,M,_,_,c,rs,e1,fun L1 H1 v s1 c1 r1 => ?_⟩
   have step : ∀ (isT : Bool) (l : Addr) (L2 : List Addr) (H2 : Hp) (vs : List V),(if isT then SqT X.K H2 l vs else SqL X.K H2 l vs) -> zZ L2 H2 zs vs ->
     (∀ (i : Nat) d,(zLC zs)[i]? = some d -> (zKN X.K isT l).go i H2 /\ ∀ v H'',(zKN X.K isT l).yld i H2 v H'' -> (∀ a o,H2 a = some o -> H'' a = some o) /\ Rep L2 H'' d v) /\ (zKN X.K isT l).stop (zLC zs).length H2:=by
    intro isT l L2 H2 vs hq r;refine ⟨fun i d hd => ?_,⟨vs,hq,by rw [zP3,r.length]; exact zU3 _⟩⟩;obtain ⟨x,hx,rfl⟩:=zPp hd;obtain ⟨u,hu,ru⟩:=r.get hx;refine ⟨⟨vs,u,hq,hu⟩,fun v H3 hy => ?_⟩;obtain ⟨T,x',rfl,hT,rfl,hxx⟩:=hy;have ex:=hxx vs hq;rw [hu] at ex; cases ex;exact ⟨fun a o e => by rw [zk (zAa e hT)]; exact e,Rep.newTup hT (.cons zAi (.cons ru .nil))⟩
   unfold zAZ at e2;cases t : zDC y with
   | some ws =>
    rw [t] at e2; cases e2;obtain ⟨a,vs,rfl,e3,r3⟩:=zBo r1 t;refine ⟨a,rfl,.inl ⟨⟨vs,.of e3⟩,q L1 H1 _ s1 c1 fun L2 H2 M2 s2 c2 _ => ?_⟩⟩;exact step true a L2 H2 vs (.of (s2.tup a vs e3)) (r3.stp s2)
   | none =>
    rw [t] at e2;dsimp only at e2;obtain ⟨a,vs,rfl,e3,r3⟩:=zBS c1 r1 e2;refine ⟨a,rfl,.inr ⟨⟨vs,.inl e3⟩,q L1 H1 _ s1 c1 fun L2 H2 M2 s2 c2 hgd => ?_⟩⟩;have key : ∃ vs',SqL X.K H2 a vs' /\ zZ L2 H2 zs vs':=by
     cases y with
     | fl ys =>
      cases e2;obtain ⟨p',vs',hp',_,e5,e6,r6⟩:=r1;cases hp';exact ⟨vs',.of (s2.old _ _ e5 e6),r6.stp s2⟩
     | dat d =>
      cases d with
      | ref n =>
       unfold zr Rep at r1;obtain ⟨a',ha',e5⟩:=r1;cases ha';have e6 : L2[n]? = some a:=by obtain ⟨N,hN⟩:=s2.pre; rw [hN]; exact zB0 e5
       rcases hgd with z | z
       ·obtain ⟨vs',e7,r7⟩:=c2.obj n a _ e6 z; exact ⟨vs',.of e7,r7⟩
       ·obtain ⟨o,vs',e7,r7⟩:=c2.obj n a _ e6 z; exact ⟨vs',.inl (.inr ⟨o,e7⟩),r7⟩
      | _ => cases e2
    obtain ⟨vs',hq,r7⟩:=key;exact step false a L2 H2 vs' hq r7
  ·cases hf
 ·cases hf
end
section
variable {κ : Type} [DecidableEq κ]
def zEF (kf : D -> Option κ) (kvs : List (D × D)) (k : κ) : Option D:=(kvs.find? fun p => decide (kf p.1 = some k)).map (·.2)
def zH3 (kf : D -> Option κ) (kvs : List (D × D)) (k : κ) (kd v : D) : List (D × D) :=
 if (kvs.any fun p => decide (kf p.1 = some k)) = true then kvs.map fun p => if kf p.1 = some k then (p.1,v) else p else kvs ++ [(kd,v)]
theorem zEd (k : κ) : ∀ {kvs : List (D × D)} {vs : List (κ × V)},zBg kf L H kvs vs -> (zEF kf kvs k = none /\ zDA vs k = none) \/ ∃ d v,zEF kf kvs k = some d /\ zDA vs k = some v /\ Rep L H d v
 | [],vs,h => by unfold zBg at h; subst h; exact .inl ⟨rfl,rfl⟩
 | p :: r,vs,h => by
  obtain ⟨k',v,r',rfl,e,h1,h2⟩:=h;by_cases q : k' = k
  ·subst q;exact .inr ⟨p.2,v,by unfold zEF; rw [zWj,e]; simp,by rw [zFl rfl],h1⟩
  ·have e1 : zEF kf (p :: r) k = zEF kf r k:=by unfold zEF; rw [zWj,e]; simp [q]
   rw [e1,zFf q];exact zEd k h2
theorem zKO (k : κ) : ∀ {kvs : List (D × D)} {vs : List (κ × V)},zBg kf L H kvs vs -> (kvs.any fun p => decide (kf p.1 = some k)) = (vs.any fun kv => decide (kv.1 = k))
 | [],vs,h => by unfold zBg at h; subst h; rfl
 | p :: r,vs,h => by
  obtain ⟨k',v,r',rfl,e,h1,h2⟩:=h;rw [List.any_cons,List.any_cons,zKO k h2,e];simp
theorem zG9 (k : κ) (hd : Rep L H d u) : ∀ {kvs : List (D × D)} {vs : List (κ × V)},zBg kf L H kvs vs -> zBg kf L H (kvs.map fun p => if kf p.1 = some k then (p.1,d) else p) (vs.map fun kv => if kv.1 = k then (kv.1,u) else kv)
 | [],vs,h => by unfold zBg at h; subst h; rfl
 | p :: r,vs,h => by
  obtain ⟨k',v,r',rfl,e,h1,h2⟩:=h;rw [zVG,zVG];by_cases q : k' = k
  ·subst q;rw [zVC e,zVC rfl];exact ⟨k',u,_,rfl,e,hd,zG9 k' hd h2⟩
  ·rw [zVF (by rw [e]; simpa using q),zVF q];exact ⟨k',v,_,rfl,e,h1,zG9 k hd h2⟩
theorem zIq (hk : kf kd = some k) (hd : Rep L H d u) : ∀ {kvs : List (D × D)} {vs : List (κ × V)},zBg kf L H kvs vs -> zBg kf L H (kvs ++ [(kd,d)]) (vs ++ [(k,u)])
 | [],vs,h => by unfold zBg at h; subst h; exact ⟨k,u,[],rfl,hk,hd,rfl⟩
 | p :: r,vs,h => by
  obtain ⟨k',v,r',rfl,e,h1,h2⟩:=h;exact ⟨k',v,_,rfl,e,h1,zIq hk hd h2⟩
theorem zJJ {kf : D -> Option κ} {L : List Addr} {H : Hp} {k : κ} {kd d : D} {u : V} (hk : kf kd = some k) (hd : Rep L H d u) {kvs : List (D × D)} {vs : List (κ × V)} (h : zBg kf L H kvs vs) : zBg kf L H (zH3 kf kvs k kd d) (zDB vs k u):=by
 unfold zH3 zDB;rw [zKO k h];split
 ·exact zG9 k hd h
 ·exact zIq hk hd h
end
theorem zKM : ∀ {ds : List D} {vs : List V} {ks : List Key},zZ L H ds vs -> zHk ds = some ks -> vs = ks.map kV
 | [],vs,ks,h,e => by cases e; unfold zZ at h; exact h
 | d :: ds,vs,ks,h,e => by
  unfold zZ at h;obtain ⟨v,r,rfl,h1,h2⟩:=h;unfold zHk at e;cases e1 : zHN d with
  | none => rw [e1] at e; cases e
  | some k =>
   cases e2 : zHk ds with
   | none => rw [e1,e2] at e; cases e
   | some ks' =>
    rw [e1,e2] at e; cases e;rw [zJG h1 e1,zKM h2 e2]; rfl
theorem zLt (h : Rep L H d v) (e : tkD d = some ks) : ∃ b,v = .ref b /\ H b = some (.tup (ks.map kV)):=by
 cases d with
 | tup ds =>
  unfold Rep at h;obtain ⟨a,vs,rfl,e1,r⟩:=h;exact ⟨a,rfl,by rw [e1,zKM r e]⟩
 | _ => cases e
def zGP (M : Mem) (x : EV) (k : D) : Option (Option D):=match x with
 | .dat (.ref n) => match M[n]? with
  | some (.dict kvs) => match zHN k with
   | some kk => some (zEF zHN kvs kk)
   | none => none
  | some (.dicT kvs) => match tkD k with
   | some kk => some (zEF tkD kvs kk)
   | none => none
  | _ => none
 | _ => none
def zT9 (L : List Addr) (H : Hp) : Option D -> Option V -> Prop
 | none,o => o = none
 | some d,o => ∃ v,o = some v /\ Rep L H d v
theorem zFN {K : PySem.W.Frag} {L : List Addr} {M : Mem} {H H0 : Hp} {x : EV} {v w : V} {k : D} {o : Option D} (c : Cor K L M H) (rx : zr H0 L H x v) (rk : Rep L H k w) (e : zGP M x k = some o) : ∃ a ov,v = .ref a /\ zD0 H a w ov /\ zT9 L H o ov:=by
 cases x with
 | fl xs => cases e
 | dat d =>
  cases d with
  | ref n =>
   unfold zr Rep at rx;obtain ⟨a,rfl,ea⟩:=rx;unfold zGP at e;dsimp only at e;cases q : M[n]? with
   | none => rw [q] at e; cases e
   | some m =>
    rw [q] at e;have z:=c.obj n a m ea q;cases m with
    | dict kvs =>
     dsimp only at e;cases e2 : zHN k with
     | none => rw [e2] at e; cases e
     | some kk =>
      rw [e2] at e;cases e;obtain ⟨vs,e3,r⟩:=z;refine ⟨a,zDA vs kk,rfl,?_,?_⟩
      ·rw [zJG rk e2]; exact zD0.k e3
      ·rcases zEd kk r with ⟨h1,h2⟩ | ⟨d,v,h1,h2,h3⟩
       ·rw [h1,h2]; rfl
       ·rw [h1,h2]; exact ⟨v,rfl,h3⟩
    | dicT kvs =>
     dsimp only at e;cases e2 : tkD k with
     | none => rw [e2] at e; cases e
     | some kk =>
      rw [e2] at e;cases e;obtain ⟨vs,e3,r⟩:=z;obtain ⟨b,rfl,eb⟩:=zLt rk e2;refine ⟨a,zDA vs kk,rfl,zD0.t e3 eb,?_⟩;rcases zEd kk r with ⟨h1,h2⟩ | ⟨d,v,h1,h2,h3⟩
      ·rw [h1,h2]; rfl
      ·rw [h1,h2]; exact ⟨v,rfl,h3⟩
    | _ => cases e
  | _ => cases e
def zGS (M : Mem) (n : Nat) (k v : D) : Option Mem:=match M[n]? with
 | some (.dict kvs) => match zHN k with
  | some kk => if kvs.length < sizeLine then some (M.set n (.dict (zH3 zHN kvs kk k v))) else none
  | none => none
 | some (.dicT kvs) => match tkD k with
  | some kk => if kvs.length < sizeLine then some (M.set n (.dicT (zH3 tkD kvs kk k v))) else none
  | none => none
 | _ => none
theorem zLE {K : PySem.W.Frag} {L : List Addr} {M M' : Mem} {H : Hp} {n : Nat} {a : Addr} {k v : D} {w u : V} (c : Cor K L M H) (ea : L[n]? = some a) (rk : Rep L H k w) (rv : Rep L H v u) (e : zGS M n k v = some M') : ∃ H',zGg H a w u H' /\ Cor K L M' H' /\ Stp L H L H':=by
 unfold zGS at e;cases q : M[n]? with
 | none => rw [q] at e; cases e
 | some m =>
  rw [q] at e;have z:=c.obj n a m ea q;cases m with
  | dict kvs =>
   dsimp only at e;cases e2 : zHN k with
   | none => rw [e2] at e; cases e
   | some kk =>
    rw [e2] at e;dsimp only at e;split at e
    ·rename_i hl;cases e;obtain ⟨vs,e3,r⟩:=z;obtain ⟨c3,s3⟩:=c.put (m:=.dict (zH3 zHN kvs kk k v)) (o':=.dK (zDB vs kk u)) ea e3 (fun _ z => by cases z) (fun _ _ z => by cases z) fun s3 => ⟨_,zAg,(zJJ e2 rv r).stp s3⟩;refine ⟨_,?_,c3,s3⟩;rw [zJG rk e2]; exact zGg.k e3 (by rw [r.length]; exact hl)
    ·cases e
  | dicT kvs =>
   dsimp only at e;cases e2 : tkD k with
   | none => rw [e2] at e; cases e
   | some kk =>
    rw [e2] at e;dsimp only at e;split at e
    ·rename_i hl;cases e;obtain ⟨vs,e3,r⟩:=z;obtain ⟨b,rfl,eb⟩:=zLt rk e2;obtain ⟨c3,s3⟩:=c.put (m:=.dicT (zH3 tkD kvs kk k v)) (o':=.dT (zDB vs kk u)) ea e3 (fun _ z => by cases z) (fun _ _ z => by cases z) fun s3 => ⟨_,zAg,(zJJ e2 rv r).stp s3⟩;exact ⟨_,zGg.t e3 eb (by rw [r.length]; exact hl),c3,s3⟩
    ·cases e
  | _ => cases e
section
variable {X : Cx} {a b e o i value : Expr} {pos pos' apos cpos : Pos} {f g h : FE}
def zBB : K2:=fun x y M => match y with
 | .dat k => match zGP M x k with
  | some (some d) => some (.dat d,M)
  | _ => none
 | _ => none
theorem zPl {K : PySem.W.Frag} : zDk K (fun x y H Q => ∃ a v,x = .ref a /\ zD0 H a y (some v) /\ Q v H) zBB:=by
 intro L M M' H H0 x y d v w Q c rx ry hk q;unfold zBB at hk;split at hk
 ·rename_i k;split at hk
  ·rename_i d' e1;cases hk;obtain ⟨a,ov,rfl,h1,h2⟩:=zFN c rx ry e1;obtain ⟨u,rfl,r⟩:=h2;exact ⟨a,u,rfl,h1,q L H u (.refl L H) c r⟩
  ·cases hk
 ·cases hk
theorem zFE (hu : X.A.units + 1 < cLine) (h1 : QE X o f) (h2 : QE X i g) (hs : zTC i:=by intro _ _; rfl) : QE X (.Subscript o i pos) (fOp zBB f g):=.mk <| PE.imp (zRO hu h1.un h2.un hs) fun _ _ _ h => zDM zPl h
def zBa (neg : Bool) : K2:=fun x y M => match x with
  | .dat k => match zGP M y k with
    | some o => some (.dat (.bl (if neg then !o.isSome else o.isSome)),M)
    | none => none
  | _ => none
theorem zKD {o : Option D} {ov : Option V} (h : zT9 L H o ov) : ov.isSome = o.isSome:=by
  cases o with
  | none => have h' : ov = none := h
            rw [h']; rfl
  | some d => obtain ⟨v,rfl,_⟩:=h; rfl
theorem zM3 {K : PySem.W.Frag} : zDk K (fun y x H Q => ∃ a o,x = .ref a /\ zD0 H a y o /\ Q (.bl o.isSome) H) (zBa false):=by
 intro L M M' H H0 x y d v w Q c rx ry hk q;unfold zBa at hk;split at hk
 ·rename_i k;split at hk
  ·rename_i o e1;cases hk;obtain ⟨a,ov,rfl,h1,h2⟩:=zFN c ry rx e1;refine ⟨a,ov,rfl,h1,?_⟩;rw [zKD h2];exact q L H _ (.refl L H) c (zC1 (L:=L) (H:=H))
  ·cases hk
 ·cases hk
theorem zL5 {K : PySem.W.Frag} : zDk K (fun y x H Q => ∃ a o,x = .ref a /\ zD0 H a y o /\ Q (.bl (!o.isSome)) H) (zBa true):=by
 intro L M M' H H0 x y d v w Q c rx ry hk q;unfold zBa at hk;split at hk
 ·rename_i k;split at hk
  ·rename_i o e1;cases hk;obtain ⟨a,ov,rfl,h1,h2⟩:=zFN c ry rx e1;refine ⟨a,ov,rfl,h1,?_⟩;rw [zKD h2];exact q L H _ (.refl L H) c (zC1 (L:=L) (H:=H))
  ·cases hk
 ·cases hk
theorem zUF (hu : X.A.units + 1 < cLine) (h1 : QE X a f) (h2 : QE X b g) (hm : behindInMarks .In b = false:=by rfl) : QE X (.Compare a [.In] [b] pos) (fOp (zBa false) f g):=.mk <| PE.imp (zSV (zPq hu h1.un h2.un) hm) fun _ _ _ h => zDM zM3 h
theorem zLx (hu : X.A.units + 1 < cLine) (h1 : QE X a f) (h2 : QE X b g) (hm : behindInMarks .In b = false:=by rfl) : QT X (.Compare a [.In] [b] pos) (tst (fOp (zBa false) f g)):=.mk <| PT.imp (zQT (zPq hu h1.un h2.un) hm) fun _ _ _ h => zFG (fun _ _ _ z => zDM zM3 z) (zEs h)
theorem zEi (hu : X.A.units + 1 < cLine) (h1 : QE X a f) (h2 : QE X b g) (hm : behindInMarks .NotIn b = false:=by rfl) : QT X (.Compare a [.NotIn] [b] pos) (tst (fOp (zBa true) f g)):=.mk <| PT.imp (zQT (zOF hu h1.un h2.un) hm) fun _ _ _ h => zFG (fun _ _ _ z => zDM zL5 z) (zEs h)
def zB6 (fv fo fi : FE) : FS:=fun σ M => match toD fv σ M with
 | some (v,M1) => match toD fo σ M1 with
  | some (.ref n,M2) => match toD fi σ M2 with
   | some (k,M3) => match zGS M3 n k v with
    | some M4 => some (.nx,σ,M4)
    | none => none
   | none => none
  | _ => none
 | none => none
theorem zJy (hu : X.A.units + 1 < cLine) (hv : QE X value f) (ho : QE X o g) (hi : QE X i h) (hs : swapsWith value (some (.Subscript o i pos')) pos.line X.env = pure false:=by rfl) : QS X (.Assign [.Subscript o i pos'] value pos) (zB6 f g h) :=
 .mk <| PS.imp (zQ1 hu (zK ho).un (zK hi).un (zK hv).un hs) fun E τ H zz => by
  obtain ⟨L,σ,M,out,σ',M',c,rs,hf,q⟩:=zz;unfold zB6 at hf;split at hf
  ·rename_i v M1 e1;split at hf
   ·rename_i n M2 e2;split at hf
    ·rename_i k M3 e3;split at hf
     ·rename_i M4 e4;cases hf;refine ⟨L,σ,M,_,_,c,rs,e1,fun L1 H1 u s1 c1 r1 => ⟨L1,σ,M1,_,_,c1,rs.stp s1,e2,fun L2 H2 y s2 c2 r2 => ⟨L2,σ,M2,_,_,c2,(rs.stp s1).stp s2,e3,fun L3 H3 z s3 c3 r3 => ?_⟩⟩⟩;unfold Rep at r2;obtain ⟨a,rfl,ea⟩:=r2;have ea3 : L3[n]? = some a:=by obtain ⟨N,hN⟩:=s3.pre; rw [hN]; exact zB0 ea
      obtain ⟨H4,h1,h2,h3⟩:=zLE c3 ea3 r3 ((r1.stp s2).stp s3) e4;exact ⟨a,H4,rfl,h1,q L3 H4 (((s1.trans s2).trans s3).trans h3) h2 τ ((((rs.stp s1).stp s2).stp s3).stp h3)⟩
     ·cases hf
    ·cases hf
   ·cases hf
  ·cases hf
def zBR (fo fi fx : FE) : FE:=fun σ M => match toD fo σ M with
 | some (.ref n,M1) => match M1[n]? with
  | some (.dict _) | some (.dicT _) => match toD fi σ M1 with
   | some (k,M2) => match toD fx σ M2 with
    | some (x,M3) => match zGP M3 (.dat (.ref n)) k with
     | some o => some (.dat (o.getD x),M3)
     | none => none
    | none => none
   | none => none
  | _ => none
 | _ => none
theorem zJD (hu : X.A.units + 1 < cLine) (ho : QE X o f) (hi : QE X i g) (hx : QE X e h) (m : M2 X o "get" apos i e cpos) : QE X (.Call (.Attribute o "get" apos) [i,e] [] cpos) (zBR f g h) :=
 .mk <| PE.imp (zOq hu (zK ho).un (zK hi).un (zK hx).un m) fun τ H Q zz => by
  obtain ⟨L,σ,M,d,M',c,rs,hf,q⟩:=zz
  have key : ∀ n M1,toD f σ M = some (.ref n,M1) -> (∃ kvs,M1[n]? = some (.dict kvs) \/ M1[n]? = some (.dicT kvs)) -> (match toD g σ M1 with
   | some (k,M2) => match toD h σ M2 with
    | some (x,M3) => match zGP M3 (.dat (.ref n)) k with
     | some o => some (EV.dat (o.getD x),M3)
     | none => none
    | none => none
   | none => none) = some (d,M') -> zQC (trD X.K (toD f)) (trD X.K (toD g)) (trD X.K (toD h)) τ H Q:=by
   intro n M1 e1 hd hf;split at hf
   ·rename_i k M2 e2;split at hf
    ·rename_i x M3 e3;split at hf
     ·rename_i ov e4;cases hf;refine ⟨L,σ,M,_,_,c,rs,e1,fun L1 H1 u s1 c1 r1 => ?_⟩;unfold Rep at r1;obtain ⟨a,rfl,ea⟩:=r1;refine ⟨a,rfl,?_,L1,σ,M1,_,_,c1,rs.stp s1,e2,fun L2 H2 y s2 c2 r2 => ⟨L2,σ,M2,_,_,c2,(rs.stp s1).stp s2,e3,fun L3 H3 z s3 c3 r3 => ?_⟩⟩
      ·obtain ⟨kvs,hk | hk⟩:=hd
       ·obtain ⟨vs,e5,_⟩:=c1.obj n a _ ea hk; exact .inl ⟨vs,.inl e5⟩
       ·obtain ⟨vs,e5,_⟩:=c1.obj n a _ ea hk; exact .inr ⟨vs,.inl e5⟩
      ·have ra : zr H L3 H3 (.dat (.ref n)) (.ref a):=by
        unfold zr Rep;exact ⟨a,rfl,by obtain ⟨N,hN⟩:=(s2.trans s3).pre; rw [hN]; exact zB0 ea⟩
       obtain ⟨a',o',e6,h1,h2⟩:=zFN c3 ra (r2.stp s3) e4;cases e6;refine ⟨o',h1,?_⟩;cases ov with
       | none =>
        have h' : o' = none:=h2;subst h';exact q L3 H3 _ ((s1.trans s2).trans s3) c3 r3
       | some dd =>
        obtain ⟨v,rfl,rv⟩:=h2;exact q L3 H3 _ ((s1.trans s2).trans s3) c3 rv
     ·cases hf
    ·cases hf
   ·cases hf
  unfold zBR at hf;split at hf
  ·rename_i n M1 e1;split at hf
   ·rename_i kvs e5; exact key n M1 e1 ⟨kvs,.inl e5⟩ hf
   ·rename_i kvs e5; exact key n M1 e1 ⟨kvs,.inr e5⟩ hf
   ·cases hf
  ·cases hf
end
end L3
namespace L2
open PySem PySem.Spec PyProof.Rows
section
variable {prog : Program} {w : World} {A : Around} {R : Result -> Shared -> Prop} {s : Shared}
theorem zDi {kx vx target iter ifs rest scope pos it acc env}
  (h0 : codeAny (model prog w) A (.compLoop (.DictComp kx vx (⟨target,iter,ifs,0⟩ :: rest) scope pos) 0 it acc env) R s)
  (h : wpAny (model prog w) A (pyIter it) (fun it' s' => codeAny (model prog w) A (.compLoop (.DictComp kx vx (⟨target,iter,ifs,0⟩ :: rest) scope pos) 0 it' acc env) R s')
   (notedBy (model prog w) A env fun x s' => R (.error x) s') s) :
  codeAny (model prog w) A (.compStart (.DictComp kx vx (⟨target,iter,ifs,0⟩ :: rest) scope pos) 0 it acc env) R s:=by
 refine codeAny_of_tree ?_;show wpAny _ _ ((compStart (.DictComp kx vx (⟨target,iter,ifs,0⟩ :: rest) scope pos) 0 it acc env).onRaise (fun x => do noteFrame x env; standAt theWindowsPlace)) _ _ s;refine wpAny_notedAt ?_;unfold compStart;show wpAny _ _ (ask >>= _) _ _ s;refine zUx (wpAny_askSetting (wpAny_ite ?_));split
 ·first
   | exact zUx (zUz (zUz (And.intro rfl h0)))
   | exact zUz (And.intro rfl h0)
 ·first
   | exact zUx (zWK (zUx (zVv (zUx (zVT h (fun it' s' h' => zUz (And.intro rfl h')) fun _ _ x => x)))))
   | (refine zUx (zWK ?_); show wpAny _ _ (standAt iter.pos >>= _) _ _ s; exact zUx (zVv (zUx (zVT h (fun it' s' h' => zUz (And.intro rfl h')) fun _ _ x => x))))
end
section
variable {X : Cx} {zB : List (Addr × Obj)} {σ : St} {H : Hp} {s : Shared}
theorem Inv.trackAt (I : Inv X zB σ H s) (ho : s.heap.get? D = some o) (hn : H D = none) (h0 : X.s₀.heap.objs.size <= D) (hL : D ≠ X.env.locals) (hc : ∀ x c,X.env.cells.lookup x = some c -> c ≠ D) (hp : ∀ p ∈ X.pn ++ zB,p.1 ≠ D)
  (new : zBC X.prog X.w (upd H D u) s.heap D u) : Inv X zB σ (upd H D u) s:=by
 have un : ∀ b v,H b = some v -> upd H D u b = some v:=fun b v e => by rw [zk (zAa e hn)]; exact e
 have e0 : s = { s with heap:=s.heap,gens:=s.gens,drawn:=s.drawn,toks:=s.toks }:=by cases s; rfl
 rw [e0];refine I.step (g':=s.gens) (d':=s.drawn) (ch:=[D]) (fun b hb => ?_) (fun b v _ _ _ e _ => e) (fun b v _ _ _ e _ => ⟨v.slots,e⟩) (fun b v hb e n => ?_) (fun b v _ e => ⟨v,e⟩) (fun b xs e => un b _ e) (fun b p v e => un b _ e) (fun b ps e => ⟨#[],by rw [un b _ e]; simp⟩) (fun m hm => hm) (fun b v e => ?_) I.bare
 ·have : b = D:=by simpa using hb
  subst this;exact ⟨.inr h0,hL,hc,hp⟩
 ·rw [zk (fun z => hb (by simp [z]))]; exact n
 ·by_cases hb : b = D
  ·subst hb; rw [zAg] at e; cases e; exact new
  ·rw [zk hb] at e;exact (I.hok b v e).stay (fun c v hc q => q) (fun c q => un c _ q) fun c xs q => un c _ q
theorem zNZ (hu : A.units + 1 < cLine) (I : Inv X zB σ H s) (g : zGg H a y v H') (ry : zx y u) (rv : zx v r) (h : ∀ s',Inv X zB σ H' s' -> Heap.SameBut a s.heap s'.heap -> Q () s') :
  wpAny (model X.prog X.w) A (dictSet a u r) Q E s:=by
 rcases g with ⟨kvs,k,e,ey,l,eH⟩ | ⟨kvs,k,b,e,ey,eb,l,eH⟩
 ·subst ey eH;obtain ⟨z,hd,vs,rel,dd⟩:=zRx I.hok e;have hz : vs.length <= sizeLine:=by rw [<- rel.length]; exact z
  have hl : (zDB kvs k v).length <= sizeLine:=by have:=zCT kvs k v; omega
  refine wpAny_dictSet_pairs (hsz:=hz) (zHD ry) dd fun h' dd' hs => h _ ?_ hs;have he : ∃ q,h'.get? a = some q:=let ⟨q,_,_,hq,_⟩:=dd'; ⟨q,hq⟩;exact zFP I (by rw [e]; exact True.intro) hs he (zOj hl hd (rel.put k rv) dd')
 ·subst ey eH;cases (show u = Value.ref b from ry);obtain ⟨z,hd,xs,rel,dd⟩:=zPc I.hok e;have hz : xs.length <= sizeLine:=by rw [<- Paired.length rel]; exact z
  have hl : (zDB kvs k v).length <= sizeLine:=by have:=zCT kvs k v; omega
  refine wpAny_dictSet_heap (hsz:=hz) (show (tupleKind (zAs X.prog X.w)).room A from Nat.lt_of_succ_lt hu) (zEP I.hok eb) dd fun h' dd' hs => h _ ?_ hs;obtain ⟨q,es,ep,hq,h2,h3,h4,_,h5⟩:=dd';refine zFP I (by rw [e]; exact True.intro) hs ⟨q,hq⟩ ⟨hl,hd,_,(rel.put k eb rv).keeps fun c ys ec => ?_,q,es,ep,hq,h2,h3,h4,h5⟩;rw [zk (zG3 ec e (fun z => nomatch z))];exact ec
end
def zFF (isT : Bool) : HO:=if isT then .dT [] else .dK []
abbrev zCc : Obj:={ cls:=.type "dict", data:=.dict #[] }
section
variable {X : Cx} {zB : List (Addr × Obj)} {σ : St} {H : Hp} {s : Shared} {scope : Scope} {cl : List (Str × Addr)} {fp : List Addr} {it : Addr} {tn : Nat -> Heap -> Prop} {J : It} {tg kx vx iter : Expr} {ifs : List Expr} {pos : Pos}
 {own : List Nat} {g : TG} {tc : TT} {tk tv : TE} {E : Value -> Shared -> Prop} {isT : Bool}
theorem zD8 (hu : X.A.units + 1 < cLine) (C : CompIn X scope own) (hcalm : X.calm = true) (I : Inv X zB σ H s) (T : Turn X.prog X.w X.K tg J fp it tn) (st : tn 0 s.heap) (hf : ∀ b ∈ fp,zCr X zB H b)
  (c1 : ∀ x c,cl.lookup x = some c -> X.env.cells.lookup x = some c) (c2 : ∀ y ∈ scope.names,y.2 = .free -> (cl.lookup y.1).isSome = true)
  (hg : PG (zV X zB scope cl s H fp) tg g) (hi : zGf (zV X zB scope cl s H fp) ifs tc) (hk : PE (zV X zB scope cl s H fp) kx tk) (hv : PE (zV X zB scope cl s H fp) vx tv)
  {RR : Value -> Addr -> Result -> Shared -> Prop} {QQ : Hp -> Prop} {W : Nat -> Nat -> Hp -> Prop} {m0 : Nat} (w0 : W 0 m0 (upd H s.heap.objs.size (zFF isT)))
  (turn : ∀ i m H,W i m H -> (J.stop i H /\ QQ H) \/
   (J.go i H /\ ∀ x H',J.yld i H x H' -> g x (clr own σ) H' fun σ2 H2 => Ext (clr own σ) σ2 /\ tc σ2 H2 fun b H3 =>
    if b = true then tk σ2 H3 fun k H4 => tv σ2 H4 fun v H5 => ∃ H6 m',zGg H5 s.heap.objs.size k v H6 /\ m' < m /\ W (i + 1) m' H6 else ∃ m',m' < m /\ W (i + 1) m' H3))
  (fin : ∀ σc H' s',Inv (zV X zB scope cl s H fp) [] σc H' s' -> QQ H' -> RR (.ref s.heap.objs.size) (s.heap.objs.size + 1) (.ok .next) s') :
  wpAny (model X.prog X.w) X.A newDict (fun acc s₃ => wpAny (model X.prog X.w) X.A (newFunctionEnv scope X.env.globals cl [] X.env.qual none .none (some X.env)) (fun cenv s₄ =>
   codeAny (model X.prog X.w) X.A (.compStart (.DictComp kx vx [⟨tg,iter,ifs,0⟩] scope pos) 0 (.ref it) acc { cenv with scope:=relabel scope X.env }) (RR acc cenv.locals) s₄) E s₃) E s:=by
 have ob : ∀ b : Nat,b ∈ fp -> b < s.heap.objs.size:=fun b hb => let ⟨_,e,_⟩:=T.obj 0 _ st b hb; zU8 e;show wpAny _ _ (newObj (.type "dict") (.dict #[])) _ _ _;refine zVQ (zDJ ?_);have sz1 : (s.heap.push zCc).objs.size = s.heap.objs.size + 1:=zVd ..;have I4:=zFe (X:=X) (zB:=zB) (σ:=σ) (σc:=clr own σ) (H:=H) (s:=s) (scope:=scope) (cl:=cl) (fp:=fp) C.sc I hf ob c1 c2 (zBs own σ) (fun i x v h1 h2 h3 => by
  obtain ⟨a,b⟩:=zDD own σ i v h2;rcases C.nm i x h1 with z | z | z
  ·exact absurd z b
  ·exact absurd (zCi x z) h3
  ·exact ⟨z,a⟩) zCc (by intro v z; cases z) rfl rfl
 have st4 : tn 0 (pushCells ((s.heap.push zCc).push { cls:=.type "dict", data:=.dict #[] }) scope.names):=T.keep 0 _ _ st fun b _ o e => pushCells_keeps _ _ b o (zUy _ (zUy _ e));dsimp only;unfold newEnv;dsimp only;rw [sz1];have hDfp : s.heap.objs.size ∉ fp:=fun z => zVf _ (ob _ z);obtain ⟨pD,nD,neD,nfD,dD⟩:=I4.pin (s.heap.objs.size,zCc) (by simp);have hcD : ∀ x c,(zV X zB scope cl s H fp).env.cells.lookup x = some c -> c ≠ s.heap.objs.size:=fun x c e z => by
  obtain ⟨v,o,ho,hd⟩:=I4.cell x c e;rw [z,pD] at ho;cases ho; cases hd
 have hpn : ∀ p ∈ (zV X zB scope cl s H fp).pn ++ [],p.1 ≠ s.heap.objs.size:=fun p hp => by
  rw [zVh] at hp;have hp' : p ∈ X.pn ++ zB:=hp;exact zVI (zU8 (I.pin p hp').1)
 have big : sysModules < s.heap.objs.size:=I.big;have hsm : (s.heap.objs.size == sysModules) = false:=by rw [beq_eq_false_iff_ne]; exact Nat.ne_of_gt big
 have I5 : Inv (zV X zB scope cl s H fp) [] (clr own σ) (upd H s.heap.objs.size (zFF isT)) { s with heap:=pushCells ((s.heap.push zCc).push { cls:=.type "dict", data:=.dict #[] }) scope.names }:=by
  have I4' : Inv (zV X zB scope cl s H fp) [] (clr own σ) H { s with heap:=pushCells ((s.heap.push zCc).push { cls:=.type "dict", data:=.dict #[] }) scope.names }:=I4.pins_of fun p hp => nomatch hp;refine I4'.trackAt pD nD (zU3 _) neD hcD hpn ?_;cases isT with
  | false => exact ⟨zVj _,hsm,[],.nil,zCc,#[],0,pD,⟨rfl,rfl,rfl⟩,rfl,fun _ he => by simp at he,.nil,List.nodup_nil⟩
  | true => exact ⟨zVj _,hsm,[],.nil,zCc,#[],0,pD,⟨rfl,rfl,rfl⟩,rfl,rfl,List.nodup_nil⟩
 have fpk : ∀ {H' : Hp},(∀ b ∈ fp,H' b = none) -> ∀ b ∈ fp,zCr (zV X zB scope cl s H fp) [] H' b:=fun {H'} hn b hb =>
  ⟨hn b hb,(I4.ok.exf b hb).1,I4.ok.exfs b hb,.inl hb,(I4.ok.exf b hb).2,fun p hq => by
   rw [zVh] at hq;exact (hf b hb).2.2.2.2.2 p hq⟩
 have loop : codeAny (model X.prog X.w) X.A (.compLoop (.DictComp kx vx [⟨tg,iter,ifs,0⟩] scope pos) 0 (.ref it) (.ref s.heap.objs.size) (zV X zB scope cl s H fp).env) (RR (.ref s.heap.objs.size) (s.heap.objs.size + 1))
   { s with heap:=pushCells ((s.heap.push zCc).push { cls:=.type "dict", data:=.dict #[] }) scope.names }:=by
  refine zIK (fun n s' => ∃ i H',Inv (zV X zB scope cl s H fp) [] (clr own σ) H' s' /\ tn i s'.heap /\ (∀ b ∈ fp,H' b = none) /\ W i n H') ?_ m0
   ⟨0,_,I5,st4,fun b hb => by rw [zk (show b ≠ s.heap.objs.size from fun z => hDfp (by rw [<- z]; exact hb))]; exact (hf b hb).1,w0⟩
  rintro n s5 ⟨i,H5,J5,st5,f5,w5⟩;rcases turn i n H5 w5 with ⟨stop,qq⟩ | ⟨go,step⟩
  ·refine thn (T.done (zV X zB scope cl s H fp) rfl rfl rfl hcalm i _ s5 _ H5 _ J5 (fpk f5) st5 stop) fun r s6 ⟨hr,I6⟩ => ?_;subst hr;exact fin _ H5 s6 I6 qq
  ·refine thn (T.item (zV X zB scope cl s H fp) rfl rfl rfl hcalm i _ s5 _ H5 _ J5 (fpk f5) st5 go) fun r s6 ⟨u,hr,h6⟩ => ?_;subst hr;refine thn h6 fun _ s7 ⟨x,H7,I7,r7,y7,st7,f7⟩ => ?_;have I7':=I7.pinned (fpk f7) (T.obj _ _ st7);refine thn (hg _ s7 _ H7 x u _ I7' r7 (step x H7 y7)) fun _ s8 ⟨σ8,H8,I8,x8,q8⟩ => ?_;refine thn (hi _ s8 σ8 H8 _ I8 q8) fun ok s9 ⟨H9,I9,q9⟩ => ?_;have back : ∀ {s' : Shared} {Hx : Hp},Inv (zV X zB scope cl s H fp) ([] ++ zDV fp s7.heap) σ8 Hx s' -> tn (i + 1) s'.heap /\ ∀ b ∈ fp,Hx b = none:=fun {s' Hx} Ix =>
    ⟨T.keep _ _ _ st7 fun b hb o e => (Ix.pin (b,o) (zVH _ (zVH _ (zAb hb e)))).1,fun b hb => by
     obtain ⟨o,e,d⟩:=T.obj _ _ st7 b hb;exact (Ix.pin (b,o) (zVH _ (zVH _ (zAb hb e)))).2.1⟩
   cases ok with
   | false =>
    obtain ⟨m',hm,w'⟩:=q9;obtain ⟨b1,b2⟩:=back I9;exact ⟨m',hm,i + 1,H9,(I9.weak (by rw [x8.1]) x8.2).unpinned,b1,b2,w'⟩
   | true =>
    refine thn (hk _ s9 σ8 H9 _ I9 q9) fun kv s10 ⟨y,H10,I10,r10,q10⟩ => ?_;refine thn (hv _ s10 σ8 H10 _ I10 q10) fun vv s11 ⟨z,H11,I11,r11,H12,m',hp,hm,w'⟩ => ?_;refine zNZ (X:=zV X zB scope cl s H fp) hu I11 hp r10 r11 fun s12 I12 hs => ?_;obtain ⟨b1,b2⟩:=back I12;exact ⟨m',hm,i + 1,H12,(I12.weak (by rw [x8.1]) x8.2).unpinned,b1,b2,w'⟩
 exact zDi loop (T.self _ 0 _ _ _ st4 loop)
theorem zE2 (I : Inv X zB σ H s) (hf : ∀ b ∈ fp,zCr X zB H b)
  (Ic : Inv (zV X zB scope cl s H fp) [] σc H' s') (hs : Heap.SameBut (s.heap.objs.size + 1) s'.heap h') : Inv X zB σ H' { s' with heap:=h' }:=by
 have nC : H' (s.heap.objs.size + 1) = none:=Ic.free;have lt1 : ∀ {b : Addr} {o : Obj},s.heap.get? b = some o -> b ≠ s.heap.objs.size + 1:=fun e => zVI (zVm (zU8 e));have tr : ∀ b u,H' b = some u -> b ≠ s.heap.objs.size + 1:=fun b u e z => by rw [z,nC] at e; cases e
 have B:=Ic.base;have un : Un (frs X.stack) fp H H' s.heap h':=by
  refine ⟨fun b o e q hb hx => hs.extBut b o (lt1 e) (B.keep b o e q hb hx),fun b o e q hb hx => ?_,fun b o e q hx => B.free b o e q hx,fun b o e hx => ?_,fun b xs e => B.tups b xs e,fun b o xs e => B.frzs b o xs e,fun b ps e => B.tbls b ps e⟩
  ·obtain ⟨sl,e1⟩:=B.slot b o e q hb hx;exact ⟨sl,hs.extBut b _ (lt1 e) e1⟩
  ·obtain ⟨o',e1⟩:=B.there b o e hx;exact ⟨o',hs.extBut b _ (lt1 e) e1⟩
 have hok : HOk X.prog X.w H' h':=fun b u e => by
  refine (Ic.hok b u e).stay (fun c v hc q => hs.extBut c v ?_ q) (fun c q => q) fun c xs q => q;rcases hc with z | z
  ·rw [z]; exact tr b u e
  ·exact tr c _ z
 exact I.call' (s':={ s' with heap:=h' }) (ch:=fp) Ic.os un hok Ic.bare fun b hb => ⟨(hf b hb).2.2.2.1,(hf b hb).2.1,(hf b hb).2.2.2.2.1,(hf b hb).2.2.2.2.2⟩
end
def zGL (isT : Bool) (own : List Nat) (wi : TI) (g : TG) (tc : TT) (tk tv : TE) : TE:=fun σ H Q => wi σ H fun J H1 => ∀ D,H1 D = none -> ∃ W : Nat -> Nat -> Hp -> Prop,(∃ m,W 0 m (upd H1 D (zFF isT))) /\ ∀ i m H,W i m H ->
 (J.stop i H /\ Q (.ref D) H) \/
 (J.go i H /\ ∀ x H',J.yld i H x H' -> g x (clr own σ) H' fun σ2 H2 => Ext (clr own σ) σ2 /\ tc σ2 H2 fun b H3 =>
  if b = true then tk σ2 H3 fun k H4 => tv σ2 H4 fun v H5 => ∃ H6 m',zGg H5 D k v H6 /\ m' < m /\ W (i + 1) m' H6 else ∃ m',m' < m /\ W (i + 1) m' H3)
section
variable {X : Cx} {scope : Scope} {tg kx vx iter : Expr} {ifs : List Expr} {pos : Pos} {own : List Nat} {wi : TI} {g : TG} {tc : TT} {tk tv : TE} {isT : Bool}
theorem zLK (hu : X.A.units + 1 < cLine) (C : CompIn X scope own) (hcalm : X.calm = true) (hi : PI X tg iter wi) (p : CompParts X scope tg ifs kx g tc tk) (p2 : ∀ zB cl s H fp,PE (zV X zB scope cl s H fp) vx tv) (hs : ∀ x,foldedSetIterable iter X.env x = pure x:=by intro _; rfl) :
  PE X (.DictComp kx vx [⟨tg,iter,ifs,0⟩] scope pos) (zGL isT own wi g tc tk tv):=by
 intro zB s σ H Q I h;obtain ⟨cl,hcl,c1,c2⟩:=C.sc.closure I;rw [arm_eval_DictComp];refine zWr (use:=none) rfl hs hcl C.sc.kind C.sc.names (thn (hi zB s σ H _ I h) fun v s1 h1 => thn h1 fun itv s2 h2 => ?_);obtain ⟨it,fp,tn,J,H2,e,I2,T,st2,f2,hD⟩:=h2;subst e;obtain ⟨W,⟨m0,w0⟩,turn⟩:=hD s2.heap.objs.size (I2.hok.fresh (zU3 _));refine zD8 hu C hcalm I2 T st2 f2 c1 c2 (p.g _ _ _ _ _) (p.c _ _ _ _ _) (p.e _ _ _ _ _) (p2 _ _ _ _ _) (RR:=fun acc C r s' => compPost (model X.prog X.w) X.A X.xe none (EP X zB σ Q) acc C r s') (QQ:=fun H => Q (.ref s2.heap.objs.size) H) w0 turn ?_;intro σc H' s' Ic qq;obtain ⟨m,hn,_⟩:=Ic.loc;refine ⟨m,hn,fun h' hs' => ?_⟩;exact ⟨.ref s2.heap.objs.size,_,zE2 I2 f2 Ic hs',rfl,qq⟩
end
end L2
namespace L3
open PySem PySem.Spec PyProof.Rows L2
def zJI (isT : Bool) : MO:=if isT then .dicT [] else .dict []
noncomputable def zC4 (g : FG) (tc : FT) (tk tv : FE) (σ : Sd) (n : Nat) (all : List D) (gd : Option (Mem -> Prop)) : List D -> Mem -> Option Mem
 | [],M => open Classical in if zBD gd all M then some M else none
 | x :: r,M => open Classical in if zBD gd all M then match g x σ with
   | some σ1 => match tc σ1 M with
    | some (true,M1) => match toD tk σ1 M1 with
     | some (k,M2) => match toD tv σ1 M2 with
      | some (v,M3) => match zGS M3 n k v with
       | some M4 => zC4 g tc tk tv σ n all gd r M4
       | none => none
      | none => none
     | none => none
    | some (false,M1) => zC4 g tc tk tv σ n all gd r M1
    | none => none
   | none => none
  else none
noncomputable def zDY (isT : Bool) (own : List Nat) (fi : FI) (g : FG) (tc : FT) (tk tv : FE) : FE:=fun σ M => match fi σ M with
 | some (xs,gd,M1) => match zC4 g tc tk tv (zBc own σ) M1.length xs gd xs (M1 ++ [zJI isT]) with
  | some M2 => some (.dat (.ref M1.length),M2)
  | none => none
 | none => none
theorem zHb {K : PySem.W.Frag} {isT : Bool} {own : List Nat} {fi : FI} {g : TG} {fg : FG} {tc : FT} {tk tv : FE} (hg : zFZ own g fg) {τ : Sv} {H : Hp} {Q : VK} (h : trE K (zDY isT own fi fg tc tk tv) τ H Q) : zGL isT own (trI K fi) g (trT K tc) (trD K (toD tk)) (trD K (toD tv)) τ H Q:=by
 obtain ⟨L,σ,M,d,Mf,c,rs,hf,q⟩:=h;unfold zDY at hf;split at hf
 ·rename_i xs gd M1 e1;split at hf
  ·rename_i M2 e2;cases hf;refine ⟨L,σ,M,_,_,_,c,rs,e1,fun L1 H1 J s1 c1 it p hp => ?_⟩;obtain ⟨c0,s0⟩ : Cor K (L1 ++ [p]) (M1 ++ [zJI isT]) (upd H1 p (zFF isT)) /\ Stp L1 H1 (L1 ++ [p]) (upd H1 p (zFF isT)):=by
    cases isT with
    | true => exact c1.pushO (m:=.dicT []) hp ⟨[],zAg,rfl⟩
    | false => exact c1.pushO (m:=.dict []) hp ⟨[],zAg,rfl⟩
   have lp0 : (L1 ++ [p])[M1.length]? = some p:=by rw [<- c1.len]; simp
   refine ⟨fun i m H' => m = xs.length - i /\ i <= xs.length /\ ∃ L' M',Stp (L1 ++ [p]) (upd H1 p (zFF isT)) L' H' /\ Cor K L' M' H' /\ zC4 fg tc tk tv (zBc own σ) M1.length xs gd (xs.drop i) M' = some Mf,
    ⟨xs.length,by simp,zVj _,_,_,.refl _ _,c0,by simpa using e2⟩,?_⟩
   rintro i m H' ⟨rfl,hi,L',M',s',c',e'⟩;have lp : L'[M1.length]? = some p:=by obtain ⟨N,hN⟩:=s'.pre; rw [hN]; exact zB0 lp0
   by_cases hlt : i < xs.length
   ·rw [zCo hlt] at e';unfold zC4 at e';split at e'
    ·rename_i hgd;obtain ⟨step,_⟩:=it L' H' M' (s0.trans s') c' hgd;obtain ⟨go,yl⟩:=step i xs[i] (zU1 hlt);split at e'
     ·rename_i σ1 eg;refine .inr ⟨go,fun v H2 hy => ?_⟩;obtain ⟨gr,rv⟩:=yl v H2 hy;have s2 : Stp (L1 ++ [p]) (upd H1 p (zFF isT)) L' H2:=s'.yld gr;refine hg (zEu own (((rs.stp s1).stp s0).stp s2)) (.refl _) rv eg fun τ2 r2 x2 => ⟨x2,?_⟩;split at e'
      ·rename_i M3 e3;split at e'
       ·rename_i kd M4 e4;split at e'
        ·rename_i vd M5 e5;split at e'
         ·rename_i M6 e6;refine ⟨L',σ1,M',_,_,c'.grow gr,r2,e3,fun L3 H3 s3 c3 => zID ?_⟩;refine ⟨L3,σ1,M3,_,_,c3,r2.stp s3,e4,fun L4 H4 w s4 c4 r4 => ?_⟩;refine ⟨L4,σ1,M4,_,_,c4,(r2.stp s3).stp s4,e5,fun L5 H5 u s5 c5 r5 => ?_⟩;have st : Stp L' H' L5 H5:=(((Stp.grow gr).trans s3).trans s4).trans s5;have lp5 : L5[M1.length]? = some p:=by obtain ⟨N,hN⟩:=st.pre; rw [hN]; exact zB0 lp
          obtain ⟨H6,h1,h2,h3⟩:=zLE c5 lp5 (r4.stp s5) r5 e6;exact ⟨H6,xs.length - (i + 1),h1,by omega,rfl,hlt,L5,M6,(s'.trans st).trans h3,h2,e'⟩
         ·cases e'
        ·cases e'
       ·cases e'
      ·rename_i M3 e3;refine ⟨L',σ1,M',_,_,c'.grow gr,r2,e3,fun L3 H3 s3 c3 => zIL ?_⟩;have st : Stp L' H' L3 H3:=(Stp.grow gr).trans s3;exact ⟨xs.length - (i + 1),by omega,rfl,hlt,L3,M3,s'.trans st,c3,e'⟩
      ·cases e'
     ·cases e'
    ·cases e'
   ·have hi' : i = xs.length:=by omega
    subst hi';rw [List.drop_length] at e';unfold zC4 at e';split at e'
    ·rename_i hgd;cases e';obtain ⟨_,stop⟩:=it L' H' _ (s0.trans s') c' hgd;refine .inl ⟨stop,?_⟩;refine q L' _ _ ((s1.trans s0).trans s') c' ?_;unfold zr Rep;exact ⟨p,rfl,lp⟩
    ·cases e'
  ·cases hf
 ·cases hf
section
variable {X : Cx} {scope : Scope} {tg kx vx iter : Expr} {ifs : List Expr} {pos : Pos} {own : List Nat} {isT : Bool}
theorem zRC {fi : FI} {g : TG} {fg : FG} {tc : FT} {tk tv : FE} (hu : X.A.units + 1 < cLine) (hg : zFZ own g fg) (C : CompIn X scope own) (hcalm : X.calm = true) (hi : QI X tg iter fi) (p : QParts X scope tg ifs kx g tc tk) (p2 : ∀ zB cl s H fp,QE (zV X zB scope cl s H fp) vx tv) (hs : ∀ x,foldedSetIterable iter X.env x = pure x:=by intro _; rfl) :
  QE X (.DictComp kx vx [⟨tg,iter,ifs,0⟩] scope pos) (zDY isT own fi fg tc tk tv) :=
 .mk <| PE.imp (zLK (isT:=isT) hu C hcalm hi.un p.parts (fun _ _ _ _ _ => (zK (p2 _ _ _ _ _)).un) hs) fun _ _ _ h => zHb hg h
end
def zD4 : Nat -> D -> Bool
 | 0,.int _ => true
 | n + 1,.tup ds => ds.all (zD4 n)
 | _,_ => false
def zEH : Nat -> D -> D -> Bool
 | 0,.int i,.int j => decide (i = j)
 | n + 1,.tup xs,.tup ys => xs.length == ys.length && (xs.zip ys).all fun q => zEH n q.1 q.2
 | _,_,_ => false
theorem zIr : ∀ (n : Nat) (x : D),zD4 n x = true -> zEH n x x = true
 | 0,.int i,_ => by simp [zEH]
 | n + 1,.tup xs,h => by
  unfold zD4 at h;unfold zEH;rw [zVY] at h;simp only [beq_self_eq_true,Bool.true_and];rw [zVY];intro q hq;have : q.1 = q.2:=by
   obtain ⟨i,hi,e⟩:=zW0 hq;rw [List.getElem_zip] at e;rw [<- e]
  rw [<- this];exact zIr n _ (h q.1 (List.of_mem_zip hq).1)
 | 0,.non,h => by cases h
 | 0,.bl _,h => by cases h
 | 0,.str _,h => by cases h
 | 0,.tup _,h => by cases h
 | 0,.ref _,h => by cases h
 | n + 1,.non,h => by cases h
 | n + 1,.bl _,h => by cases h
 | n + 1,.int _,h => by cases h
 | n + 1,.str _,h => by cases h
 | n + 1,.ref _,h => by cases h
theorem zPy : ∀ (n : Nat) (x y : D) (v : V),zD4 n x = true -> zD4 n y = true -> Rep L H x v -> Rep L H y v -> x = y:=by
 intro n;induction n with
 | zero =>
  intro x y v hx hy rx ry;cases x <;> first | cases hx | skip
  cases y <;> first | cases hy | skip
  unfold Rep at rx ry;rw [rx] at ry;cases ry; rfl
 | succ n ih =>
  intro x y v hx hy rx ry;cases x <;> first | cases hx | skip
  cases y <;> first | cases hy | skip
  rename_i xs ys;unfold zD4 at hx hy;rw [zVY] at hx hy;unfold Rep at rx ry;obtain ⟨a,vs,rfl,e,r⟩:=rx;obtain ⟨a',vs',e1,e2,r'⟩:=ry;cases e1;rw [e] at e2; cases e2;congr 1;have hl : xs.length = ys.length:=by rw [<- r.length,r'.length]
  apply List.ext_getElem hl;intro i h1 h2;obtain ⟨u,hu,ru⟩:=r.get (zU1 h1);obtain ⟨u',hu',ru'⟩:=r'.get (zU1 h2);rw [hu] at hu'; cases hu';exact ih _ _ u (hx _ (zVV h1)) (hy _ (zVV h2)) ru ru'
section
variable {X : Cx} {zB : List (Addr × Obj)} {σ : L2.St} {H : Hp} {s : Shared} {L : List Addr}
theorem zRq {xs ys : List D} (f : D -> D -> Bool) (h : xs.length = ys.length) : ((List.range xs.length).all fun j => f (xs.getD j .non) (ys.getD j .non)) = (xs.zip ys).all fun q => f q.1 q.2:=by
  rw [Bool.eq_iff_iff,zVY,zVY];constructor
  · intro hh q hq
    obtain ⟨i,hi,e⟩:=zW0 hq;rw [List.getElem_zip] at e;rw [List.length_zip] at hi;have:=hh i (by simp; omega);rw [<- e];simpa [zU2,show i < xs.length by omega,show i < ys.length by omega] using this
  · intro hh i hi
    have h1 : i < xs.length:=by simpa using hi
    have h2 : i < ys.length:=by omega
    have hz : i < (xs.zip ys).length:=by rw [List.length_zip]; omega
    have:=hh (xs.zip ys)[i] (zVV hz);rw [List.getElem_zip] at this;simpa [zU2,h1,h2] using this
theorem zNo (I : Inv X zB σ H s) : ∀ (n : Nat) (A : Around) (x y : D) (v w : V) (u u' : Value), A.units + n < cLine -> zD4 n x = true -> zD4 n y = true -> Rep L H x v -> Rep L H y w -> zx v u -> zx w u' -> SeqAt.EqAt A s u u' (zEH n x y) := by
  intro n;induction n with
  | zero =>
    intro A x y v w u u' hu hx hy rx ry ru ru';cases x <;> first | cases hx | skip
    cases y <;> first | cases hy | skip
    unfold Rep at rx ry;subst rx; subst ry;obtain ⟨t,rfl⟩:=ru;obtain ⟨t',rfl⟩:=ru';have:=SeqAt.EqAt.int_int (A:=A) (s:=s) ‹Int› t ‹Int› t';unfold zEH;rename_i i j;have h:=SeqAt.EqAt.int_int (A:=A) (s:=s) i t j t';have e : (i == j) = decide (i = j):=by by_cases q : i = j <;> simp [q]
    rw [e] at h;exact h
  | succ n ih =>
    intro A x y v w u u' hu hx hy rx ry ru ru';cases x <;> first | cases hx | skip
    cases y <;> first | cases hy | skip
    rename_i xs ys;have hx':=hx;have hy':=hy;have rx':=rx;have ry':=ry;unfold zD4 at hx hy;rw [zVY] at hx hy;unfold Rep at rx ry;obtain ⟨a,vs,rfl,e,r⟩:=rx;obtain ⟨b,ws,rfl,e2,r2⟩:=ry;cases ru;cases ru';by_cases hab : a = b
    · subst hab
      have:=zPy (n + 1) _ _ _ hx' hy' rx' ry';rw [this,zIr (n + 1) _ hy'];exact SeqAt.EqAt.same _
    · refine SeqAt.EqAt.of_refs hab ?_
      obtain ⟨its,rv,p1,_⟩:=I.tuple (.of e);obtain ⟨its2,rv2,p2,_⟩:=I.tuple (.of e2);have l1 : its.toArray.size = xs.length:=by rw [zU5,<- rv.length,r.length]
      have l2 : its2.toArray.size = ys.length:=by rw [zU5,<- rv2.length,r2.length]
      have key := SeqAt.RcAt.tuples (A := A) (s := s) (l := a) (b := b) (items := its.toArray) (items2 := its2.toArray) (e := fun j => zEH n (xs.getD j .non) (ys.getD j .non)) p1 p2 (by omega) (fun j h1 h2 => by
        have j1 : j < xs.length:=by omega
        have j2 : j < ys.length:=by omega
        obtain ⟨q1,g1,t1⟩:=r.get (zU1 j1);obtain ⟨q2,g2,t2⟩:=r2.get (zU1 j2);obtain ⟨o1,k1,m1⟩:=rv.get g1;obtain ⟨o2,k2,m2⟩:=rv2.get g2
        have z1 : its.toArray[j] = o1 := by have : its.toArray[j]? = some o1 := by simpa using k1
                                            rw [zVi h1] at this; exact zVx this
        have z2 : its2.toArray[j] = o2 := by have : its2.toArray[j]? = some o2 := by simpa using k2
                                             rw [zVi h2] at this; exact zVx this
        rw [z1,z2];have w1 : xs.getD j .non = xs[j]:=by simp [zU2,j1]
        have w2 : ys.getD j .non = ys[j]:=by simp [zU2,j2]
        show SeqAt.EqAt A.in1 s o1 o2 (zEH n (xs.getD j .non) (ys.getD j .non));rw [w1,w2];exact ih A.in1 _ _ _ _ _ _ (by show A.units + 1 + n < cLine; omega) (hx _ (zVV j1)) (hy _ (zVV j2)) t1 t2 m1 m2)
      have fin : ((List.range (min its.toArray.size its2.toArray.size)).all (fun j => zEH n (xs.getD j .non) (ys.getD j .non)) && its.toArray.size == its2.toArray.size) = zEH (n + 1) (.tup xs) (.tup ys):=by
        rw [l1,l2];show _ = (xs.length == ys.length && (xs.zip ys).all fun q => zEH n q.1 q.2);by_cases hl : xs.length = ys.length
        · rw [hl,Nat.min_self,<- hl,zRq (zEH n) hl,Bool.and_comm]
        · have : (xs.length == ys.length) = false:=by simpa using hl
          rw [this]; simp
      rw [fin] at key;exact key
end
section
variable {X : Cx} {a b e o : Expr} {pos apos cpos : Pos} {f g : FE}
theorem zUO (n : Nat) (hn : n <= 8) (hr : Room k A) : A.units + 1 + n < cLine:=by
 have:=hr.units;omega
end
open Builtin
section
variable {X : Cx} {a b o e e2 : Expr} {pos p apos cpos : Pos} {f g : FE}
def zKP : KB:=fun xs M => match xs with
 | [.dat (.int i),.dat (.int j)] => some (.dat (.int (if j > i then j else i)),M)
 | _ => none
def zLD : KB:=fun xs M => match xs with
 | [.dat (.int i),.dat (.int j)] => some (.dat (.int (if j < i then j else i)),M)
 | _ => none
theorem zGU (r : zDF H0 L H [.dat (.int i),.dat (.int j)] vs) : vs = [.int i,.int j]:=by
 unfold zDF at r;obtain ⟨v,r1,rfl,a1,a2⟩:=r;unfold zDF at a2;obtain ⟨v2,r2,rfl,b1,b2⟩:=a2;unfold zDF at b2;subst b2;unfold zr Rep at a1 b1;subst a1 b1;rfl
theorem zOx {K : PySem.W.Frag} : zF0 K (fun xs H Q => ∃ i j,xs = [.int i,.int j] /\ Q (.int (if j > i then j else i)) H) zKP:=by
 intro L M M' H H0 xs d vs Q c r hk q;unfold zKP at hk;split at hk
 ·rename_i i j;cases hk;exact ⟨i,j,zGU r,q L H _ (.refl L H) c (zAi (L:=L) (H:=H))⟩
 ·cases hk
theorem zP7 {K : PySem.W.Frag} : zF0 K (fun xs H Q => ∃ i j,xs = [.int i,.int j] /\ Q (.int (if j < i then j else i)) H) zLD:=by
 intro L M M' H H0 xs d vs Q c r hk q;unfold zLD at hk;split at hk
 ·rename_i i j;cases hk;exact ⟨i,j,zGU r,q L H _ (.refl L H) c (zAi (L:=L) (H:=H))⟩
 ·cases hk
theorem zSH (hcalm : X.calm = true) (hg : Gl X "max") (hm : X.mg "max" = none) (ha : QAE X [e,e2] fa) (he : starEach [e,e2] X.env = (false,eval e X.env) :: starEach [e2] X.env:=by rfl) (hpl : (backTo pos (starEach [e2] X.env)).any (·.1) = false:=by rfl) : QE X (.Call (.Name "max" p) [e,e2] [] pos) (fB zKP fa) :=
 zDo zOx (zON hcalm) (by rfl) hg hm ha (by decide) (by decide) he hpl
theorem zSn (hcalm : X.calm = true) (hg : Gl X "min") (hm : X.mg "min" = none) (ha : QAE X [e,e2] fa) (he : starEach [e,e2] X.env = (false,eval e X.env) :: starEach [e2] X.env:=by rfl) (hpl : (backTo pos (starEach [e2] X.env)).any (·.1) = false:=by rfl) : QE X (.Call (.Name "min" p) [e,e2] [] pos) (fB zLD fa) :=
 zDo zP7 (zNa hcalm) (by rfl) hg hm ha (by decide) (by decide) he hpl
def zEp : KM:=fun x ds M => match x,ds with
 | .dat (.ref n),[.ref m] => match M[n]?,M[m]? with
  | some (.lst xs),some (.lst ys) => if xs.length + ys.length <= sizeLine then some (.non,M.set n (.lst (xs ++ ys))) else none
  | _,_ => none
 | _,_ => none
theorem zLn {K : PySem.W.Frag} : zOu K zMZ zEp:=by
 intro L M M' H H0 x ds d v vs Q c rx rd hk q;unfold zEp at hk;split at hk
 ·rename_i n m;split at hk
  ·rename_i xs ys e1 e1';split at hk
   ·rename_i hz;cases hk;unfold zr Rep at rx;obtain ⟨a,rfl,e2⟩:=rx;obtain ⟨ws,e3,r3⟩:=c.obj n a _ e2 e1;obtain ⟨w,rfl,r4⟩:=rd.one;unfold Rep at r4;obtain ⟨b,rfl,e4⟩:=r4;obtain ⟨zs,e5,r5⟩:=c.obj m b _ e4 e1';obtain ⟨c5,s5⟩:=c.write e2 e1 (r3.app r5);exact ⟨a,b,ws,zs,rfl,rfl,e3,e5,by rw [r3.length,r5.length]; exact hz,q L _ _ s5 c5 (by unfold Rep; rfl)⟩
   ·cases hk
  ·cases hk
 ·cases hk
theorem zOQ (h : QE X a f) (hg : QA X [e] fg) (hbase : attributeBase a "extend" X.env (eval a X.env) = eval a X.env:=by rfl)
  (hfew : ((backTo cpos (starEach [e] X.env)).all (fun x => !x.1) && (backToKw cpos (keywordEach [] X.env)).all (fun x => x.1.isSome) && decide ([e].length + ([] : List Keyword).length + (if ([] : List Keyword).isEmpty then 0 else 1) < 30)) = true:=by rfl)
  (hline : (apos.endLine == cpos.line) = true:=by rfl) (hs : starEach [e] X.env = (false,eval e X.env) :: starEach [] X.env:=by rfl) (hplain : (backTo cpos (starEach [] X.env)).any (·.1) = false:=by rfl) :
  QE X (.Call (.Attribute a "extend" apos) [e] [] cpos) (fM zEp f fg) :=
 .mk <| PE.imp (zM2 PySem.F.plainAttrs_list PySem.F.slot_list_extend PySem.F.type_list_extend zNt h.un hg.un hbase hfew hline hs hplain) fun _ _ _ z => zJT zLn z
end
end L3
namespace HT
open PySem PySem.Spec PyProof.Rows
end HT
namespace L3
open PySem PySem.Spec PyProof.Rows L2
def SI (b : Bool) (h : Heap) (it t : Addr) (k : Nat) : Prop:=if b then h.IsTupleIter it t k else h.IsListIter it t k
def SO (b : Bool) (h : Heap) (t : Addr) (xs : Array Value) : Prop:=if b then h.IsTuple t xs else h.IsList t xs
abbrev itO (b : Bool) (t : Addr) : Obj:={ cls:=.type (if b then "tuple_iterator" else "list_iterator"),data:=.fields #[.ref t,.int 0 0] }
theorem SO.keep (x : SO b h t xs) (e : ∀ o,h.get? t = some o -> h'.get? t = some o) : SO b h' t xs:=by
 cases b with
 | true => obtain ⟨o,q,r⟩:=(show h.IsTuple t xs from x); exact (show h'.IsTuple t xs from ⟨o,e o q,r⟩)
 | false => obtain ⟨o,q,r⟩:=(show h.IsList t xs from x); exact (show h'.IsList t xs from ⟨o,e o q,r⟩)
section
variable {prog : Program} {w : World} {A : Around} {E : Value -> Shared -> Prop} {s : Shared}
theorem zOO (hl : SO b s.heap l items) (hQ : Q (.ref s.heap.objs.size) { s with heap:=s.heap.push (itO b l) }) : wpAny (model prog w) A (pyIter (.ref l)) Q E s:=by
 cases b with
 | true => exact wpAny_pyIter_tuple (show s.heap.IsTuple l items from hl) hQ
 | false => exact wpAny_pyIter_list (show s.heap.IsList l items from hl) hQ
theorem zR4 (e : h.get? it = some (itO b t)) : SI b h it t 0:=by
 cases b with
 | true => exact (show h.IsTupleIter it t 0 from ⟨_,e,rfl,rfl⟩)
 | false => exact (show h.IsListIter it t 0 from ⟨_,e,rfl,rfl⟩)
end
def SqG (K : PySem.W.Frag) (b : Bool) (H : Hp) (a : Addr) (xs : List V) : Prop:=if b then SqT K H a xs else SqL K H a xs
theorem zOi (I : Inv X zB σ H s) (h : SqG X.K b H a xs) : ∃ its,zo xs its /\ SO b s.heap a its.toArray:=by
 cases b with
 | true => obtain ⟨its,rv,p1,_⟩:=I.tuple h; exact ⟨its,rv,p1⟩
 | false => obtain ⟨its,rv,p1,_⟩:=I.list h; exact ⟨its,rv,p1.isList⟩
theorem zUA (x : SO b h a its) : a < h.objs.size:=by
 cases b with
 | true => obtain ⟨_,e,_⟩:=(show h.IsTuple a its from x); exact zU8 e
 | false => obtain ⟨_,e,_⟩:=(show h.IsList a its from x); exact zU8 e
section
variable {X : Cx} {a b : Expr} {es : List Expr} {ek : Nat} {ep p pos : Pos}
theorem zSe {K : PySem.W.Frag} {L1 : List Addr} {M1 : Mem} {H1 : Hp} {x : D} {v : V} {xs : List D} (c1 : Cor K L1 M1 H1) (r1 : Rep L1 H1 x v) (e : zAZ M1 (.dat x) = some xs) :
  ∃ b l,v = .ref l /\ (∃ vs,SqG K b H1 l vs) /\ ∀ L2 H2 M2,Stp L1 H1 L2 H2 -> Cor K L2 M2 H2 -> zAZ M2 (.dat x) = some xs -> ∃ vs',SqG K b H2 l vs' /\ zZ L2 H2 xs vs':=by
 have r1' : zr H1 L1 H1 (.dat x) v:=r1;cases x with
 | tup ds =>
  cases e;obtain ⟨a,vs,rfl,e3,r3⟩:=zBo r1' (xs:=xs) rfl;exact ⟨true,a,rfl,⟨vs,(show SqT K H1 a vs from .of e3)⟩,fun L2 H2 M2 s2 c2 _ => ⟨vs,(show SqT K H2 a vs from .of (s2.tup a vs e3)),r3.stp s2⟩⟩
 | ref n =>
  have e2 : zBy M1 (.dat (.ref n)) = some xs:=e;obtain ⟨a,vs,rfl,e3,r3⟩:=zBS c1 r1' e2;refine ⟨false,a,rfl,⟨vs,(show SqL K H1 a vs from .inl e3)⟩,fun L2 H2 M2 s2 c2 hq => ?_⟩;unfold Rep at r1;obtain ⟨a',ha',e5⟩:=r1;cases ha';have e6 : L2[n]? = some a:=by obtain ⟨N,hN⟩:=s2.pre; rw [hN]; exact zB0 e5
  have r2 : zr H2 L2 H2 (.dat (.ref n)) (.ref a):=by unfold zr Rep; exact ⟨a,rfl,e6⟩
  obtain ⟨a2,vs',h2,e7,r7⟩:=zBS c2 r2 (show zBy M2 (.dat (.ref n)) = some xs from hq);cases h2;exact ⟨vs',(show SqL K H2 a vs' from .inl e7),r7⟩
 | _ => cases e
end
theorem zHY {ns : List Int} {its : List Value} (r : zo (ns.map V.int) its) {i : Nat} {v : Value} (h : its.toArray[i]? = some v) : ∃ t,v = .int (ns.getD i 0) t:=by
 have h' : its[i]? = some v:=by simpa using h
 have hi : i < its.length:=(zU0.mp h').1;have hl:=r.length;rw [zU6] at hl;have hx : (ns.map V.int)[i]? = some (.int (ns.getD i 0)):=by
  rw [zVK,zU2,zU1 (by omega)]; rfl
 obtain ⟨u,hu,ru⟩:=r.get hx;rw [h'] at hu;cases hu;obtain ⟨t,rfl⟩:=ru;exact ⟨t,rfl⟩
theorem zLW (hh : A.handled = none) (b : Bool) (I ax : Addr) (hne : ax ≠ I) (items : Array Value) :
  Walks prog w A I [I,ax] [I] items.size (fun i v => items[i]? = some v) (fun i h => SI b h I ax i /\ SO b h ax items):=by
 cases b with
 | true => exact Walks.tuple hh I ax hne items
 | false => exact Walks.list hh I ax hne items
section
variable {X : Cx} {e : Expr} {pos p : Pos}
theorem zOB (gt : Bool) (hc : X.calm = true) : zCQ X (.builtin (if gt then "max" else "min")) (fun xs H Q => ∃ (b : Bool) (a : Addr) (ns : List Int) (m : Int),xs = [.ref a] /\ SqG X.K b H a (ns.map V.int) /\ m ∈ ns /\ (∀ x ∈ ns,if gt then x <= m else m <= x) /\ Q (.int m) H):=by
 intro zB s σ H xs us Q I r h;obtain ⟨b,a,ns,m,rfl,hs,hm,hb,q⟩:=h;obtain ⟨u,rfl,ru⟩:=zD7 r;cases ru;obtain ⟨its,rv,p1⟩:=zOi I hs;have hl : its.toArray.size = ns.length:=by have:=rv.length; simp at this ⊢; omega
 have hpos : 0 < ns.length:=List.length_pos_of_mem hm;have hlt:=zUA p1;have hfp : ∀ c ∈ [s.heap.objs.size,a],c < (s.heap.push (itO b a)).objs.size:=fun c hc' => by
  rw [zVd];simp only [zU9,zVS,or_false] at hc';rcases hc' with rfl | rfl
  ·exact zVu _
  ·exact zVm hlt
 have st : SI b (s.heap.push (itO b a)) s.heap.objs.size a 0 /\ SO b (s.heap.push (itO b a)) a its.toArray:=⟨zR4 (zU7 _ rfl),p1.keep fun o e => zUy _ e⟩;have kp : ∀ h' : Heap,(∀ c o,c ∉ [s.heap.objs.size] -> (s.heap.push (itO b a)).get? c = some o -> h'.get? c = some o) -> ∀ c o,s.heap.get? c = some o -> h'.get? c = some o:=fun h' hk c o e0 =>
  hk c o (by simp only [zU9,zVS,or_false]; exact zVI (zU8 e0)) (zUy _ e0)
 have fin : ∀ (i : Nat) (v : Value) (h' : Heap) (tk : Nat),its.toArray[i]? = some v -> ns.getD i 0 = m -> (∀ c o,s.heap.get? c = some o -> h'.get? c = some o) -> EP X zB σ Q v { s with heap:=h',toks:=tk }:=fun i v h' tk hv hi hk => by
  obtain ⟨t,rfl⟩:=zHY rv hv;rw [hi];exact ⟨.int m,H,I.kept hk,⟨t,rfl⟩,q⟩
 cases gt with
 | true =>
  refine call_max_walk (zOO p1 ⟨s.heap.objs.size,[s.heap.objs.size,a],[s.heap.objs.size],its.toArray.size,fun i v => its.toArray[i]? = some v,fun i h => SI b h s.heap.objs.size a i /\ SO b h a its.toArray,_,rfl,zLW (A:=X.A.in1) (I.ok.hd hc) b _ a (zVI hlt) its.toArray,st,hfp,by omega,CmpOf.ints_gt (fun i => ns.getD i 0) (fun _ _ hv => zHY rv hv),fun v h' tk hP hk => ?_⟩);refine fin _ v h' tk hP ?_ (kp h' hk);obtain ⟨h1,h2⟩:=argBest_gt (fun i => ns.getD i 0) (its.toArray.size - 1);rw [hl] at h1 h2 ⊢;generalize argBest _ (ns.length - 1) = q at h1 h2 ⊢;obtain ⟨j,hj,ej⟩:=List.mem_iff_getElem.mp hm;have h3:=h2 j (by omega);have e3 : ns.getD j 0 = m:=by rw [zU2,zU1 hj]; exact ej
  have hq : q < ns.length:=by omega
  have h4 : ns.getD q 0 <= m:=by
   have:=hb (ns.getD q 0) (by rw [zU2,zU1 hq]; exact zVV hq);simpa using this
  rw [e3] at h3;omega
 | false =>
  refine call_min_walk (zOO p1 ⟨s.heap.objs.size,[s.heap.objs.size,a],[s.heap.objs.size],its.toArray.size,fun i v => its.toArray[i]? = some v,fun i h => SI b h s.heap.objs.size a i /\ SO b h a its.toArray,_,rfl,zLW (A:=X.A.in1) (I.ok.hd hc) b _ a (zVI hlt) its.toArray,st,hfp,by omega,CmpOf.ints_lt (fun i => ns.getD i 0) (fun _ _ hv => zHY rv hv),fun v h' tk hP hk => ?_⟩);refine fin _ v h' tk hP ?_ (kp h' hk);obtain ⟨h1,h2⟩:=argBest_lt (fun i => ns.getD i 0) (its.toArray.size - 1);rw [hl] at h1 h2 ⊢;generalize argBest _ (ns.length - 1) = q at h1 h2 ⊢;obtain ⟨j,hj,ej⟩:=List.mem_iff_getElem.mp hm;have h3:=h2 j (by omega);have e3 : ns.getD j 0 = m:=by rw [zU2,zU1 hj]; exact ej
  have hq : q < ns.length:=by omega
  have h4 : m <= ns.getD q 0:=by
   have:=hb (ns.getD q 0) (by rw [zU2,zU1 hq]; exact zVV hq);simpa using this
  rw [e3] at h3;omega
def zDf (gt : Bool) : Int -> List Int -> Int
 | m,[] => m
 | m,x :: r => zDf gt (if (if gt then m < x else x < m) then x else m) r
theorem zDq (gt : Bool) : ∀ (r : List Int) (m : Int),zDf gt m r ∈ m :: r /\ ∀ x ∈ m :: r,if gt then x <= zDf gt m r else zDf gt m r <= x
 | [],m => by
  refine ⟨by simp [zDf],fun x hx => ?_⟩;have : x = m:=by simpa using hx
  subst this; cases gt <;> simp [zDf]
 | y :: r,m => by
  unfold zDf;obtain ⟨h1,h2⟩:=zDq gt r (if (if gt then m < y else y < m) then y else m);generalize hb : zDf gt (if (if gt then m < y else y < m) then y else m) r = B at h1 h2;constructor
  ·rcases zU9.mp h1 with q | q
   ·rw [q];by_cases hc : (if gt = true then m < y else y < m)
    ·rw [zVC hc]; simp
    ·rw [zVF hc]; simp
   ·simp [q]
  ·intro x hx;have h0:=h2 _ zVB;rcases zU9.mp hx with q | q
   ·subst q;cases gt with
    | true => simp at h0 ⊢; split at h0 <;> omega
    | false => simp at h0 ⊢; split at h0 <;> omega
   ·rcases zU9.mp q with z | z
    ·subst z;cases gt with
     | true => simp at h0 ⊢; split at h0 <;> omega
     | false => simp at h0 ⊢; split at h0 <;> omega
    ·exact h2 x (zVA _ z)
def zHW (gt : Bool) : KB:=fun xs M => match xs with
 | [.dat d] => match zAZ M (.dat d) with
  | some ds => match zA9 ds with
   | some (n :: ns) => some (.dat (.int (zDf gt n ns)),M)
   | _ => none
  | none => none
 | [.fl ds] => match zA9 ds with
  | some (n :: ns) => some (.dat (.int (zDf gt n ns)),M)
  | _ => none
 | _ => none
theorem zPi {K : PySem.W.Frag} {gt : Bool} : zF0 K (fun xs H Q => ∃ (b : Bool) (a : Addr) (ns : List Int) (m : Int),xs = [.ref a] /\ SqG K b H a (ns.map V.int) /\ m ∈ ns /\ (∀ x ∈ ns,if gt then x <= m else m <= x) /\ Q (.int m) H) (zHW gt):=by
 intro L M M' H H0 xs d vs Q c r hk q;unfold zHW at hk;split at hk
 ·rename_i d0;split at hk
  ·rename_i ds e1;split at hk
   ·rename_i n ns e2;cases hk;obtain ⟨v,rfl,r1⟩:=r.one;have r1' : Rep L H d0 v:=r1;obtain ⟨b,l,rfl,_,key⟩:=zSe c r1' e1;obtain ⟨vs',hq,rr⟩:=key L H M (.refl L H) c e1;have ev:=zD3 e2 rr;subst ev;obtain ⟨h1,h2⟩:=zDq gt ns n;exact ⟨b,l,n :: ns,zDf gt n ns,rfl,hq,h1,h2,q L H _ (.refl L H) c (zAi (L:=L) (H:=H))⟩
   ·cases hk
  ·cases hk
 ·rename_i ds;split at hk
  ·rename_i n ns e2;cases hk;obtain ⟨v,rfl,r1⟩:=r.one;obtain ⟨l,vs',rfl,hq,rr⟩:=zBS c r1 (show zBy M (.fl ds) = some ds from rfl);have ev:=zD3 e2 rr;subst ev;obtain ⟨h1,h2⟩:=zDq gt ns n;exact ⟨false,l,n :: ns,zDf gt n ns,rfl,.inl hq,h1,h2,q L H _ (.refl L H) c (zAi (L:=L) (H:=H))⟩
  ·cases hk
 ·cases hk
theorem zSi (hcalm : X.calm = true) (hg : Gl X "min") (hm : X.mg "min" = none) (ha : QAE X [e] fa) (he : starEach [e] X.env = (false,eval e X.env) :: starEach [] X.env:=by rfl) (hpl : (backTo pos (starEach [] X.env)).any (·.1) = false:=by rfl) : QE X (.Call (.Name "min" p) [e] [] pos) (fB (zHW false) fa) :=
 zDo zPi (zOB false hcalm) (by rfl) hg hm ha (by decide) (by decide) he hpl
end
section
variable {X : Cx} {a e e2 o : Expr} {pos p apos cpos : Pos} {f : FE}
def zMD (f : FE) : FT:=fun σ M => match f σ M with
 | some (x,M1) => match zAZ M1 x with
  | some xs => some (!xs.isEmpty,M1)
  | none => none
 | none => none
theorem zMn (h : QE X a f) (he : ∀ whole,isTrue a X.env whole = (do let v <- whole; standAt a.pos; holding [v] (truthy v)):=by intro _; rfl) : QT X a (zMD f) :=
 .mk <| PT.imp (zQO h.un he) fun τ H Q zz => by
  obtain ⟨L,σ,M,d,M',c,rs,hf,q⟩:=zz;unfold zMD at hf;split at hf
  ·rename_i x M1 e1;split at hf
   ·rename_i xs e2;cases hf;refine ⟨L,σ,M,_,_,c,rs,e1,fun L1 H1 v s1 c1 r1 => ⟨!xs.isEmpty,?_,q L1 H1 s1 c1⟩⟩;unfold zAZ at e2;have emp : ∀ {vs : List V},zZ L1 H1 xs vs -> (!xs.isEmpty) = !vs.isEmpty:=fun {vs} r => by
     have:=r.length;cases xs <;> cases vs <;> first | rfl | simp at this
    cases t : zDC x with
    | some ws =>
     rw [t] at e2; cases e2;obtain ⟨l,vs,rfl,e3,r3⟩:=zBo r1 t;exact .inr (.inl ⟨vs,.of e3,emp r3⟩)
    | none =>
     rw [t] at e2;dsimp only at e2;obtain ⟨l,vs,rfl,e3,r3⟩:=zBS c1 r1 e2;exact .inl ⟨vs,.inl e3,emp r3⟩
   ·cases hf
  ·cases hf
def zFI (f : FE) : FE:=fun σ M => match f σ M with
 | some (.dat (.ref n),M1) => match M1[n]? with
  | some (.lst xs) => match xs[xs.length - 1]? with
   | some d => some (.dat d,M1.set n (.lst xs.dropLast))
   | none => none
  | _ => none
 | _ => none
theorem zIG (h : zZ L H ds vs) : zZ L H ds.dropLast vs.dropLast:=by
 have:=h.eraseIdx (ds.length - 1);rw [zE8] at this;have hl:=h.length;rw [<- hl,zE8] at this;exact this
theorem zSs (h : QE X o f) (hbase : attributeBase o "pop" X.env (eval o X.env) = eval o X.env:=by rfl) (hline : (apos.endLine == cpos.line) = true:=by rfl) : QE X (.Call (.Attribute o "pop" apos) [] [] cpos) (zFI f) :=
 .mk <| PE.imp (zSb PySem.F.plainAttrs_list PySem.F.slot_list_pop PySem.F.type_list_pop zTT h.un hbase hline) fun τ H Q zz => by
  obtain ⟨L,σ,M,d,M',c,rs,hf,q⟩:=zz;unfold zFI at hf;split at hf
  ·rename_i n M1 e1;split at hf
   ·rename_i xs e2;split at hf
    ·rename_i d' e3;cases hf;refine ⟨L,σ,M,_,_,c,rs,e1,fun L1 H1 v s1 c1 r1 => ?_⟩;unfold zr Rep at r1;obtain ⟨l,rfl,e4⟩:=r1;obtain ⟨ws,e5,r5⟩:=c1.obj n l _ e4 e2;obtain ⟨u,e6,r6⟩:=r5.get e3;obtain ⟨c5,s5⟩:=c1.write e4 e2 (zIG r5);refine ⟨.inl ⟨rfl,⟨ws,.of e5⟩⟩,l,ws,u,rfl,rfl,e5,by rw [r5.length]; exact e6,q L1 _ _ (s1.trans s5) c5 (r6.stp s5)⟩
    ·cases hf
   ·cases hf
  ·cases hf
end
section
variable {prog : Program} {w : World} {A : Around} {E : Value -> Shared -> Prop} {s : Shared}
theorem zOy {its : List Value} {i : Int} (e : s.heap.get? l = some { cls:=.type "list", data:=.seq its.toArray n }) (hfit : ¬ (!Builtin.List.listFitsIndex i) = true) (h0 : ¬ (i < 0)) (hz : its.toArray.size <= sizeLine)
  (h : ∀ g : Array Value -> Array Value,g its.toArray = (its.take (min i.toNat its.length) ++ [u2] ++ its.drop (min i.toNat its.length)).toArray -> Q .none { s with heap:=s.heap.update l (Obj.mapSeq g),toks:=s.toks }) :
  wpAny (model prog w) A (call (.builtin "list.insert") [.ref l,.int i t,u2]) Q E s:=by
 have hm:=@AutoSeq1.list_insert_list_int_val_1 l its.toArray n i t u2 hfit hz;have h1 : s.TypeIs (.ref l) "list" := ⟨_,e,rfl⟩;refine call_meets (B:=Builtin.«list.insert») (self:=.ref l) (rest:=[.int i t,u2]) F.slot_list_insert h1 F.entry_list_insert (F.args_list_insert_3 _ _ _) hm ⟨e,?_⟩;refine h _ ?_;simp only [h0,if_false,zU5];simp;exact List.take_of_length_le (by simp)
end
section
variable {X : Cx} {a o x1 x2 : Expr} {pos p apos cpos : Pos} {f : FE}
def zMj : V -> List V -> Hp -> VK -> Prop:=fun x vs H Q => ∃ (l : Addr) (i : Int) (y : V) (xs : List V),x = .ref l /\ vs = [.int i,y] /\ H l = some (.lst xs) /\ 0 <= i /\ i.toNat <= xs.length /\ xs.length < sizeLine /\ Q .non (upd H l (.lst (xs.take i.toNat ++ [y] ++ xs.drop i.toNat)))
theorem zNp : MtM X "list.insert" zMj:=by
 intro zB s σ H x vs v us Q I rx rv h;obtain ⟨l,i,y,xs,rfl,rfl,hH,h0,hi,hz,q⟩:=h;cases rx;obtain ⟨u,u2,rfl,⟨t,rfl⟩,ru2⟩:=rv.two;obtain ⟨z,its,n,r,hl,e⟩:=I.lstM hH;have hs : (sizeLine : Nat) < 2 ^ 62:=by decide
 have hi1 : -(2 ^ 63) <= i:=by omega
 have hi2 : i < 2 ^ 63:=by omega
 refine zOy (its:=its) e (by rw [fitsIndex_both hi1 hi2]; exact zVJ) (by omega) (by rw [zU5,<- hl]; exact Nat.le_of_lt hz) fun g hg => ?_;rw [Nat.min_eq_left (by omega)] at hg;exact ⟨.non,_,I.lset (its':=its.take i.toNat ++ [u2] ++ its.drop i.toNat) (ys:=xs.take i.toNat ++ [y] ++ xs.drop i.toNat) hH e hg (((r.take i.toNat).append (.cons ru2 .nil)).append (r.drop i.toNat)) (by simp; omega),rfl,q⟩
def zEh : KM:=fun x ds M => match x,ds with
 | .dat (.ref n),[.int i,d] => match M[n]? with
  | some (.lst xs) => if 0 <= i /\ i.toNat <= xs.length /\ xs.length < sizeLine then some (.non,M.set n (.lst (xs.take i.toNat ++ [d] ++ xs.drop i.toNat))) else none
  | _ => none
 | _,_ => none
theorem zIp : ∀ (k : Nat) {ds : List D} {vs : List V},zZ L H ds vs -> zZ L H (ds.take k) (vs.take k)
 | 0,_,_,_ => .nil
 | k + 1,[],vs,h => by unfold zZ at h; subst h; exact .nil
 | k + 1,d :: ds,vs,h => by
  unfold zZ at h;obtain ⟨v,r,rfl,h1,h2⟩:=h;exact .cons h1 (zIp k h2)
theorem zIb : ∀ (k : Nat) {ds : List D} {vs : List V},zZ L H ds vs -> zZ L H (ds.drop k) (vs.drop k)
 | 0,_,_,h => h
 | k + 1,[],vs,h => by unfold zZ at h; subst h; exact .nil
 | k + 1,d :: ds,vs,h => by
  unfold zZ at h;obtain ⟨v,r,rfl,h1,h2⟩:=h;exact zIb k h2
theorem zLS {K : PySem.W.Frag} : zOu K zMj zEh:=by
 intro L M M' H H0 x ds d v vs Q c rx rd hk q;unfold zEh at hk;split at hk
 ·rename_i n i d';split at hk
  ·rename_i xs e1;split at hk
   ·rename_i hz;cases hk;unfold zr Rep at rx;obtain ⟨a,rfl,e2⟩:=rx;obtain ⟨ws,e3,r3⟩:=c.obj n a _ e2 e1;obtain ⟨w1,w2,rfl,r4,r5⟩:=rd.two;have hw : w1 = .int i:=by unfold Rep at r4; exact r4
    subst hw;obtain ⟨c5,s5⟩:=c.write e2 e1 (((zIp i.toNat r3).app (.cons r5 .nil)).app (zIb i.toNat r3));exact ⟨a,i,w2,ws,rfl,rfl,e3,hz.1,by rw [r3.length]; exact hz.2.1,by rw [r3.length]; exact hz.2.2,q L _ _ s5 c5 (by unfold Rep; rfl)⟩
   ·cases hk
  ·cases hk
 ·cases hk
theorem zPD (h : QE X a f) (hg : QA X [x1,x2] fg) (hbase : attributeBase a "insert" X.env (eval a X.env) = eval a X.env:=by rfl)
  (hfew : ((backTo cpos (starEach [x1,x2] X.env)).all (fun x => !x.1) && (backToKw cpos (keywordEach [] X.env)).all (fun x => x.1.isSome) && decide ([x1,x2].length + ([] : List Keyword).length + (if ([] : List Keyword).isEmpty then 0 else 1) < 30)) = true:=by rfl)
  (hline : (apos.endLine == cpos.line) = true:=by rfl) (hs : starEach [x1,x2] X.env = (false,eval x1 X.env) :: starEach [x2] X.env:=by rfl) (hplain : (backTo cpos (starEach [x2] X.env)).any (·.1) = false:=by rfl) :
  QE X (.Call (.Attribute a "insert" apos) [x1,x2] [] cpos) (fM zEh f fg) :=
 .mk <| PE.imp (zM2 PySem.F.plainAttrs_list PySem.F.slot_list_insert PySem.F.type_list_insert zNp h.un hg.un hbase hfew hline hs hplain) fun _ _ _ z => zJT zLS z
end
noncomputable def zJ3 (fg : FG) (tc : FT) (fi2 : FI) (own2 : List Nat) (fg2 : FG) (tc2 : FT) (te : FE) (σ : Sd) (all : List D) (gd : Option (Mem -> Prop)) : List D -> List D -> Mem -> Option (List D × Mem)
 | [],acc,M => open Classical in if zBD gd all M then some (acc,M) else none
 | x :: r,acc,M => open Classical in if zBD gd all M then match fg x σ with
   | some σ1 => match tc σ1 M with
    | some (true,M1) => match fi2 σ1 M1 with
     | some (ys,gd2,M2) => if acc.length + ys.length <= sizeLine then match zBN fg2 tc2 te (zBc own2 σ1) ys gd2 ys M2 with
       | some (ds,M3) => zJ3 fg tc fi2 own2 fg2 tc2 te σ all gd r (acc ++ ds) M3
       | none => none
      else none
     | none => none
    | some (false,M1) => zJ3 fg tc fi2 own2 fg2 tc2 te σ all gd r acc M1
    | none => none
   | none => none
  else none
noncomputable def zF2 (own own2 : List Nat) (fi : FI) (fg : FG) (tc : FT) (fi2 : FI) (fg2 : FG) (tc2 : FT) (te : FE) : FE:=fun σ M => match fi σ M with
 | some (xs,gd,M1) => match zJ3 fg tc fi2 own2 fg2 tc2 te (zBc own σ) xs gd xs [] M1 with
  | some (ys,M2) => some (.fl ys,M2)
  | none => none
 | none => none
theorem zLe {K : PySem.W.Frag} {own own2 : List Nat} {fi fi2 : FI} {g g2 : TG} {fg fg2 : FG} {tc tc2 : FT} {te : FE} (hg : zFZ own g fg) (hg2 : zFZ own2 g2 fg2) {τ : Sv} {H : Hp} {Q : VK} (h : trE K (zF2 own own2 fi fg tc fi2 fg2 tc2 te) τ H Q) :
  zPL own own2 (trI K fi) g (trT K tc) (trI K fi2) g2 (trT K tc2) (trD K (toD te)) τ H Q:=by
 obtain ⟨L,σ,M,d,Mf,c,rs,hf,q⟩:=h;unfold zF2 at hf;split at hf
 ·rename_i xs gd M1 e1;split at hf
  ·rename_i zs M2 e2;cases hf;refine ⟨L,σ,M,_,_,_,c,rs,e1,fun L1 H1 J s1 c1 it => ?_⟩
   refine ⟨fun i m ys H' => m = xs.length - i /\ i <= xs.length /\ ∃ L' M' as,Stp L1 H1 L' H' /\ Cor K L' M' H' /\ zZ L' H' as ys /\ as.length <= sizeLine /\ zJ3 fg tc fi2 own2 fg2 tc2 te (zBc own σ) xs gd (xs.drop i) as M' = some (zs,Mf),
    ⟨xs.length,by simp,zVj _,L1,M1,[],.refl _ _,c1,.nil,zVj _,by simpa using e2⟩,?_⟩
   rintro i m ys H' ⟨rfl,hi,L',M',as,s',c',r',hl,e'⟩;by_cases hlt : i < xs.length
   ·rw [zCo hlt] at e';unfold zJ3 at e';split at e'
    ·rename_i hgd;obtain ⟨step,_⟩:=it L' H' M' s' c' hgd;obtain ⟨go,yl⟩:=step i xs[i] (zU1 hlt);split at e'
     ·rename_i σ1 eg;refine .inr ⟨go,fun v H2 hy => ?_⟩;obtain ⟨gr,rv⟩:=yl v H2 hy;have s2 : Stp L1 H1 L' H2:=s'.yld gr;refine hg (zEu own ((rs.stp s1).stp s2)) (.refl _) rv eg fun τ2 r2 x2 => ⟨x2,?_⟩;split at e'
      ·rename_i M3 e3;split at e'
       ·rename_i ys2 gd2 M4 e4;split at e'
        ·rename_i hz2;split at e'
         ·rename_i ds M5 e5;refine ⟨L',σ1,M',_,_,c'.grow gr,r2,e3,fun L3 H3 s3 c3 => zID ?_⟩;have st3 : Stp L' H' L3 H3:=(Stp.grow gr).trans s3;refine ⟨L3,σ1,M3,_,_,_,c3,r2.stp s3,e4,fun L4 H4 J2 s4 c4 it2 => ?_⟩
          refine ⟨fun j m2 ws H5 => m2 = ys2.length - j /\ j <= ys2.length /\ ∃ L5 M6 bs cs,Stp L4 H4 L5 H5 /\ Cor K L5 M6 H5 /\ zZ L5 H5 (as ++ bs) ws /\ bs.length <= j /\ zBN fg2 tc2 te (zBc own2 σ1) ys2 gd2 (ys2.drop j) M6 = some (cs,M5) /\ bs ++ cs = ds,
           ⟨ys2.length,by simp,zVj _,L4,M4,[],ds,.refl _ _,c4,by simpa using (r'.stp st3).stp s4,zU3 _,by simpa using e5,rfl⟩,?_⟩
          rintro j m2 ws H5 ⟨rfl,hj,L5,M6,bs,cs,s5,c5,r5,hbl,e6,hbc⟩;have hws : ws.length <= as.length + j:=by rw [r5.length,zVD]; omega
          by_cases hlt2 : j < ys2.length
          ·rw [zCo hlt2] at e6;unfold zBN at e6;split at e6
           ·rename_i hgd2;obtain ⟨step2,_⟩:=it2 L5 H5 M6 s5 c5 hgd2;obtain ⟨go2,yl2⟩:=step2 j ys2[j] (zU1 hlt2);split at e6
            ·rename_i σ2 eg2;refine .inr ⟨go2,fun v2 H6 hy2 => ?_⟩;obtain ⟨gr2,rv2⟩:=yl2 v2 H6 hy2;have s6 : Stp L4 H4 L5 H6:=s5.yld gr2;refine hg2 (zEu own2 (((r2.stp s3).stp s4).stp s6)) (.refl _) rv2 eg2 fun τ3 r3 x3 => ⟨x3,?_⟩;split at e6
             ·rename_i M7 e7;split at e6
              ·rename_i d M8 e8;split at e6
               ·rename_i ds' M9 e9;cases e6;refine ⟨L5,σ2,M6,_,_,c5.grow gr2,r3,e7,fun L7 H7 s7 c7 => zID ?_⟩;refine ⟨L7,σ2,M7,_,_,c7,r3.stp s7,e8,fun L8 H8 w s8 c8 r8 => ?_⟩;have st : Stp L5 H5 L8 H8:=((Stp.grow gr2).trans s7).trans s8;refine ⟨by omega,ys2.length - (j + 1),by omega,rfl,hlt2,L8,M8,bs ++ [d],ds',s5.trans st,c8,?_,by simp; omega,e9,by rw [<- hbc]; simp⟩;have:=(r5.stp st).app (.cons r8 .nil);simpa using this
               ·cases e6
              ·cases e6
             ·rename_i M7 e7;refine ⟨L5,σ2,M6,_,_,c5.grow gr2,r3,e7,fun L7 H7 s7 c7 => zIL ?_⟩;have st : Stp L5 H5 L7 H7:=(Stp.grow gr2).trans s7;exact ⟨ys2.length - (j + 1),by omega,rfl,hlt2,L7,M7,bs,cs,s5.trans st,c7,r5.stp st,by omega,e6,hbc⟩
             ·cases e6
            ·cases e6
           ·cases e6
          ·have hj' : j = ys2.length:=by omega
           subst hj';rw [List.drop_length] at e6;unfold zBN at e6;split at e6
           ·rename_i hgd2;cases e6;obtain ⟨_,stop2⟩:=it2 L5 H5 _ s5 c5 hgd2;rw [zVh] at hbc;subst hbc;refine .inl ⟨stop2,xs.length - (i + 1),by omega,rfl,hlt,L5,M5,as ++ bs,s'.trans ((st3.trans s4).trans s5),c5,r5,by rw [zVD]; omega,e'⟩
           ·cases e6
         ·cases e'
        ·cases e'
       ·cases e'
      ·rename_i M3 e3;refine ⟨L',σ1,M',_,_,c'.grow gr,r2,e3,fun L3 H3 s3 c3 => zIL ?_⟩;have st : Stp L' H' L3 H3:=(Stp.grow gr).trans s3;exact ⟨xs.length - (i + 1),by omega,rfl,hlt,L3,M3,as,s'.trans st,c3,r'.stp st,hl,e'⟩
      ·cases e'
     ·cases e'
    ·cases e'
   ·have hi' : i = xs.length:=by omega
    subst hi';rw [List.drop_length] at e';unfold zJ3 at e';split at e'
    ·rename_i hgd;cases e';obtain ⟨_,stop⟩:=it L' H' _ s' c' hgd;refine .inl ⟨stop,by rw [r'.length]; exact hl,fun p hp => ?_⟩;exact q L' _ _ ((s1.trans s').trans (.upd hp)) (c'.upd hp) (zr.newLst (s1.trans s') c c' hp r')
    ·cases e'
  ·cases hf
 ·cases hf
section
variable {X : Cx} {scope : Scope} {elt t1 i1 t2 i2 : Expr} {f1 f2 : List Expr} {pos : Pos}
structure QParts2 (X : Cx) (scope : Scope) (t1 : Expr) (f1 : List Expr) (t2 i2 : Expr) (f2 : List Expr) (elt : Expr) (g : TG) (tc : FT) (fi2 : FI) (g2 : TG) (tc2 : FT) (te : FE) : Prop where
 g : ∀ zB cl s H fp,PG (zV X zB scope cl s H fp) t1 g
 c : ∀ zB cl s H fp,QIfs (zV X zB scope cl s H fp) f1 tc
 w2 : ∀ zB cl s H fp,QI (zV X zB scope cl s H fp) t2 i2 fi2
 g2 : ∀ zB cl s H fp,PG (zV X zB scope cl s H fp) t2 g2
 c2 : ∀ zB cl s H fp,QIfs (zV X zB scope cl s H fp) f2 tc2
 e : ∀ zB cl s H fp,QE (zV X zB scope cl s H fp) elt te
 s2 : ∀ zB cl s H fp x,foldedSetIterable i2 (zV X zB scope cl s H fp).env x = pure x
theorem zQj {own own2 : List Nat} {fi fi2 : FI} {g g2 : TG} {fg fg2 : FG} {tc tc2 : FT} {te : FE} (hsub : ∀ i ∈ own2,i ∈ own) (hg : zFZ own g fg) (hg2 : zFZ own2 g2 fg2) (C : CompIn X scope own) (hcalm : X.calm = true) (hi : QI X t1 i1 fi) (p : QParts2 X scope t1 f1 t2 i2 f2 elt g tc fi2 g2 tc2 te) (hs : ∀ x,foldedSetIterable i1 X.env x = pure x:=by intro _; rfl) :
  QE X (zBv elt t1 i1 f1 t2 i2 f2 scope pos) (zF2 own own2 fi fg tc fi2 fg2 tc2 te) :=
 .mk <| PE.imp (zP8 hsub C hcalm hi.un ⟨p.g,fun zB cl s H fp => (p.c zB cl s H fp).un,fun zB cl s H fp => (p.w2 zB cl s H fp).un,p.g2,fun zB cl s H fp => (p.c2 zB cl s H fp).un,fun zB cl s H fp => (zK (p.e zB cl s H fp)).un,p.s2⟩ hs) fun _ _ _ h => zLe hg hg2 h
end
end L3
namespace L2
open PySem PySem.Spec PyProof.Rows
section
variable {X : Cx} {scope : Scope} {tg kx vx iter : Expr} {ifs : List Expr} {pos : Pos} {own : List Nat} {isT : Bool} {wi : TI} {g : TG} {tc : TT} {tk tv : TE}
theorem zHK (hN : X.N.Nodup) (hi' : X.N[i]? = some x) (hx : Loc X.env.scope x) (hfn : X.fn x = true \/ X.env.scope.names.lookup x = some .local)
  (hsw : swapsWith (.DictComp kx vx [⟨tg,iter,ifs,0⟩] scope pos) (some (.Name x pos')) pos''.line X.env = pure true)
  (hu : X.A.units + 1 < cLine) (C : CompIn X scope own) (hcalm : X.calm = true) (hi : PI X tg iter wi) (p : CompParts X scope tg ifs kx g tc tk) (p2 : ∀ zB cl s H fp,PE (zV X zB scope cl s H fp) vx tv) (hs : ∀ x,foldedSetIterable iter X.env x = pure x:=by intro _; rfl) :
  PS X (.Assign [.Name x pos'] (.DictComp kx vx [⟨tg,iter,ifs,0⟩] scope pos) pos'') (zO0 (zGL isT own wi g tc tk tv) (zEB i)):=by
 intro zB s σ H D I h;obtain ⟨cl,hcl,c1,c2⟩:=C.sc.closure I;rw [exec_Assign_Name_used _ _ _ _ hsw];refine zUx (zVv (zUx ?_));show wpAny _ X.A (do let _ <- comprehension (.DictComp kx vx [⟨tg,iter,ifs,0⟩] scope pos) scope X.env _ newDict false (eval iter X.env) (some (assign (.Name x pos') X.env))) _ _ s
 refine zUx (zVT (zWr (use:=some (assign (.Name x pos') X.env)) (Q:=fun _ s' => SP X zB D .next s') rfl hs hcl C.sc.kind C.sc.names
  (thn (hi zB s σ H _ I h) fun v s1 h1 => thn h1 fun itv s2 h2 => ?_)) (fun _ s' hq => zUz (zUz hq)) fun _ _ e => e)
 obtain ⟨it,fp,tn,J,H2,e,I2,T,st2,f2,hD⟩:=h2;subst e;obtain ⟨W,⟨m0,w0⟩,turn⟩:=hD s2.heap.objs.size (I2.hok.fresh (zU3 _))
 refine zD8 hu C hcalm I2 T st2 f2 c1 c2 (p.g _ _ _ _ _) (p.c _ _ _ _ _) (p.e _ _ _ _ _) (p2 _ _ _ _ _) (RR:=fun acc C r s' => compPost (model X.prog X.w) X.A X.xe (some (assign (.Name x pos') X.env)) (fun _ s' => SP X zB D .next s') acc C r s')
  (QQ:=fun H => zEB i (.ref s2.heap.objs.size) σ H D.nx) w0 turn ?_
 intro σc H' s' Ic qq;obtain ⟨m,hn,_⟩:=Ic.loc;have J':=zE2 (h':=s'.heap) I2 f2 Ic (.refl ..);obtain ⟨oC,es,ep,hoC,hdC,r1,r2⟩:=id hn;have nC : H' (s2.heap.objs.size + 1) = none:=Ic.free;have K' : Inv X (zB ++ [(s2.heap.objs.size + 1,oC)]) σ H' s':=J'.pins_of fun q hq => by
  rcases zVN.mp hq with z | z
  ·exact J'.pin q (zVH _ z)
  ·have e : q = (s2.heap.objs.size + 1,oC):=by simpa using z
   subst e;refine ⟨hoC,nC,Nat.ne_of_gt (zVm I2.lt),I2.nofs (zWf _),fun v z => ?_⟩;have z' : oC.data = .cell v:=z;rw [hdC] at z'; cases z'
 show wpAny _ X.A (assign (.Name x pos') X.env (.ref s2.heap.objs.size)) _ _ _;refine thn (zJC hN hi' hx hfn _ s' σ _ (.ref s2.heap.objs.size) (.ref s2.heap.objs.size) _ K' rfl qq) fun _ s'' ⟨σ'',H'',I'',q''⟩ => ?_;obtain ⟨eC,_⟩:=I''.pin (s2.heap.objs.size + 1,oC) (by simp);refine ⟨m,⟨oC,es,ep,eC,hdC,r1,r2⟩,fun h' hs' => ⟨σ'',H'',?_,q''⟩⟩;have I3 : Inv X zB σ'' H'' s'':=I''.unpinned;obtain ⟨_,nC'',neC,_,_⟩:=I''.pin (s2.heap.objs.size + 1,oC) (by simp);refine I3.turned (t':=s''.toks) (it:=s2.heap.objs.size + 1) (fun b o hb e => hs'.extBut b o hb e) nC'' neC (.inr (zVO I2.sz (zWf _))) (fun x c e z => ?_) (fun q hq z => ?_)
 ·obtain ⟨v,o,ho,hd⟩:=I3.cell x c e;rw [z,eC] at ho; cases ho;rw [hdC] at hd; cases hd
 ·obtain ⟨e,_⟩:=I2.pin q hq;exact zVI (zVm (zU8 e)) z
end
end L2
namespace L3
open PySem PySem.Spec PyProof.Rows L2
section
variable {X : Cx} {scope : Scope} {tg kx vx iter : Expr} {ifs : List Expr} {pos : Pos} {own : List Nat} {isT : Bool}
theorem zL6 (hN : X.N.Nodup) (hi' : X.N[i]? = some x) (hx : Loc X.env.scope x) (hfn : X.fn x = true \/ X.env.scope.names.lookup x = some .local)
  (hsw : swapsWith (.DictComp kx vx [⟨tg,iter,ifs,0⟩] scope pos) (some (.Name x pos')) pos''.line X.env = pure true)
  (hu : X.A.units + 1 < cLine) (hg : zFZ own g fg) (C : CompIn X scope own) (hcalm : X.calm = true) (hi : QI X tg iter fi) (p : QParts X scope tg ifs kx g tc tk) (p2 : ∀ zB cl s H fp,QE (zV X zB scope cl s H fp) vx tv) (hs : ∀ x,foldedSetIterable iter X.env x = pure x:=by intro _; rfl) :
  QS X (.Assign [.Name x pos'] (.DictComp kx vx [⟨tg,iter,ifs,0⟩] scope pos) pos'') (zAB i (zDY isT own fi fg tc tk tv)) :=
 .mk <| PS.imp (zHK (isT:=isT) hN hi' hx hfn hsw hu C hcalm hi.un p.parts (fun _ _ _ _ _ => (zK (p2 _ _ _ _ _)).un) hs) fun _ _ _ z => zG5 (fun _ _ _ z => zHb hg z) z
end
end L3
namespace L2
open PySem PySem.Spec PyProof.Rows
end L2
namespace L3
open PySem PySem.Spec PyProof.Rows L2
open SeqAt
def zFy (A : Around) (s : Shared) (x y : Value) (b : Bool) : Prop:=∀ (prog : Program) (w : World) (E Q : Value -> Shared -> Prop),Q (.bool b) s -> wpAny (model prog w) A (richCompare .Lt x y) Q E s
theorem zFy.ints (i : Int) (t : Tok) (j : Int) (u : Tok) : zFy A s (.int i t) (.int j u) (decide (i < j)):=fun prog w E Q q =>
 richCompare_gives (op:=.Lt) (typeIs_int s i t) (typeIs_int s j u) F.slot_int_lt F.entry_int_lt (F.args_int_lt_2 _ _) (gives_int_lt i j t u) (fun x => nomatch x) q
def zEX (e l : Nat -> Bool) (sz : Bool) : Nat -> Nat -> Bool
 | 0,_ => sz
 | m + 1,k => if e k then zEX e l sz m (k + 1) else l k
theorem zLk (a b : Addr) (xs ys : Array Value) (n1 n2 : Nat) (d1 d2 : Option Addr) (s1 s2 : Array (Option Value)) (e l : Nat -> Bool) :
  Meets (Builtin.«tuple.__lt__» ⟨[.ref a,.ref b],[]⟩)
   (fun A R s => s.heap.get? a = some { cls:=.type "tuple", dict:=d1,data:=.seq xs n1,slots:=s1 } /\ s.heap.get? b = some { cls:=.type "tuple", dict:=d2,data:=.seq ys n2,slots:=s2 } /\
    (∀ j (h1 : j < xs.size) (h2 : j < ys.size),EqAt A.in1 s xs[j] ys[j] (e j)) /\ (∀ j (h1 : j < xs.size) (h2 : j < ys.size),e j = false -> zFy A.in1 s xs[j] ys[j] (l j)) /\
    R (.ok (.ret (.bool (zEX e l (decide (xs.size < ys.size)) (min xs.size ys.size) 0)))) s) :=
 .of_wp fun prog w A R s h => by
  obtain ⟨hp,g,d,tk,os⟩:=s; obtain ⟨ha,hb,he,hl,q⟩:=h;have f2:=AutoSeq1.sub_tuple_tuple;have hZ : (xs.toList.zip ys.toList).length = min xs.size ys.size:=by simp
  wp_walk using wpAny_loadPart' ha,wpAny_loadPart' hb,wpAny_forIn_list _ (fun rest c s' => c.1 = none /\ s' = ⟨hp,g,d,tk,os⟩ /\ ∃ i,i <= min xs.size ys.size /\ rest = (xs.toList.zip ys.toList).drop i /\
   R (.ok (.ret (.bool (zEX e l (decide (xs.size < ys.size)) (min xs.size ys.size - i) i)))) ⟨hp,g,d,tk,os⟩) _
  case turn =>
   rintro ⟨y,x⟩ rest c s' ⟨hc,rfl,i,hi,hz,q⟩;have hlt : i < (xs.toList.zip ys.toList).length:=by
    rcases zWJ i (xs.toList.zip ys.toList).length with z | z
    ·exact z
    ·rw [List.drop_of_length_le z] at hz; cases hz
   have hm : i < min xs.size ys.size:=hZ ▸ hlt;have i1 : i < xs.size:=by omega
   have i2 : i < ys.size:=by omega
   rw [List.drop_eq_getElem_cons hlt] at hz;injection hz with hyx hrest
   have hy : y = xs[i]:=by have:=zWk Prod.fst hyx; simpa using this
   have hx : x = ys[i]:=by have:=zWk Prod.snd hyx; simpa using this
   subst hy hx;rw [show min xs.size ys.size - i = (min xs.size ys.size - (i + 1)) + 1 by omega,zEX] at q;refine zUx (he i i1 i2 prog w _ _ ?_);cases hq : e i with
   | true =>
    rw [hq,zVC rfl] at q;wp_walk;exact ⟨rfl,rfl,i + 1,by omega,hrest,q⟩
   | false =>
    rw [hq,zVF (by decide)] at q;refine wpAny_ite_split (fun _ => ?_) (fun z => absurd rfl z);show wpAny _ _ (rule _ >>= fun _ => richCompare .Lt xs[i] ys[i] >>= _) _ _ _;refine zUx (zWK (zUx (hl i i1 i2 hq prog w _ _ ?_)));wp_walk;exact ⟨_,rfl,q⟩
  case fin =>
   rintro ⟨c1,c2⟩ s' ⟨hc,rfl,i,hi,hz,q⟩;simp only at hc;subst hc;have hge : min xs.size ys.size <= i:=by
    rcases zWJ i (xs.toList.zip ys.toList).length with z | z
    ·rw [List.drop_eq_getElem_cons z] at hz; cases hz
    ·exact hZ ▸ z
   rw [show min xs.size ys.size - i = 0 by omega,zEX] at q;wp_walk;exact ⟨_,rfl,by simpa [Builtin.Tuple.tupleCompareSizes] using q⟩
  case h =>
   exact ⟨rfl,rfl,0,by omega,rfl,q⟩
theorem zFy.tuples (ha : s.heap.IsTuple a xs) (hb : s.heap.IsTuple b ys) (hu : A.units < cLine)
  (he : ∀ j (h1 : j < xs.size) (h2 : j < ys.size),EqAt A.in1 s xs[j] ys[j] (e j)) (hl : ∀ j (h1 : j < xs.size) (h2 : j < ys.size),e j = false -> zFy A.in1 s xs[j] ys[j] (l j)) :
  zFy A s (.ref a) (.ref b) (zEX e l (decide (xs.size < ys.size)) (min xs.size ys.size) 0):=fun prog w E Q q => by
 obtain ⟨⟨c1,d1,t1,s1⟩,o1,rfl,n1,rfl⟩:=id ha;obtain ⟨⟨c2,d2,t2,s2⟩,o2,rfl,n2,rfl⟩:=id hb;exact richCompare_meets_room (op:=.Lt) ⟨_,o1,rfl⟩ ⟨_,o2,rfl⟩ F.slot_tuple_lt F.entry_tuple_lt (F.args_tuple_lt_2 _ _) (zLk a b xs ys n1 n2 d1 d2 s1 s2 e l) ⟨o1,o2,he,hl,(fun x => nomatch x),q⟩ hu
section
variable {prog : Program} {w : World} {A : Around} {R : Result -> Shared -> Prop} {J : Addr} {fp wr : List Addr} {n : Nat} {P : Nat -> Value -> Prop} {St : Nat -> Heap -> Prop}
abbrev zIi (s0 : Shared) (h : Heap) : Prop:=∀ b o,s0.heap.get? b = some o -> h.get? b = some o
def zR5 (prog : Program) (w : World) (A : Around) (s0 : Shared) (P : Nat -> Value -> Prop) (bt : Nat -> Nat -> Bool) : Prop :=
 ∀ i j x y h t (Q E : Value -> Shared -> Prop),zIi s0 h -> P i x -> P j y -> Q (.bool (bt i j)) { s0 with heap:=h,toks:=t } -> wpAny (model prog w) A (richCompare .Lt x y) Q E { s0 with heap:=h,toks:=t }
theorem zFi : (toString "min" ++ toString ".loop" : String) = "min.loop" := by decide
theorem zQR (W : Walks prog w A.in1 J fp wr n P St) (bt : Nat -> Nat -> Bool) (cmp : zR5 prog w A.in1 s0 P bt) (S : Addr) (sf : S ∉ fp) (new : ∀ b o,s0.heap.get? b = some o -> b ∉ wr /\ b ≠ S) :
  ∀ (k j : Nat) (h : Heap) (t : Nat) (best : Value) (c : Nat),n - (j + 1) = k -> j + 1 <= n -> St (j + 1) h -> P (argBest bt j) best -> zIi s0 h ->
  h.get? S = some { cls:=.type "list", dict:=none,data:=.seq #[best,best] c,slots:=#[] } ->
  (∀ v h' t',P (argBest bt (n - 1)) v -> zIi s0 h' -> R (.ok (.ret v)) { s0 with heap:=h',toks:=t' }) ->
  codeAny (model prog w) A (.builtin "min.loop" ⟨[.ref J,.none,.ref S],[]⟩) R { s0 with heap:=h,toks:=t }:=by
 have sw : S ∉ wr:=fun z => sf (W.sub _ z);intro k;induction k with
 | zero =>
  intro j h t best c hk hj st pb ko hS q;have e : j + 1 = n:=by omega
  refine zV2 F.entry_min_loop ?_;rw [zVs F.plain_min_loop _];show wpAny _ A.in1 (seqItems? (.ref S) >>= _) _ _ { s0 with heap:=h,toks:=t };refine zUx (wpAny_seqItems (s:={ s0 with heap:=h,toks:=t }) hS rfl ?_);show wpAny _ A.in1 (tryCatch (pyNext (.ref J)) _ >>= _) _ _ _;refine zUx (wpAny_tryCatch (W.done { s0 with heap:=h,toks:=t } _ _ (e ▸ st) fun h1 t1 k1 => ?_));have hS1:=k1 S _ sw hS;show wpAny _ A.in1 (updateSeq S (fun _ => #[]) >>= _) _ _ _;refine zUx ?_;refine wpAny_updateSeq hS1 rfl (zUx (wpAny_letGo (zUz ?_)));exact q best _ t1 (by rw [<- e]; exact pb) fun b o eo => (zVe _ _ (Ne.symm (new b o eo).2)).trans (k1 b o (new b o eo).1 (ko b o eo))
 | succ k ih =>
  intro j h t best c hk hj st pb ko hS q;have lt : j + 1 < n:=by omega
  refine zV2 F.entry_min_loop ?_;rw [zVs F.plain_min_loop _];show wpAny _ A.in1 (seqItems? (.ref S) >>= _) _ _ { s0 with heap:=h,toks:=t };refine zUx (wpAny_seqItems (s:={ s0 with heap:=h,toks:=t }) hS rfl ?_);show wpAny _ A.in1 (tryCatch (pyNext (.ref J)) _ >>= _) _ _ _;refine zUx (wpAny_tryCatch (W.item (j + 1) { s0 with heap:=h,toks:=t } _ _ lt st fun v h1 t1 pv st1 k1 => ?_));have hS1:=k1 S _ sw hS;have ko1 : zIi s0 h1:=fun b o eo => k1 b o (new b o eo).1 (ko b o eo);show wpAny _ A.in1 (tryCatch (holding [v,v] (richCompare .Lt v best >>= _)) _ >>= _) _ _ { s0 with heap:=h1,toks:=t1 };refine zUx (wpAny_tryCatch (zVq (zUx (cmp (j + 1) (argBest bt j) v best h1 t1 _ _ ko1 pv pb ?_))));refine zUx (zVq (wpAny_truthy_bool ?_));refine zUx (wpAny_letGo (zUz ?_));cases hb : bt (j + 1) (argBest bt j) with
  | true =>
   simp only [if_true];refine zUx ?_;refine wpAny_updateSeq (s:={ s0 with heap:=h1,toks:=t1 }) hS1 rfl (zUx (wpAny_letGo ?_));rw [zFi];refine zUz ⟨plainId_quiet F.plain_min_loop _,ih (j + 1) _ t1 v _ (by omega) lt (W.frame _ _ _ st1 fun b hbf o e => (zVe _ _ (fun z : S = b => sf (by rw [z]; exact hbf))).trans e) (by simp only [argBest,hb,if_true]; exact pv) (fun b o eo => (zVe _ _ (Ne.symm (new b o eo).2)).trans (ko1 b o eo)) (zVk _ hS1 rfl) q⟩
  | false =>
   simp only [zVy,if_false];refine zUx (wpAny_letGo ?_);rw [zFi];exact zUz ⟨plainId_quiet F.plain_min_loop _,ih (j + 1) h1 t1 best c (by omega) lt st1 (by simp only [argBest,hb,zVy,if_false]; exact pb) ko1 hS1 q⟩
end
section
variable {prog : Program} {w : World} {A : Around} {E : Value -> Shared -> Prop} {s : Shared}
theorem zKo
  (h : wpAny (model prog w) A.in1 (pyIter x) (fun it s2 => ∃ J fp wr n P St bt h2,it = .ref J /\ s2 = { s with heap:=h2 } /\ Walks prog w A.in1 J fp wr n P St /\ St 0 h2 /\ zIi s h2 /\ (∀ b o,s.heap.get? b = some o -> b ∉ wr) /\ (∀ b ∈ fp,b < h2.objs.size) /\ 0 < n /\ zR5 prog w A.in1 s P bt /\
   ∀ v h' tk,P (argBest bt (n - 1)) v -> zIi s h' -> Q v { s with heap:=h',toks:=tk }) E s) :
  wpAny (model prog w) A (call (.builtin "min") [x]) Q E s:=by
 refine call_function_tree F.kind_min F.plain_min F.entry_min (F.args_min1 _) ?_;show wpAny _ A.in1 (Builtin.Builtins.bindParams "min" ["key", "default"] 0 ⟨[],[]⟩ >>= _) _ _ s;refine zUx (wpAny_of_eq (show Builtin.Builtins.bindParams "min" ["key", "default"] 0 ⟨[],[]⟩ = pure [none,none] from rfl) ?_);refine zUx (zUz ?_);refine zUx (zVT h (fun it s2 g => ?_) fun _ _ e => e);obtain ⟨J,fp,wr,n,P,St,bt,h2,rfl,rfl,W,st,ko,nw,hfp,n0,cmp,q⟩:=g;refine zUx (zVQ ?_);have sf : h2.objs.size ∉ fp:=fun hm => zVf _ (hfp _ hm);have sw : h2.objs.size ∉ wr:=fun z => sf (W.sub _ z);rw [zFi];generalize hH : h2.push { cls:=.type "list", data:=.seq ([] : List Value).toArray } = H;have kH : ∀ b u,h2.get? b = some u -> H.get? b = some u:=fun b u e => by rw [<- hH]; exact zUy _ e
 have hS : H.get? h2.objs.size = some { cls:=.type "list", data:=.seq ([] : List Value).toArray }:=by rw [<- hH]; exact zU7 _ rfl
 refine zUz ⟨plainId_quiet F.plain_min_loop _,?_⟩;refine zV2 F.entry_min_loop ?_;rw [zVs F.plain_min_loop _];show wpAny _ A.in1 (seqItems? (.ref h2.objs.size) >>= _) _ _ { s with heap:=H };refine zUx (wpAny_seqItems (s:={ s with heap:=H }) hS rfl ?_);show wpAny _ A.in1 (tryCatch (pyNext (.ref J)) _ >>= _) _ _ _;have st' : St 0 H:=W.frame _ _ _ st fun b _ o e => kH b o e;refine zUx (wpAny_tryCatch (W.item 0 { s with heap:=H } _ _ n0 st' fun v h1 t1 pv st1 k1 => ?_));have hS1:=k1 _ _ sw hS;show wpAny _ A.in1 (updateSeq h2.objs.size (fun _ => #[v,v]) >>= _) _ _ { s with heap:=h1,toks:=t1 };refine zUx ?_;refine wpAny_updateSeq (s:={ s with heap:=h1,toks:=t1 }) hS1 rfl ?_;rw [zFi];have nS : ∀ b o,s.heap.get? b = some o -> b ≠ h2.objs.size:=fun b o e => zVI (zU8 (ko b o e));refine zUz ⟨plainId_quiet F.plain_min_loop _,zQR (s0:=s) W bt cmp h2.objs.size sf (fun b o e => ⟨nw b o e,nS b o e⟩) _ 0 _ t1 v _ rfl n0 (W.frame _ _ _ st1 fun b hbf o e => (zVe _ _ (fun z : h2.objs.size = b => sf (by rw [z]; exact hbf))).trans e) pv (fun b o e => (zVe _ _ (Ne.symm (nS b o e))).trans (k1 b o (nw b o e) (kH b o (ko b o e)))) (zVk _ hS1 rfl) q⟩
end
abbrev NP:=Int × Int × Int
def npD (t : NP) : D:=.tup [.int t.1,.tup [.int t.2.1,.int t.2.2]]
def zSr : D -> Option NP
 | .tup [.int k,.tup [.int a,.int b]] => some (k,a,b)
 | _ => none
theorem zRA (h : zSr d = some t) : d = npD t:=by
 unfold zSr at h;split at h
 ·cases h; rfl
 ·cases h
def zIa : List D -> Option (List NP)
 | [] => some []
 | d :: r => match zSr d,zIa r with
  | some t,some ts => some (t :: ts)
  | _,_ => none
theorem zKm : ∀ {ds : List D} {ts : List NP},zIa ds = some ts -> ds = ts.map npD
 | [],ts,h => by cases h; rfl
 | d :: r,ts,h => by
  unfold zIa at h;split at h
  ·rename_i t ts' e1 e2;cases h;rw [zVG,zRA e1,zKm e2]
  ·cases h
theorem zI2 : ∀ ts : List NP,zIa (ts.map npD) = some ts
 | [] => rfl
 | t :: r => by rw [zVG,zIa,zI2 r]; rfl
def ltP (x y : NP) : Bool:=decide (x.1 < y.1 \/ (x.1 = y.1 /\ (x.2.1 < y.2.1 \/ (x.2.1 = y.2.1 /\ x.2.2 < y.2.2))))
section
variable {X : Cx} {zB : List (Addr × Obj)} {σ : L2.St} {H : Hp} {s : Shared} {L : List Addr}
theorem zMq (r : zZ L H [x,y] vs) : ∃ v1 v2,vs = [v1,v2] /\ Rep L H x v1 /\ Rep L H y v2:=r.two
theorem zJO (r : zo [v1,v2] its) : ∃ u1 u2,its = [u1,u2] /\ zx v1 u1 /\ zx v2 u2:=by
 have hl:=r.length;obtain ⟨u1,e1,r1⟩:=r.get (i:=0) rfl;obtain ⟨u2,e2,r2⟩:=r.get (i:=1) rfl;match its,hl,e1,e2 with
 | [a,b],_,e1,e2 => cases e1; cases e2; exact ⟨_,_,rfl,r1,r2⟩
 | [],hl,_,_ => cases hl
 | [_],hl,_,_ => cases hl
 | _ :: _ :: _ :: _,hl,_,_ => simp at hl
theorem zNW (I : Inv X zB σ H s) (hu : A.units + 1 < cLine) (rx : Rep L H (.tup [.int a,.int b]) v) (ry : Rep L H (.tup [.int c,.int d]) w) (ru : zx v u) (ru' : zx w u') : zFy A s u u' (decide (a < c \/ (a = c /\ b < d))):=by
 unfold Rep at rx ry;obtain ⟨p,vs,rfl,e,r⟩:=rx;obtain ⟨q,ws,rfl,e2,r2⟩:=ry;cases ru;cases ru';obtain ⟨v1,v2,rfl,t1,t2⟩:=zMq r;obtain ⟨w1,w2,rfl,t3,t4⟩:=zMq r2;unfold Rep at t1 t2 t3 t4;subst t1; subst t2; subst t3; subst t4;obtain ⟨its,rv,p1,_⟩:=I.tuple (.of e);obtain ⟨its2,rv2,p2,_⟩:=I.tuple (.of e2);obtain ⟨u1,u2,rfl,⟨k1,rfl⟩,⟨k2,rfl⟩⟩:=zJO rv;obtain ⟨u3,u4,rfl,⟨k3,rfl⟩,⟨k4,rfl⟩⟩:=zJO rv2;have key:=zFy.tuples (A:=A) (s:=s) (e:=fun j => if j = 0 then a == c else b == d) (l:=fun j => if j = 0 then decide (a < c) else decide (b < d)) p1 p2 (by omega) (fun j h1 h2 => by
  match j,h1,h2 with
  | 0,_,_ => exact EqAt.int_int a k1 c k3
  | 1,_,_ => exact EqAt.int_int b k2 d k4
  | j + 2,h1,_ => simp at h1; omega) (fun j h1 h2 _ => by
  match j,h1,h2 with
  | 0,_,_ => exact zFy.ints a k1 c k3
  | 1,_,_ => exact zFy.ints b k2 d k4
  | j + 2,h1,_ => simp at h1; omega)
 have ev : zEX (fun j => if j = 0 then a == c else b == d) (fun j => if j = 0 then decide (a < c) else decide (b < d)) (decide (2 < 2)) (min 2 2) 0 = decide (a < c \/ (a = c /\ b < d)):=by
  show (if (a == c) = true then (if (b == d) = true then false else decide (b < d)) else decide (a < c)) = _;by_cases h1 : a = c
  ·subst h1;rw [zVC (by simp)];by_cases h2 : b = d
   ·subst h2; rw [zVC (by simp)]; simp
   ·rw [zVF (by simpa using h2)]; simp
  ·rw [zVF (by simpa using h1)];exact decide_eq_decide.mpr ⟨.inl,fun h => h.elim id fun z => absurd z.1 h1⟩
 rw [<- ev]; exact key
theorem zRV (I : Inv X zB σ H s) (hu : A.units + 2 < cLine) (rx : Rep L H (npD x) v) (ry : Rep L H (npD y) w) (ru : zx v u) (ru' : zx w u') : zFy A s u u' (ltP x y):=by
 obtain ⟨k,a,b⟩:=x;obtain ⟨k',c,d⟩:=y;unfold npD Rep at rx ry;obtain ⟨p,vs,rfl,e,r⟩:=rx;obtain ⟨q,ws,rfl,e2,r2⟩:=ry;cases ru;cases ru';obtain ⟨v1,v2,rfl,t1,t2⟩:=zMq r;obtain ⟨w1,w2,rfl,t3,t4⟩:=zMq r2;unfold Rep at t1 t3;subst t1; subst t3;obtain ⟨its,rv,p1,_⟩:=I.tuple (.of e);obtain ⟨its2,rv2,p2,_⟩:=I.tuple (.of e2);obtain ⟨u1,u2,rfl,⟨k1,rfl⟩,z2⟩:=zJO rv;obtain ⟨u3,u4,rfl,⟨k3,rfl⟩,z4⟩:=zJO rv2;have hu1 : A.in1.units + 1 < cLine:=by show A.units + 1 + 1 < cLine; omega
 have he:=zNo I 1 A.in1 (.tup [.int a,.int b]) (.tup [.int c,.int d]) v2 w2 u2 u4 hu1 rfl rfl t2 t4 z2 z4;have hl:=zNW I hu1 t2 t4 z2 z4;have key:=zFy.tuples (A:=A) (s:=s) (e:=fun j => if j = 0 then k == k' else zEH 1 (.tup [.int a,.int b]) (.tup [.int c,.int d])) (l:=fun j => if j = 0 then decide (k < k') else decide (a < c \/ (a = c /\ b < d))) p1 p2 (by omega) (fun j h1 h2 => by
  match j,h1,h2 with
  | 0,_,_ => exact EqAt.int_int k k1 k' k3
  | 1,_,_ => exact he
  | j + 2,h1,_ => simp at h1; omega) (fun j h1 h2 _ => by
  match j,h1,h2 with
  | 0,_,_ => exact zFy.ints k k1 k' k3
  | 1,_,_ => exact hl
  | j + 2,h1,_ => simp at h1; omega)
 have ev : zEX (fun j => if j = 0 then k == k' else zEH 1 (.tup [.int a,.int b]) (.tup [.int c,.int d])) (fun j => if j = 0 then decide (k < k') else decide (a < c \/ (a = c /\ b < d))) (decide (2 < 2)) (min 2 2) 0 = ltP (k,a,b) (k',c,d):=by
  show (if (k == k') = true then (if zEH 1 (.tup [.int a,.int b]) (.tup [.int c,.int d]) = true then false else decide (a < c \/ (a = c /\ b < d))) else decide (k < k')) = _;unfold ltP;have he2 : zEH 1 (.tup [.int a,.int b]) (.tup [.int c,.int d]) = decide (a = c /\ b = d):=by
   simp [zEH]
  rw [he2];by_cases h1 : k = k'
  ·subst h1;rw [zVC (by simp)];by_cases h2 : a = c /\ b = d
   ·obtain ⟨rfl,rfl⟩:=h2;simp
   ·rw [zVF (by simpa using h2)];exact decide_eq_decide.mpr (by dsimp only; constructor <;> intro h <;> omega)
  ·rw [zVF (by simpa using h1)];exact decide_eq_decide.mpr (by dsimp only; constructor <;> intro h <;> omega)
 rw [<- ev]; exact key
end
def zB5 : NP -> List NP -> NP
 | m,[] => m
 | m,x :: r => zB5 (if ltP x m then x else m) r
theorem zQU (ts : List NP) (d : NP) : ∀ k,k < ts.length -> ts.getD (argBest (fun i j => ltP (ts.getD i d) (ts.getD j d)) k) d = zB5 (ts.getD 0 d) ((ts.drop 1).take k) /\ argBest (fun i j => ltP (ts.getD i d) (ts.getD j d)) k <= k:=by
 intro k;have snoc : ∀ (r : List NP) (m x : NP),zB5 m (r ++ [x]) = if ltP x (zB5 m r) then x else zB5 m r:=by
  intro r;induction r with
  | nil => intro m x; rfl
  | cons y r ih => intro m x; show zB5 (if ltP y m then y else m) (r ++ [x]) = _; rw [ih]; rfl
 induction k with
 | zero => intro _; exact ⟨by simp [argBest,zB5],zU3 _⟩
 | succ k ih =>
  intro hk;obtain ⟨h1,h2⟩:=ih (by omega);have ht : (ts.drop 1).take (k + 1) = (ts.drop 1).take k ++ [ts.getD (k + 1) d]:=by
   have hlt : k < (ts.drop 1).length:=by rw [zXQ]; omega
   rw [List.take_succ_eq_append_getElem hlt,List.getElem_drop,zU2,zU1 (by omega)];simp [Nat.add_comm]
  have ha : argBest (fun i j => ltP (ts.getD i d) (ts.getD j d)) (k + 1) = if ltP (ts.getD (k + 1) d) (ts.getD (argBest (fun i j => ltP (ts.getD i d) (ts.getD j d)) k) d) then k + 1 else argBest (fun i j => ltP (ts.getD i d) (ts.getD j d)) k:=rfl
  rw [ht,snoc,<- h1,ha];by_cases hb : ltP (ts.getD (k + 1) d) (ts.getD (argBest (fun i j => ltP (ts.getD i d) (ts.getD j d)) k) d) = true
  ·rw [zVC hb,zVC hb]; exact ⟨rfl,zU3 _⟩
  ·rw [zVF hb,zVF hb]; exact ⟨rfl,by omega⟩
section
variable {X : Cx} {e : Expr} {pos p : Pos}
theorem zN2 (hc : X.calm = true) (hu : X.A.units + 1 + 3 < cLine) : zCQ X (.builtin "min") (fun xs H Q => ∃ (b : Bool) (a : Addr) (L : List Addr) (vs : List V) (ts : List NP),xs = [.ref a] /\ SqG X.K b H a vs /\ zZ L H (ts.map npD) vs /\ 0 < ts.length /\ ∀ (i : Nat) v,vs[i]? = some v -> ts[i]? = some (zB5 (ts.getD 0 (0,0,0)) (ts.drop 1)) -> Q v H):=by
 intro zB s σ H xs us Q I r h;obtain ⟨b,a,L,vs,ts,rfl,hs,hr,n0,q⟩:=h;obtain ⟨u,rfl,ru⟩:=zD7 r;cases ru;obtain ⟨its,rv,p1⟩:=zOi I hs;have hvl : vs.length = ts.length:=by have:=hr.length; simpa using this
 have hl : its.toArray.size = ts.length:=by have:=rv.length; simp at this ⊢; omega
 have hlt:=zUA p1;have hfp : ∀ c ∈ [s.heap.objs.size,a],c < (s.heap.push (itO b a)).objs.size:=fun c hc' => by
  rw [zVd];simp only [zU9,zVS,or_false] at hc';rcases hc' with rfl | rfl
  ·exact zVu _
  ·exact zVm hlt
 have st : SI b (s.heap.push (itO b a)) s.heap.objs.size a 0 /\ SO b (s.heap.push (itO b a)) a its.toArray:=⟨zR4 (zU7 _ rfl),p1.keep fun o e => zUy _ e⟩;have item : ∀ (i : Nat) (x : Value),its.toArray[i]? = some x -> ∃ t v,ts[i]? = some t /\ vs[i]? = some v /\ Rep L H (npD t) v /\ zx v x:=fun i x hx => by
  have hx' : its[i]? = some x:=by simpa using hx
  have hi : i < ts.length:=by have:=(Array.getElem?_eq_some_iff.mp hx).1; omega
  obtain ⟨v,hv,rt⟩:=hr.get (i:=i) (by rw [zVK,zU1 hi]; rfl);obtain ⟨y,hy,ry⟩:=rv.get hv;rw [hx'] at hy; cases hy;exact ⟨ts[i],v,zU1 hi,hv,rt,ry⟩
 have hub : X.A.in1.units + 2 < cLine:=by show X.A.units + 1 + 2 < cLine; omega
 refine zKo (zOO p1 ⟨s.heap.objs.size,[s.heap.objs.size,a],[s.heap.objs.size],its.toArray.size,fun i v => its.toArray[i]? = some v,fun i h => SI b h s.heap.objs.size a i /\ SO b h a its.toArray,fun i j => ltP (ts.getD i (0,0,0)) (ts.getD j (0,0,0)),_,rfl,rfl,zLW (A:=X.A.in1) (I.ok.hd hc) b _ a (zVI hlt) its.toArray,st,fun c o e => zUy _ e,fun c o e z => absurd (zU8 e) (by rw [zVP.mp z]; exact zVf _),hfp,by omega,?_,fun v h' tk hP hk => ?_⟩)
 ·intro i j x y h t Q' E' ko hx hy q';obtain ⟨t1,v1,ht1,_,r1,w1⟩:=item i x hx;obtain ⟨t2,v2,ht2,_,r2,w2⟩:=item j y hy;have:=zRV (I.kept (t':=t) ko) hub r1 r2 w1 w2 X.prog X.w E' Q';refine this ?_;dsimp only at q';rw [zU2,zU2,ht1,ht2] at q';exact q'
 ·obtain ⟨t,v',ht,hv,rt,rx⟩:=item _ v hP;obtain ⟨h1,h2⟩:=zQU ts (0,0,0) (its.toArray.size - 1) (by omega);refine ⟨v',H,I.kept hk,rx,q _ v' hv ?_⟩;rw [ht];rw [zU2,ht] at h1;rw [List.take_of_length_le (by rw [zXQ]; omega)] at h1;rw [<- h1]; rfl
def zGa : KB:=fun xs M => match xs with
 | [x] => match zAZ M x with
  | some ds => match zIa ds with
   | some (t :: ts) => some (.dat (npD (zB5 t ts)),M)
   | _ => none
  | none => none
 | _ => none
theorem zId : ∀ (r : List NP) (m : NP),zB5 m r ∈ m :: r
 | [],m => by simp [zB5]
 | x :: r,m => by
  unfold zB5;have:=zId r (if ltP x m then x else m);rcases zU9.mp this with h | h
  ·rw [h]; split <;> simp
  ·simp [h]
theorem zPx {K : PySem.W.Frag} {L : List Addr} {M : Mem} {H H0 : Hp} {x : EV} {v : V} {xs : List D} (c : Cor K L M H) (r : zr H0 L H x v) (h : zAZ M x = some xs) : ∃ b a vs,v = .ref a /\ SqG K b H a vs /\ zZ L H xs vs:=by
 unfold zAZ at h;cases t : zDC x with
 | some zs =>
  rw [t] at h; cases h;obtain ⟨a,ws,rfl,e2,r2⟩:=zBo r t;exact ⟨true,a,ws,rfl,.of e2,r2⟩
 | none =>
  rw [t] at h;obtain ⟨a,ws,rfl,e2,r2⟩:=zBS c r h;exact ⟨false,a,ws,rfl,.inl e2,r2⟩
theorem zQP {K : PySem.W.Frag} : zF0 K (fun xs H Q => ∃ (b : Bool) (a : Addr) (L : List Addr) (vs : List V) (ts : List NP),xs = [.ref a] /\ SqG K b H a vs /\ zZ L H (ts.map npD) vs /\ 0 < ts.length /\ ∀ (i : Nat) v,vs[i]? = some v -> ts[i]? = some (zB5 (ts.getD 0 (0,0,0)) (ts.drop 1)) -> Q v H) zGa:=by
 intro L M M' H H0 xs d vs Q c r hk q;unfold zGa at hk;split at hk
 ·rename_i x;split at hk
  ·rename_i ds e1;split at hk
   ·rename_i t ts e2;cases hk;obtain ⟨v,rfl,r1⟩:=r.one;obtain ⟨b,a,ws,rfl,hq,rr⟩:=zPx c r1 e1;have ed:=zKm e2;subst ed;refine ⟨b,a,L,ws,t :: ts,rfl,hq,rr,by simp,fun i v hv ht => ?_⟩;refine q L H _ (.refl L H) c ?_;obtain ⟨v',hv',rt⟩:=rr.get (show ((t :: ts).map npD)[i]? = some (npD (zB5 t ts)) by rw [zVK,ht]; rfl);rw [hv] at hv'; cases hv';exact rt
   ·cases hk
  ·cases hk
 ·cases hk
theorem zSJ (hcalm : X.calm = true) (hu : X.A.units + 1 + 3 < cLine) (hg : Gl X "min") (hm : X.mg "min" = none) (ha : QAE X [e] fa) (he : starEach [e] X.env = (false,eval e X.env) :: starEach [] X.env:=by rfl) (hpl : (backTo pos (starEach [] X.env)).any (·.1) = false:=by rfl) : QE X (.Call (.Name "min" p) [e] [] pos) (fB zGa fa) :=
 zDo zQP (zN2 hcalm hu) (by rfl) hg hm ha (by decide) (by decide) he hpl
end
structure Df (K : PySem.W.Frag) (mg : Str -> Option Value) (x : Str) (st : Stmt) (ps : List Str) where
 f : Addr
 fd : FuncData
 F : Fun K x x st f fd
 b : zHI K fd ps []
 m : mg x = some (.ref f)
structure Dg (K : PySem.W.Frag) (x : Str) (st : Stmt) where
 f : Addr
 {od an : Option Addr}
 {sl : Array (Option Value)}
 {oc kV dc pm cd ct : Value}
 a : PySem.W.nsIn K mainGlobals x = some (some (.ref f))
 l : K.lookup f = some ⟨oc,od,.func (PySem.W.fnOf x x (zEv st) (zDN st) (zT st) .none kV dc pm an cd ct),sl⟩
 c : PySem.W.codeIn K cd x = true
 k : PySem.W.keepIn K (.ref f) = true
abbrev Dg.df {K : PySem.W.Frag} {x : Str} {st : Stmt} {ps : List Str} {h : Heap} {mg : Str -> Option Value} (g : Dg K x st) (X : K.In h) (G : h.Ns mainGlobals mg)
  (hb : ∀ (kV doc pm : Value) (an : Option Addr) (cdv ct : Value) (us : List Value),us.length = ps.length -> bindArgs (PySem.W.fnOf x x (zEv st) (zDN st) (zT st) .none kV doc pm an cdv ct) ⟨us,[]⟩ = pure (ps.zip us)) : Df K mg x st ps :=
 ⟨g.f,_,zP2 g.l g.c g.k,(zP2 g.l g.c g.k).binds hb,PySem.W.mg_of X G g.a⟩
abbrev Od (P : Program) (w : World) (base : Heap) (k : Nat) {K : PySem.W.Frag} {mg : Str -> Option Value} {x : Str} {st : Stmt} {ps : List Str} (d : Df K mg x st ps) (m : FF) : Prop:=FnOk P w K mg base CX0 k d.f d.fd ps (spF K ps.length m)
abbrev Zn (K : PySem.W.Frag) (x : Str) : Prop:=PySem.W.nsIn K mainGlobals x = some none
abbrev Ki (K : PySem.W.Frag) (t T : String) (b : Bool) : Prop:=PySem.W.kitOne K (.type t) (.type T) = some b
theorem zJL {P : List Value -> Prop} (h : ∀ a,P [a]) : ∀ us : List Value,us.length = 1 -> P us
 | [a],_ => h a
theorem zLy {P : List Value -> Prop} (h : ∀ a b,P [a,b]) : ∀ us : List Value,us.length = 2 -> P us
 | [a,b],_ => h a b
theorem zKl {P : List Value -> Prop} (h : ∀ a b c,P [a,b,c]) : ∀ us : List Value,us.length = 3 -> P us
 | [a,b,c],_ => h a b c
theorem zUX {P : List Value -> Prop} (h : ∀ a b c d,P [a,b,c,d]) : ∀ us : List Value,us.length = 4 -> P us
 | [a,b,c,d],_ => h a b c d
section
variable {X : Cx} {e : Expr} {es : List Expr} {pos p : Pos} {x : Str} {k : Nat} {st : Stmt} {ps : List Str}
theorem zAn {d : Df X.K X.mg x st ps} (F : FnOk X.prog X.w X.K X.mg X.base CX0 k d.f d.fd ps (spF X.K (e :: es).length g)) (hr : Room k X.A) (hg : Gl X x)
  (ha : QA X (e :: es) fa) (hl : ∀ σ M ds M1,fa σ M = some (ds,M1) -> ds.length = (e :: es).length) (hdb : (x == ("__debug__" : Str)) = false) (he : starEach (e :: es) X.env = (false,eval e X.env) :: starEach es X.env) (hpl : (backTo pos (starEach es X.env)).any (·.1) = false) :
  QE X (.Call (.Name x p) (e :: es) [] pos) (zb g fa):=zSx F hr hg d.m d.F.kp d.b ha hl hdb he hpl
theorem zAu (hN : X.N.Nodup) (hi : X.N[i]? = some x) (h : QE X e f) (hx : Loc X.env.scope x:=by first | exact Or.inl rfl | exact Or.inr rfl) (hs : swapsWith e (some (.Name x pos')) pos.line X.env = pure false:=by rfl)
  (hf : X.fn x = true \/ X.env.scope.names.lookup x = some .local:=by first | exact .inl rfl | exact .inr rfl | assumption) : QS X (.Assign [.Name x pos'] e pos) (zAB i f):=zT1 hN hi hx h hs hf
theorem zAL (hN : X.N.Nodup) (hi : X.N[i]? = some x) (hx : Loc X.env.scope x:=by first | exact Or.inl rfl | exact Or.inr rfl) (hf : X.fn x = true \/ X.env.scope.names.lookup x = some .local:=by first | exact .inl rfl | exact .inr rfl | assumption) : PG X (.Name x pos) (zEB i):=zJC hN hi hx hf
end
section
variable {prog : Program} {w : World} {K : Type} [DecidableEq K] {knd : HeapKind prog w K} {A : Around} {E : Value -> Shared -> Prop} {s : Shared}
theorem zKu (hu : knd.room A) (hkey : knd.is s.heap k a) (hm : s.heap.DictOfH knd d xs) (hz : xs.length <= sizeLine)
  (h1 : ∀ u,(atKey xs k).map (·.2) = some u -> Q u { s with toks:=s.toks + knd.draws k })
  (h2 : (atKey xs k).map (·.2) = none -> ∀ h',h'.DictOfH knd d (storedH xs k a v) -> Heap.SameBut d s.heap h' -> Q v { s with heap:=h',toks:=s.toks + knd.draws k }) :
  wpAny (model prog w) A (dictSetDefault d (.ref a) v) Q E s:=by
 obtain ⟨o,es,ep,ho,hc,hd,he,his,hn⟩:=hm;unfold dictSetDefault;try with_reducible refine zVq ?_
 refine zUx (knd.pyHash hu hkey (zUx (wpAny_dictFind_heap (s:={ s with toks:=s.toks + knd.draws k }) hu hkey ho hd he his hn (fun hno => ?_) fun j p hj => ?_)))
 ·have ha:=atKey_none_of_get hno;have hnot : k ∉ xs.map (·.1):=not_mem_keys_of_get hno;refine zUx (zWK (zUx (wpAny_updateDictKeys (hz:=by have e:=size_of_entries he; omega) (s:={ s with toks:=s.toks + knd.draws k }) ho hd (zUz (h2 (by rw [ha]; rfl) _ ⟨_,_,ep + 1,zVk _ ho (Obj.isFreed_of_dict (Obj.data_mapDictKeys hd _)),hc.mapDictKeys _,Obj.data_mapDictKeys hd _,?_,?_,?_⟩ (zV0 ..))))));all_goals rw [storedH_new ha]
  ·simp [he,entryOfKey]
  ·intro x hx;rcases zVN.mp hx with q | q
   ·exact knd.keeps (his x q) ho hd (zV0 ..)
   ·simp only [zVP] at q;subst q;exact knd.keeps hkey ho hd (zV0 ..)
  ·rw [zVp,zWB];refine ⟨hn,by simp,fun x hx y hy => ?_⟩;simp only [zVG,List.map_nil,zVP] at hy;subst hy;exact fun e => hnot (e ▸ hx)
 ·have ha:=atKey_of_get hn hj;refine zUx (wpAny_dictEntries (s:={ s with toks:=s.toks + knd.draws k }) ho hd ?_);rw [entry_at he j,hj];exact zUx (zWK (zUz (h1 p.2 (by rw [ha]; rfl))))
theorem zH7 (hd : (d == sysModules) = false) (v : Value) :
  MeetsIn prog w (Builtin.«dict.setdefault» ⟨[.ref d,.ref a,v],[]⟩) (fun A R s => knd.room A.in1 /\ ∃ k xs,knd.is s.heap k a /\ s.heap.DictOfH knd d xs /\ xs.length <= sizeLine /\
   (∀ u,(atKey xs k).map (·.2) = some u -> R (.ok (.ret u)) { s with toks:=s.toks + knd.draws k }) /\
   ((atKey xs k).map (·.2) = none -> ∀ h',h'.DictOfH knd d (storedH xs k a v) -> Heap.SameBut d s.heap h' -> R (.ok (.ret v)) { s with heap:=h',toks:=s.toks + knd.draws k })) :=
 .of_wp fun A R s ⟨hu,k,xs,hkey,hm,hz,h1,h2⟩ => by
  unfold Builtin.«dict.setdefault»;refine zUx ?_;unfold Builtin.Dict.keyAndDefault;refine zUx (wpAny_notOrdered_dict hm.typeIs ?_);show wpAny _ _ (pure (d,Value.ref a,some v)) _ _ s;refine zUz ?_;show wpAny _ _ (if (d == sysModules) = true then _ else (dictSetDefault d (.ref a) v >>= _)) _ _ s;rw [zVF (by rw [hd]; decide)];exact zUx (zKu hu hkey hm hz (fun u hv => zUz ⟨u,rfl,h1 u hv⟩) fun hn h' hm' hs' => zUz ⟨v,rfl,h2 hn h' hm' hs'⟩)
end
section
variable {X : Cx} {zB : List (Addr × Obj)} {σ : L2.St} {H : Hp} {s : Shared} {a : Addr} {y v : V} {u r : Value} {A : Around} {E : Value -> Shared -> Prop}
theorem zQH (hu : A.units + 1 < cLine) (I : Inv X zB σ H s) (e : H a = some (.dT kvs)) (eb : H b = some (.tup (k.map kV))) (hl : kvs.length < sizeLine) (rv : zx v r)
  (h1 : ∀ x,zDA kvs k = some x -> ∀ w' s',Inv X zB σ H s' -> zx x w' -> Q w' s') (h2 : zDA kvs k = none -> ∀ s',Inv X zB σ (upd H a (.dT (zDB kvs k v))) s' -> Q r s') :
  wpAny (model X.prog X.w) A (call (.builtin "dict.setdefault") [.ref a,.ref b,r]) Q E s:=by
 obtain ⟨z,hd,xs,rel,dd⟩:=zPc I.hok e;have hz : xs.length <= sizeLine:=by rw [<- Paired.length rel]; exact z
 refine call_meetsIn PySem.F.slot_dict_setdefault dd.typeIs PySem.F.entry_dict_setdefault (PySem.F.args_dict_setdefault_3 _ _ _) (zH7 (knd:=tupleKind (zAs X.prog X.w)) hd r) ⟨tupleKind_room_in1 hu,k,xs,zEP I.hok eb,dd,hz,fun u' hu' => ?_,fun hn h' dd' hs => ?_⟩
 ·have rl:=rel.val k;rw [hu'] at rl;cases hv : zDA kvs k with
  | none => rw [hv] at rl; cases rl
  | some x =>
   rw [hv] at rl;exact h1 x hv _ _ (I.tok _) rl
 ·have rl:=rel.val k;rw [hn] at rl;cases hv : zDA kvs k with
  | some x => rw [hv] at rl; cases rl
  | none =>
   refine h2 hv _ ?_;have hl' : (zDB kvs k v).length <= sizeLine:=by have:=zCT kvs k v; omega
   obtain ⟨q,es,ep,hq,q2,q3,q4,_,q5⟩:=dd';refine zFP I (by rw [e]; exact True.intro) hs ⟨q,hq⟩ ⟨hl',hd,_,(rel.put k eb rv).keeps fun c ys ec => ?_,q,es,ep,hq,q2,q3,q4,q5⟩;rw [zk (zG3 ec e (fun z => nomatch z))];exact ec
end
def zRT (td ty tx : TE) : TE:=fun σ H Q => td σ H fun x H1 => ∃ a,x = .ref a /\ IsD H1 a /\ ty σ H1 fun y H2 => tx σ H2 fun z H3 => ∃ kvs k b,H3 a = some (.dT kvs) /\ y = .ref b /\ H3 b = some (.tup (k.map kV)) /\ kvs.length < sizeLine /\ (∀ v,zDA kvs k = some v -> Q v H3) /\ (zDA kvs k = none -> Q z (upd H3 a (.dT (zDB kvs k z))))
section
variable {X : Cx} {e o i : Expr} {apos cpos : Pos} {td ty tx : TE} {f g h : FE}
theorem zNI (hu : X.A.units + 1 < cLine) (ho : PE X o td) (he : PE X i ty) (hf : PE X e tx) (m : M2 X o "setdefault" apos i e cpos) : PE X (.Call (.Attribute o "setdefault" apos) [i,e] [] cpos) (zRT td ty tx):=by
 intro zB s σ H Q I q;refine wpAny_Call_method m.base m.few m.line PySem.F.plainAttrs_dict PySem.F.slot_dict_setdefault PySem.F.type_dict_setdefault (thn (ho zB s σ H _ I q) fun u s1 ⟨x,H1,I1,rx,a,ex,d,q1⟩ => ?_);subst ex;obtain rfl : u = Value.ref a:=rx;obtain ⟨t1,t2,_⟩:=zPC I1 d;refine ⟨t1,t2,?_⟩;rw [m.trees];refine Calls.callWith_builtin rfl (Calls.evalArgs_plain (zWF (thn (he zB s1 σ H1 _ I1 q1) fun iv s2 ⟨y,H2,I2,ry,q2⟩ => zWF (thn (hf zB s2 σ H2 _ I2 q2) fun fv s3 ⟨z,H3,I3,rz,kvs,k,b,e3,ey,eb,hl,qa,qb⟩ => Calls.spliced_nil ?_))));subst ey;cases (show iv = Value.ref b from ry);exact zQH hu I3 e3 eb hl rz (fun v hv w' s4 I4 rw' => ⟨v,H3,I4,rw',qa v hv⟩) fun hn s4 I4 => ⟨z,_,I4,rz,qb hn⟩
def zCK (fo fi fx : FE) : FE:=fun σ M => match toD fo σ M with
 | some (.ref n,M1) => match M1[n]? with
  | some (.dicT _) => match toD fi σ M1 with
   | some (k,M2) => match toD fx σ M2 with
    | some (x,M3) => match M3[n]?,tkD k with
     | some (.dicT kvs),some kk => if kvs.length < sizeLine then match zEF tkD kvs kk with
       | some v => some (.dat v,M3)
       | none => some (.dat x,M3.set n (.dicT (zH3 tkD kvs kk k x))) else none
     | _,_ => none
    | none => none
   | none => none
  | _ => none
 | _ => none
theorem zOa (hu : X.A.units + 1 < cLine) (ho : QE X o f) (hi : QE X i g) (hx : QE X e h) (m : M2 X o "setdefault" apos i e cpos) : QE X (.Call (.Attribute o "setdefault" apos) [i,e] [] cpos) (zCK f g h) :=
 .mk <| PE.imp (zNI hu (zK ho).un (zK hi).un (zK hx).un m) fun τ H Q zz => by
  obtain ⟨L,σ,M,d,M',c,rs,hf,q⟩:=zz;unfold zCK at hf;split at hf
  ·rename_i n M1 e1;split at hf
   ·rename_i kvs0 e0;split at hf
    ·rename_i k M2 e2;split at hf
     ·rename_i x M3 e3;split at hf
      ·rename_i kvs kk e4 e5;split at hf
       ·rename_i hl;refine ⟨L,σ,M,_,_,c,rs,e1,fun L1 H1 u s1 c1 r1 => ?_⟩;unfold Rep at r1;obtain ⟨a,rfl,ea⟩:=r1;refine ⟨a,rfl,?_,L1,σ,M1,_,_,c1,rs.stp s1,e2,fun L2 H2 y s2 c2 r2 => ⟨L2,σ,M2,_,_,c2,(rs.stp s1).stp s2,e3,fun L3 H3 z s3 c3 r3 => ?_⟩⟩
        ·obtain ⟨vs,q5,_⟩:=c1.obj n a _ ea e0; exact .inr ⟨vs,.inl q5⟩
        have ea3 : L3[n]? = some a:=by obtain ⟨N,hN⟩:=(s2.trans s3).pre; rw [hN]; exact zB0 ea
        obtain ⟨vs,q5,r⟩:=c3.obj n a _ ea3 e4;obtain ⟨b,rfl,eb⟩:=zLt (r2.stp s3) e5;refine ⟨vs,kk,b,q5,rfl,eb,by rw [r.length]; exact hl,fun v hv => ?_,fun hv => ?_⟩
        ·rcases zEd kk r with ⟨h1,h2⟩ | ⟨d',v',h1,h2,h3⟩
         ·rw [h2] at hv; cases hv
         ·rw [h1] at hf;rw [h2] at hv;cases hf; cases hv;exact q L3 H3 _ ((s1.trans s2).trans s3) c3 h3
        ·rcases zEd kk r with ⟨h1,h2⟩ | ⟨d',v',h1,h2,h3⟩
         ·rw [h1] at hf;cases hf;obtain ⟨c4,s4⟩:=c3.put (m:=.dicT (zH3 tkD kvs kk k x)) (o':=.dT (zDB vs kk z)) ea3 q5 (fun _ z => by cases z) (fun _ _ z => by cases z) fun s4 => ⟨_,zAg,(zJJ e5 r3 r).stp s4⟩;exact q L3 _ _ (((s1.trans s2).trans s3).trans s4) c4 (r3.stp s4)
         ·rw [h2] at hv; cases hv
       ·cases hf
      ·cases hf
     ·cases hf
    ·cases hf
   ·cases hf
  ·cases hf
end
end L3
namespace Law
open PySem PySem.Spec PyProof.Rows L2 L3
noncomputable def zEe : FS:=(za (zAB 1 (fOp zAt (fB zBq (zg (zD 0) zAC)) (fC (.int 3))))
  (za (zCG (zAW (fSl (zD 0) zEz (zEZ (fC (.int 63))))) (gN 2) (zAB 1 (fOp zF7 (fOp zAt (fOp zAt (fOp zNy (zD 1) (fC (.int 6364136223846793))) (fOp zF7 (zD 2) (fOp zPM (fC (.int 10)) (fC (.int 30))))) (fC (.int 1442695040888963))) (fC (.int 2305843009213693951)))))
  (zAj (zAh (zI (toD (zAQ [2] (zAW (fSl (zD 0) zEz (zEZ (fC (.int 63))))) (gN 2) (tst (fOp kGe (fB zOH (zg (zD 2) zAC)) (fOp zPM (fC (.int 10)) (fC (.int 18))))) (fB zOH (zg (zD 2) zAC)))) (zI (toD (zD 1)) zS))))))
noncomputable def zBx : FF:=zB9 3 zEe
noncomputable def zFC : FS:=(za (zBI (zCa (tst (fOp kNe (fOp kIx (zD 0) (fC (.int 0))) (zAh zS))) (tst (fOp kEq (fOp kIx (fOp kIx (zD 0) (fC (.int 0))) (fC (.int 0))) (fC (.int 0))))) (zAq (fM zKG (fOp kIx (zD 0) (fC (.int 0))) (zI (toD (fC (.int 0))) zS))) 100)
  (za (sIf (tst (fOp kNe (fOp kIx (zD 0) (fC (.int 0))) (zAh zS))) (za (zAB 2 (fOp zF7 (fOp kIx (fOp kIx (zD 0) (fC (.int 0))) (fC (.int 0))) (zD 1)))
  (za (zMI (fOp zNS (fOp kIx (fOp kIx (zD 0) (fC (.int 0))) (fC (.int 0))) (zD 1)) (fOp kIx (zD 0) (fC (.int 0))) (fC (.int 0)))
  (zAj (zD 2)))) zB4)
  (za (zMI (fOp zF7 (fOp zAt (fOp zNy (fOp kIx (zD 0) (fC (.int 1))) (fC (.int 6364136223846793))) (fC (.int 1442695040888963))) (fC (.int 2305843009213693951))) (zD 0) (fC (.int 1)))
  (zAj (fOp zF7 (fOp zNS (fOp zF7 (fOp zNy (fOp kIx (zD 0) (fC (.int 1))) (fOp kIx (zD 0) (fC (.int 1)))) (fC (.int 2305843009213693921))) (fC (.int 65537))) (zD 1))))))
noncomputable def zh : FF:=zB9 3 zFC
structure Gen (M : Mem) (n k : Nat) : Prop where
 ex : ∃ (c : List Int) (s : Int),M[n]? = some (.lst [.ref k,.int s]) /\ M[k]? = some (.lst (c.map D.int)) /\ (∀ x ∈ c,0 <= x) /\ c.length <= 63 /\ 0 <= s /\ s < 2305843009213693951
 ne : n ≠ k
 wf : ∀ (j : Nat) u,M[j]? = some u -> MO.und M.length u = true
structure Nx (M M' : Mem) (n k : Nat) : Prop where
 gen : Gen M' n k
 len : M'.length = M.length
 fr : ∀ j,j ≠ n -> j ≠ k -> M'[j]? = M[j]?
theorem Nx.refl (h : Gen M n k) : Nx M M n k:=⟨h,rfl,fun _ _ _ => rfl⟩
theorem Nx.trans {M M1 M2 : Mem} {n k : Nat} (a : Nx M M1 n k) (b : Nx M1 M2 n k) : Nx M M2 n k:=⟨b.gen,b.len.trans a.len,fun j h1 h2 => (b.fr j h1 h2).trans (a.fr j h1 h2)⟩
theorem zy (n : Nat) : ∀ c : List Int,D.unds n (c.map D.int) = true
 | [] => rfl
 | x :: r => by
  show (D.und n (D.int x) && D.unds n (r.map D.int)) = true;rw [zy n r]; rfl
theorem Gen.lt (h : Gen M n k) : n < M.length /\ k < M.length:=by
 obtain ⟨c,s,e1,e2,_⟩:=h.ex;exact ⟨(zU0.mp e1).1,(zU0.mp e2).1⟩
theorem Gen.put {M : Mem} (h : Gen M n k) {c : List Int} (hc : ∀ x ∈ c,0 <= x) (hl : c.length <= 63) (h0 : 0 <= s) (h1 : s < 2305843009213693951) :
  Nx M ((M.set k (.lst (c.map D.int))).set n (.lst [.ref k,.int s])) n k:=by
 obtain ⟨hn,hk⟩:=h.lt;refine ⟨⟨⟨c,s,?_,?_,hc,hl,h0,h1⟩,h.ne,fun j u e => ?_⟩,by simp,fun j h1 h2 => ?_⟩
 ·rw [zVr (by simpa using hn)]
 ·rw [zVR h.ne,zVr hk]
 ·rw [zXG,zXG];rw [zWW] at e;split at e
  ·split at e
   ·cases e;show D.unds _ _ = true;unfold D.unds D.unds D.unds D.und;simp [hk]
   ·cases e
  ·rw [zWW] at e;split at e
   ·rename_i z;subst z;cases e; exact zy _ _
   ·exact h.wf j u e
 ·rw [zVR (Ne.symm h1),zVR (Ne.symm h2)]
theorem zHx {M : Mem} (h : M[k]? = some u) : M.set k u = M:=by
 apply List.ext_getElem?;intro i;rw [zWW];split
 ·rename_i e; subst e;rw [zVC (zU0.mp h).1]; exact h.symm
 ·rfl
theorem zKp : ∀ {a b : List Int},a.map D.int = b.map D.int -> a = b
 | [],[],_ => rfl
 | [],_ :: _,h => by cases h
 | _ :: _,[],h => by cases h
 | x :: a,y :: b,h => by
  rw [zVG,zVG] at h;have h1:=(zV1 h).1;have h2:=zKp (zV1 h).2;cases h1; rw [h2]
theorem at0 {x : D} {xs : List D} : atI (x :: xs) 0 = some x:=zLM (k:=0) rfl
theorem at1 {x y : D} {xs : List D} : atI (x :: y :: xs) 1 = some y:=zLM (k:=1) rfl
theorem zQc (h : Gen M n k) (h0 : 0 < m) (h1 : m < 1073741824) :
  Ok (zh [.ref n,.int m] M) fun d M' => (∃ i,d = .int i /\ 0 <= i /\ i < m) /\ Nx M M' n k:=by
 unfold zh;rw [zAe];unfold zFC;show OkS (za _ _ [some (.ref n),some (.int m),none] M) _;rw [zW];have st : ∀ {M : Mem} {c : List Int} {s : Int} {σ : Sd} {P : EV -> Mem -> Prop},σ[0]? = some (some (.ref n)) -> M[n]? = some (.lst [.ref k,.int s]) -> P (.dat (.ref k)) M -> Ok (fOp kIx (zD 0) (fC (.int 0)) σ M) P:=fun hσ hM p =>
  zAm.mpr (zAR.mpr ⟨_,hσ,zCf.mpr (zOU (zAA hM) at0 p)⟩)
 have sd : ∀ {M : Mem} {s : Int} {σ : Sd} {P : EV -> Mem -> Prop},σ[0]? = some (some (.ref n)) -> M[n]? = some (.lst [.ref k,.int s]) -> P (.dat (.int s)) M -> Ok (fOp kIx (zD 0) (fC (.int 1)) σ M) P:=fun hσ hM p =>
  zAm.mpr (zAR.mpr ⟨_,hσ,zCf.mpr (zOU (zAA hM) at1 p)⟩)
 have hd : ∀ {M : Mem} {c : List Int} {x s : Int} {σ : Sd} {P : EV -> Mem -> Prop},σ[0]? = some (some (.ref n)) -> M[n]? = some (.lst [.ref k,.int s]) -> M[k]? = some (.lst ((x :: c).map D.int)) -> P (.dat (.int x)) M -> Ok (fOp kIx (fOp kIx (zD 0) (fC (.int 0))) (fC (.int 0)) σ M) P:=fun {M c x s σ P} hσ hM hK p =>
  zAm.mpr (st (c:=c) hσ hM (zCf.mpr (zOU (zAA hK) at0 p)))
 have ne : ∀ {M : Mem} {c : List Int} {s : Int} {σ : Sd} {P : Bool -> Mem -> Prop},σ[0]? = some (some (.ref n)) -> M[n]? = some (.lst [.ref k,.int s]) -> M[k]? = some (.lst (c.map D.int)) -> P (!c.isEmpty) M -> Ok (tst (fOp kNe (fOp kIx (zD 0) (fC (.int 0))) (zAh zS)) σ M) P:=fun {M c s σ P} hσ hM hK p => by
  refine zHS.mpr (zAm.mpr (st (c:=c) hσ hM (zJN.mpr (zB3.mpr ⟨zVj _,?_⟩))));rw [zMT (zBT hK) (by intro d e; cases e; rfl)];rw [zHJ];simpa using p
 have W : ∀ (fuel m' : Nat) (σ : Sd) (M' : Mem),m' < fuel -> ((σ = [some (.ref n),some (.int m),none] /\ Nx M M' n k) /\ ∃ (c : List Int) (s : Int),M'[n]? = some (.lst [.ref k,.int s]) /\ M'[k]? = some (.lst (c.map D.int)) /\ c.length = m') ->
   OkS (zBI (zCa (tst (fOp kNe (fOp kIx (zD 0) (fC (.int 0))) (zAh zS))) (tst (fOp kEq (fOp kIx (fOp kIx (zD 0) (fC (.int 0))) (fC (.int 0))) (fC (.int 0))))) (zAq (fM zKG (fOp kIx (zD 0) (fC (.int 0))) (zI (toD (fC (.int 0))) zS))) fuel σ M')
    (fun o σ1 M1 => o = .nx /\ σ1 = [some (.ref n),some (.int m),none] /\ Nx M M1 n k):=by
  intro fuel m' σ M' hlt hI;refine zCH (I:=fun m' σ M' => (σ = [some (.ref n),some (.int m),none] /\ Nx M M' n k) /\ ∃ (c : List Int) (s : Int),M'[n]? = some (.lst [.ref k,.int s]) /\ M'[k]? = some (.lst (c.map D.int)) /\ c.length = m') ?_ fuel m' σ M' hlt hI;rintro m' σ M' ⟨⟨rfl,nx⟩,c,s,e1,e2,hl⟩;refine zRF.mpr (ne rfl e1 e2 ?_);cases c with
  | nil => simp; exact nx
  | cons x c =>
   simp only [List.isEmpty_cons,Bool.not_false,if_true];refine zHS.mpr (zAm.mpr (hd rfl e1 e2 (zCf.mpr (zKF.mpr (zHJ.mpr ?_)))));by_cases hx : x = 0
   ·rw [zVC (by simpa using hx)];refine zBm.mpr (zH8.mpr (st (c:=c) rfl e1 ⟨⟨_,zBT e2⟩,zAp.mpr (zAz.mpr (zCf.mpr (zX.mpr (zB3.mpr ?_))))⟩));rw [zVG] at e2;rw [zSh e2];refine ⟨c.length,by rw [<- hl]; simp,?_⟩;obtain ⟨c',s',z1,z2,z3,z4,z5,z6⟩:=nx.gen.ex;rw [e1] at z1; cases z1;rw [e2] at z2;have hcc : c' = x :: c:=by
     have : (x :: c).map D.int = c'.map D.int:=by have:=z2; simp only [Option.some.injEq,MO.lst.injEq] at this; simpa using this
     exact (zKp this).symm
    subst hcc;have P:=nx.gen.put (c:=c) (s:=s) (fun y hy => z3 y (zVA _ hy)) (by simp at z4; omega) z5 z6;have q : ((M'.set k (.lst (c.map D.int))).set n (.lst [.ref k,.int s])) = M'.set k (.lst (c.map D.int)):=zHx (by rw [zVR (Ne.symm nx.gen.ne)]; exact e1);rw [q] at P;have hk:=nx.gen.lt.2;refine ⟨⟨rfl,nx.trans P⟩,c,s,?_,?_,rfl⟩
    ·rw [zVR (Ne.symm nx.gen.ne)]; exact e1
    ·rw [zVr hk]
   ·rw [zVF (by simpa using hx)];first | exact ⟨rfl,rfl,nx⟩ | exact ⟨trivial,trivial,nx⟩ | simpa using nx
 obtain ⟨c,s,e1,e2,e3,e4,_⟩:=h.ex;refine OkS.mono (W 100 c.length _ M (by omega) ⟨⟨rfl,.refl h⟩,c,s,e1,e2,rfl⟩) ?_;rintro o σ M1 ⟨rfl,rfl,nx⟩;rw [zc,zW,zBh];obtain ⟨c,s,e1,e2,e3,e4,e5,e6⟩:=nx.gen.ex;refine ne rfl e1 e2 ?_;cases c with
 | nil =>
  simp only [List.isEmpty_nil,Bool.not_true,zVy,if_false];rw [zBG,zc,zW,zJe];refine zAm.mpr (zAm.mpr (zAm.mpr (sd rfl e1 (zCf.mpr (zPG.mpr ⟨by simp [zNY] <;> omega,zCf.mpr (zGN.mpr (zCf.mpr (zGc.mpr ⟨by decide,?_⟩)))⟩)))));rw [zX];refine zAR.mpr ⟨_,rfl,zCf.mpr ?_⟩;rw [zX];have hs0 : 0 <= (s * 6364136223846793 + 1442695040888963) % 2305843009213693951:=Int.emod_nonneg _ (by decide);have hs1 : (s * 6364136223846793 + 1442695040888963) % 2305843009213693951 < 2305843009213693951:=Int.emod_lt_of_pos _ (by decide);generalize (s * 6364136223846793 + 1442695040888963) % 2305843009213693951 = s' at hs0 hs1;have P:=nx.gen.put (c:=[]) (s:=s') (fun _ h => by cases h) (by simp) hs0 hs1;rw [zHx (show M1[k]? = some (.lst (([] : List Int).map D.int)) from e2)] at P;refine ⟨_,zHZ (k:=1) e1 (by simp),?_⟩;rw [zc,zAx];have e1' : (M1.set n (.lst [.ref k,.int s']))[n]? = some (.lst [.ref k,.int s']):=zVr nx.gen.lt.1;refine zAm.mpr (zAm.mpr (zAm.mpr (zAm.mpr (sd rfl e1' (sd rfl e1' (zPG.mpr ⟨by simp [zNY] <;> omega,zCf.mpr (zGc.mpr ⟨by decide,zCf.mpr (zPY.mpr ⟨by decide,zAR.mpr ⟨_,rfl,zGc.mpr ⟨h0,?_⟩⟩⟩)⟩)⟩))))));rw [zX];exact ⟨⟨_,rfl,Int.emod_nonneg _ (by omega),Int.emod_lt_of_pos _ h0⟩,nx.trans P⟩
 | cons x c =>
  simp only [List.isEmpty_cons,Bool.not_false,if_true];rw [zW,zi];refine zAm.mpr (hd rfl e1 e2 (zAR.mpr ⟨_,rfl,zGc.mpr ⟨h0,?_⟩⟩));rw [zX,zc,zW,zJe];refine zAm.mpr (hd rfl e1 e2 (zAR.mpr ⟨_,rfl,zPY.mpr ⟨⟨h0,h1⟩,?_⟩⟩));rw [zX];refine st (c:=c) rfl e1 (zCf.mpr ?_);rw [zX];refine ⟨_,zHZ (k:=0) e2 (by simp),?_⟩;rw [zc,zAx];refine zAR.mpr ⟨_,rfl,?_⟩;rw [zX,zDy];have hx:=e3 x zVB;have P:=nx.gen.put (c:=(x / m) :: c) (s:=s) (fun y hy => by
   rcases zU9.mp hy with z | z
   ·subst z; exact Int.ediv_nonneg hx (by omega)
   ·exact e3 y (zVA _ z)) (by simpa using e4) e5 e6
  rw [zHx (k:=n) (by rw [zVR (Ne.symm nx.gen.ne)]; exact e1)] at P;exact ⟨⟨_,rfl,Int.emod_nonneg _ (by omega),Int.emod_lt_of_pos _ h0⟩,nx.trans P⟩
theorem zKx (ns : List Int) (lo hi : Option Int) : ∃ c : List Int,L3.zGi (ns.map D.int) lo hi = c.map D.int /\ c.length <= ns.length:=by
 refine ⟨(ns.drop (HT.sIx ns.length 0 lo)).take (HT.sIx ns.length ns.length hi - HT.sIx ns.length 0 lo),?_,?_⟩
 ·unfold L3.zGi;rw [zU6,List.map_take,List.map_drop]
 ·rw [zWL,zXQ]; omega
theorem zDX (h : x :: r = c.map D.int) : ∃ y c',c = y :: c' /\ x = .int y /\ r = c'.map D.int:=by
 cases c with
 | nil => cases h
 | cons y c' => rw [zVG] at h; exact ⟨y,c',rfl,(zV1 h).1,(zV1 h).2⟩
theorem zA7 : zBD none xs M:=trivial
theorem zt (h : n <= 100000) : n <= sizeLine:=zVO h (by decide)
theorem zOp {ns : List Int} (h : ns.length <= 63) : Ok (zBx [.ref 0] [.fro (ns.map D.int)]) fun d M' => d = .ref 2 /\ Gen M' 2 1 /\ M'[0]? = some (.fro (ns.map D.int)) /\ M'.length = 3:=by
 unfold zBx;rw [zAe];unfold zEe;show OkS (za _ _ [some (.ref 0),none,none] _) _;have e0 : ([.fro (ns.map D.int)] : Mem)[0]? = some (.fro (ns.map D.int)):=rfl;obtain ⟨cut,ec,lc⟩:=zKx ns none (some 63);have sl : ∀ {σ : Sd} {P : EV -> Mem -> Prop},σ[0]? = some (some (.ref 0)) -> P (.fl (cut.map D.int)) [.fro (ns.map D.int)] -> Ok (fSl (zD 0) zEz (zEZ (fC (.int 63))) σ [.fro (ns.map D.int)]) P:=fun hσ p => by
  refine zPJ.mpr (zAR.mpr ⟨_,hσ,zG2.mpr (zHE.mpr (zCf.mpr (zHM.mpr ?_)))⟩);rw [zMK (zJ1 e0) rfl,ec]; exact p
 rw [zW,zi];refine zAm.mpr (zRB.mpr (zFx.mpr (zAR.mpr ⟨_,rfl,zGu.mpr ((zSB (zRh e0)).mpr (zCf.mpr (zGN.mpr ?_)))⟩)));rw [zX,zc,zW,zBd];obtain ⟨x,M1,ex,px⟩:=sl (σ:=[some (.ref 0),some (.int (((ns.map D.int).length : Int) + 3)),none]) (P:=fun x M => x = .fl (cut.map D.int) /\ M = [.fro (ns.map D.int)]) rfl ⟨rfl,rfl⟩;obtain ⟨rfl,rfl⟩:=px;refine ⟨_,_,_,zFY ex zER,?_⟩;refine zBX (I:=fun r σ M => M = [.fro (ns.map D.int)] /\ (∃ c : List Int,r = c.map D.int) /\ ∃ s y,σ = [some (.ref 0),some (.int s),y] /\ 0 <= s /\ s < 2305843009213693951) ?_ ?_ _ _ _ ⟨rfl,⟨cut,rfl⟩,_,none,rfl,by simp; omega,by simp; omega⟩
 ·rintro x r σ M ⟨rfl,⟨c,hc⟩,s,y,rfl,h0,h1⟩;obtain ⟨z,c',rfl,rfl,rfl⟩:=zDX hc;refine ⟨zA7,_,rfl,?_⟩;rw [zi];refine zAm.mpr (zAm.mpr (zAm.mpr (zAm.mpr (zAR.mpr ⟨_,rfl,zCf.mpr (zPG.mpr ⟨by simp [zNY],?_⟩)⟩))));refine zAm.mpr (zAR.mpr ⟨_,rfl,zAm.mpr (zCf.mpr (zCf.mpr (zR1.mpr ⟨by decide,zGc.mpr ⟨by decide,zGN.mpr (zCf.mpr (zGN.mpr (zCf.mpr (zGc.mpr ⟨by decide,?_⟩))))⟩⟩)))⟩);rw [zX];exact ⟨rfl,⟨c',rfl⟩,_,_,rfl,Int.emod_nonneg _ (by decide),Int.emod_lt_of_pos _ (by decide)⟩
 ·rintro σ M ⟨rfl,_,s,y,rfl,h0,h1⟩;refine ⟨zA7,?_⟩;rw [zc,zAx,zJN,zAp,zAz,zDz];obtain ⟨x,M1,ex,px⟩:=sl (σ:=[some (.ref 0),some (.int s),y]) (P:=fun x M => x = .fl (cut.map D.int) /\ M = [.fro (ns.map D.int)]) rfl ⟨rfl,rfl⟩;obtain ⟨rfl,rfl⟩:=px;refine ⟨_,_,_,zFY ex zER,by rw [zU6]; exact zt (by omega),?_⟩;refine Ok.mono (zDl (I:=fun r acc M => M = [.fro (ns.map D.int)] /\ (∃ c : List Int,r = c.map D.int) /\ r.length + acc.length <= 63 /\ ∃ b : List Int,acc = b.map D.int /\ ∀ x ∈ b,0 <= x) (Q:=fun acc M => M = [.fro (ns.map D.int)] /\ acc.length <= 63 /\ ∃ b : List Int,acc = b.map D.int /\ ∀ x ∈ b,0 <= x) ?_ ?_ _ [] _ ⟨rfl,⟨cut,rfl⟩,by simp; omega,[],rfl,fun _ h => by cases h⟩) ?_
  ·rintro x r acc M ⟨rfl,⟨c,hc⟩,hl,b,rfl,hb⟩;obtain ⟨z,c',rfl,rfl,rfl⟩:=zDX hc;refine ⟨zA7,_,rfl,?_⟩;refine zHS.mpr (zAm.mpr (zRB.mpr (zFx.mpr (zAR.mpr ⟨_,rfl,zGu.mpr (zR6.mpr (zAm.mpr (zCf.mpr (zCf.mpr (zR1.mpr ⟨by decide,zUh.mpr (zHJ.mpr ?_)⟩)))))⟩))));by_cases hz : (10 : Int) ^ (18 : Int).toNat <= (if z < 0 then -z else z)
   ·rw [zVC (by simpa using hz)];refine zRB.mpr (zFx.mpr (zAR.mpr ⟨_,rfl,zGu.mpr (zR6.mpr (zX.mpr ⟨rfl,⟨c',rfl⟩,?_,b ++ [if z < 0 then -z else z],by simp,?_⟩))⟩))
    ·simp at hl ⊢; omega
    ·intro y hy;rcases zVN.mp hy with q | q
     ·exact hb y q
     ·have : y = if z < 0 then -z else z:=by simpa using q
      rw [this]; split <;> omega
   ·rw [zVF (by simpa using hz)];exact ⟨rfl,⟨c',rfl⟩,by simp at hl ⊢; omega,b,rfl,hb⟩
  ·rintro acc M ⟨rfl,_,hl,hb⟩;exact ⟨zA7,rfl,by simpa using hl,hb⟩
  ·rintro ys M ⟨rfl,hl,b,hb,hp⟩;rw [List.nil_append] at hb hl;subst hb;rw [zFM,zAp,zAz,zAR];refine ⟨_,rfl,?_⟩;rw [zX,zB3];refine ⟨zt (by simp),?_⟩;rw [zFM];refine ⟨rfl,⟨⟨b,s,rfl,rfl,hp,by simpa using hl,h0,h1⟩,by decide,?_⟩,rfl,rfl⟩;intro j u e;match j,e with
   | 0,e => cases e; exact zy _ _
   | 1,e => cases e; exact zy _ _
   | 2,e => cases e; rfl
   | j + 3,e => simp at e
mutual
theorem zEY (h : a <= b) : ∀ {d : D},D.und a d = true -> D.und b d = true
 | .non,_ => by unfold D.und; rfl
 | .bl _,_ => by unfold D.und; rfl
 | .int _,_ => by unfold D.und; rfl
 | .str _,_ => by unfold D.und; rfl
 | .tup ds,e => by unfold D.und at e ⊢; exact zCl h e
 | .ref k,e => by unfold D.und at e ⊢; simp at e ⊢; omega
theorem zCl (h : a <= b) : ∀ {ds : List D},D.unds a ds = true -> D.unds b ds = true
 | [],_ => by unfold D.unds; rfl
 | d :: ds,e => by
  unfold D.unds at e ⊢;rw [zVX] at e ⊢;exact ⟨zEY h e.1,zCl h e.2⟩
end
theorem zEm (h : a <= b) (e : MO.und a u = true) : MO.und b u = true:=by
 cases u with
 | lst xs => exact zCl h e
 | fro xs => exact zCl h e
 | set xs => exact zCl h e
 | dict kvs =>
  unfold MO.und at e ⊢;rw [zVY] at e ⊢;intro p hp;have:=e p hp;rw [zVX] at this ⊢;exact ⟨zEY h this.1,zEY h this.2⟩
 | dicT kvs =>
  unfold MO.und at e ⊢;rw [zVY] at e ⊢;intro p hp;have:=e p hp;rw [zVX] at this ⊢;exact ⟨zEY h this.1,zEY h this.2⟩
theorem zG6 : ∀ {xs ys : List D},D.unds n (xs ++ ys) = (D.unds n xs && D.unds n ys)
 | [],ys => by simp [D.unds]
 | x :: xs,ys => by
  show (D.und n x && D.unds n (xs ++ ys)) = ((D.und n x && D.unds n xs) && D.unds n ys);rw [zG6,Bool.and_assoc]
theorem zFR : ∀ {xs : List D},(∀ x ∈ xs,D.und n x = true) -> D.unds n xs = true
 | [],_ => rfl
 | x :: xs,h => by
  show (D.und n x && D.unds n xs) = true;rw [h x zVB,zFR fun y hy => h y (zVA _ hy)]; rfl
theorem zAo (c : List Int) : D.und n (.tup (c.map D.int)) = true:=by unfold D.und; exact zy n c
theorem Gen.app (h : Gen A n k) (hu : ∀ u ∈ us,MO.und (A.length + us.length) u = true) : Gen (A ++ us) n k:=by
 obtain ⟨c,s,e1,e2,r⟩:=h.ex;obtain ⟨hn,hk⟩:=h.lt;refine ⟨⟨c,s,by rw [zU4 hn]; exact e1,by rw [zU4 hk]; exact e2,r⟩,h.ne,fun j u e => ?_⟩;rw [zVD];by_cases hj : j < A.length
 ·rw [zU4 hj] at e;exact zEm (by omega) (h.wf j u e)
 ·rw [zV7 (by omega)] at e;exact hu u (List.mem_of_getElem? e)
theorem zAN (h : Gen M n k) (ha : fa σ M = some (.dat (.ref n),M)) (hb : fb σ M = some (.dat (.int m),M)) (h0 : 0 < m) (h1 : m < 1073741824)
  (q : ∀ i M',0 <= i -> i < m -> Nx M M' n k -> P (.dat (.int i)) M') : Ok (zb zh (zI (toD fa) (zI (toD fb) zS)) σ M) P:=by
 rw [zCj,zAp,zAz];refine ⟨_,_,ha,?_⟩;rw [zX,zAp,zAz];refine ⟨_,_,hb,?_⟩;rw [zX,zB3];refine Ok.mono (zQc h h0 h1) ?_;rintro d M' ⟨⟨i,rfl,i0,i1⟩,nx⟩;exact q i M' i0 i1 nx
def zCY (i : Nat) : Nat -> List D
 | 0 => []
 | n + 1 => .int i :: zCY (i + 1) n
theorem zJo (n : Nat) : ∀ i,((List.range' i n).map fun (k : Nat) => D.int k) = zCY i n:=by
 induction n with
 | zero => intro i; rfl
 | succ n ih => intro i; rw [List.range'_succ,zVG,ih]; rfl
theorem zFt (n : Nat) : ((List.range n).map fun (k : Nat) => D.int k) = zCY 0 n:=by rw [List.range_eq_range',zJo]
theorem zBl : ∀ (n i : Nat),(zCY i n).length = n
 | 0,_ => rfl
 | n + 1,i => by show (zCY (i + 1) n).length + 1 = _; rw [zBl n]
theorem zG1 (n : Nat) (I : Nat -> Sd -> Mem -> Prop)
  (hs : ∀ i σ M,i < n -> I i σ M -> ∃ σ1,g (.int i) σ = some σ1 /\ OkS (b σ1 M) fun o σ2 M2 => match o with | .nx => I (i + 1) σ2 M2 | .cnt => I (i + 1) σ2 M2 | .brk => P .nx σ2 M2 | .ret d => P (.ret d) σ2 M2)
  (he : ∀ σ M,I n σ M -> P .nx σ M) (σ : Sd) (M : Mem) (h0 : I 0 σ M) : OkS (zCb g b all none (zCY 0 n) σ M) P:=by
 refine zBX (I:=fun r σ M => ∃ i,i <= n /\ r = zCY i (n - i) /\ I i σ M) ?_ ?_ _ _ _ ⟨0,zVj _,by simp,h0⟩
 ·rintro x r σ M ⟨i,hi,e,hI⟩;have hlt : i < n:=by
   rcases zWJ i n with z | z
   ·exact z
   ·rw [show n - i = 0 by omega] at e; cases e
  rw [show n - i = (n - (i + 1)) + 1 by omega] at e;obtain ⟨rfl,rfl⟩:=zV1 e;obtain ⟨σ1,e1,q⟩:=hs i σ M hlt hI;refine ⟨zA7,σ1,e1,OkS.mono q ?_⟩;intro o σ2 M2 z;cases o with
  | nx => exact ⟨i + 1,hlt,rfl,z⟩
  | cnt => exact ⟨i + 1,hlt,rfl,z⟩
  | brk => exact z
  | ret d => exact z
 ·rintro σ M ⟨i,hi,e,hI⟩;have : i = n:=by
   rcases zWJ i n with z | z
   ·rw [show n - i = (n - (i + 1)) + 1 by omega] at e; cases e
   ·omega
  subst this;exact ⟨zA7,he σ M hI⟩
theorem zME (n : Nat) (I : Nat -> List D -> Mem -> Prop)
  (hs : ∀ i acc M,i < n -> I i acc M -> ∃ σ1,g (.int i) σ = some σ1 /\ Ok (te σ1 M) (zIM fun d M2 => I (i + 1) (acc ++ [d]) M2)) (h0 : I 0 [] M) :
  Ok (zBN g zAI te σ all none (zCY 0 n) M) fun ys M1 => I n ys M1:=by
 refine Ok.mono (zDl (I:=fun r acc M => ∃ i,i <= n /\ r = zCY i (n - i) /\ I i acc M) (Q:=fun acc M => I n acc M) ?_ ?_ _ [] _ ⟨0,zVj _,by simp,h0⟩) fun ys M1 q => by simpa using q
 ·rintro x r acc M ⟨i,hi,e,hI⟩;have hlt : i < n:=by
   rcases zWJ i n with z | z
   ·exact z
   ·rw [show n - i = 0 by omega] at e; cases e
  rw [show n - i = (n - (i + 1)) + 1 by omega] at e;obtain ⟨rfl,rfl⟩:=zV1 e;obtain ⟨σ1,e1,q⟩:=hs i acc M hlt hI;refine ⟨zA7,σ1,e1,zKY.mpr ?_⟩;rw [zVC rfl];refine Ok.mono q ?_;intro x M2 z;cases x with
  | dat d => exact ⟨i + 1,hlt,rfl,z⟩
  | fl xs => exact ⟨i + 1,hlt,rfl,z⟩
 ·rintro acc M ⟨i,hi,e,hI⟩;have : i = n:=by
   rcases zWJ i n with z | z
   ·rw [show n - i = (n - (i + 1)) + 1 by omega] at e; cases e
   ·omega
  subst this;exact ⟨zA7,hI⟩
theorem zBn (e : f σ M = some (.dat (.int j),M)) (h1 : 0 <= j) (h2 : j < 2 ^ 62) : zAK (zI (toD f) zS) σ M = some (zCY 0 j.toNat,none,M):=by
 have e' : (zI (toD f) zS) σ M = some ([.int j],M):=by unfold zI toD zS; rw [e]
 rw [zHs e' h1 h2,zFt]
def mD (zA : List (List Int)) : D:=.tup (zA.map fun r => .tup (r.map D.int))
structure IsM (zA : List (List Int)) (l : Nat) : Prop where
 r0 : 0 < zA.length
 l0 : 0 < l
 row : ∀ r ∈ zA,r.length = l /\ ∀ g ∈ r,0 <= g /\ g < zA.length
theorem zF3 (zA : List (List Int)) : D.und n (mD zA) = true:=by
 unfold mD D.und;refine zFR fun x hx => ?_;obtain ⟨r,_,rfl⟩:=zVE.mp hx;exact zAo r
theorem zp {α : Type} {x : Option (α × Mem)} {a : α} {M : Mem} (h : Ok x fun b M' => b = a /\ M' = M) : x = some (a,M):=by
 obtain ⟨b,M',e,rfl,rfl⟩:=h; exact e
theorem zL {α : Type} {x : Option (α × Mem)} {a : α} {M : Mem} {P : α -> Mem -> Prop} (h : x = some (a,M)) (p : P a M) : Ok x P:=⟨a,M,h,p⟩
theorem zO6 {c : FT} {a : FS} {σ : Sd} {M : Mem} {P : Out -> Sd -> Mem -> Prop} (hc : c σ M = some (false,M)) (h : P .nx σ M) : OkS (sIf c a zB4 σ M) P:=by
 rw [zBh];refine zL hc ?_;rw [zVF (by decide),zBG];exact h
theorem zAH {f : FE} {σ : Sd} {M : Mem} {d : D} (h : f σ M = some (.dat d,M)) : zI (toD f) zS σ M = some ([d],M):=by
 unfold zI toD zS; rw [h]
theorem zAP {f : FE} {g : FA} {σ : Sd} {M : Mem} {d : D} {ds : List D} (h : f σ M = some (.dat d,M)) (hg : g σ M = some (ds,M)) : zI (toD f) g σ M = some (d :: ds,M):=by
 unfold zI toD; rw [h]; dsimp only; rw [hg]
theorem zAr {m : FF} {a : FA} {σ : Sd} {M M' : Mem} {ds : List D} {d : D} (h : a σ M = some (ds,M)) (hm : m ds M = some (d,M')) : zb m a σ M = some (.dat d,M'):=by
 unfold zb; rw [h]; dsimp only; rw [hm]
theorem zf {k : K2} {f g : FE} {σ : Sd} {M : Mem} {x y : EV} {r : Option (EV × Mem)} (hf : f σ M = some (x,M)) (hg : g σ M = some (y,M)) (hk : k x y M = r) : fOp k f g σ M = r:=by
 unfold fOp; rw [hf]; dsimp only; rw [hg]; exact hk
theorem zSK {xs ys : List D} {M : Mem} (h : xs.length + ys.length <= sizeLine) : zAt (.dat (.tup xs)) (.dat (.tup ys)) M = some (.dat (.tup (xs ++ ys)),M):=zp (zUQ.mpr ⟨h,rfl,rfl⟩)
theorem zC0 {x : EV} {xs : List D} {i : Int} {d : D} {M : Mem} (h : zAZ M x = some xs) (hd : atI xs i = some d) : kIx x (.dat (.int i)) M = some (.dat d,M):=zp (zOU h hd ⟨rfl,rfl⟩)
theorem zGI {f : FE} {x : EV} {xs : List D} {σ : Sd} {M : Mem} (hf : f σ M = some (x,M)) (h : zAZ M x = some xs) : fB zBq (zg f zAC) σ M = some (.dat (.int xs.length),M):=by
 unfold fB zg zAC; rw [hf]; exact zp ((zSB h).mpr ⟨rfl,rfl⟩)
def zBK (zA : List (List Int)) (h g : Int) : Int:=(zA.getD h.toNat []).getD g.toNat 0
def zCX (zA : List (List Int)) (room : Int) (word : List Int) : Int:=word.foldl (zBK zA) room
theorem zOe {zA : List (List Int)} {h : Int} (h0 : 0 <= h) (h1 : h < zA.length) : atI (zA.map fun r => D.tup (r.map D.int)) h = some (.tup ((zA.getD h.toNat []).map D.int)):=by
 refine zPf h0 ?_;rw [zVK,zU2,zU1 (by omega)];rfl
theorem zLl {r : List Int} {g : Int} (h0 : 0 <= g) (h1 : g < r.length) : atI (r.map D.int) g = some (.int (r.getD g.toNat 0)):=by
 refine zPf h0 ?_;rw [zVK,zU2,zU1 (by omega)];rfl
theorem IsM.get {zA : List (List Int)} {l : Nat} (m : IsM zA l) {h : Int} (h0 : 0 <= h) (h1 : h < zA.length) : (zA.getD h.toNat []).length = l /\ ∀ g ∈ zA.getD h.toNat [],0 <= g /\ g < zA.length:=by
 refine m.row _ ?_;rw [zU2,zU1 (by omega)];exact zVV _
theorem IsM.step {zA : List (List Int)} {l : Nat} (m : IsM zA l) {h g : Int} (h0 : 0 <= h) (h1 : h < zA.length) (g0 : 0 <= g) (g1 : g < l) : 0 <= zBK zA h g /\ zBK zA h g < zA.length:=by
 obtain ⟨q1,q2⟩:=m.get h0 h1;refine q2 _ ?_;unfold zBK;rw [zU2 (l:=zA.getD h.toNat []),zU1 (by omega)];exact zVV _
theorem IsM.led {zA : List (List Int)} {l : Nat} (m : IsM zA l) : ∀ (word : List Int) {h : Int},0 <= h -> h < zA.length -> (∀ g ∈ word,0 <= g /\ g < l) -> 0 <= zCX zA h word /\ zCX zA h word < zA.length
 | [],h,h0,h1,_ => ⟨h0,h1⟩
 | g :: r,h,h0,h1,hw => by
  obtain ⟨g0,g1⟩:=hw g zVB;obtain ⟨s0,s1⟩:=m.step h0 h1 g0 g1;exact IsM.led m r s0 s1 fun x hx => hw x (zVA _ hx)
theorem IsM.ix {zA : List (List Int)} {l : Nat} (m : IsM zA l) {h g : Int} (h0 : 0 <= h) (h1 : h < zA.length) (g0 : 0 <= g) (g1 : g < l) {f1 f2 f3 : FE} {σ : Sd} {M : Mem} (e1 : f1 σ M = some (.dat (mD zA),M)) (e2 : f2 σ M = some (.dat (.int h),M)) (e3 : f3 σ M = some (.dat (.int g),M)) :
  fOp kIx (fOp kIx f1 f2) f3 σ M = some (.dat (.int (zBK zA h g)),M):=by
 obtain ⟨q1,_⟩:=m.get h0 h1;exact zf (zf e1 e2 (zC0 zAU (zOe h0 h1))) e3 (zC0 zAU (zLl g0 (by omega)))
theorem zS3 {σ : Sd} {M : Mem} {ns : List Int} {j : Nat} {i : Int} (hσ : σ[i.toNat]? = σ[i.toNat]?) (hi : zD j σ M = some (.dat (.ref 0),M)) (h0 : M[0]? = some (.fro (ns.map D.int))) : ∃ c : List Int,fSl (zD j) zEz (zEZ (fC (.int i))) σ M = some (.fl (c.map D.int),M) /\ c.length <= ns.length:=by
 obtain ⟨c,ec,lc⟩:=zKx ns none (some i);refine ⟨c,zp (zPJ.mpr (zL hi (zG2.mpr (zHE.mpr (zCf.mpr (zHM.mpr ?_)))))),lc⟩;rw [zMK (zJ1 h0) rfl,ec]; exact ⟨rfl,rfl⟩
theorem zBH (h : f σ M = some (.dat (.bl k),M')) : tst f σ M = some (k,M'):=by unfold tst; rw [h]
theorem zBF (hf : f σ M = some (.dat d,M)) (h : P (.ret d) σ M) : OkS (zAj f σ M) P:=by
 rw [zAx]; exact zL hf h
theorem zCy {α : Type} (as : List α) (enc out : α -> D) (hi : fi σ M = some (as.map enc,gd,M)) (hgd : zBD gd (as.map enc) M) (hz : as.length <= 100000)
  (he : ∀ a ∈ as,∃ σ1,g (enc a) (zBc own σ) = some σ1 /\ te σ1 M = some (.dat (out a),M)) : zAQ own fi g zAI te σ M = some (.fl (as.map out),M):=by
 refine zp (zDz.mpr ⟨_,_,_,hi,by rw [zU6]; exact zt hz,?_⟩);refine Ok.mono (zDl (I:=fun r acc M' => M' = M /\ ∃ ra rb : List α,as = rb ++ ra /\ r = ra.map enc /\ acc = rb.map out) (Q:=fun acc M' => M' = M /\ acc = as.map out) ?_ ?_ _ [] _ ⟨rfl,as,[],rfl,rfl,rfl⟩) ?_
 ·rintro x r acc M' ⟨rfl,ra,rb,hab,hr,rfl⟩;cases ra with
  | nil => cases hr
  | cons a ra =>
   rw [zVG] at hr;obtain ⟨rfl,rfl⟩:=zV1 hr;obtain ⟨σ1,e1,e2⟩:=he a (by rw [hab]; simp);refine ⟨hgd,σ1,e1,zKY.mpr ?_⟩;rw [zVC rfl];refine zL e2 ?_;rw [zX];exact ⟨rfl,ra,rb ++ [a],by rw [hab]; simp,rfl,by simp⟩
 ·rintro acc M' ⟨rfl,ra,rb,hab,hr,rfl⟩;cases ra with
  | nil => rw [zVh] at hab; subst hab; exact ⟨hgd,rfl,rfl⟩
  | cons a ra => cases hr
 ·rintro ys M' ⟨rfl,h⟩;rw [List.nil_append] at h;subst h;exact ⟨rfl,rfl⟩
theorem zC8 (hf : f σ M = some (x,M)) (h : zAZ M x = some xs) : fB zBr (zg f zAC) σ M = some (.dat (.tup xs),M):=by
 unfold fB zg zAC; rw [hf]; exact zp ((zMr h).mpr ⟨rfl,rfl⟩)
theorem zGr (hf : f σ M = some (.dat (.tup xs),M)) : zAW f σ M = some (xs,none,M):=zFY hf zAU
theorem zL1 (n : Nat) : zCY 0 n = (List.range n).map fun (k : Nat) => D.int k:=(zFt n).symm
theorem zI6 (e : f σ M = some (.dat (.int j),M)) (h1 : 0 <= j) (h2 : j < 2 ^ 62) : zAK (zI (toD f) zS) σ M = some ((List.range j.toNat).map (fun (k : Nat) => D.int k),none,M):=by
 rw [zBn e h1 h2,zL1]
theorem zCF (hf : f σ M = some (.dat d,M)) (h : OkS (g (σ.set i (some d)) M) P) : OkS (za (zAB i f) g σ M) P:=by
 rw [zW,zi]; exact zL hf h
theorem zOt (h : f σ M = some (.dat d,M')) : zI (toD f) zS σ M = some ([d],M'):=by
 unfold zI toD zS; rw [h]
theorem zHc {α β : Type} (f : α -> β) (d : α) : ∀ xs : List α,(List.range xs.length).map (fun i => f (xs.getD i d)) = xs.map f
 | [] => rfl
 | x :: xs => by
  rw [zVU,List.range_succ_eq_map,zVG,zVL,zVG,<- zHc f d xs];rfl
open ST
def ris (xs : List Int) : List Int:=zEA (zAM xs)
theorem zCM (xs : List Int) (x : Int) : x ∈ ris xs ↔ x ∈ xs:=by
 unfold ris; rw [(zCE _).mem_iff,zLQ]
theorem zHH (xs : List Int) : (ris xs).Pairwise (· < ·):=by
 have h1:=zHa (zAM xs);have h2 : (ris xs).Nodup:=(zCE _).nodup_iff.mpr (zJK xs);unfold ris at h2 ⊢;exact (h1.and h2).imp fun {a b} h => by have:=h.1; have:=h.2; omega
theorem zGF : ∀ {xs ys : List Int},xs.Pairwise (· < ·) -> ys.Pairwise (· < ·) -> (∀ x,x ∈ xs ↔ x ∈ ys) -> xs = ys
 | [],[],_,_,_ => rfl
 | [],y :: ys,_,_,h => by have:=(h y).mpr zVB; cases this
 | x :: xs,[],_,_,h => by have:=(h x).mp zVB; cases this
 | x :: xs,y :: ys,h1,h2,h => by
  have hx:=List.pairwise_cons.mp h1;have hy:=List.pairwise_cons.mp h2;have e : x = y:=by
   have a:=(h x).mp zVB;have b:=(h y).mpr zVB;rcases zU9.mp a with z | z
   ·exact z
   ·rcases zU9.mp b with q | q
    ·exact q.symm
    ·have:=hx.1 y q; have:=hy.1 x z; omega
  subst e;rw [zGF hx.2 hy.2 fun z => ?_];constructor
  ·intro hz;rcases zU9.mp ((h z).mp (zVA _ hz)) with q | q
   ·subst q; have:=hx.1 _ hz; omega
   ·exact q
  ·intro hz;rcases zU9.mp ((h z).mpr (zVA _ hz)) with q | q
   ·subst q; have:=hy.1 _ hz; omega
   ·exact q
theorem zFQ (h : ∀ x,x ∈ xs ↔ x ∈ ys) : ris xs = ris ys:=zGF (zHH xs) (zHH ys) fun x => by rw [zCM,zCM]; exact h x
theorem zJv (h : xs.Pairwise (· < ·)) : ris xs = xs:=zGF (zHH xs) h fun x => zCM xs x
theorem zJs (xs : List Int) : (ris xs).length <= xs.length:=by
 unfold ris; rw [(zCE _).length_eq]; exact zCs xs
theorem zTE (h : 0 < xs.length) : 0 < (ris xs).length:=by
 cases xs with
 | nil => cases h
 | cons x r => exact List.length_pos_of_mem ((zCM (x :: r) x).mpr zVB)
theorem zRX (f : Int -> Int) (xs : List Int) : ris ((ris xs).map f) = ris (xs.map f):=zFQ fun x => by simp [zCM]
theorem zRl (h : zAQ own fi g tc te σ M = some (.fl (ks.map D.int),M)) (hz : ks.length <= 4000) : zIy own fi g tc te σ M = some (zAM ks,M):=by
 unfold zIy; rw [h]; dsimp only; rw [zD1]; dsimp only; rw [zVC (by unfold scanBound; omega)]
theorem zPX (h : f σ M = some (x,M)) (hx : zAZ M x = some (ks.map D.int)) (hz : ks.length <= 4000) : zHw f σ M = some (zAM ks,M):=by
 unfold zHw; rw [h]; dsimp only; rw [hx]; dsimp only; rw [zD1]; dsimp only; rw [zVC (by unfold scanBound; omega)]
theorem zK4 (h : fz σ M = some (zAM ks,M)) (hz : (zAM ks).length < 64) : zGA fz σ M = some (.fl ((ris ks).map D.int),M):=by
 unfold zGA; rw [h]; dsimp only; rw [zVC hz]; rfl
noncomputable def zFz : FS:=(zAj (fB zBr (zg (zGA (zIy [3] (zAW (zD 1)) (gN 3) zAI (fOp kIx (fOp kIx (zD 0) (zD 3)) (zD 2)))) zAC)))
noncomputable def zBQ : FF:=zFW (zB9 4 zFz)
noncomputable def zG0 : FS:=(za (zAB 3 (zAh (zI (toD (zD 1)) zS)))
  (za (zCG (zAW (zD 2)) (gN 4) (zAq (fM z0 (zD 3) (zI (toD (zb zBQ (zI (toD (zD 0)) (zI (toD (fOp kIx (zD 3) (zNx (fC (.int 1))))) (zI (toD (zD 4)) zS))))) zS))))
  (zAj (fB zBr (zg (zD 3) zAC)))))
noncomputable def zEb : FF:=zFW (zB9 5 zG0)
noncomputable def zGB : FS:=(zAj (fOp kIx (zb zEb (zI (toD (zD 0)) (zI (toD (zD 1)) (zI (toD (zD 2)) zS)))) (zNx (fC (.int 1)))))
noncomputable def zDe : FF:=zFW (zB9 3 zGB)
def setR (zA : List (List Int)) (S : List Int) (g : Int) : List Int:=ris (S.map fun h => zBK zA h g)
def broR (zA : List (List Int)) (S word : List Int) : List Int:=word.foldl (setR zA) S
structure IsS (zA : List (List Int)) (S : List Int) : Prop where
 pw : S.Pairwise (· < ·)
 n0 : 0 < S.length
 mem : ∀ x ∈ S,0 <= x /\ x < (zA.length : Int)
theorem zMQ : ∀ {S : List Int} {a : Int} {n : Nat},S.Pairwise (· < ·) -> (∀ x ∈ S,a <= x /\ x < a + (n : Int)) -> S.length <= n
 | [],_,_,_,_ => zVj _
 | x :: S,a,n,h,hm => by
  have hx:=List.pairwise_cons.mp h;obtain ⟨m0,m1⟩:=hm x zVB;have hn : 0 < n:=by omega
  have:=zMQ (S:=S) (a:=x + 1) (n:=(a + n - (x + 1)).toNat) hx.2 fun y hy => by
   have:=hx.1 y hy;have:=(hm y (zVA _ hy)).2;omega
  simp only [zVU]; omega
theorem IsS.len (h : IsS zA S) : S.length <= zA.length:=zMQ h.pw (a:=0) fun x hx => by have:=h.mem x hx; omega
theorem IsM.setR {zA : List (List Int)} {l : Nat} (m : IsM zA l) {S : List Int} (s : IsS zA S) {g : Int} (g0 : 0 <= g) (g1 : g < l) : IsS zA (setR zA S g):=by
 refine ⟨zHH _,zTE (by rw [zU6]; exact s.n0),fun x hx => ?_⟩;obtain ⟨y,hy,rfl⟩:=zVE.mp ((zCM _ _).mp hx);obtain ⟨y0,y1⟩:=s.mem y hy;exact m.step y0 y1 g0 g1
theorem IsM.broR {zA : List (List Int)} {l : Nat} (m : IsM zA l) : ∀ (word : List Int) {S : List Int},IsS zA S -> (∀ g ∈ word,0 <= g /\ g < (l : Int)) -> IsS zA (broR zA S word)
 | [],S,s,_ => s
 | g :: r,S,s,hw => by
  obtain ⟨g0,g1⟩:=hw g zVB;exact IsM.broR m r (m.setR s g0 g1) fun x hx => hw x (zVA _ hx)
theorem zMz (zA : List (List Int)) : ∀ (word : List Int) (S : List Int),broR zA (ris S) word = ris (S.map fun r => zCX zA r word)
 | [],S => by show ris S = ris (S.map fun r => r); rw [List.map_id']
 | g :: w,S => by
  show broR zA (setR zA (ris S) g) w = _;unfold setR;rw [zRX];rw [zMz zA w];rw [zVL]; rfl
theorem zFp (h : S.Pairwise (· < ·)) (word : List Int) : broR zA S word = ris (S.map fun r => zCX zA r word):=by
 have:=zMz zA word S;rw [zJv h] at this; exact this
theorem zRW (zA : List (List Int)) (S a b : List Int) : broR zA S (a ++ b) = broR zA (broR zA S a) b:=by unfold broR; rw [zWv]
def tI (xs : List Int) : D:=.tup (xs.map D.int)
theorem zGv {zA : List (List Int)} {l : Nat} (m : IsM zA l) (hR : zA.length < 64) {S : List Int} (s : IsS zA S) {g : Int} (g0 : 0 <= g) (g1 : g < l) {M : Mem} : zBQ [mD zA,tI S,.int g] M = some (tI (setR zA S g),M):=by
 refine zp ?_;unfold zBQ;refine zFr (by unfold D.unds D.unds D.unds D.unds; rw [zF3]; simp [tI,zAo,D.und,zy]) ?_;rw [zAe];unfold zFz;have hl:=s.len;have hz : (zAM (S.map fun h => zBK zA h g)).length < 64:=by have:=zCs (S.map fun h => zBK zA h g); rw [zU6] at this; omega
 refine zBF (d:=tI (setR zA S g)) ?_ ⟨by unfold tI; exact zAo _,rfl,rfl⟩;refine zC8 (zK4 (ks:=S.map fun h => zBK zA h g) (zRl ?_ (by rw [zU6]; omega)) hz) zER;refine (zCy S D.int (fun h => .int (zBK zA h g)) (zGr rfl) trivial (by omega) fun h hh => ⟨_,rfl,?_⟩).trans ?_
 ·obtain ⟨h0,h1⟩:=s.mem h hh;exact m.ix h0 h1 g0 g1 rfl rfl rfl
 ·rw [zVL]; rfl
def zGY (zA : List (List Int)) (S : List Int) : List Int -> List (List Int)
 | [] => [S]
 | g :: w => S :: zGY zA (setR zA S g) w
theorem zK9 {α : Type} (xs : List α) (x : α) : atI (xs ++ [x]) (-1) = some x:=by
 unfold atI ixN;rw [zVF (by decide),zVC (by simp; omega)];have : ((-1 : Int) + ((xs ++ [x]).length : Int)).toNat = xs.length:=by simp; omega
 simp only [Option.bind_some];rw [this]; simp
theorem zQx {zA : List (List Int)} {l : Nat} (m : IsM zA l) (hR : zA.length < 64) {S word : List Int} (s : IsS zA S) (hw : ∀ g ∈ word,0 <= g /\ g < (l : Int)) (hz : word.length <= 90000) {M : Mem} : zEb [mD zA,tI S,tI word] M = some (.tup ((zGY zA S word).map tI),M):=by
 refine zp ?_;unfold zEb;refine zFr (by unfold D.unds D.unds D.unds D.unds; rw [zF3]; simp [tI,zAo,D.und,zy]) ?_;rw [zAe];unfold zG0;show OkS (za _ _ [some (mD zA),some (tI S),some (tI word),none,none] []) _;rw [zW,zi];refine zJN.mpr (zAp.mpr (zAz.mpr (zAR.mpr ⟨_,rfl,zX.mpr (zB3.mpr ⟨zt (by simp),?_⟩)⟩)));rw [zFM,zc,zW,zBd];refine ⟨_,_,_,zFY rfl zAU,?_⟩;show OkS (zCb _ _ _ _ _ [some (mD zA),some (tI S),some (tI word),some (.ref 0),none] [.lst [tI S]]) _;refine zBX (I:=fun r σ M' => ∃ (y : Option D) (c : List Int) (acc : List (List Int)) (T : List Int),σ = [some (mD zA),some (tI S),some (tI word),some (.ref 0),y] /\ r = c.map D.int /\ (∀ g ∈ c,0 <= g /\ g < (l : Int)) /\ IsS zA T /\ M' = [.lst ((acc ++ [T]).map tI)] /\ acc ++ zGY zA T c = zGY zA S word /\ acc.length + c.length = word.length) ?_ ?_ _ _ _ ⟨none,word,[],S,rfl,rfl,hw,s,rfl,rfl,by simp⟩
 ·rintro x r σ M' ⟨y,c,acc,T,rfl,hc,hg,sT,rfl,e,hl⟩;obtain ⟨z,c',rfl,rfl,rfl⟩:=zDX hc;refine ⟨zA7,_,rfl,?_⟩;rw [zBm];obtain ⟨g0,g1⟩:=hg z zVB;have eA : ([MO.lst ((acc ++ [T]).map tI)] : Mem)[0]? = some (.lst ((acc ++ [T]).map tI)):=rfl;refine zH8.mpr (zAR.mpr ⟨_,rfl,⟨_,zBT eA⟩,zAp.mpr (zAz.mpr ?_)⟩);refine zL (zAr (zAP rfl (zAP (zf (f:=zD 3) (g:=zNx (fC (.int 1))) (y:=.dat (.int (-1))) rfl rfl (zC0 (zAA eA) ?_)) (zAH rfl))) (zGv m hR sT g0 g1)) ?_
  ·rw [zVp]; exact zK9 _ _
  ·rw [zX,zB3,zCv eA (by rw [zU6,zVD]; simp at hl ⊢; exact zVM (m:=95000) (by omega) (zt (by omega)))];refine ⟨_,c',acc ++ [T],setR zA T z,rfl,rfl,fun g hg' => hg g (zVA _ hg'),m.setR sT g0 g1,?_,?_,by simp at hl ⊢; omega⟩
   ·simp
   ·rw [<- e]; simp [zGY]
 ·rintro σ M' ⟨y,c,acc,T,rfl,hc,hg,sT,rfl,e,hl⟩;have : c = []:=by cases c with | nil => rfl | cons _ _ => cases hc
  subst this;refine ⟨zA7,?_⟩;rw [zc];refine zBF (zC8 rfl (zAA (show ([MO.lst ((acc ++ [T]).map tI)] : Mem)[0]? = some (.lst ((acc ++ [T]).map tI)) from rfl))) ?_;have e' : acc ++ [T] = zGY zA S word:=by rw [<- e]; rfl
  rw [e'];refine ⟨?_,rfl,rfl⟩;unfold D.und;refine zFR fun x hx => ?_;obtain ⟨r,_,rfl⟩:=zVE.mp hx;exact zAo r
theorem zIh (zA : List (List Int)) : ∀ (word S : List Int),∃ us,zGY zA S word = us ++ [broR zA S word]
 | [],S => ⟨[],rfl⟩
 | g :: w,S => by
  obtain ⟨us,e⟩:=zIh zA w (setR zA S g);exact ⟨S :: us,by show S :: zGY zA _ w = _; rw [e]; rfl⟩
theorem zST (m : IsM zA l) (hR : zA.length < 64) (s : IsS zA S) (hw : ∀ g ∈ word,0 <= g /\ g < (l : Int)) (hz : word.length <= 90000) : zDe [mD zA,tI S,tI word] M = some (tI (broR zA S word),M):=by
 refine zp ?_;unfold zDe;refine zFr (by unfold D.unds D.unds D.unds D.unds; rw [zF3]; simp [tI,zAo,D.und,zy]) ?_;rw [zAe];unfold zGB;obtain ⟨us,e⟩:=zIh zA word S;refine zBF (d:=tI (broR zA S word)) (zf (zAr (zAP rfl (zAP rfl (zAH rfl))) (zQx m hR s hw hz)) (g:=zNx (fC (.int 1))) (y:=.dat (.int (-1))) rfl (zC0 zAU ?_)) ⟨by unfold tI; exact zAo _,rfl,rfl⟩;rw [e,zVp]; exact zK9 _ _
end Law
namespace Law
open PySem PySem.Spec PyProof.Rows L2 L3 ST
theorem zLm (hgd : zBD gd all M) (hg : g x σ = some σ1) (hk : tk σ1 M = some (.dat k,M)) (hv : tv σ1 M = some (.dat v,M)) (hp : zGS M n k v = some M') : zC4 g zAI tk tv σ n all gd (x :: r) M = zC4 g zAI tk tv σ n all gd r M':=by
 rw [zC4];rw [zVC hgd,hg];have et : zAI σ1 M = some (true,M):=rfl;have e1 : toD tk σ1 M = some (k,M):=by unfold toD; rw [hk]
 have e2 : toD tv σ1 M = some (v,M):=by unfold toD; rw [hv]
 dsimp only;rw [et]; dsimp only;rw [e1]; dsimp only;rw [e2]; dsimp only;rw [hp]
theorem zIU (hgd : zBD gd all M) : zC4 g tc tk tv σ n all gd [] M = some M:=by
 rw [zC4,zVC hgd]
theorem zFu (e : f σ M = some (.dat (mD zA),M)) : fB zBq (zg f zAC) σ M = some (.dat (.int zA.length),M):=by
 have:=zGI e zAU;rw [zU6] at this; exact this
theorem zGo (m : IsM zA l) (e : f σ M = some (.dat (mD zA),M)) : fB zBq (zg (fOp kIx f (fC (.int 0))) zAC) σ M = some (.dat (.int l),M):=by
 have r0:=m.r0;have:=zGI (zf (g:=fC (.int 0)) e rfl (zC0 zAU (zOe (h:=0) (by omega) (by omega)))) zAU;rw [zU6,(m.get (h:=0) (by omega) (by omega)).1] at this; exact this
theorem zLB (e : f σ M = some (.dat (tI xs),M)) : fB zBq (zg f zAC) σ M = some (.dat (.int xs.length),M):=by
 have:=zGI e zAU;rw [zU6] at this; exact this
end Law
namespace Law
open PySem PySem.Spec PyProof.Rows L2 L3 ST
abbrev gL (k : Nat) (s : Int) : MO:=.lst [.ref k,.int s]
theorem zTO (hk : k < N) : MO.und N (gL k s) = true:=by
 show D.unds _ _ = true;unfold D.unds D.unds D.unds D.und;simp [hk]
structure Nw (M M' : Mem) (n k : Nat) : Prop where
 gen : Gen M' n k
 len : M.length <= M'.length
 fr : ∀ j,j < M.length -> j ≠ n -> j ≠ k -> M'[j]? = M[j]?
theorem Nw.trans {M M1 M2 : Mem} {n k : Nat} (a : Nw M M1 n k) (b : Nw M1 M2 n k) : Nw M M2 n k :=
 ⟨b.gen,zVO a.len b.len,fun j h h1 h2 => (b.fr j (zVM h a.len) h1 h2).trans (a.fr j h h1 h2)⟩
theorem Nx.nw (x : Nx M M' n k) : Nw M M' n k:=⟨x.gen,by rw [x.len]; exact zU3 _,fun j _ h1 h2 => x.fr j h1 h2⟩
theorem Gen.lst (h : Gen A n k) (xs : List D) (hx : D.unds A.length xs = true) : Nw A (A ++ [.lst xs]) n k:=⟨h.app fun u hu => by
 have : u = .lst xs:=by simpa using hu
 subst this; exact zCl (by simp) hx,by simp,fun j hj _ _ => zU4 hj⟩
theorem Nw.setB (h : Nw M A n k) (g : Gen M n k) (hj : M.length <= j) (hu : MO.und A.length u = true) : Nw M (A.set j u) n k:=by
 obtain ⟨hn,hk⟩:=g.lt;obtain ⟨c,s,e1,e2,r⟩:=h.gen.ex;refine ⟨⟨⟨c,s,by rw [zVR (by omega)]; exact e1,by rw [zVR (by omega)]; exact e2,r⟩,g.ne,fun i v e => ?_⟩,by rw [zXG]; exact h.len,fun i hi h1 h2 => by rw [zVR (by omega)]; exact h.fr i hi h1 h2⟩;rw [zXG];rw [zWW] at e;split at e
 ·split at e
  ·cases e; exact hu
  ·cases e
 ·exact h.gen.wf i v e
theorem Nw.wf0 (h : Nw M M' n k) (g : Gen M n k) : ∀ (j : Nat) u,j < M.length -> M'[j]? = some u -> MO.und M.length u = true:=fun j u hj e => by
 obtain ⟨hn,hk⟩:=g.lt;obtain ⟨c,s,e1,e2,r⟩:=h.gen.ex;by_cases q1 : j = n
 ·subst q1; rw [e1] at e; cases e; exact zTO hk
 ·by_cases q2 : j = k
  ·subst q2; rw [e2] at e; cases e; exact zy _ _
  ·rw [h.fr j hj q1 q2] at e; exact g.wf j u e
theorem Nw.trim (h : Nw M M' n k) (g : Gen M n k) : Nw M (M'.take M.length) n k:=by
 obtain ⟨hn,hk⟩:=g.lt;have tk : ∀ j,j < M.length -> (M'.take M.length)[j]? = M'[j]?:=fun j hj => List.getElem?_take_of_lt hj;have tl : (M'.take M.length).length = M.length:=by have:=h.len; rw [zWL]; omega
 obtain ⟨c,s,e1,e2,r⟩:=h.gen.ex;refine ⟨⟨⟨c,s,(tk n hn).trans e1,(tk k hk).trans e2,r⟩,g.ne,fun j u e => ?_⟩,by omega,fun j hj h1 h2 => (tk j hj).trans (h.fr j hj h1 h2)⟩;have hj : j < M.length:=by have:=(zU0.mp e).1; omega
 rw [tk j hj] at e;rw [tl];exact h.wf0 g j u hj e
theorem Nw.get (h : Nw M M' n k) (e : M[j]? = some u) (h1 : j ≠ n) (h2 : j ≠ k) : M'[j]? = some u :=
 (h.fr j (zU0.mp e).1 h1 h2).trans e
end Law
namespace Lac
open PySem PySem.Spec PyProof.Rows L2 L3 ST Law
noncomputable def zEK : FS:=(za (zAB 2 (zAh zS))
  (za (zCG (zAK (zI (toD (zD 1)) zS)) (gN 3) (zAq (fM zEh (zD 2) (zI (toD (zb zh (zI (toD (zD 0)) (zI (toD (fOp zAt (zD 3) (fC (.int 1)))) zS)))) (zI (toD (zD 3)) zS)))))
  (zAj (zD 2))))
noncomputable def zCO : FF:=zB9 4 zEK
noncomputable def zDw : FS:=(za (sIf (tst (fOp kEq (zD 1) (fC (.int 0)))) (zAj (zAQ [4] (zAK (zI (toD (zD 2)) zS)) (gN 4) zAI (zb zh (zI (toD (zD 0)) (zI (toD (zD 2)) zS))))) zB4)
  (za (sIf (tst (fOp kEq (zD 1) (fC (.int 1)))) (zAj (zAQ [4] (zAK (zI (toD (zD 2)) zS)) (gN 4) zAI (fOp zF7 (fOp zAt (zD 4) (zb zh (zI (toD (zD 0)) (zI (toD (fC (.int 3))) zS)))) (zD 2)))) zB4)
  (za (sIf (tst (fOp kEq (zD 1) (fC (.int 2)))) (za (zAB 5 (fOp zNS (fOp zAt (zD 2) (fC (.int 1))) (fC (.int 2))))
  (za (zAB 6 (zAQ [4] (zAK (zI (toD (zD 5)) zS)) (gN 4) zAI (zb zh (zI (toD (zD 0)) (zI (toD (zD 5)) zS)))))
  (zAj (fOp zIm (zD 6) (zAQ [4] (zAK (zI (toD (fOp zMG (zD 2) (zD 5))) zS)) (gN 4) zAI (fOp zAt (zD 5) (zb zh (zI (toD (zD 0)) (zI (toD (fOp zMG (zD 2) (zD 5))) zS))))))))) zB4)
  (za (sIf (zCa (tst (fOp kEq (zD 1) (fC (.int 3)))) (tst (fOp kEq (zD 3) (fC (.int 0))))) (zAj (zAQ [4] (zAK (zI (toD (zD 2)) zS)) (gN 4) zAI (fOp zF7 (fOp zAt (zD 4) (fC (.int 1))) (zD 2)))) zB4)
  (za (sIf (tst (fOp kEq (zD 1) (fC (.int 3)))) (zAj (zAQ [4] (zAK (zI (toD (zD 2)) zS)) (gN 4) zAI (fOp kIx (zAh (zI (toD (zD 4)) (zI (toD (fC (.int 0))) zS))) (fB zLX (zg (fOp kEq (zD 4) (fOp zMG (zD 2) (fC (.int 1)))) zAC))))) zB4)
  (za (sIf (zO4 (tst (fOp kEq (zD 1) (fC (.int 4)))) (tst (fOp kEq (zD 1) (fC (.int 7))))) (za (zAB 7 (zb zh (zI (toD (zD 0)) (zI (toD (zD 2)) zS))))
  (zAj (zAQ [4] (zAK (zI (toD (zD 2)) zS)) (gN 4) zAI (fOp kIx (zAh (zI (toD (fOp zF7 (fOp zAt (zD 4) (zD 7)) (zD 2))) (zI (toD (zD 7)) zS))) (fB zLX (zg (fOp kEq (zD 1) (fC (.int 7))) zAC)))))) zB4)
  (za (zAB 8 (zb zCO (zI (toD (zD 0)) (zI (toD (zD 2)) zS))))
  (za (sIf (zCa (tst (fOp kEq (zD 1) (fC (.int 6)))) (tst (fOp kEq (zD 3) (fC (.int 0))))) (za (zAB 9 (fOp kIx (zD 8) (zb zh (zI (toD (zD 0)) (zI (toD (zD 2)) zS)))))
  (zMI (zD 9) (zD 8) (zb zh (zI (toD (zD 0)) (zI (toD (zD 2)) zS))))) zB4)
  (zAj (zD 8))))))))))
noncomputable def zCA : FF:=zB9 10 zDw
noncomputable def zDZ : FS:=(za (zAB 3 (zb zh (zI (toD (zD 0)) (zI (toD (fC (.int 8))) zS))))
  (za (zAB 4 (zAQ [5] (zAK (zI (toD (zD 2)) zS)) (gN 5) zAI (zb zCA (zI (toD (zD 0)) (zI (toD (zD 3)) (zI (toD (zD 1)) (zI (toD (zD 5)) zS)))))))
  (zAj (fB zBr (zg (zAQ [7] (zAK (zI (toD (zD 1)) zS)) (gN 7) zAI (fB zBr (zg (zAQ [6] (zAW (zD 4)) (gN 6) zAI (fOp kIx (zD 6) (zD 7))) zAC))) zAC)))))
noncomputable def zBP : FF:=zIQ (zB9 8 zDZ)
def Col (many : Int) (c : List Int) : Prop:=(c.length : Int) = many /\ ∀ x ∈ c,0 <= x /\ x < many
theorem zAG (h : P (.ref M.length) (M ++ [.lst xs])) : zIM P (.fl xs) M:=h
theorem zAf (A : Mem) (u : MO) : (A ++ [u])[A.length]? = some u:=by simp
theorem zTt (h : 0 < b) : zF7 (.dat (.int a)) (.dat (.int b)) M = some (.dat (.int (a % b)),M):=zp (zGc.mpr ⟨h,rfl,rfl⟩)
theorem zHX {M : Mem} {n k : Nat} (h : Gen M n k) {own : List Nat} {i : Nat} {f te : FE} {σ : Sd} {cnt lo hi : Int} (c0 : 0 <= cnt) (c1 : cnt <= 90000) (hf : f σ M = some (.dat (.int cnt),M))
  (ht : ∀ (r : Nat) (M' : Mem),(r : Int) < cnt -> Gen M' n k -> Ok (te ((zBc own σ).set i (some (.int r))) M') fun x M'' => ∃ v : Int,x = .dat (.int v) /\ lo <= v /\ v < hi /\ Nx M' M'' n k) :
  Ok (zAQ own (zAK (zI (toD f) zS)) (gN i) zAI te σ M) fun x M' => (∃ c : List Int,x = .fl (c.map D.int) /\ (c.length : Int) = cnt /\ ∀ y ∈ c,lo <= y /\ y < hi) /\ Nx M M' n k:=by
 refine zDz.mpr ⟨_,_,_,zBn hf c0 (by omega),by rw [zBl]; exact zt (by omega),?_⟩;refine Ok.mono (zME (n:=cnt.toNat) (I:=fun j acc M2 => (∃ c : List Int,acc = c.map D.int /\ c.length = j /\ ∀ y ∈ c,lo <= y /\ y < hi) /\ Nx M M2 n k) ?_ ⟨⟨[],rfl,rfl,fun _ h => by cases h⟩,Nx.refl h⟩) ?_
 ·rintro j acc M2 hj ⟨⟨c,rfl,hcl,hc⟩,nx⟩;refine ⟨_,rfl,?_⟩;refine Ok.mono (ht j M2 (by omega) nx.gen) ?_;rintro x M3 ⟨v,rfl,v0,v1,nx3⟩;rw [zX];refine ⟨⟨c ++ [v],by simp,by simp [hcl],fun z hz => ?_⟩,nx.trans nx3⟩;rcases zVN.mp hz with q | q
  ·exact hc z q
  ·have : z = v:=by simpa using q
   subst this; exact ⟨v0,v1⟩
 ·rintro ys M2 ⟨⟨c,rfl,hcl,hc⟩,nx⟩;exact ⟨⟨c,rfl,by omega,hc⟩,nx⟩
theorem zUC (ha : a σ M = some (.dat x,M)) (hb : b σ M = some (.dat y,M)) : zAh (zI (toD a) (zI (toD b) zS)) σ M = some (.fl [x,y],M):=by
 unfold zAh; rw [zAP ha (zAH hb)]; dsimp only; rw [zVC (zt (by simp))]
theorem zR2 (hl : l σ M = some (.fl [x,y],M)) (ht : t σ M = some (.dat (.bl b),M)) : fOp kIx l (fB zLX (zg t zAC)) σ M = some (.dat (if b then y else x),M):=by
 have e : fB zLX (zg t zAC) σ M = some (.dat (.int (if b then 1 else 0)),M):=by unfold fB zg zAC; rw [ht]; rfl
 cases b with
 | true => exact zf hl e rfl
 | false => exact zf hl e rfl
theorem zN5 (h : M[n]? = some (.lst xs)) (h0 : 0 <= i) (h1 : i.toNat <= xs.length) (hz : xs.length < 90000) : zEh (.dat (.ref n)) [.int i,d] M = some (.non,M.set n (.lst (xs.take i.toNat ++ [d] ++ xs.drop i.toNat))):=by
 unfold zEh; dsimp only; rw [h]; dsimp only; rw [zVC ⟨h0,h1,zVM hz (zt (by omega))⟩]
theorem zPI (h : Gen M n k) (m0 : 0 < many) (m1 : many <= 1000) : Ok (zCO [.ref n,.int many] M) fun d M' => ∃ j c,d = .ref j /\ M'[j]? = some (.lst (c.map D.int)) /\ Col many c /\ M.length <= j /\ Nw M M' n k /\ c.Perm ((List.range many.toNat).map fun (x : Nat) => (x : Int)):=by
 obtain ⟨hn,hk⟩:=h.lt;unfold zCO;rw [zAe];unfold zEK;show OkS (za _ _ [some (.ref n),some (.int many),none,none] M) _;rw [zW,zi];refine zJN.mpr (zB3.mpr ⟨zt (by simp),zAG ?_⟩);rw [zc,zW,zBd];have nw1:=h.lst [] rfl;have e1 : (M ++ [MO.lst ([] : List D)])[M.length]? = some (.lst []):=zAf _ _;generalize M ++ [MO.lst ([] : List D)] = M1 at nw1 e1;show ∃ xs gd M2,zAK _ [some (.ref n),some (.int many),some (.ref M.length),none] M1 = some (xs,gd,M2) /\ _;refine ⟨_,_,_,zBn rfl (by omega) (by omega),?_⟩;refine zG1 (n:=many.toNat) (I:=fun i σ M' => (∃ y,σ = [some (.ref n),some (.int many),some (.ref M.length),y]) /\ ∃ c : List Int,M'[M.length]? = some (.lst (c.map D.int)) /\ c.length = i /\ (∀ x ∈ c,0 <= x /\ x < many) /\ Nw M M' n k /\ c.Perm ((List.range i).map fun (x : Nat) => (x : Int))) ?_ ?_ _ _ ⟨⟨_,rfl⟩,[],e1,rfl,(fun _ h => by cases h),nw1,.refl _⟩
 ·rintro i σ M' hi ⟨⟨y,rfl⟩,c,ec,hcl,hc,nw,pm⟩;refine ⟨_,rfl,?_⟩;show OkS (zAq _ [some (.ref n),some (.int many),some (.ref M.length),some (.int (i : Nat))] M') _;rw [zBm];refine zH8.mpr (zAR.mpr ⟨_,rfl,⟨_,zBT ec⟩,zAp.mpr (zAz.mpr ?_)⟩);refine zAN nw.gen rfl (zf (x:=.dat (.int (i : Nat))) rfl rfl rfl) (by omega) (by omega) fun q M2 q0 q1 nx => ?_;have ec2:=nx.nw.get ec (by omega) (by omega);rw [zX];refine zL (zAH (d:=.int (i : Nat)) rfl) ?_;refine zL (zN5 ec2 q0 (by rw [zU6]; omega) (by rw [zU6]; omega)) ?_;have hl : M.length < M2.length:=(zU0.mp ec2).1;refine ⟨⟨_,rfl⟩,c.take q.toNat ++ [(i : Int)] ++ c.drop q.toNat,?_,by simp; omega,fun x hx => ?_,?_,?_⟩
  ·rw [zVr hl];simp
  ·simp only [zVN,zVP] at hx;rcases hx with (w | w) | w
   ·exact hc x (List.mem_of_mem_take w)
   ·omega
   ·exact hc x (List.mem_of_mem_drop w)
  ·refine (nw.trans nx.nw).setB h (zU3 _) ?_;show D.unds _ _ = true;rw [<- List.map_take,<- List.map_drop,zG6,zG6,zy,zy]; rfl
  ·rw [List.range_succ,zVp];refine List.Perm.trans ?_ (List.Perm.append_right _ pm);rw [zV3];refine List.Perm.trans (List.Perm.append_left _ List.perm_append_comm) ?_;rw [<- zV3,List.take_append_drop];exact .refl _
 ·rintro σ M' ⟨⟨y,rfl⟩,c,ec,hcl,hc,nw,pm⟩;rw [zc];exact zBF rfl ⟨M.length,c,rfl,ec,⟨by omega,hc⟩,zU3 _,nw,pm⟩
theorem zRe (h : Col many c) (hj : j < c.length) : 0 <= c.getD j 0 /\ c.getD j 0 < many:=by
 rw [zU2,zU1 hj]; exact h.2 _ (zVV hj)
theorem zPa (h : Col many c) (hj : j < c.length) : Col many (c.set i (c.getD j 0)):=by
 refine ⟨by rw [zXG]; exact h.1,fun x hx => ?_⟩;rcases List.mem_or_eq_of_mem_set hx with q | q
 ·exact h.2 x q
 ·rw [q,zU2,zU1 hj]; exact h.2 _ (zVV hj)
theorem zNU {M : Mem} {n k : Nat} (h : Gen M n k) {fam many let_ : Int} (m0 : 0 < many) (m1 : many <= 1000) :
  Ok (zCA [.ref n,.int fam,.int many,.int let_] M) fun d M' => ∃ j c,d = .ref j /\ M'[j]? = some (.lst (c.map D.int)) /\ Col many c /\ M.length <= j /\ Nw M M' n k:=by
 obtain ⟨hn,hk⟩:=h.lt;unfold zCA;rw [zAe];unfold zDw;show OkS (za _ _ [some (.ref n),some (.int fam),some (.int many),some (.int let_),none,none,none,none,none,none] M) _;have isf : ∀ (j : Int) (σ : Sd) (M : Mem),σ[1]? = some (some (.int fam)) -> tst (fOp kEq (zD 1) (fC (.int j))) σ M = some (decide (fam = j),M):=fun j σ M e => by
  have v4 : zD 1 σ M = some (.dat (.int fam),M):=by unfold zD; rw [e]
  exact zBH (zf v4 rfl (zp (zKF.mpr ⟨rfl,rfl⟩)))
 have isl : ∀ (σ : Sd) (M : Mem),σ[3]? = some (some (.int let_)) -> tst (fOp kEq (zD 3) (fC (.int 0))) σ M = some (decide (let_ = 0),M):=fun σ M e => by
  have v4 : zD 3 σ M = some (.dat (.int let_),M):=by unfold zD; rw [e]
  exact zBH (zf v4 rfl (zp (zKF.mpr ⟨rfl,rfl⟩)))
 have andE : ∀ {a b : FT} {σ : Sd} {M : Mem} {x y : Bool},a σ M = some (x,M) -> b σ M = some (y,M) -> zCa a b σ M = some (x && y,M):=fun {a b σ M x y} ha hb => by
  unfold zCa; rw [ha]; cases x <;> first | exact hb | rfl
 have orE : ∀ {a b : FT} {σ : Sd} {M : Mem} {x y : Bool},a σ M = some (x,M) -> b σ M = some (y,M) -> zO4 a b σ M = some (x || y,M):=fun {a b σ M x y} ha hb => by
  unfold zO4; rw [ha]; cases x <;> first | exact hb | rfl
 have new : ∀ (A : Mem) (c' : List Int),Nw M A n k -> Col many c' -> ∃ j c,D.ref A.length = D.ref j /\ (A ++ [MO.lst (c'.map D.int)])[j]? = some (.lst (c.map D.int)) /\ Col many c /\ M.length <= j /\ Nw M (A ++ [MO.lst (c'.map D.int)]) n k:=fun A c' nw hc' =>
  ⟨A.length,c',rfl,zAf _ _,hc',nw.len,nw.trans (nw.gen.lst _ (zy _ _))⟩
 rw [zW,zBh];refine zL (isf 0 _ _ rfl) ?_;by_cases w0 : fam = 0
 ·rw [zVC (by simpa using w0),zAx];refine Ok.mono (zHX h (cnt:=many) (lo:=0) (hi:=many) (by omega) (by omega) rfl fun r M' hr g => zAN g rfl rfl m0 (by omega) fun i M2 i0 i1 nx => ⟨i,rfl,i0,i1,nx⟩) ?_;rintro x M1 ⟨⟨c,rfl,hcl,hc⟩,nx⟩;refine zAG ?_;rw [zDy];exact new _ _ nx.nw ⟨hcl,hc⟩
 rw [zVF (by simpa using w0),zBG,zc,zW,zBh];refine zL (isf 1 _ _ rfl) ?_;by_cases w1 : fam = 1
 ·rw [zVC (by simpa using w1),zAx];refine Ok.mono (zHX h (cnt:=many) (lo:=0) (hi:=many) (by omega) (by omega) rfl fun r M' hr g => ?_) ?_
  ·refine zAm.mpr (zAm.mpr (zAR.mpr ⟨_,rfl,zAN g rfl rfl (by decide) (by decide) fun i M2 i0 i1 nx => zGN.mpr (zAR.mpr ⟨_,rfl,zGc.mpr ⟨m0,_,rfl,Int.emod_nonneg _ (by omega),Int.emod_lt_of_pos _ m0,nx⟩⟩)⟩))
  rintro x M1 ⟨⟨c,rfl,hcl,hc⟩,nx⟩;refine zAG ?_;rw [zDy];exact new _ _ nx.nw ⟨hcl,hc⟩
 rw [zVF (by simpa using w1),zBG,zc,zW,zBh];refine zL (isf 2 _ _ rfl) ?_;by_cases w2 : fam = 2
 ·rw [zVC (by simpa using w2)];refine zCF (d:=.int ((many + 1) / 2)) (zf (x:=.dat (.int (many + 1))) (zf rfl rfl rfl) rfl (zp (zPY.mpr ⟨⟨by decide,by decide⟩,rfl,rfl⟩))) ?_;obtain ⟨h0,h1⟩ : 0 < (many + 1) / 2 /\ (many + 1) / 2 <= many:=by omega
  generalize (many + 1) / 2 = half at h0 h1;rw [zW,zi];refine Ok.mono (zHX h (cnt:=half) (lo:=0) (hi:=half) (by omega) (by omega) rfl fun r M' hr g => zAN g rfl rfl h0 (by omega) fun i M2 i0 i1 nx => ⟨i,rfl,i0,i1,nx⟩) ?_;rintro x M1 ⟨⟨c,rfl,hcl,hc⟩,nx⟩;refine zAG ?_;rw [zc,zAx];have nw2:=nx.nw.trans (nx.gen.lst (c.map D.int) (zy _ _));have e6 : (M1 ++ [MO.lst (c.map D.int)])[M1.length]? = some (.lst (c.map D.int)):=zAf _ _;have hj : M.length <= M1.length:=nx.nw.len;generalize M1 ++ [MO.lst (c.map D.int)] = M2 at nw2 e6;generalize M1.length = j6 at e6 hj;show Ok (fOp _ _ _ [some (.ref n),some (.int fam),some (.int many),some (.int let_),none,some (.int half),some (.ref j6),none,none,none] M2) _;refine zAm.mpr (zAR.mpr ⟨_,rfl,?_⟩);refine Ok.mono (zHX nw2.gen (cnt:=many - half) (lo:=half) (hi:=many) (by omega) (by omega) (zf rfl rfl rfl) fun r M' hr g => ?_) ?_
  ·refine zAm.mpr (zAR.mpr ⟨_,rfl,zAN g rfl (zf (x:=.dat (.int many)) (y:=.dat (.int half)) rfl rfl rfl) (by omega) (by omega) fun i M3 i0 i1 nx3 => zGN.mpr ⟨_,rfl,by omega,by omega,nx3⟩⟩)
  rintro x M3 ⟨⟨c3,rfl,hcl3,hc3⟩,nx3⟩;have e6':=nx3.nw.get e6 (by omega) (by omega);refine zTD (xs:=c.map D.int) (ys:=c3.map D.int) ?_ rfl (by simp; omega) (zAG ?_)
  ·unfold zMC; dsimp only; rw [e6']
  rw [zDy,<- zVp];refine new _ _ (nw2.trans nx3.nw) ⟨by simp; omega,fun x hx => ?_⟩;rcases zVN.mp hx with q | q
  ·have:=hc x q; omega
  ·have:=hc3 x q; omega
 rw [zVF (by simpa using w2),zBG,zc,zW,zBh];refine zL (andE (isf 3 _ _ rfl) (isl _ _ rfl)) ?_;by_cases w3 : (decide (fam = 3) && decide (let_ = 0)) = true
 ·rw [zVC w3,zAx];refine Ok.mono (zHX h (cnt:=many) (lo:=0) (hi:=many) (by omega) (by omega) rfl fun r M' hr g => ?_) ?_
  ·exact zL (zf (x:=.dat (.int ((r : Int) + 1))) (y:=.dat (.int many)) (zf rfl rfl rfl) rfl (zTt m0)) ⟨_,rfl,Int.emod_nonneg _ (by omega),Int.emod_lt_of_pos _ m0,Nx.refl g⟩
  rintro x M1 ⟨⟨c,rfl,hcl,hc⟩,nx⟩;refine zAG ?_;rw [zDy];exact new _ _ nx.nw ⟨hcl,hc⟩
 rw [zVF w3,zBG,zc,zW,zBh];refine zL (isf 3 _ _ rfl) ?_;by_cases w3' : fam = 3
 ·rw [zVC (by simpa using w3'),zAx];refine Ok.mono (zHX h (cnt:=many) (lo:=0) (hi:=many) (by omega) (by omega) rfl fun r M' hr g => ?_) ?_
  ·refine zL (zR2 (b:=decide ((r : Int) = many - 1)) (zUC (x:=.int r) (y:=.int 0) rfl rfl) (zf (x:=.dat (.int r)) (y:=.dat (.int (many - 1))) rfl (zf rfl rfl rfl) (zp (zKF.mpr ⟨rfl,rfl⟩)))) ?_;by_cases q : (r : Int) = many - 1
   ·rw [zV5 q,zVC rfl]; exact ⟨0,rfl,by omega,by omega,Nx.refl g⟩
   ·rw [zVW q,zVF (by decide)]; exact ⟨r,rfl,by omega,by omega,Nx.refl g⟩
  rintro x M1 ⟨⟨c,rfl,hcl,hc⟩,nx⟩;refine zAG ?_;rw [zDy];exact new _ _ nx.nw ⟨hcl,hc⟩
 rw [zVF (by simpa using w3'),zBG,zc,zW,zBh];refine zL (orE (isf 4 _ _ rfl) (isf 7 _ _ rfl)) ?_;by_cases w4 : (decide (fam = 4) || decide (fam = 7)) = true
 ·rw [zVC w4,zW,zi];refine zAN h rfl rfl m0 (by omega) fun far M1 a0 a1 nx1 => ?_;rw [zX,zc,zAx];show Ok (zAQ _ _ _ _ _ [some (.ref n),some (.int fam),some (.int many),some (.int let_),none,none,none,some (.int far),none,none] M1) _;refine Ok.mono (zHX nx1.gen (cnt:=many) (lo:=0) (hi:=many) (by omega) (by omega) rfl fun r M' hr g => ?_) ?_
  ·refine zL (zR2 (b:=decide (fam = 7)) (zUC (x:=.int (((r : Int) + far) % many)) (y:=.int far) (zf (x:=.dat (.int ((r : Int) + far))) (y:=.dat (.int many)) (zf rfl rfl rfl) rfl (zTt m0)) rfl) (zf (x:=.dat (.int fam)) (y:=.dat (.int 7)) rfl rfl (zp (zKF.mpr ⟨rfl,rfl⟩)))) ?_;by_cases q : fam = 7
   ·rw [zV5 q,zVC rfl]; exact ⟨far,rfl,a0,a1,Nx.refl g⟩
   ·rw [zVW q,zVF (by decide)]; exact ⟨_,rfl,Int.emod_nonneg _ (by omega),Int.emod_lt_of_pos _ m0,Nx.refl g⟩
  rintro x M2 ⟨⟨c,rfl,hcl,hc⟩,nx⟩;refine zAG ?_;rw [zDy];exact new _ _ (nx1.trans nx).nw ⟨hcl,hc⟩
 rw [zVF w4,zBG,zc,zW,zi];refine zCj.mpr (zL (zAP rfl (zAH rfl)) ?_);refine Ok.mono (zPI h m0 m1) ?_;rintro d M1 ⟨j,c,rfl,ej,cc,hj,nw1,_⟩;have cl:=cc.1;rw [zX,zc,zW,zBh];refine zL (andE (isf 6 _ _ rfl) (isl _ _ rfl)) ?_;by_cases w6 : (decide (fam = 6) && decide (let_ = 0)) = true
 ·rw [zVC w6,zW,zi];refine zAm.mpr (zAR.mpr ⟨_,rfl,zAN nw1.gen rfl rfl m0 (by omega) fun p M2 p0 p1 nx2 => ?_⟩);have ej2:=nx2.nw.get ej (by omega) (by omega);refine zOU (zAA ej2) (zLl p0 (by omega)) ?_;rw [zX,zc,zJe];refine zAR.mpr ⟨_,rfl,?_⟩;rw [zX];refine zAR.mpr ⟨_,rfl,zAN nx2.gen rfl rfl m0 (by omega) fun q M3 q0 q1 nx3 => ?_⟩;have ej3:=nx3.nw.get ej2 (by omega) (by omega);rw [zX];have eq' : q = ((q.toNat : Nat) : Int):=by omega
  refine ⟨M3.set j (.lst ((c.map D.int).set q.toNat (.int (c.getD p.toNat 0)))),?_,?_⟩
  ·have:=zHZ (k:=q.toNat) (d:=.int (c.getD p.toNat 0)) ej3 (by rw [zU6]; omega);rw [<- eq'] at this; exact this
  rw [zc];refine zBF rfl ⟨j,c.set q.toNat (c.getD p.toNat 0),rfl,?_,zPa cc (by omega),hj,?_⟩
  ·rw [zVr (zU0.mp ej3).1,List.map_set]
  ·refine ((nw1.trans nx2.nw).trans nx3.nw).setB h hj ?_;show D.unds _ _ = true;rw [<- List.map_set]; exact zy _ _
 ·rw [zVF w6,zBG,zc];exact zBF rfl ⟨j,c,rfl,ej,cc,hj,nw1⟩
def zDn (many : Int) (cs : List (List Int)) : List (List Int):=(List.range many.toNat).map fun r => cs.map fun c => c.getD r 0
theorem zN4 (h0 : 0 < many) (hc : ∀ c ∈ cs,Col many c) (hl : 0 < cs.length) : IsM (zDn many cs) cs.length:=by
 have hlen : (zDn many cs).length = many.toNat:=by unfold zDn; simp
 refine ⟨by omega,hl,fun r hr => ?_⟩;rw [hlen];unfold zDn at hr;obtain ⟨k,hk,rfl⟩:=zVE.mp hr;refine ⟨by simp,fun g hg => ?_⟩;obtain ⟨c,hcm,rfl⟩:=zVE.mp hg;have:=hc c hcm;have h1:=this.1;have:=zRe this (j:=k) (by have:=zVb.mp hk; omega);omega
def zQV (M : Mem) (lo : Nat) (many : Int) (js : List Nat) (cs : List (List Int)) : Prop:=js.length = cs.length /\ ∀ (i : Nat) j c,js[i]? = some j -> cs[i]? = some c -> lo <= j /\ M[j]? = some (.lst (c.map D.int)) /\ Col many c
theorem zL2 (h : Gen M n k) (hm : 0 < many) (hm1 : many <= 900) (hl : 0 < lm) (hl1 : lm <= 900) :
  Ok (zBP [.ref n,.int many,.int lm] M) fun d M' => (∃ zA l,d = mD zA /\ IsM zA l /\ (zA.length : Int) = many /\ (l : Int) = lm) /\ Nw M M' n k:=by
 obtain ⟨hn,hk⟩:=h.lt;unfold zBP;refine zMh ?_;rw [zAe];unfold zDZ;show OkS (za _ _ [some (.ref n),some (.int many),some (.int lm),none,none,none,none,none] M) _;rw [zW,zi];refine zAN h rfl rfl (by decide) (by decide) fun fam M1 f0 f1 nx1 => ?_;rw [zX,zc,zW,zi];show Ok (zAQ _ _ _ _ _ [some (.ref n),some (.int many),some (.int lm),some (.int fam),none,none,none,none] M1) _;refine zDz.mpr ⟨_,_,_,zBn (j:=lm) rfl (by omega) (by omega),by rw [zBl]; exact zt (by omega),?_⟩;refine Ok.mono (zME (n:=lm.toNat) (I:=fun i acc M' => ∃ (js : List Nat) (cs : List (List Int)),acc = js.map D.ref /\ zQV M' M.length many js cs /\ cs.length = i /\ Nw M M' n k) ?_ ⟨[],[],rfl,⟨rfl,fun i j c h => by simp at h⟩,rfl,nx1.nw⟩) ?_
 ·rintro i acc M' hi ⟨js,cs,rfl,hcs,hcl,nw⟩;refine ⟨_,rfl,?_⟩;refine zCj.mpr (zL (zAP (d:=.ref n) rfl (zAP (d:=.int fam) rfl (zAP (d:=.int many) rfl (zAH (d:=.int (i : Nat)) rfl)))) ?_);refine Ok.mono (zNU nw.gen hm (by omega)) ?_;rintro d M2 ⟨j,c,rfl,ec,cc,hj,nw2⟩;have hle:=nw.len;rw [zX];refine ⟨js ++ [j],cs ++ [c],by simp,⟨by simp [hcs.1],fun a b c' h1 h2 => ?_⟩,by simp [hcl],nw.trans nw2⟩;by_cases ha : a < js.length
  ·rw [zU4 ha] at h1;rw [zU4 (by rw [<- hcs.1]; exact ha)] at h2;obtain ⟨q1,q2,q3⟩:=hcs.2 a b c' h1 h2;exact ⟨q1,nw2.get q2 (by omega) (by omega),q3⟩
  ·have ha' : a = js.length:=by
    have:=(zU0.mp h1).1;simp at this; omega
   subst ha';rw [zV7 (zU3 _)] at h1;rw [zV7 (by rw [hcs.1]; exact zU3 _)] at h2;simp at h1;rw [hcs.1] at h2;simp at h2;subst h1 h2;exact ⟨by omega,ec,cc⟩
 ·rintro ys M2 ⟨js,cs,rfl,hcs,hcl,nw⟩;refine zAG ?_;rw [zc];have hju : D.unds M2.length (js.map D.ref) = true:=zFR fun z hz => by
   obtain ⟨b,hb,rfl⟩:=zVE.mp hz;obtain ⟨i,hi,rfl⟩:=List.mem_iff_getElem.mp hb;have hi' : i < cs.length:=by rw [<- hcs.1]; exact hi
   obtain ⟨_,q2,_⟩:=hcs.2 i js[i] cs[i] (zU1 hi) (zU1 hi');simp [D.und,(zU0.mp q2).1]
  have nwA:=nw.trans (nw.gen.lst (js.map D.ref) hju);have eA : (M2 ++ [MO.lst (js.map D.ref)])[M2.length]? = some (.lst (js.map D.ref)):=zAf _ _;have hA : zQV (M2 ++ [MO.lst (js.map D.ref)]) M.length many js cs:=⟨hcs.1,fun i j c h1 h2 => by
   obtain ⟨q1,q2,q3⟩:=hcs.2 i j c h1 h2;exact ⟨q1,by rw [zU4 (zU0.mp q2).1]; exact q2,q3⟩⟩
  generalize M2 ++ [MO.lst (js.map D.ref)] = A at nwA eA hA;generalize M2.length = j at eA;show OkS (zAj _ [some (.ref n),some (.int many),some (.int lm),some (.int fam),some (.ref j),none,none,none] A) _;have hcol : ∀ c ∈ cs,Col many c:=fun c hc => by
   obtain ⟨i,hi,rfl⟩:=List.mem_iff_getElem.mp hc;exact (hA.2 i (js[i]'(by rw [hA.1]; exact hi)) cs[i] (zU1 _) (zU1 _)).2.2
  have hlen : (zDn many cs).length = many.toNat:=by unfold zDn; simp
  refine zBF (d:=mD (zDn many cs)) ?_ ⟨⟨zF3 _,nwA.len,nwA.wf0 h⟩,⟨zDn many cs,cs.length,rfl,zN4 hm hcol (by omega),by omega,by omega⟩,nwA.trim h⟩;refine (zC8 (zCy (List.range many.toNat) (fun k => D.int k) (fun k => .tup ((cs.map fun c => c.getD k 0).map D.int)) (zI6 (f:=zD 1) rfl (by omega) (by omega)) trivial (by simp; omega) fun r hr => ⟨_,rfl,?_⟩) zER).trans ?_
  ·have hr':=zVb.mp hr;refine (zC8 (zCy (gd:=zDS (.dat (.ref j)) (js.map D.ref)) (List.range js.length) (fun i => D.ref (js.getD i 0)) (fun i => .int ((cs.getD i []).getD r 0)) ?_ ?_ (by rw [zWu,hA.1,hcl]; omega) fun i hi => ⟨_,rfl,?_⟩) zER).trans ?_
   ·rw [show ((List.range js.length).map fun i => D.ref (js.getD i 0)) = js.map D.ref by
     apply List.ext_getElem
     ·simp
     ·intro i h1 h2;simp at h1;simp [h1]]
    exact zFY (x:=.dat (.ref j)) rfl (zAA eA)
   ·exact .inl eA
   ·have hi':=zVb.mp hi;have hc' : i < cs.length:=by rw [<- hA.1]; exact hi'
    have ej' : js[i]? = some (js.getD i 0):=by rw [zU2,zU1 hi']; rfl
    have ec' : cs[i]? = some (cs.getD i []):=by rw [zU2,zU1 hc']; rfl
    obtain ⟨_,q2,q3⟩:=hA.2 i _ _ ej' ec';have hz:=q3.1;exact zf (x:=.dat (.ref (js.getD i 0))) (y:=.dat (.int (r : Nat))) rfl rfl (zC0 (zAA q2) (zLl (by omega) (by omega)))
   ·congr 3;rw [zVL];refine zWk D.tup ?_;apply List.ext_getElem
    ·simp [hA.1]
    ·intro i h1 h2;simp at h1 h2;have h2' : i < cs.length:=h2;simp [h2']
  ·unfold mD zDn; rw [zVL]; rfl
noncomputable def zEI : FS:=(zAj (zHm (fB zBq (zg (zD 0) zAC))))
noncomputable def zBV : FF:=zB9 1 zEI
noncomputable def zE6 : FS:=(zAj (zF2 [1,2] [2] (zAW (zD 0)) (gN 1) zAI (zAW (zD 0)) (gN 2) (tst (fOp kLt (zD 1) (zD 2))) (zCZ (zI (toD (zD 1)) (zI (toD (zD 2)) zS)))))
noncomputable def zA0 : FF:=zB9 3 zE6
theorem zKt {α : Type} (enc out : α -> D) (keep : α -> Bool) : ∀ (as : List α),(∀ a ∈ as,∃ σ1,g (enc a) σ = some σ1 /\ tc σ1 M = some (keep a,M) /\ (keep a = true -> te σ1 M = some (.dat (out a),M))) -> zBN g tc te σ all none (as.map enc) M = some ((as.filter keep).map out,M)
 | [],_ => by
  rw [List.map_nil];unfold zBN;rw [zVC (show zBD none all M from trivial)]; rfl
 | a :: r,h => by
  obtain ⟨σ1,e1,e2,e3⟩:=h a zVB;have ih:=zKt (all:=all) (σ:=σ) enc out keep r fun b hb => h b (zVA _ hb);rw [zVG];unfold zBN;rw [zVC (show zBD none all M from trivial),e1];dsimp only;rw [e2];cases hk : keep a with
  | false =>
   dsimp only;rw [ih,List.filter_cons_of_neg (by simp [hk])]
  | true =>
   dsimp only;rw [show toD te σ1 M = some (out a,M) by unfold toD; rw [e3 hk]];dsimp only;rw [ih,List.filter_cons_of_pos hk];rfl
theorem zOk {α β : Type} (as : List α) (enc : α -> D) (bs : α -> List β) (enc2 : β -> D) (keep : α -> β -> Bool) (out : α -> β -> D) (B : Nat)
  (hi : fi σ M = some (as.map enc,none,M)) (hB : ∀ a ∈ as,(bs a).length <= B) (hz : as.length * B <= 90000)
  (he : ∀ a ∈ as,∃ σ1,fg (enc a) (zBc own σ) = some σ1 /\ fi2 σ1 M = some ((bs a).map enc2,none,M) /\ ∀ b ∈ bs a,∃ σ2,fg2 (enc2 b) (zBc own2 σ1) = some σ2 /\ tc2 σ2 M = some (keep a b,M) /\ (keep a b = true -> te σ2 M = some (.dat (out a b),M))) :
  zF2 own own2 fi fg zAI fi2 fg2 tc2 te σ M = some (.fl (as.flatMap fun a => ((bs a).filter (keep a)).map (out a)),M):=by
 have key : ∀ (r : List α) (acc : List D),(∀ a ∈ r,a ∈ as) -> acc.length + r.length * B <= 90000 -> zJ3 fg zAI fi2 own2 fg2 tc2 te (zBc own σ) (as.map enc) none (r.map enc) acc M = some (acc ++ r.flatMap fun a => ((bs a).filter (keep a)).map (out a),M):=by
  intro r;induction r with
  | nil =>
   intro acc _ _;rw [List.map_nil];unfold zJ3;rw [zVC (show zBD none (as.map enc) M from trivial)]; simp
  | cons a r ih =>
   intro acc hs hl;have ha:=hs a zVB;obtain ⟨σ1,e1,e2,e3⟩:=he a ha;have hb:=hB a ha;have hlen : (((bs a).filter (keep a)).map (out a)).length <= (bs a).length:=by rw [zU6]; exact zXH _ _
   rw [zVU,Nat.add_mul] at hl;rw [zVG];unfold zJ3;rw [zVC (show zBD none (as.map enc) M from trivial),e1];dsimp only;rw [show zAI σ1 M = some (true,M) from rfl];dsimp only;rw [e2];dsimp only;rw [zVC (zt (by rw [zU6]; omega)),zKt enc2 (out a) (keep a) (bs a) e3];dsimp only;rw [ih _ (fun b hb => hs b (zVA _ hb)) (by rw [zVD]; omega)];rw [List.flatMap_cons,zV3]
 unfold zF2;rw [hi];dsimp only;rw [key as [] (fun _ h => h) (by simpa using hz)];simp
def zU (xs : List Int) : List (List Int):=xs.flatMap fun a => (xs.filter fun b => decide (a < b)).map fun b => [a,b]
theorem zG8 (hz : xs.length <= 200) : zA0 [tI xs] M = some (.ref M.length,M ++ [.lst ((zU xs).map tI)]):=by
 suffices h : Ok (zA0 [tI xs] M) fun d M' => d = .ref M.length /\ M' = M ++ [.lst ((zU xs).map tI)] by
  obtain ⟨d,M',e,rfl,rfl⟩:=h; exact e
 unfold zA0;rw [zAe];unfold zE6;rw [zAx];have hq : xs.length * xs.length <= 90000:=zVO (zWZ hz hz) (by decide);refine zL (zOk xs D.int (fun _ => xs) D.int (fun a b => decide (a < b)) (fun a b => tI [a,b]) xs.length (zGr rfl) (fun _ _ => zU3 _) hq fun a ha => ⟨_,rfl,zGr rfl,fun b hb => ⟨_,rfl,?_,fun _ => ?_⟩⟩) (zAG ⟨rfl,?_⟩)
 ·exact zBH (zf (x:=.dat (.int a)) (y:=.dat (.int b)) rfl rfl (zp (zTn.mpr ⟨rfl,rfl⟩)))
 ·unfold zCZ;rw [zAP (d:=.int a) rfl (zAH (d:=.int b) rfl)];dsimp only;rw [zVC (zt (by simp))]; rfl
 ·congr 3;unfold zU;rw [List.map_flatMap];congr 1;funext a;rw [zVL]; rfl
theorem zAc : p ∈ zU xs ↔ ∃ a b,p = [a,b] /\ a ∈ xs /\ b ∈ xs /\ a < b:=by
 unfold zU;rw [zXm];constructor
 ·rintro ⟨a,ha,h⟩;obtain ⟨b,hb,rfl⟩:=zVE.mp h;obtain ⟨h1,h2⟩:=zV8.mp hb;exact ⟨a,b,rfl,ha,h1,zVt h2⟩
 ·rintro ⟨a,b,rfl,ha,hb,hlt⟩;exact ⟨a,ha,zVE.mpr ⟨b,zV8.mpr ⟨hb,zV5 hlt⟩,rfl⟩⟩
theorem zKv (hz : zA.length <= 1000) : zBV [mD zA] M = some (tI ((List.range zA.length).map fun (k : Nat) => (k : Int)),M):=by
 refine zp ?_;unfold zBV;rw [zAe];unfold zEI;refine zBF (d:=tI ((List.range zA.length).map fun (k : Nat) => (k : Int))) ?_ ⟨rfl,rfl⟩;unfold zHm;rw [show fB zBq (zg (zD 0) zAC) ([mD zA].map some ++ List.replicate (1 - [mD zA].length) none) M = some (.dat (.int zA.length),M) from zFu rfl];dsimp only;rw [zVC ⟨by omega,by omega⟩];unfold upD tI;rw [zVL,show (zA.length : Int).toNat = zA.length by omega]; rfl
def zJa (g : List Int) : List Key:=g.map Sum.inl
theorem zLH : ∀ {a b : List Int},zJa a = zJa b -> a = b
 | [],[],_ => rfl
 | [],_ :: _,h => by cases h
 | _ :: _,[],h => by cases h
 | x :: a,y :: b,h => by
  have h1:=(zV1 h).1;have h2:=zLH (zV1 h).2;cases h1; rw [h2]
theorem zHe : ∀ g : List Int,zHk (g.map D.int) = some (zJa g)
 | [] => rfl
 | x :: r => by
  rw [zVG];unfold zHk;rw [zHe r];rfl
theorem zFa (g : List Int) : tkD (tI g) = some (zJa g):=zHe g
abbrev zDb (T : List (List Int × D)) : List (D × D):=T.map fun q => (tI q.1,q.2)
abbrev dT (T : List (List Int × D)) : MO:=.dicT (zDb T)
def zM : List (List Int × D) -> List Int -> Option D
 | [],_ => none
 | q :: r,g => if q.1 = g then some q.2 else zM r g
def zCS (T : List (List Int × D)) (g : List Int) (v : D) : List (List Int × D):=match zM T g with
 | some _ => T.map fun q => if q.1 = g then (q.1,v) else q
 | none => T ++ [(g,v)]
theorem zJZ (a g : List Int) : decide (tkD (tI a) = some (zJa g)) = decide (a = g):=by
 rw [zFa];by_cases h : a = g
 ·subst h; simp
 ·rw [zVW h,zVW];intro e;exact h (zLH (zVx e))
theorem zLv (g : List Int) : ∀ T : List (List Int × D),zEF tkD (zDb T) (zJa g) = zM T g
 | [] => rfl
 | q :: r => by
  have ih:=zLv g r;unfold zEF at ih ⊢;unfold zDb at ih ⊢;rw [zVG,zWj];dsimp only;rw [zJZ];unfold zM;by_cases h : q.1 = g
  ·rw [zV5 h,zVC h]; rfl
  ·rw [zVW h,zVF h]; exact ih
theorem zR8 (g : List Int) : ∀ T : List (List Int × D),((zDb T).any fun p => decide (tkD p.1 = some (zJa g))) = (zM T g).isSome
 | [] => rfl
 | q :: r => by
  have ih:=zR8 g r;unfold zDb at ih ⊢;rw [zVG,List.any_cons,zJZ];unfold zM;by_cases h : q.1 = g
  ·rw [zV5 h,zVC h]; rfl
  ·rw [zVW h,zVF h,Bool.false_or]; exact ih
theorem zR0 (T : List (List Int × D)) (g : List Int) (v : D) : zH3 tkD (zDb T) (zJa g) (tI g) v = zDb (zCS T g v):=by
 unfold zH3 zCS;rw [zR8];cases h : zM T g with
 | none =>
  rw [zVF (by simp)];unfold zDb; rw [zVp]; rfl
 | some d =>
  rw [zVC (by simp)];unfold zDb;dsimp only;rw [zVL,zVL];apply List.map_congr_left;intro q _;show (if tkD (tI q.1) = some (zJa g) then (tI q.1,v) else (tI q.1,q.2)) = (tI (if q.1 = g then (q.1,v) else q).1,(if q.1 = g then (q.1,v) else q).2);have hd:=zJZ q.1 g;by_cases hq : q.1 = g
  ·rw [zV5 hq] at hd;rw [zVC (zVt hd),zVC hq]
  ·rw [zVW hq] at hd;rw [zVF (of_decide_eq_false hd),zVF hq]
theorem zDg (T : List (List Int × D)) (g h : List Int) (v : D) : zM (zCS T g v) h = if g = h then some v else zM T h:=by
 have app : ∀ (T : List (List Int × D)),zM T g = none -> zM (T ++ [(g,v)]) h = if g = h then some v else zM T h:=by
  intro T;induction T with
  | nil => intro _; rfl
  | cons q r ih =>
   intro e;unfold zM at e;by_cases hq : q.1 = g
   ·rw [zVC hq] at e; cases e
   ·rw [zVF hq] at e;show (if q.1 = h then some q.2 else zM (r ++ [(g,v)]) h) = if g = h then some v else if q.1 = h then some q.2 else zM r h
    rw [ih e];by_cases h1 : q.1 = h
    ·rw [zVC h1,zVC h1,zVF (fun z => hq (h1.trans z.symm))]
    ·rw [zVF h1,zVF h1]
 have mp : ∀ (T : List (List Int × D)),(zM T g).isSome = true -> zM (T.map fun q => if q.1 = g then (q.1,v) else q) h = if g = h then some v else zM T h:=by
  intro T;by_cases hgh : g = h
  ·subst hgh;induction T with
   | nil => intro e; cases e
   | cons q r ih =>
    intro e;rw [zVG];unfold zM;by_cases hq : q.1 = g
    ·rw [zVC hq]; simp [hq]
    ·rw [zVF hq,zVF hq];unfold zM at e;rw [zVF hq] at e;rw [ih e,zVC rfl,zVC rfl]
  ·intro hx;clear hx;rw [zVF hgh];clear app;induction T with
   | nil => rfl
   | cons q r ih =>
    rw [zVG];unfold zM;by_cases hq : q.1 = g
    ·have : ¬ q.1 = h:=fun z => hgh (hq.symm.trans z);rw [zVC hq];show (if q.1 = h then some v else _) = _;rw [zVF this,zVF this]; exact ih
    ·rw [zVF hq];by_cases h1 : q.1 = h
     ·rw [zVC h1,zVC h1]
     ·rw [zVF h1,zVF h1]; exact ih
 unfold zCS;cases e : zM T g with
 | none => exact app T e
 | some d => exact mp T (by rw [e]; rfl)
theorem zHC (T : List (List Int × D)) (g : List Int) (v : D) : (zCS T g v).length <= T.length + 1:=by
 unfold zCS;cases zM T g with
 | none => simp
 | some d => simp
section
variable {M : Mem} {n : Nat} {T : List (List Int × D)} {g : List Int}
theorem dgT (h : M[n]? = some (dT T)) : zGP M (.dat (.ref n)) (tI g) = some (zM T g):=by
 unfold zGP; dsimp only; rw [h]; dsimp only; rw [zFa]; dsimp only; rw [zLv]
theorem zMF (h : M[n]? = some (dT T)) : zBa neg (.dat (tI g)) (.dat (.ref n)) M = some (.dat (.bl (if neg then !(zM T g).isSome else (zM T g).isSome)),M):=by
 unfold zBa; dsimp only; rw [dgT h]
theorem zHq (h : M[n]? = some (dT T)) (hd : zM T g = some d) : zBB (.dat (.ref n)) (.dat (tI g)) M = some (.dat d,M):=by
 unfold zBB; dsimp only; rw [dgT h,hd]
theorem zKU (h : M[n]? = some (dT T)) (hz : T.length < 90000) : zGS M n (tI g) v = some (M.set n (dT (zCS T g v))):=by
 unfold zGS; rw [h]; dsimp only; rw [zFa]; dsimp only; rw [zVC (by rw [zU6]; exact zVM hz (zt (by omega))),zR0]
end
noncomputable def zES : FS:=(za (zAB 1 zHR)
  (za (zCG (zAW (zb zA0 (zI (toD (zb zBV (zI (toD (zD 0)) zS))) zS))) (gN 2) (zCG (zAK (zI (toD (fB zBq (zg (fOp kIx (zD 0) (fC (.int 0))) zAC))) zS)) (gN 3) (za (zAB 4 (zb zBQ (zI (toD (zD 0)) (zI (toD (zD 2)) (zI (toD (zD 3)) zS)))))
  (za (sIf (tst (fOp (zBa true) (zD 4) (zD 1))) (zB6 (zAh zS) (zD 1) (zD 4)) zB4)
  (zAq (fM z0 (fOp zBB (zD 1) (zD 4)) (zI (toD (zD 2)) zS)))))))
  (zAj (zD 1))))
noncomputable def zCV : FF:=zB9 5 zES
def zAy (zA : List (List Int)) (ps : List (List Int × Int)) (g : List Int) : List (List Int):=(ps.filter fun q => decide (setR zA q.1 q.2 = g)).map (·.1)
theorem zDx (zA : List (List Int)) (ps : List (List Int × Int)) (p : List Int) (x : Int) (g : List Int) : zAy zA (ps ++ [(p,x)]) g = zAy zA ps g ++ (if setR zA p x = g then [p] else []):=by
 unfold zAy;rw [List.filter_append,zVp];congr 1;by_cases h : setR zA p x = g
 ·rw [zVC h,List.filter_cons_of_pos (by simpa using h)]; rfl
 ·rw [zVF h,List.filter_cons_of_neg (by simpa using h)]; rfl
structure Sr (zA : List (List Int)) (M : Mem) (jd lo : Nat) (ps : List (List Int × Int)) : Prop where
 ex : ∃ T : List (List Int × D),M[jd]? = some (dT T) /\ T.length <= ps.length /\ (∀ g d,zM T g = some d -> ∃ j,d = .ref j /\ lo < j /\ M[j]? = some (.lst ((zAy zA ps g).map tI))) /\ (∀ g,zM T g = none -> zAy zA ps g = []) /\ ∀ g g' j,zM T g = some (.ref j) -> zM T g' = some (.ref j) -> g = g'
theorem zNj {zA : List (List Int)} {l : Nat} (m : IsM zA l) (hR : zA.length < 64) {M : Mem} {jd lo : Nat} {ps : List (List Int × Int)} (hps : ps.length < 50000) (hlo : jd < lo) (hlo2 : lo < M.length) (sr : Sr zA M jd lo ps) {p : List Int} (hp : IsS zA p) {x : Int} (x0 : 0 <= x) (x1 : x < l) {y4 : Option D} :
  OkS (za (zAB 4 (zb zBQ (zI (toD (zD 0)) (zI (toD (zD 2)) (zI (toD (zD 3)) zS))))) (za (sIf (tst (fOp (zBa true) (zD 4) (zD 1))) (zB6 (zAh zS) (zD 1) (zD 4)) zB4) (zAq (fM z0 (fOp zBB (zD 1) (zD 4)) (zI (toD (zD 2)) zS)))) [some (mD zA),some (.ref jd),some (tI p),some (.int x),y4] M)
   fun o σ' M' => o = .nx /\ (∃ y,σ' = [some (mD zA),some (.ref jd),some (tI p),some (.int x),y]) /\ Sr zA M' jd lo (ps ++ [(p,x)]) /\ M.length <= M'.length /\ ∀ j,j <= lo -> j ≠ jd -> M'[j]? = M[j]?:=by
 obtain ⟨T,ed,hT,h1,h2,h3⟩:=sr.ex;refine zCF (zAr (zAP rfl (zAP rfl (zAH rfl))) (zGv m hR hp x0 x1)) ?_;generalize hg : setR zA p x = goal;show OkS (za _ _ [some (mD zA),some (.ref jd),some (tI p),some (.int x),some (tI goal)] M) _;rw [zW,zBh];refine zL (M:=M) (a:=!(zM T goal).isSome) (zBH (zf (x:=.dat (tI goal)) (y:=.dat (.ref jd)) rfl rfl (zMF ed))) ?_
 have last : ∀ (A : Mem) (T' : List (List Int × D)) (j : Nat),A[jd]? = some (dT T') -> zM T' goal = some (.ref j) -> lo < j -> A[j]? = some (.lst ((zAy zA ps goal).map tI)) -> T'.length <= ps.length + 1 -> M.length <= A.length -> (∀ j,j <= lo -> j ≠ jd -> A[j]? = M[j]?) ->
   (∀ g d,zM T' g = some d -> ∃ j,d = .ref j /\ lo < j /\ A[j]? = some (.lst ((zAy zA ps g).map tI))) -> (∀ g,zM T' g = none -> zAy zA ps g = []) -> (∀ g g' j,zM T' g = some (.ref j) -> zM T' g' = some (.ref j) -> g = g') ->
   OkS (zAq (fM z0 (fOp zBB (zD 1) (zD 4)) (zI (toD (zD 2)) zS)) [some (mD zA),some (.ref jd),some (tI p),some (.int x),some (tI goal)] A)
    fun o σ' M' => o = .nx /\ (∃ y,σ' = [some (mD zA),some (.ref jd),some (tI p),some (.int x),y]) /\ Sr zA M' jd lo (ps ++ [(p,x)]) /\ M.length <= M'.length /\ ∀ j,j <= lo -> j ≠ jd -> M'[j]? = M[j]?:=by
  intro A T' j ea el hj ej hz hle hfr k1 k2 k3;rw [zBm];have hfl : (zAy zA ps goal).length <= ps.length:=by unfold zAy; rw [zU6]; exact zXH _ _
  have jl : j < A.length:=(zU0.mp ej).1;refine zH8.mpr (zL (zf (x:=.dat (.ref jd)) (y:=.dat (tI goal)) rfl rfl (zHq ea el)) ⟨⟨_,zBT ej⟩,zL (zAH (d:=tI p) rfl) ?_⟩);rw [zCv ej (by rw [zU6]; exact zVM (m:=95000) (by omega) (zt (by omega)))];refine ⟨rfl,⟨_,rfl⟩,⟨T',by rw [zVR (by omega)]; exact ea,by simpa using hz,fun g d hd => ?_,fun g hd => ?_,k3⟩,by simpa using hle,fun i hi hn => by rw [zVR (by omega)]; exact hfr i hi hn⟩
  ·obtain ⟨j',rfl,hj',ej'⟩:=k1 g d hd;refine ⟨j',rfl,hj',?_⟩;rw [zDx,hg];by_cases hgg : goal = g
   ·subst hgg;rw [el] at hd;cases hd;rw [zVr jl,zVC rfl,zVp]; rfl
   ·rw [zVF hgg,zVh];have : j ≠ j':=fun z => hgg (k3 goal g j el (by rw [z]; exact hd));rw [zVR this]; exact ej'
  ·rw [zDx,hg,zVF (fun z => by rw [<- z,el] at hd; cases hd),zVh];exact k2 g hd
 cases hl : zM T goal with
 | some d =>
  obtain ⟨j,rfl,hj,ej⟩:=h1 goal d hl;rw [zVF (by simp),zBG,zc];exact last M T j ed hl hj ej (by omega) (zU3 _) (fun _ _ _ => rfl) h1 h2 h3
 | none =>
  rw [zVC (by simp)];have e0:=h2 goal hl;have jdl : jd < M.length:=(zU0.mp ed).1;have ed' : (M ++ [MO.lst ([] : List D)])[jd]? = some (dT T):=by rw [zU4 jdl]; exact ed
  refine ⟨.nx,[some (mD zA),some (.ref jd),some (tI p),some (.int x),some (tI goal)],(M ++ [MO.lst ([] : List D)]).set jd (dT (zCS T goal (.ref M.length))),?_,?_⟩
  ·unfold zB6;rw [show toD (zAh zS) [some (mD zA),some (.ref jd),some (tI p),some (.int x),some (tI goal)] M = some (.ref M.length,M ++ [.lst []]) by
    unfold toD zAh zS; dsimp only; rw [zVC (zt (by simp))]]
   dsimp only;rw [show toD (zD 1) [some (mD zA),some (.ref jd),some (tI p),some (.int x),some (tI goal)] (M ++ [.lst []]) = some (.ref jd,M ++ [.lst []]) from rfl];dsimp only;rw [show toD (zD 4) [some (mD zA),some (.ref jd),some (tI p),some (.int x),some (tI goal)] (M ++ [.lst []]) = some (tI goal,M ++ [.lst []]) from rfl];dsimp only;rw [zKU ed' (by omega)]
  rw [zc];have hput:=fun g => zDg T goal g (.ref M.length);refine last _ (zCS T goal (.ref M.length)) M.length (zVr (by simp; omega)) (by rw [hput,zVC rfl]) hlo2 ?_ (by have:=zHC T goal (.ref M.length); omega) (by simp) (fun i hi hn => ?_) (fun g d hd => ?_) (fun g hd => ?_) (fun g g' j hd hd' => ?_)
  ·rw [zVR (by omega),e0]; simp
  ·rw [zVR (Ne.symm hn),zU4 (by omega)]
  ·rw [hput] at hd;by_cases hgg : goal = g
   ·subst hgg;rw [zVC rfl] at hd;cases hd;exact ⟨M.length,rfl,hlo2,by rw [zVR (by omega),e0]; simp⟩
   ·rw [zVF hgg] at hd;obtain ⟨j,rfl,hj,ej⟩:=h1 g d hd;exact ⟨j,rfl,hj,by rw [zVR (by omega),zU4 (zU0.mp ej).1]; exact ej⟩
  ·rw [hput] at hd;by_cases hgg : goal = g
   ·rw [zVC hgg] at hd; cases hd
   ·rw [zVF hgg] at hd; exact h2 g hd
  ·rw [hput] at hd hd';by_cases a : goal = g
   ·by_cases b : goal = g'
    ·rw [<- a,<- b]
    ·rw [zVC a] at hd;rw [zVF b] at hd';cases hd;obtain ⟨j,e,_,ej⟩:=h1 g' _ hd';cases e;exact absurd (zU0.mp ej).1 (zVf _)
   ·rw [zVF a] at hd;by_cases b : goal = g'
    ·rw [zVC b] at hd';cases hd';obtain ⟨j,e,_,ej⟩:=h1 g _ hd;cases e;exact absurd (zU0.mp ej).1 (zVf _)
    ·rw [zVF b] at hd';exact h3 g g' j hd hd'
def zQ (zA : List (List Int)) : List Int:=(List.range zA.length).map fun (k : Nat) => (k : Int)
def zj (l : Nat) (ps : List (List Int)) : List (List Int × Int):=ps.flatMap fun p => (List.range l).map fun (x : Nat) => (p,(x : Int))
theorem zE7 (l : Nat) (ps : List (List Int)) : (zj l ps).length = ps.length * l:=by
 unfold zj;induction ps with
 | nil => simp
 | cons p r ih => rw [List.flatMap_cons,zVD,ih,zU6,zWu,zVU,Nat.add_mul]; omega
theorem zBu (xs : List Int) : (zU xs).length <= xs.length * xs.length:=by
 unfold zU;have : ∀ (r : List Int),(r.flatMap fun a => (xs.filter fun b => decide (a < b)).map fun b => [a,b]).length <= r.length * xs.length:=by
  intro r;induction r with
  | nil => simp
  | cons a r ih =>
   rw [List.flatMap_cons,zVD,zU6,zVU,Nat.add_mul];have:=zXH (fun b => decide (a < b)) xs;omega
 exact this xs
theorem zMV (h : p ∈ zU (zQ zA)) : IsS zA p:=by
 obtain ⟨a,b,rfl,ha,hb,hlt⟩:=zAc.mp h;obtain ⟨i,hi,rfl⟩:=zVE.mp ha;obtain ⟨j,hj,rfl⟩:=zVE.mp hb;have:=zVb.mp hi;have:=zVb.mp hj;refine ⟨by simp; omega,by simp,fun x hx => ?_⟩;simp only [zU9,zVS,or_false] at hx;omega
theorem zJg {M M1 : Mem} (ha : a σ M = some (ds,M)) (hg : g ds M = some (.ref j,M1)) (hj : M1[j]? = some (.lst xs)) : zAW (zb g a) σ M = some (xs,zDS (.dat (.ref j)) xs,M1):=by
 have : zb g a σ M = some (.dat (.ref j),M1):=by unfold zb; rw [ha]; dsimp only; rw [hg]
 unfold zAW; rw [this]; dsimp only; rw [zAA hj]
theorem zQg {zA : List (List Int)} {l : Nat} (m : IsM zA l) (hR : zA.length < 64) (hl : l <= 12) {M : Mem} : Ok (zCV [mD zA] M) fun d M' => d = .ref M.length /\ Sr zA M' M.length (M.length + 1) (zj l (zU (zQ zA))) /\ M.length + 1 < M'.length /\ ∀ j,j < M.length -> M'[j]? = M[j]?:=by
 unfold zCV;rw [zAe];unfold zES;show OkS (za _ _ [some (mD zA),none,none,none,none] M) _;rw [zW,zi];refine zL (M:=M ++ [.dicT []]) (a:=.dat (.ref M.length)) rfl ?_;rw [zX,zc,zW,zBd];show ∃ xs gd M1,zAW _ [some (mD zA),some (.ref M.length),none,none,none] (M ++ [.dicT []]) = some (xs,gd,M1) /\ _;have hrl : (zQ zA).length = zA.length:=by unfold zQ; simp
 have epr:=zG8 (xs:=zQ zA) (by omega) (M:=M ++ [.dicT []]);refine ⟨_,_,_,zJg (zAH (d:=tI (zQ zA)) (zAr (zAH (d:=mD zA) rfl) (zKv (by omega)))) epr (zAf _ _),?_⟩;rw [show (M ++ [MO.dicT []]).length = M.length + 1 by simp];generalize hP : zU (zQ zA) = P;have hPl : P.length <= 3969:=by
  rw [<- hP];have h1:=zBu (zQ zA);rw [hrl] at h1;exact zVO h1 (zWZ (show zA.length <= 63 by omega) (show zA.length <= 63 by omega))
 have e1 : (M ++ [MO.dicT []] ++ [MO.lst (P.map tI)])[M.length + 1]? = some (.lst (P.map tI)):=by
  rw [zV3,zV7 (by omega)]; simp
 have e0 : (M ++ [MO.dicT []] ++ [MO.lst (P.map tI)])[M.length]? = some (dT []):=by
  rw [zV3,zV7 (by omega)]; simp
 have ef : ∀ j,j < M.length -> (M ++ [MO.dicT []] ++ [MO.lst (P.map tI)])[j]? = M[j]?:=fun j hj => by rw [zV3,zU4 hj]
 have el : (M ++ [MO.dicT []] ++ [MO.lst (P.map tI)]).length = M.length + 2:=by simp
 generalize M ++ [MO.dicT []] ++ [MO.lst (P.map tI)] = M1 at e1 e0 ef el;refine zBX (I:=fun r σ M' => (∃ y2 y3 y4,σ = [some (mD zA),some (.ref M.length),y2,y3,y4]) /\ ∃ us vs : List (List Int),P = us ++ vs /\ r = vs.map tI /\ Sr zA M' M.length (M.length + 1) (zj l us) /\ M'[M.length + 1]? = some (.lst (P.map tI)) /\ M.length + 1 < M'.length /\ ∀ j,j < M.length -> M'[j]? = M[j]?) ?_ ?_ _ _ _ ⟨⟨_,_,_,rfl⟩,[],P,rfl,rfl,⟨[],e0,by simp,(fun g d h => by cases h),(fun _ _ => rfl),(fun g g' j h => by cases h)⟩,e1,by omega,ef⟩
 ·rintro x r σ M' ⟨⟨y2,y3,y4,rfl⟩,us,vs,hab,hr,sr,ep,hlen,hfr⟩;cases vs with
  | nil => cases hr
  | cons p vs =>
   rw [zVG] at hr;obtain ⟨rfl,rfl⟩:=zV1 hr;have hpm : p ∈ zU (zQ zA):=by rw [hP,hab]; simp
   have hul : us.length < 3969:=by have:=zWk List.length hab; simp at this; omega
   refine ⟨.inl ep,_,rfl,?_⟩;show OkS (zCG _ _ _ [some (mD zA),some (.ref M.length),some (tI p),y3,y4] M') _;rw [zBd];refine ⟨_,_,_,zBn (zGo m rfl) (by omega) (by omega),?_⟩;rw [show (l : Int).toNat = l by omega];refine zG1 (n:=l) (I:=fun i σ M'' => (∃ y3 y4,σ = [some (mD zA),some (.ref M.length),some (tI p),y3,y4]) /\ Sr zA M'' M.length (M.length + 1) (zj l us ++ (List.range i).map fun (x : Nat) => (p,(x : Int))) /\ M''[M.length + 1]? = some (.lst (P.map tI)) /\ M.length + 1 < M''.length /\ ∀ j,j < M.length -> M''[j]? = M[j]?) ?_ ?_ _ _ ⟨⟨_,_,rfl⟩,by simpa using sr,ep,hlen,hfr⟩
   ·rintro i σ M2 hi ⟨⟨y3,y4,rfl⟩,sr2,ep2,hlen2,hfr2⟩;refine ⟨_,rfl,?_⟩;have hcount : (zj l us ++ (List.range i).map fun (x : Nat) => (p,(x : Int))).length < 50000:=by
     rw [zVD,zE7,zU6,zWu];have:=zWZ (show us.length <= 3968 by omega) hl;omega
    refine OkS.mono (zNj m hR hcount (zVu _) hlen2 sr2 (zMV hpm) (x:=(i : Int)) (by omega) (by omega)) ?_;rintro o σ' M3 ⟨rfl,⟨y,rfl⟩,sr3,hl3,hf3⟩;refine ⟨⟨_,_,rfl⟩,?_,by rw [hf3 _ (zU3 _) (by omega)]; exact ep2,by omega,fun j hj => by rw [hf3 j (by omega) (by omega)]; exact hfr2 j hj⟩;rw [List.range_succ,zVp,<- zV3];exact sr3
   ·rintro σ M2 ⟨⟨y3,y4,rfl⟩,sr2,ep2,hlen2,hfr2⟩;refine ⟨⟨_,_,_,rfl⟩,us ++ [p],vs,by rw [hab]; simp,rfl,?_,ep2,hlen2,hfr2⟩;have : zj l (us ++ [p]) = zj l us ++ (List.range l).map fun (x : Nat) => (p,(x : Int)):=by
     unfold zj; rw [List.flatMap_append]; simp
    rw [this]; exact sr2
 ·rintro σ M' ⟨⟨y2,y3,y4,rfl⟩,us,vs,hab,hr,sr,ep,hlen,hfr⟩;have : vs = []:=by cases vs with | nil => rfl | cons _ _ => cases hr
  subst this;rw [zVh] at hab;subst hab;refine ⟨.inl ep,?_⟩;rw [zc];exact zBF rfl ⟨rfl,sr,hlen,hfr⟩
noncomputable def zDp : FS:=(za (zAB 2 (zb zCV (zI (toD (zD 0)) zS)))
  (za (zAB 3 (zD 1))
  (za (zAB 4 (zDY true [5] (zAW (zD 1)) (gN 5) zAI (zD 5) (fC (.int 0))))
  (za (zBI (zMD (zD 3)) (za (zAB 6 (zAh zS))
  (za (zCG (zAW (zD 3)) (gN 5) (zCG (zAW (zBR (zD 2) (zD 5) (zAh zS))) (gN 7) (sIf (tst (fOp (zBa true) (zD 7) (zD 4))) (za (zB6 (fOp zAt (fOp zBB (zD 4) (zD 5)) (fC (.int 1))) (zD 4) (zD 7))
  (zAq (fM z0 (zD 6) (zI (toD (zD 7)) zS)))) zB4)))
  (zAB 3 (zD 6)))) 1000)
  (zAj (zD 4))))))
noncomputable def zB8 : FF:=zB9 8 zDp
abbrev Fd:=List (List Int × D) × List (List Int)
def zBU (k : Int) (st : Fd) (p : List Int) : Fd:=if (zM st.1 p).isSome then st else (zCS st.1 p (.int k),st.2 ++ [p])
structure Lv (M0 M : Mem) (jf jb : Nat) (st : Fd) : Prop where
 f : M[jf]? = some (dT st.1)
 b : M[jb]? = some (.lst (st.2.map tI))
 len : M0.length <= M.length
 fr : ∀ j,j < M0.length -> j ≠ jf -> j ≠ jb -> M[j]? = M0[j]?
theorem zOT (k : Int) (st : Fd) (p : List Int) : (zBU k st p).1.length <= st.1.length + 1 /\ (zBU k st p).2.length <= st.2.length + 1:=by
 unfold zBU;split
 ·exact ⟨by omega,by omega⟩
 ·exact ⟨zHC _ _ _,by simp⟩
theorem zQv {M0 : Mem} {jf jb js jd jl : Nat} {zA : List (List Int)} {x1 x3 y7 : Option D} {goal : List Int} {k : Int} {ps : List (List Int)} (hne : jf ≠ jb) (h1 : jf < M0.length) (h2 : jb < M0.length) :
  ∀ (M : Mem) (st : Fd),Lv M0 M jf jb st -> M[js]? = some (.lst (ps.map tI)) -> js ≠ jf -> js ≠ jb -> zM st.1 goal = some (.int k) -> st.1.length + ps.length <= 80000 -> st.2.length + ps.length <= 80000 ->
  OkS (zCb (gN 7) (sIf (tst (fOp (zBa true) (zD 7) (zD 4))) (za (zB6 (fOp zAt (fOp zBB (zD 4) (zD 5)) (fC (.int 1))) (zD 4) (zD 7)) (zAq (fM z0 (zD 6) (zI (toD (zD 7)) zS)))) zB4) (ps.map tI) (zDS (.dat (.ref js)) (ps.map tI)) (ps.map tI) [some (mD zA),x1,some (.ref jd),x3,some (.ref jf),some (tI goal),some (.ref jb),y7] M)
   fun o σ' M' => o = .nx /\ (∃ y,σ' = [some (mD zA),x1,some (.ref jd),x3,some (.ref jf),some (tI goal),some (.ref jb),y]) /\ Lv M0 M' jf jb (ps.foldl (zBU (k + 1)) st) /\ M'.length = M.length /\ ∀ j,j ≠ jf -> j ≠ jb -> M'[j]? = M[j]?:=by
 intro M st lv ejs n1 n2 hgl z1 z2;refine zBX (I:=fun r σ M' => (∃ y,σ = [some (mD zA),x1,some (.ref jd),x3,some (.ref jf),some (tI goal),some (.ref jb),y]) /\ ∃ us vs : List (List Int),ps = us ++ vs /\ r = vs.map tI /\ Lv M0 M' jf jb (us.foldl (zBU (k + 1)) st) /\ zM (us.foldl (zBU (k + 1)) st).1 goal = some (.int k) /\ (us.foldl (zBU (k + 1)) st).1.length <= st.1.length + us.length /\ (us.foldl (zBU (k + 1)) st).2.length <= st.2.length + us.length /\ M'.length = M.length /\ ∀ j,j ≠ jf -> j ≠ jb -> M'[j]? = M[j]?) ?_ ?_ _ _ _ ⟨⟨_,rfl⟩,[],ps,rfl,rfl,lv,hgl,by simp,by simp,rfl,fun _ _ _ => rfl⟩
 ·rintro x r σ M' ⟨⟨y,rfl⟩,us,vs,hab,hr,lv',hg',l1,l2,hl,hfr⟩;cases vs with
  | nil => cases hr
  | cons p vs =>
   rw [zVG] at hr;obtain ⟨rfl,rfl⟩:=zV1 hr;have hul : us.length < ps.length:=by rw [hab]; simp
   refine ⟨.inl (by rw [hfr js n1 n2]; exact ejs),_,rfl,?_⟩;show OkS (sIf _ _ _ [some (mD zA),x1,some (.ref jd),x3,some (.ref jf),some (tI goal),some (.ref jb),some (tI p)] M') _;have hfold : (us ++ [p]).foldl (zBU (k + 1)) st = zBU (k + 1) (us.foldl (zBU (k + 1)) st) p:=by rw [zWv]; rfl
   generalize us.foldl (zBU (k + 1)) st = st' at lv' hg' l1 l2 hfold;have al:=zOT (k + 1) st' p;rw [zBh];refine zL (M:=M') (a:=!(zM st'.1 p).isSome) (zBH (zf (x:=.dat (tI p)) (y:=.dat (.ref jf)) rfl rfl (zMF lv'.f))) ?_;cases hlk : zM st'.1 p with
   | some d =>
    have ea : zBU (k + 1) st' p = st':=by unfold zBU; rw [hlk]; rfl
    rw [zVF (by simp),zBG];refine ⟨⟨_,rfl⟩,us ++ [p],vs,by rw [hab]; simp,rfl,?_⟩;rw [hfold,ea];exact ⟨lv',hg',by simp; omega,by simp; omega,hl,hfr⟩
   | none =>
    have ea : zBU (k + 1) st' p = (zCS st'.1 p (.int (k + 1)),st'.2 ++ [p]):=by unfold zBU; rw [hlk]; rfl
    have hgp : p ≠ goal:=fun z => by rw [z,hg'] at hlk; cases hlk
    rw [zVC (by simp),zW];have ev : fOp zAt (fOp zBB (zD 4) (zD 5)) (fC (.int 1)) [some (mD zA),x1,some (.ref jd),x3,some (.ref jf),some (tI goal),some (.ref jb),some (tI p)] M' = some (.dat (.int (k + 1)),M'):=zf (x:=.dat (.int k)) (zf (x:=.dat (.ref jf)) (y:=.dat (tI goal)) rfl rfl (zHq lv'.f hg')) rfl rfl;have hd : OkS (zB6 (fOp zAt (fOp zBB (zD 4) (zD 5)) (fC (.int 1))) (zD 4) (zD 7) [some (mD zA),x1,some (.ref jd),x3,some (.ref jf),some (tI goal),some (.ref jb),some (tI p)] M') fun o σ' M2 => o = .nx /\ σ' = [some (mD zA),x1,some (.ref jd),x3,some (.ref jf),some (tI goal),some (.ref jb),some (tI p)] /\ M2 = M'.set jf (dT (zCS st'.1 p (.int (k + 1)))):=by
     refine ⟨.nx,_,_,?_,rfl,rfl,rfl⟩;unfold zB6;rw [show toD (fOp zAt (fOp zBB (zD 4) (zD 5)) (fC (.int 1))) [some (mD zA),x1,some (.ref jd),x3,some (.ref jf),some (tI goal),some (.ref jb),some (tI p)] M' = some (.int (k + 1),M') by unfold toD; rw [ev]];dsimp only;rw [show toD (zD 4) [some (mD zA),x1,some (.ref jd),x3,some (.ref jf),some (tI goal),some (.ref jb),some (tI p)] M' = some (.ref jf,M') from rfl];dsimp only;rw [show toD (zD 7) [some (mD zA),x1,some (.ref jd),x3,some (.ref jf),some (tI goal),some (.ref jb),some (tI p)] M' = some (tI p,M') from rfl];dsimp only;rw [zKU lv'.f (by omega)]
    refine OkS.mono hd ?_;rintro o σ' M2 ⟨rfl,rfl,rfl⟩;rw [zc,zBm];have eb : (M'.set jf (dT (zCS st'.1 p (.int (k + 1)))))[jb]? = some (.lst (st'.2.map tI)):=by rw [zVR hne]; exact lv'.b
    refine zH8.mpr (zAR.mpr ⟨_,rfl,⟨_,zBT eb⟩,zL (zAH (d:=tI p) rfl) ?_⟩);rw [zCv eb (by rw [zU6]; exact zVM (m:=95000) (by omega) (zt (by omega)))];have jfl : jf < M'.length:=zVM h1 lv'.len;have jbl : jb < M'.length:=zVM h2 lv'.len;refine ⟨⟨_,rfl⟩,us ++ [p],vs,by rw [hab]; simp,rfl,?_⟩;rw [hfold];refine ⟨?_,?_,by simp; omega,by simp; omega,by simp [hl],fun j q1 q2 => by rw [zVR (Ne.symm q2),zVR (Ne.symm q1)]; exact hfr j q1 q2⟩
    ·rw [ea];refine ⟨by rw [zVR (Ne.symm hne),zVr jfl],by rw [zVr (by simpa using jbl),zVp]; rfl,by simpa using lv'.len,fun j q0 q1 q2 => by rw [zVR (Ne.symm q2),zVR (Ne.symm q1)]; exact lv'.fr j q0 q1 q2⟩
    ·rw [ea];show zM (zCS st'.1 p (.int (k + 1))) goal = _;rw [zDg,zVF hgp]; exact hg'
 ·rintro σ M' ⟨⟨y,rfl⟩,us,vs,hab,hr,lv',hg',l1,l2,hl,hfr⟩;have : vs = []:=by cases vs with | nil => rfl | cons _ _ => cases hr
  subst this;rw [zVh] at hab;subst hab;exact ⟨.inl (by rw [hfr js n1 n2]; exact ejs),rfl,⟨_,rfl⟩,lv',hl,hfr⟩
theorem zTm {f g : FE} {σ : Sd} {M : Mem} {n : Nat} {T : List (List Int × D)} {k : List Int} (hf : f σ M = some (.dat (.ref n),M)) (hn : M[n]? = some (dT T)) (hg : g σ M = some (.dat (tI k),M)) : zBR f g (zAh zS) σ M = some (.dat ((zM T k).getD (.ref M.length)),M ++ [.lst []]):=by
 have nl : n < M.length:=(zU0.mp hn).1;unfold zBR;rw [show toD f σ M = some (.ref n,M) by unfold toD; rw [hf]];dsimp only;rw [hn];dsimp only;rw [show toD g σ M = some (tI k,M) by unfold toD; rw [hg]];dsimp only;rw [show toD (zAh zS) σ M = some (.ref M.length,M ++ [.lst []]) by
  unfold toD zAh zS; dsimp only; rw [zVC (zt (by simp))]]
 dsimp only;rw [dgT (g:=k) (show (M ++ [MO.lst ([] : List D)])[n]? = some (dT T) by rw [zU4 nl]; exact hn)]
def zCC (src : List Int -> List (List Int)) (k : Int) (gs : List (List Int)) (st : Fd) : Fd:=gs.foldl (fun st g => (src g).foldl (zBU (k + 1)) st) st
theorem zN1 {k : Int} {st : Fd} {p g : List Int} {d : D} (h : zM st.1 g = some d) : zM (zBU k st p).1 g = some d:=by
 unfold zBU;split
 ·exact h
 ·rename_i q;show zM (zCS st.1 p (.int k)) g = some d;rw [zDg,zVF (fun z => q (by rw [z,h]; rfl))]; exact h
theorem zHf {k : Int} {g : List Int} {d : D} : ∀ (ps : List (List Int)) {st : Fd},zM st.1 g = some d -> zM (ps.foldl (zBU k) st).1 g = some d
 | [],_,h => h
 | p :: r,_,h => zHf r (zN1 h)
def zUU (M : Mem) (Ts : List (List Int × D)) (jf jb : Nat) (src : List Int -> List (List Int)) : Prop:=∀ g,(∃ j,zM Ts g = some (.ref j) /\ j ≠ jf /\ j ≠ jb /\ M[j]? = some (.lst ((src g).map tI))) \/ (zM Ts g = none /\ src g = [])
theorem zQu {M0 : Mem} {jf jb jd jl : Nat} {zA : List (List Int)} {x1 y5 y7 : Option D} {k : Int} {gs : List (List Int)} {src : List Int -> List (List Int)} {Ts : List (List Int × D)} (hne : jf ≠ jb) (h1 : jf < M0.length) (h2 : jb < M0.length) (hd : M0[jd]? = some (dT Ts)) (d1 : jd ≠ jf) (d2 : jd ≠ jb) (hl : M0[jl]? = some (.lst (gs.map tI))) (l1 : jl ≠ jf) (l2 : jl ≠ jb) (hs : zUU M0 Ts jf jb src) (B : Nat) (hB : ∀ g ∈ gs,(src g).length <= B)
  {st : Fd} (hg : ∀ g ∈ gs,zM st.1 g = some (.int k)) (Z : Nat) (hZB : Z + B <= 80000) (hZ : ∀ us vs,gs = us ++ vs -> (zCC src k us st).1.length <= Z /\ (zCC src k us st).2.length <= Z) (lv : Lv M0 M0 jf jb st) :
  OkS (zCb (gN 5) (zCG (zAW (zBR (zD 2) (zD 5) (zAh zS))) (gN 7) (sIf (tst (fOp (zBa true) (zD 7) (zD 4))) (za (zB6 (fOp zAt (fOp zBB (zD 4) (zD 5)) (fC (.int 1))) (zD 4) (zD 7)) (zAq (fM z0 (zD 6) (zI (toD (zD 7)) zS)))) zB4)) (gs.map tI) (zDS (.dat (.ref jl)) (gs.map tI)) (gs.map tI) [some (mD zA),x1,some (.ref jd),some (.ref jl),some (.ref jf),y5,some (.ref jb),y7] M0)
   fun o σ' M' => o = .nx /\ (∃ y5 y7,σ' = [some (mD zA),x1,some (.ref jd),some (.ref jl),some (.ref jf),y5,some (.ref jb),y7]) /\ Lv M0 M' jf jb (zCC src k gs st):=by
 refine zBX (I:=fun r σ M' => (∃ y5 y7,σ = [some (mD zA),x1,some (.ref jd),some (.ref jl),some (.ref jf),y5,some (.ref jb),y7]) /\ ∃ us vs : List (List Int),gs = us ++ vs /\ r = vs.map tI /\ Lv M0 M' jf jb (zCC src k us st) /\ (∀ g ∈ gs,zM (zCC src k us st).1 g = some (.int k))) ?_ ?_ _ _ _ ⟨⟨_,_,rfl⟩,[],gs,rfl,rfl,lv,hg⟩
 ·rintro x r σ M' ⟨⟨y5,y7,rfl⟩,us,vs,hab,hr,lv',hg'⟩;cases vs with
  | nil => cases hr
  | cons g vs =>
   rw [zVG] at hr;obtain ⟨rfl,rfl⟩:=zV1 hr;have hgm : g ∈ gs:=by rw [hab]; simp
   have hsb:=hB g hgm;obtain ⟨b1,b2⟩:=hZ us (g :: vs) hab;have keep : ∀ {j : Nat} {u : MO},M0[j]? = some u -> j ≠ jf -> j ≠ jb -> M'[j]? = some u:=fun {j u} e q1 q2 => (lv'.fr j (zU0.mp e).1 q1 q2).trans e;refine ⟨.inl (keep hl l1 l2),_,rfl,?_⟩;show OkS (zCG _ _ _ [some (mD zA),x1,some (.ref jd),some (.ref jl),some (.ref jf),some (tI g),some (.ref jb),y7] M') _;have hfold : zCC src k (us ++ [g]) st = (src g).foldl (zBU (k + 1)) (zCC src k us st):=by unfold zCC; rw [zWv]; rfl
   generalize zCC src k us st = st' at lv' hg' b1 b2 hfold;have e2:=zTm (f:=zD 2) (g:=zD 5) (σ:=[some (mD zA),x1,some (.ref jd),some (.ref jl),some (.ref jf),some (tI g),some (.ref jb),y7]) (M:=M') (k:=g) rfl (keep hd d1 d2) rfl;have lvA : Lv M0 (M' ++ [.lst []]) jf jb st':=by
    have f1:=(zU0.mp lv'.f).1;have f2:=(zU0.mp lv'.b).1;have f3:=lv'.len;exact ⟨by rw [zU4 f1]; exact lv'.f,by rw [zU4 f2]; exact lv'.b,by simp; omega,fun j q0 q1 q2 => by rw [zU4 (by omega)]; exact lv'.fr j q0 q1 q2⟩
   obtain ⟨js,ejs,n1,n2,el⟩ : ∃ js,(zM Ts g).getD (.ref M'.length) = .ref js /\ js ≠ jf /\ js ≠ jb /\ (M' ++ [MO.lst ([] : List D)])[js]? = some (.lst ((src g).map tI)):=by
    rcases hs g with ⟨j,e,q1,q2,q3⟩ | ⟨e,q⟩
    ·have:=keep q3 q1 q2;exact ⟨j,by rw [e]; rfl,q1,q2,by rw [zU4 (zU0.mp this).1]; exact this⟩
    ·have:=lv'.len;exact ⟨M'.length,by rw [e]; rfl,by omega,by omega,by rw [q]; simp⟩
   rw [ejs] at e2;rw [zBd];refine ⟨_,_,_,(show zAW (zBR (zD 2) (zD 5) (zAh zS)) [some (mD zA),x1,some (.ref jd),some (.ref jl),some (.ref jf),some (tI g),some (.ref jb),y7] M' = some ((src g).map tI,zDS (.dat (.ref js)) ((src g).map tI),M' ++ [.lst []]) by unfold zAW; rw [e2]; dsimp only; rw [zAA el]),?_⟩;refine OkS.mono (zQv (jl:=jl) (k:=k) hne h1 h2 _ st' lvA el n1 n2 (hg' g hgm) (by omega) (by omega)) ?_;rintro o σ' M2 ⟨rfl,⟨y,rfl⟩,lv2,_,_⟩;refine ⟨⟨_,_,rfl⟩,us ++ [g],vs,by rw [hab]; simp,rfl,?_⟩;rw [hfold];exact ⟨lv2,fun g' hg'' => zHf _ (hg' g' hg'')⟩
 ·rintro σ M' ⟨⟨y5,y7,rfl⟩,us,vs,hab,hr,lv',hg'⟩;have : vs = []:=by cases vs with | nil => rfl | cons _ _ => cases hr
  subst this;rw [zVh] at hab;subst hab;have keep : ∀ {j : Nat} {u : MO},M0[j]? = some u -> j ≠ jf -> j ≠ jb -> M'[j]? = some u:=fun {j u} e q1 q2 => (lv'.fr j (zU0.mp e).1 q1 q2).trans e;exact ⟨.inl (keep hl l1 l2),rfl,⟨_,_,rfl⟩,lv'⟩
theorem zNV (k : Int) (st : Fd) (p t : List Int) : zM (zBU k st p).1 t = (if (zM st.1 t).isSome then zM st.1 t else if t = p then some (.int k) else none) /\ (t ∈ (zBU k st p).2 ↔ t ∈ st.2 \/ (zM st.1 t = none /\ t = p)):=by
 unfold zBU;by_cases h : (zM st.1 p).isSome = true
 ·rw [zVC h];constructor
  ·by_cases ht : (zM st.1 t).isSome = true
   ·rw [zVC ht]
   ·rw [zVF ht,zVF (fun z => ht (by rw [z]; exact h))];cases e : zM st.1 t with
    | none => rfl
    | some d => rw [e] at ht; simp at ht
  ·constructor
   ·exact .inl
   ·rintro (q | ⟨q,rfl⟩)
    ·exact q
    ·rw [q] at h; cases h
 ·rw [zVF h];have hn : zM st.1 p = none:=by
   cases e : zM st.1 p with
   | none => rfl
   | some d => rw [e] at h; simp at h
  constructor
  ·show zM (zCS st.1 p (.int k)) t = _;rw [zDg];by_cases ht : p = t
   ·subst ht;rw [zVC rfl,zVF h,zVC rfl]
   ·rw [zVF ht];by_cases hs : (zM st.1 t).isSome = true
    ·rw [zVC hs]
    ·rw [zVF hs,zVF (fun z => ht z.symm)];cases e : zM st.1 t with
     | none => rfl
     | some d => rw [e] at hs; simp at hs
  ·show t ∈ st.2 ++ [p] ↔ _;rw [zVN,zVP];constructor
   ·rintro (q | rfl)
    ·exact .inl q
    ·exact .inr ⟨hn,rfl⟩
   ·rintro (q | ⟨_,q⟩)
    ·exact .inl q
    ·exact .inr q
theorem zHP (k : Int) : ∀ (ps : List (List Int)) (st : Fd) (t : List Int),zM (ps.foldl (zBU k) st).1 t = (if (zM st.1 t).isSome then zM st.1 t else if t ∈ ps then some (.int k) else none) /\ (t ∈ (ps.foldl (zBU k) st).2 ↔ t ∈ st.2 \/ (zM st.1 t = none /\ t ∈ ps))
 | [],st,t => by
  constructor
  ·by_cases h : (zM st.1 t).isSome = true
   ·rw [zVC h]; rfl
   ·rw [zVF h,zVF (by simp)];cases e : zM st.1 t with
    | none => exact e
    | some d => rw [e] at h; simp at h
  ·simp
 | p :: r,st,t => by
  obtain ⟨a1,a2⟩:=zNV k st p t;obtain ⟨b1,b2⟩:=zHP k r (zBU k st p) t;rw [List.foldl_cons,b1,b2,a2,a1];by_cases h : (zM st.1 t).isSome = true
  ·rw [zVC h,zVC h,zVC h];refine ⟨rfl,?_⟩;have hn : ¬ zM st.1 t = none:=fun z => by rw [z] at h; cases h
   simp [hn]
  ·have hn : zM st.1 t = none:=by
    cases e : zM st.1 t with
    | none => rfl
    | some d => rw [e] at h; simp at h
   rw [zVF h,zVF h];by_cases hp : t = p
   ·rw [zVC hp];refine ⟨?_,?_⟩
    ·rw [zVC (show (some (D.int k)).isSome = true from rfl),zVC (by rw [hp]; exact zVB)]
    ·simp [hn,hp]
   ·rw [zVF hp];refine ⟨?_,?_⟩
    ·rw [zVF (by simp)];by_cases hr : t ∈ r
     ·rw [zVC hr,zVC (zVA _ hr)]
     ·rw [zVF hr,zVF (by simp [hp,hr])]
    ·simp [hn,hp]
theorem zIP (src : List Int -> List (List Int)) (k : Int) (gs : List (List Int)) (st : Fd) (t : List Int) : zM (zCC src k gs st).1 t = (if (zM st.1 t).isSome then zM st.1 t else if t ∈ gs.flatMap src then some (.int (k + 1)) else none) /\ (t ∈ (zCC src k gs st).2 ↔ t ∈ st.2 \/ (zM st.1 t = none /\ t ∈ gs.flatMap src)):=by
 have : ∀ (gs : List (List Int)) (st : Fd),zCC src k gs st = (gs.flatMap src).foldl (zBU (k + 1)) st:=by
  intro gs;induction gs with
  | nil => intro st; rfl
  | cons g r ih =>
   intro st;show zCC src k r ((src g).foldl (zBU (k + 1)) st) = _;rw [ih,List.flatMap_cons,zWv]
 rw [this gs st];exact zHP (k + 1) (gs.flatMap src) st t
def Rch (zA : List (List Int)) (l : Nat) (G : List Int -> Prop) (t : List Int) (n : Nat) : Prop:=∃ w : List Int,w.length = n /\ (∀ x ∈ w,0 <= x /\ x < (l : Int)) /\ G (broR zA t w)
def Dst (zA : List (List Int)) (l : Nat) (G : List Int -> Prop) (t : List Int) (n : Nat) : Prop:=Rch zA l G t n /\ ∀ m,m < n -> ¬ Rch zA l G t m
theorem zFs : Rch zA l G t (n + 1) ↔ ∃ x : Int,(0 <= x /\ x < (l : Int)) /\ Rch zA l G (setR zA t x) n:=by
 constructor
 ·rintro ⟨w,hw,hb,hl⟩;cases w with
  | nil => cases hw
  | cons x w => exact ⟨x,hb x zVB,w,by simpa using hw,fun y hy => hb y (zVA _ hy),hl⟩
 ·rintro ⟨x,hx,w,hw,hb,hl⟩;exact ⟨x :: w,by simp [hw],fun y hy => by rcases zU9.mp hy with rfl | q; exact hx; exact hb y q,hl⟩
theorem zHT : Rch zA l G t 0 ↔ G t:=by
 constructor
 ·rintro ⟨w,hw,_,hl⟩;have : w = []:=List.length_eq_zero_iff.mp hw;subst this; exact hl
 ·intro h; exact ⟨[],rfl,(fun _ h => by cases h),h⟩
theorem zBJ : Dst zA l G t 0 ↔ G t:=by
 unfold Dst;rw [zHT];exact ⟨fun h => h.1,fun h => ⟨h,fun m hm => by omega⟩⟩
theorem zCB : Dst zA l G t (n + 1) ↔ (∀ m,m <= n -> ¬ Rch zA l G t m) /\ ∃ x : Int,(0 <= x /\ x < (l : Int)) /\ Dst zA l G (setR zA t x) n:=by
 constructor
 ·rintro ⟨h1,h2⟩;obtain ⟨x,hx,hr⟩:=zFs.mp h1;exact ⟨fun m hm => h2 m (by omega),x,hx,hr,fun m hm hq => h2 (m + 1) (by omega) (zFs.mpr ⟨x,hx,hq⟩)⟩
 ·rintro ⟨h1,x,hx,hr,_⟩;exact ⟨zFs.mpr ⟨x,hx,hr⟩,fun m hm => h1 m (by omega)⟩
theorem zE4 : ∀ n,Rch zA l G t n -> ∃ m,m <= n /\ Dst zA l G t m:=by
 intro n;induction n using Nat.strongRecOn with
 | ind n ih =>
  intro h;by_cases q : ∃ m,m < n /\ Rch zA l G t m
  ·obtain ⟨m,hm,hr⟩:=q;obtain ⟨m',h1,h2⟩:=ih m hm hr;exact ⟨m',by omega,h2⟩
  ·exact ⟨n,zU3 _,h,fun m hm hr => q ⟨m,hm,hr⟩⟩
theorem zA2 (h1 : Dst zA l G t a) (h2 : Dst zA l G t b) : a = b:=by
 rcases Nat.lt_trichotomy a b with q | q | q
 ·exact absurd h1.1 (h2.2 a q)
 ·exact q
 ·exact absurd h2.1 (h1.2 b q)
def zHn (zA : List (List Int)) (l : Nat) (G : List Int -> Prop) (U : List Int -> Prop) (k : Nat) (fd : List (List Int × D)) (lev : List (List Int)) : Prop:=(∀ t d,zM fd t = some d ↔ U t /\ ∃ n : Nat,n <= k /\ Dst zA l G t n /\ d = .int (n : Int)) /\ ∀ t,t ∈ lev ↔ U t /\ Dst zA l G t k
theorem zGM (h : zHn zA l G U k fd lev) (u : U t) : zM fd t = none ↔ ∀ m,m <= k -> ¬ Rch zA l G t m:=by
 constructor
 ·intro e m hm hr;obtain ⟨n,hn,hd⟩:=zE4 m hr;rw [(h.1 t (.int (n : Int))).mpr ⟨u,n,by omega,hd,rfl⟩] at e;cases e
 ·intro q;cases e : zM fd t with
  | none => rfl
  | some d =>
   obtain ⟨_,n,hn,hd,_⟩:=(h.1 t d).mp e;exact absurd hd.1 (q n hn)
theorem zOD {zA : List (List Int)} {l : Nat} {U P : List Int -> Prop} {src : List Int -> List (List Int)} (hs : ∀ g t,t ∈ src g ↔ P t /\ ∃ x : Int,(0 <= x /\ x < (l : Int)) /\ setR zA t x = g) (hP : ∀ t,P t -> U t) (hU : ∀ t n,U t -> ¬ G t -> Rch zA l G t n -> P t) (hc : ∀ t (x : Int),U t -> 0 <= x /\ x < (l : Int) -> U (setR zA t x))
  {k : Nat} {fd : List (List Int × D)} {lev : List (List Int)} (h : zHn zA l G U k fd lev) : zHn zA l G U (k + 1) (zCC src (k : Int) lev (fd,[])).1 (zCC src (k : Int) lev (fd,[])).2:=by
 have key : ∀ t,(zM fd t = none /\ t ∈ lev.flatMap src) ↔ U t /\ Dst zA l G t (k + 1):=by
  intro t;constructor
  ·rintro ⟨e,hm⟩;obtain ⟨g,hg,ht⟩:=zXm.mp hm;obtain ⟨p,x,hx,hq⟩:=(hs g t).mp ht;have u:=hP t p;refine ⟨u,zCB.mpr ⟨(zGM h u).mp e,x,hx,?_⟩⟩;rw [hq]; exact ((h.2 g).mp hg).2
  ·rintro ⟨u,hd⟩;obtain ⟨q,x,hx,hr⟩:=zCB.mp hd;refine ⟨(zGM h u).mpr q,zXm.mpr ⟨setR zA t x,(h.2 _).mpr ⟨hc t x u hx,hr⟩,(hs _ t).mpr ⟨hU t _ u ?_ hd.1,x,hx,rfl⟩⟩⟩;intro h1;exact q 0 (zVj _) (zHT.mpr h1)
 constructor
 ·intro t d;rw [(zIP src (k : Int) lev (fd,[]) t).1];show (if (zM fd t).isSome then zM fd t else if t ∈ lev.flatMap src then some (.int ((k : Int) + 1)) else none) = some d ↔ _;cases e : zM fd t with
  | some d' =>
   rw [zVC (show (some d').isSome = true from rfl)];obtain ⟨u,n,hn,hd,rfl⟩:=(h.1 t d').mp e;constructor
   ·intro z; cases z;exact ⟨u,n,by omega,hd,rfl⟩
   ·rintro ⟨_,m,_,hm,rfl⟩;rw [zA2 hm hd]
  | none =>
   rw [zVF (by simp)];by_cases hm : t ∈ lev.flatMap src
   ·rw [zVC hm];obtain ⟨u,hd⟩:=(key t).mp ⟨e,hm⟩;constructor
    ·intro z; cases z;exact ⟨u,k + 1,zU3 _,hd,by simp⟩
    ·rintro ⟨_,m,_,hm',rfl⟩;rw [zA2 hm' hd]; simp
   ·rw [zVF hm];constructor
    ·intro z; cases z
    ·rintro ⟨u,m,hk,hd,rfl⟩;exfalso;by_cases hmk : m <= k
     ·exact (zGM h u).mp e m hmk hd.1
     ·have : m = k + 1:=by omega
      subst this;exact hm ((key t).mpr ⟨u,hd⟩).2
 ·intro t;rw [(zIP src (k : Int) lev (fd,[]) t).2];show t ∈ ([] : List (List Int)) \/ (zM fd t = none /\ t ∈ lev.flatMap src) ↔ _;rw [key t];simp
theorem zP5 {zA : List (List Int)} {l : Nat} {G : List Int -> Prop} {U : List Int -> Prop} (hc : ∀ t (x : Int),U t -> 0 <= x /\ x < (l : Int) -> U (setR zA t x)) {k : Nat} {fd : List (List Int × D)} (h : zHn zA l G U k fd []) (t : List Int) (d : D) : zM fd t = some d ↔ U t /\ ∃ n : Nat,Dst zA l G t n /\ d = .int (n : Int):=by
 have far : ∀ n t,U t -> ¬ Dst zA l G t (k + n):=by
  intro n;induction n with
  | zero => intro t u hd; exact absurd ((h.2 t).mpr ⟨u,hd⟩) (by simp)
  | succ n ih =>
   intro t u hd;obtain ⟨_,x,hx,hr⟩:=zCB.mp (show Dst zA l G t ((k + n) + 1) from hd);exact ih _ (hc t x u hx) hr
 rw [h.1 t d];constructor
 ·rintro ⟨u,n,_,a,b⟩; exact ⟨u,n,a,b⟩
 ·rintro ⟨u,n,a,b⟩;refine ⟨u,n,?_,a,b⟩;by_cases q : n <= k
  ·exact q
  ·exfalso;have e : n = k + (n - k):=by omega
   rw [e] at a;exact far _ t u a
def Th (zA : List (List Int)) (t : List Int) : Prop:=IsS zA t /\ t.length <= 2
def zEE (zA : List (List Int)) (l : Nat) (g : List Int) : List (List Int):=zAy zA (zj l (zU (zQ zA))) g
theorem zQr (g t : List Int) : t ∈ zEE zA l g ↔ t ∈ zU (zQ zA) /\ ∃ x : Int,(0 <= x /\ x < (l : Int)) /\ setR zA t x = g:=by
 unfold zEE zAy zj;simp only [zVE,zV8,zXm,zVb,zWA];constructor
 ·rintro ⟨q,⟨⟨p,hp,k,hk,rfl⟩,hq⟩,rfl⟩;exact ⟨hp,(k : Int),⟨by omega,by omega⟩,hq⟩
 ·rintro ⟨hp,x,⟨x0,x1⟩,hq⟩;refine ⟨(t,x),⟨⟨t,hp,x.toNat,by omega,?_⟩,hq⟩,rfl⟩;rw [show ((x.toNat : Nat) : Int) = x by omega]
theorem zBO : x ∈ zQ zA ↔ 0 <= x /\ x < (zA.length : Int):=by
 unfold zQ;simp only [zVE,zVb];constructor
 ·rintro ⟨k,hk,rfl⟩; omega
 ·rintro ⟨h0,h1⟩; exact ⟨x.toNat,by omega,by omega⟩
theorem zCe (t : List Int) (h : t ∈ zU (zQ zA)) : Th zA t:=by
 refine ⟨zMV h,?_⟩;obtain ⟨a,b,rfl,_⟩:=zAc.mp h;exact zU3 _
theorem zJ8 (t : List Int) (h : Th zA t) (h1 : t.length ≠ 1) : t ∈ zU (zQ zA):=by
 obtain ⟨⟨pw,n0,hm⟩,h2⟩:=h;match t,pw,n0,hm,h1,h2 with
 | [a,b],pw,_,hm,_,_ =>
  exact zAc.mpr ⟨a,b,rfl,zBO.mpr (hm a (by simp)),zBO.mpr (hm b (by simp)),by simpa using pw⟩
 | [a],_,_,_,h1,_ => exact absurd rfl h1
 | [],_,n0,_,_,_ => cases n0
 | _ :: _ :: _ :: _,_,_,_,_,h2 => simp at h2
theorem zCu (m : IsM zA l) (t : List Int) (x : Int) (h : Th zA t) (hx : 0 <= x /\ x < (l : Int)) : Th zA (setR zA t x):=by
 refine ⟨m.setR h.1 hx.1 hx.2,?_⟩;have:=zJs (t.map fun h => zBK zA h x);rw [zU6] at this;exact zVO this h.2
def zEO (zA : List (List Int)) (G : List Int -> Prop) : Prop:=(∀ t,Th zA t -> t.length = 1 -> G t) \/ ∀ t,t.length = 1 -> ¬ G t
theorem zIg (m : IsM zA l) : ∀ (w t : List Int),Th zA t -> t.length = 1 -> (∀ x ∈ w,0 <= x /\ x < (l : Int)) -> (broR zA t w).length = 1
 | [],_,_,h,_ => h
 | x :: w,t,u,h,hw => by
  have hx:=hw x zVB;have u':=zCu m t x u hx;refine zIg m w (setR zA t x) u' ?_ fun y hy => hw y (zVA _ hy);have h1:=zJs (t.map fun h => zBK zA h x);rw [zU6,h] at h1;have h2:=u'.1.n0;have h3 : (setR zA t x).length <= 1:=h1;omega
theorem zF1 (m : IsM zA l) (o : zEO zA G) (t : List Int) (n : Nat) (u : Th zA t) (g : ¬ G t) (r : Rch zA l G t n) : t ∈ zU (zQ zA):=by
 refine zJ8 t u fun h1 => ?_;rcases o with o | o
 ·exact g (o t u h1)
 ·obtain ⟨w,_,hw,hg⟩:=r;exact o _ (zIg m w t u h1 hw) hg
theorem zKf (m : IsM zA l) (o : zEO zA G) (h : zHn zA l G (Th zA) k fd lev) : zHn zA l G (Th zA) (k + 1) (zCC (zEE zA l) (k : Int) lev (fd,[])).1 (zCC (zEE zA l) (k : Int) lev (fd,[])).2 :=
 zOD (P:=fun t => t ∈ zU (zQ zA)) zQr zCe (zF1 m o) (zCu m) h
theorem zOJ (hts : ∀ t,t ∈ ts ↔ Th zA t /\ G t) (h : ∀ t d,zM fd t = some d ↔ t ∈ ts /\ d = .int 0) : zHn zA l G (Th zA) 0 fd ts:=by
 have key : ∀ t,t ∈ ts ↔ Th zA t /\ Dst zA l G t 0:=fun t => by rw [zBJ,hts]
 refine ⟨fun t d => ?_,key⟩;rw [h t d,key t];constructor
 ·rintro ⟨⟨a,b⟩,rfl⟩; exact ⟨a,0,zU3 _,b,by simp⟩
 ·rintro ⟨a,n,hn,b,rfl⟩;have : n = 0:=by omega
  subst this;exact ⟨⟨a,b⟩,by simp⟩
abbrev One (t : List Int) : Prop:=t.length = 1
theorem zQE (t : List Int) : t ∈ (zQ zA).map (fun r => [r]) ↔ Th zA t /\ One t:=by
 rw [zVE];constructor
 ·rintro ⟨r,hr,rfl⟩;have:=zBO.mp hr;refine ⟨⟨⟨by simp,by simp,fun x hx => ?_⟩,by simp⟩,rfl⟩;rw [zVP] at hx;subst hx; exact this
 ·rintro ⟨⟨s,_⟩,h1⟩;obtain ⟨r,rfl⟩:=List.length_eq_one_iff.mp h1;exact ⟨r,zBO.mpr (s.mem r (by simp)),rfl⟩
theorem zGm : zEO zA One:=.inl fun _ _ h => h
theorem whole (m : IsM zA l) (h : zHn zA l G (Th zA) k fd []) (t : List Int) (d : D) : zM fd t = some d ↔ Th zA t /\ ∃ n : Nat,Dst zA l G t n /\ d = .int (n : Int):=zP5 (zCu m) h t d
theorem zBw {α : Type} [DecidableEq α] : ∀ (xs ys : List α),xs.Nodup -> (∀ x ∈ xs,x ∈ ys) -> xs.length <= ys.length
 | [],_,_,_ => zVj _
 | x :: r,ys,h,hm => by
  obtain ⟨h1,h2⟩:=List.nodup_cons.mp h;have hx : x ∈ ys:=hm x zVB;have:=zBw r (ys.erase x) h2 fun y hy => (List.mem_erase_of_ne (fun z => h1 (by rw [<- z]; exact hy))).mpr (hm y (zVA _ hy));rw [List.length_erase_of_mem hx] at this;have:=List.length_pos_of_mem hx;simp only [zVU]; omega
theorem zC2 : ∀ {T : List (List Int × D)} {g : List Int},(zM T g).isSome = true ↔ g ∈ T.map (·.1)
 | [],g => by simp [zM]
 | q :: r,g => by
  unfold zM;by_cases h : q.1 = g
  ·simp [h]
  ·rw [zVF h,zC2 (T:=r)];simp only [zVG,zU9];constructor
   ·exact .inr
   ·rintro (z | z)
    ·exact absurd z.symm h
    ·exact z
structure Sz (n : Nat) (st : Fd) : Prop where
 ks : (st.1.map (·.1)).Nodup
 nd : st.2.Nodup
 sub : ∀ t ∈ st.2,t ∈ st.1.map (·.1)
 len : st.1.length = n + st.2.length
theorem zRn {n : Nat} {st : Fd} (k : Int) (p : List Int) (h : Sz n st) : Sz n (zBU k st p):=by
 unfold zBU;by_cases q : (zM st.1 p).isSome = true
 ·rw [zVC q]; exact h
 ·rw [zVF q];have hn : zM st.1 p = none:=by
   cases e : zM st.1 p with
   | none => rfl
   | some d => rw [e] at q; simp at q
  have hk : p ∉ st.1.map (·.1):=fun z => q (zC2.mpr z);have e : zCS st.1 p (.int k) = st.1 ++ [(p,.int k)]:=by unfold zCS; rw [hn]
  rw [e];refine ⟨?_,?_,?_,?_⟩
  ·show ((st.1 ++ [(p,D.int k)]).map (·.1)).Nodup;rw [zVp,zWB];refine ⟨h.ks,by simp,fun a ha b hb => ?_⟩;simp at hb;subst hb;intro z; subst z; exact hk ha
  ·show (st.2 ++ [p]).Nodup;rw [zWB];refine ⟨h.nd,by simp,fun a ha b hb => ?_⟩;simp at hb;subst hb;intro z; subst z; exact hk (h.sub _ ha)
  ·intro t ht;show t ∈ (st.1 ++ [(p,D.int k)]).map (·.1);rw [zVp,zVN];rcases zVN.mp (show t ∈ st.2 ++ [p] from ht) with z | z
   ·exact .inl (h.sub t z)
   ·right; simpa using z
  ·show (st.1 ++ [(p,D.int k)]).length = n + (st.2 ++ [p]).length;rw [zVD,zVD,h.len];simp; omega
theorem zGt (src : List Int -> List (List Int)) (k : Int) : ∀ (gs : List (List Int)) {st : Fd},Sz n st -> Sz n (zCC src k gs st)
 | [],st,h => h
 | g :: r,st,h => by
  show Sz n (zCC src k r ((src g).foldl (zBU (k + 1)) st));refine zGt src k r ?_;have : ∀ (ps : List (List Int)) {st : Fd},Sz n st -> Sz n (ps.foldl (zBU (k + 1)) st):=by
   intro ps;induction ps with
   | nil => intro st h; exact h
   | cons p ps ih => intro st h; exact ih (zRn (k + 1) p h)
  exact this _ h
theorem zN3 (k : Int) (st : Fd) (p : List Int) : st.1.length <= (zBU k st p).1.length:=by
 unfold zBU;split
 ·exact zU3 _
 ·show st.1.length <= (zCS st.1 p _).length;unfold zCS;cases zM st.1 p <;> simp
theorem zI3 (src : List Int -> List (List Int)) (k : Int) : ∀ (gs : List (List Int)) (st : Fd),st.1.length <= (zCC src k gs st).1.length
 | [],st => zU3 _
 | g :: r,st => by
  have h1 : ∀ (ps : List (List Int)) (st : Fd),st.1.length <= (ps.foldl (zBU (k + 1)) st).1.length:=by
   intro ps;induction ps with
   | nil => intro st; exact zU3 _
   | cons p ps ih => intro st; exact zVO (zN3 (k + 1) st p) (ih _)
  exact zVO (h1 (src g) st) (zI3 src k r _)
theorem zGD (h : zHn zA l G (Th zA) k fd lev) (hk : (fd.map (·.1)).Nodup) : fd.length <= zA.length + zA.length * zA.length:=by
 have hr : (zQ zA).length = zA.length:=by unfold zQ; simp
 have h1:=zBw (fd.map (·.1)) ((zQ zA).map (fun r => [r]) ++ zU (zQ zA)) hk fun t ht => by
  have hs:=zC2.mpr ht;cases e : zM fd t with
  | none => rw [e] at hs; cases hs
  | some d =>
   obtain ⟨u,_⟩:=(h.1 t d).mp e;rw [zVN];by_cases h1 : t.length = 1
   ·obtain ⟨r,rfl⟩:=List.length_eq_one_iff.mp h1;exact .inl (zVE.mpr ⟨r,zBO.mpr (u.1.mem r (by simp)),rfl⟩)
   ·exact .inr (zJ8 t u h1)
 have h2:=zBu (zQ zA);rw [zU6,zVD,zU6,hr] at h1;rw [hr] at h2;omega
theorem zOX (h : f σ M = some (.dat (.ref j),M)) (hj : M[j]? = some (.lst xs)) : zMD f σ M = some (!xs.isEmpty,M):=by
 unfold zMD; rw [h]; dsimp only; rw [zAA hj]
theorem zRZ (zA : List (List Int)) (l : Nat) (g : List Int) : (zEE zA l g).length <= zA.length * zA.length * l:=by
 unfold zEE zAy;rw [zU6];refine zVO (zXH _ _) ?_;rw [zE7];have:=zBu (zQ zA);have hr : (zQ zA).length = zA.length:=by unfold zQ; simp
 rw [hr] at this;exact Nat.mul_le_mul_right l this
theorem zQQ (m : IsM zA l) (oa : zEO zA G) (hR : zA.length <= 26) (hl : l <= 12) (h1 : jf < M0.length) (hd : M0[jd]? = some (dT Ts)) (d1 : jd ≠ jf) (hs : ∀ g,(∃ j,zM Ts g = some (.ref j) /\ j ≠ jf /\ M0[j]? = some (.lst ((zEE zA l g).map tI))) \/ (zM Ts g = none /\ zEE zA l g = [])) (hf : M0[jf]? = some (dT fd)) (hv : M0[jl]? = some (.lst (lev.map tI))) (l1 : jl ≠ jf) (inv : zHn zA l G (Th zA) 0 fd lev) (nk : (fd.map (·.1)).Nodup) (nl : lev.length <= fd.length) :
  OkS (zBI (zMD (zD 3)) (za (zAB 6 (zAh zS)) (za (zCG (zAW (zD 3)) (gN 5) (zCG (zAW (zBR (zD 2) (zD 5) (zAh zS))) (gN 7) (sIf (tst (fOp (zBa true) (zD 7) (zD 4))) (za (zB6 (fOp zAt (fOp zBB (zD 4) (zD 5)) (fC (.int 1))) (zD 4) (zD 7)) (zAq (fM z0 (zD 6) (zI (toD (zD 7)) zS)))) zB4))) (zAB 3 (zD 6)))) 1000 [some (mD zA),x1,some (.ref jd),some (.ref jl),some (.ref jf),y5,y6,y7] M0)
   fun o σ' M' => o = .nx /\ (∃ y3 y5 y6 y7,σ' = [some (mD zA),x1,some (.ref jd),y3,some (.ref jf),y5,y6,y7]) /\ (∃ fd',M'[jf]? = some (dT fd') /\ fd'.length <= 702 /\ ∀ t d,zM fd' t = some d ↔ Th zA t /\ ∃ n : Nat,Dst zA l G t n /\ d = .int (n : Int)) /\ M0.length <= M'.length /\ ∀ j,j < M0.length -> j ≠ jf -> M'[j]? = M0[j]?:=by
 have hN : zA.length + zA.length * zA.length <= 702:=by
  have:=zWZ hR hR;omega
 have hB : zA.length * zA.length * l <= 8112:=zWZ (zWZ hR hR) hl;refine zCH (I:=fun z σ M => ∃ (jl : Nat) (y5 y6 y7 : Option D) (k : Nat) (fd : List (List Int × D)) (lev : List (List Int)),σ = [some (mD zA),x1,some (.ref jd),some (.ref jl),some (.ref jf),y5,y6,y7] /\ M[jf]? = some (dT fd) /\ M[jl]? = some (.lst (lev.map tI)) /\ jl ≠ jf /\ zHn zA l G (Th zA) k fd lev /\ (fd.map (·.1)).Nodup /\ lev.length <= fd.length /\ M0.length <= M.length /\ (∀ j,j < M0.length -> j ≠ jf -> M[j]? = M0[j]?) /\ z = (702 - fd.length) + (if lev.isEmpty then 0 else 1)) ?_ 1000 ((702 - fd.length) + (if lev.isEmpty then 0 else 1)) _ _ (by split <;> omega) ⟨jl,y5,y6,y7,0,fd,lev,rfl,hf,hv,l1,inv,nk,nl,zU3 _,fun _ _ _ => rfl,rfl⟩;rintro z σ M ⟨jl,y5,y6,y7,k,fd,lev,rfl,hf,hv,l1,inv,nk,nl,hlen,fr,rfl⟩;have hfl:=zVO (zGD inv nk) hN;refine zL (M:=M) (a:=!(lev.map tI).isEmpty) (zOX rfl hv) ?_;cases lev with
 | nil =>
  exact ⟨rfl,⟨_,_,_,_,rfl⟩,⟨fd,hf,hfl,whole m inv⟩,hlen,fr⟩
 | cons g0 lev0 =>
  show OkS (za _ _ [some (mD zA),x1,some (.ref jd),some (.ref jl),some (.ref jf),y5,y6,y7] M) _;generalize hlv : g0 :: lev0 = lev at *;have hne0 : lev.isEmpty = false:=by rw [<- hlv]; rfl
  rw [zW,zi];refine zL (M:=M) (a:=.fl []) (by unfold zAh zS; dsimp only; rw [zVC (zt (by simp))]) ?_;rw [zFM,zc,zW,zBd];have fl:=(zU0.mp hf).1;have vl:=(zU0.mp hv).1;have up : ∀ {j : Nat},j < M.length -> (M ++ [MO.lst ([] : List D)])[j]? = M[j]?:=fun h => zU4 h;have dl:=(zU0.mp hd).1;refine ⟨_,_,_,(show zAW (zD 3) [some (mD zA),x1,some (.ref jd),some (.ref jl),some (.ref jf),y5,some (.ref M.length),y7] (M ++ [.lst []]) = some (lev.map tI,zDS (.dat (.ref jl)) (lev.map tI),M ++ [.lst []]) by
   unfold zAW;rw [show zD 3 [some (mD zA),x1,some (.ref jd),some (.ref jl),some (.ref jf),y5,some (.ref M.length),y7] (M ++ [.lst []]) = some (.dat (.ref jl),M ++ [.lst []]) from rfl];dsimp only; rw [zAA ((up vl).trans hv)]),?_⟩
  have sz0 : Sz fd.length (fd,([] : List (List Int))):=⟨nk,by simp,(fun t h => by cases h),by simp⟩;have szw : Sz fd.length (zCC (zEE zA l) (k : Int) lev (fd,[])):=zGt _ _ lev sz0;have hflw:=zVO (zGD (zKf m oa inv) szw.ks) hN;refine OkS.mono (zQu (k:=(k : Int)) (src:=zEE zA l) (st:=(fd,[])) (Ts:=Ts) (by omega) (by simp; omega) (by simp) ((up (by omega)).trans ((fr _ dl d1).trans hd)) d1 (by omega) ((up vl).trans hv) l1 (by omega) ?_ 8112 (fun g _ => zVO (zRZ zA l g) hB) ?_ 702 (by omega) (fun us vs e => ?_) ⟨(up fl).trans hf,by simp,zU3 _,fun _ _ _ _ => rfl⟩) ?_
  ·intro g;rcases hs g with ⟨j,e,q1,q2⟩ | q
   ·have jl':=(zU0.mp q2).1;exact .inl ⟨j,e,q1,by omega,(up (by omega)).trans ((fr _ jl' q1).trans q2)⟩
   ·exact .inr q
  ·intro g hg;obtain ⟨u,hd'⟩:=(inv.2 g).mp hg;exact (inv.1 g _).mpr ⟨u,k,zU3 _,hd',rfl⟩
  ·have h3:=zI3 (zEE zA l) (k : Int) vs (zCC (zEE zA l) (k : Int) us (fd,[]));have h4 : zCC (zEE zA l) (k : Int) vs (zCC (zEE zA l) (k : Int) us (fd,[])) = zCC (zEE zA l) (k : Int) lev (fd,[]):=by rw [e]; unfold zCC; rw [zWv]
   rw [h4] at h3;have h5:=(zGt (zEE zA l) (k : Int) us sz0).len;omega
  ·rintro o σ' M' ⟨rfl,⟨y5,y7,rfl⟩,lv⟩;rw [zc,zi];refine zL (M:=M') (a:=.dat (.ref M.length)) rfl ?_;rw [zX];have sz : Sz fd.length (zCC (zEE zA l) (k : Int) lev (fd,[])):=zGt _ _ lev ⟨nk,by simp,(fun t h => by cases h),by simp⟩;have inv':=zKf m oa inv;generalize zCC (zEE zA l) (k : Int) lev (fd,[]) = st at lv sz inv';have hfl':=zVO (zGD inv' sz.ks) hN;have hsl:=sz.len;refine ⟨(702 - st.1.length) + (if st.2.isEmpty then 0 else 1),?_,M.length,y5,_,y7,k + 1,st.1,st.2,rfl,lv.f,lv.b,by omega,inv',sz.ks,by omega,?_,?_,rfl⟩
   ·rw [hne0];cases e : st.2 with
    | nil => simp; omega
    | cons a r => rw [e] at hsl; simp at hsl ⊢; omega
   ·have:=lv.len; simp at this; omega
   ·intro j hj hjf;rw [lv.fr j (by simp; omega) hjf (by omega),up (by omega)];exact fr j hj hjf
theorem zNC {M : Mem} {ts : List (List Int)} (hf : f σ M = some (.dat (.ref jl),M)) (hj : M[jl]? = some (.lst (ts.map tI))) (nd : ts.Nodup) (hz : ts.length <= 80000) (hg : ∀ a,gN i a (zBc own σ) = some ((zBc own σ).set i (some a))) (hs : ∀ (a : D) M',zD i ((zBc own σ).set i (some a)) M' = some (.dat a,M')) :
  zDY true own (zAW f) (gN i) zAI (zD i) (fC (.int 0)) σ M = some (.dat (.ref M.length),M ++ [dT (ts.map fun t => (t,.int 0))]):=by
 have hjl:=(zU0.mp hj).1;unfold zDY zAW;rw [hf]; dsimp only;rw [zAA hj]; dsimp only;have loop : ∀ (r q : List (List Int)),q ++ r = ts -> zC4 (gN i) zAI (zD i) (fC (.int 0)) (zBc own σ) M.length (ts.map tI) (zDS (.dat (.ref jl)) (ts.map tI)) (r.map tI) (M ++ [dT (q.map fun t => (t,.int 0))]) = some (M ++ [dT (ts.map fun t => (t,.int 0))]):=by
  intro r;induction r with
  | nil => intro q e; rw [zVh] at e; subst e; exact zIU (.inl (by rw [zU4 hjl]; exact hj))
  | cons x r ih =>
   intro q e;have hx : x ∉ q:=fun z => by
    rw [<- e,zWB] at nd;exact nd.2.2 x z x zVB rfl
   have hl : q.length < 90000:=by have:=zWk List.length e; simp at this; omega
   have hk : zM (q.map fun t => (t,D.int 0)) x = none:=by
    cases e2 : zM (q.map fun t => (t,D.int 0)) x with
    | none => rfl
    | some d =>
     have:=zC2.mp (show (zM (q.map fun t => (t,D.int 0)) x).isSome = true by rw [e2]; rfl);rw [zVL] at this;obtain ⟨y,hy,rfl⟩:=zVE.mp this;exact absurd hy hx
   have hgd : zBD (zDS (.dat (.ref jl)) (ts.map tI)) (ts.map tI) (M ++ [dT (q.map fun t => (t,.int 0))]):=.inl (by rw [zU4 hjl]; exact hj);rw [zVG,zLm (σ1:=(zBc own σ).set i (some (tI x))) (k:=tI x) (v:=.int 0) (M':=M ++ [dT ((q ++ [x]).map fun t => (t,.int 0))]) hgd (hg _) (hs _ _) rfl]
   ·exact ih (q ++ [x]) (by rw [<- e]; simp)
   ·rw [zKU (T:=q.map fun t => (t,.int 0)) (by simp) (by rw [zU6]; exact hl)];unfold zCS;rw [hk];simp
 have:=loop ts [] rfl;rw [show zJI true = dT [] from rfl];rw [show (([] : List (List Int)).map fun t => (t,D.int 0)) = [] from rfl] at this;rw [this]
theorem zII {zA : List (List Int)} (m : IsM zA l) (oa : zEO zA G) (hR : zA.length <= 26) (hl : l <= 12) {M : Mem} {ts : List (List Int)} (hj : M[jg]? = some (.lst (ts.map tI))) (nd : ts.Nodup) (hts : ∀ t,t ∈ ts ↔ Th zA t /\ G t) (hz : ts.length <= 80000) : Ok (zB8 [mD zA,.ref jg] M) fun d M' => ∃ jf,d = .ref jf /\ M.length <= jf /\ (∃ fd,M'[jf]? = some (dT fd) /\ fd.length <= 702 /\ ∀ t d,zM fd t = some d ↔ Th zA t /\ ∃ n : Nat,Dst zA l G t n /\ d = .int (n : Int)) /\ M.length <= M'.length /\ ∀ j,j < M.length -> M'[j]? = M[j]?:=by
 have hjl:=(zU0.mp hj).1;unfold zB8;rw [zAe];unfold zDp;show OkS (za _ _ [some (mD zA),some (.ref jg),none,none,none,none,none,none] M) _;rw [zW,zi];refine zCj.mpr (zL (zAH rfl) (Ok.mono (zQg m (by omega) hl) ?_));rintro d M1 ⟨rfl,sr,h1,fr⟩;rw [zX,zc];refine zCF (d:=.ref jg) rfl ?_;show OkS (za _ _ [some (mD zA),some (.ref jg),some (.ref M.length),some (.ref jg),none,none,none,none] M1) _;have hj1:=(fr _ hjl).trans hj;rw [zW,zi];refine zL (zNC (jl:=jg) (ts:=ts) rfl hj1 nd hz (fun _ => rfl) (fun _ _ => rfl)) ?_;rw [zX,zc];show OkS (za _ _ [some (mD zA),some (.ref jg),some (.ref M.length),some (.ref jg),some (.ref M1.length),none,none,none] _) _;obtain ⟨T,ed,hT,a1,a2,a3⟩:=sr.ex;have up : ∀ {j : Nat} {u : MO},M1[j]? = some u -> (M1 ++ [dT (ts.map fun t => (t,D.int 0))])[j]? = some u:=fun {j u} h => by rw [zU4 (zU0.mp h).1]; exact h
 have ed':=(zU0.mp ed).1;rw [zW];refine OkS.mono (zQQ (jf:=M1.length) (jd:=M.length) (jl:=jg) (Ts:=T) (lev:=ts) (fd:=ts.map fun t => (t,D.int 0)) m oa hR hl (by simp) (up ed) (by omega) ?_ (by simp) (up hj1) (by omega) (zOJ hts ?_) ?_ (by simp)) ?_
 ·intro g;cases e : zM T g with
  | none => exact .inr ⟨rfl,a2 g e⟩
  | some d =>
   obtain ⟨j,rfl,q1,q2⟩:=a1 g d e;have:=(zU0.mp q2).1;exact .inl ⟨j,rfl,by omega,up q2⟩
 ·intro t d;have gen : ∀ (ts : List (List Int)),zM (ts.map fun t => (t,D.int 0)) t = some d ↔ t ∈ ts /\ d = .int 0:=by
   intro ts;induction ts with
   | nil => simp [zM]
   | cons x r ih =>
    rw [zVG,zM];by_cases q : x = t
    ·subst q; simp [eq_comm]
    ·rw [zVF q,ih,zU9];constructor
     ·rintro ⟨z1,z2⟩; exact ⟨.inr z1,z2⟩
     ·rintro ⟨z1 | z1,z2⟩
      ·exact absurd z1.symm q
      ·exact ⟨z1,z2⟩
  exact gen _
 ·rw [zVL];rw [show ((fun (x : List Int × D) => x.1) ∘ fun (t : List Int) => (t,D.int 0)) = id from rfl,List.map_id];exact nd
 ·rintro o σ' M' ⟨rfl,⟨y3,y5,y6,y7,rfl⟩,⟨fd,e1,e2,e3⟩,hlen,fr'⟩;rw [zc];rw [zVD] at hlen fr';refine zBF (d:=.ref M1.length) rfl ⟨M1.length,rfl,by omega,⟨fd,e1,e2,e3⟩,by omega,fun j hj => ?_⟩;rw [fr' j (by omega) (by omega),zU4 (by omega)];exact fr j hj
noncomputable def zGG : FS:=(zAj (zb zB8 (zI (toD (zD 0)) (zI (toD (zAQ [1] (zAK (zI (toD (fB zBq (zg (zD 0) zAC))) zS)) (gN 1) zAI (zCZ (zI (toD (zD 1)) zS)))) zS))))
noncomputable def zCm : FF:=zB9 2 zGG
theorem zMO (m : IsM zA l) (hR : zA.length <= 26) (hl : l <= 12) : Ok (zCm [mD zA] M) fun d M' => ∃ jf,d = .ref jf /\ M.length <= jf /\ (∃ fd,M'[jf]? = some (dT fd) /\ fd.length <= 702 /\ ∀ t d,zM fd t = some d ↔ Th zA t /\ ∃ n : Nat,Dst zA l One t n /\ d = .int (n : Int)) /\ M.length <= M'.length /\ ∀ j,j < M.length -> M'[j]? = M[j]?:=by
 unfold zCm;rw [zAe];unfold zGG;show OkS (zAj _ [some (mD zA),none] M) _;have er : zAK (zI (toD (fB zBq (zg (zD 0) zAC))) zS) [some (mD zA),none] M = some ((List.range zA.length).map (fun (k : Nat) => D.int k),none,M):=by
  rw [zBn (j:=(zA.length : Int)) (zFu rfl) (by omega) (by omega),zFt];rw [show (zA.length : Int).toNat = zA.length by omega]
 have ec : zAQ [1] (zAK (zI (toD (fB zBq (zg (zD 0) zAC))) zS)) (gN 1) zAI (zCZ (zI (toD (zD 1)) zS)) [some (mD zA),none] M = some (.fl ((List.range zA.length).map fun (k : Nat) => tI [(k : Int)]),M) :=
  zCy (List.range zA.length) (fun (k : Nat) => D.int k) (fun (k : Nat) => tI [(k : Int)]) er trivial (by rw [zWu]; omega) fun k _ => ⟨_,rfl,rfl⟩
 have el : ((List.range zA.length).map fun (k : Nat) => tI [(k : Int)]) = ((zQ zA).map fun r => [r]).map tI:=by
  unfold zQ; rw [zVL,zVL]; rfl
 rw [el] at ec;rw [zAx];refine zCj.mpr (zAp.mpr (zAz.mpr (zAR.mpr ⟨_,rfl,?_⟩)));rw [zX];refine zAp.mpr (zAz.mpr (zL ec ?_));rw [zFM,zB3];refine Ok.mono (zII m zGm hR hl (jg:=M.length) (ts:=(zQ zA).map fun r => [r]) (by simp) ?_ zQE ?_) ?_
 ·unfold zQ;rw [zVL];exact List.pairwise_map.mpr (List.Pairwise.imp (fun {a b} h z => h (by simp at z; omega)) List.nodup_range)
 ·unfold zQ; simp; omega
 rintro d M' ⟨jf,rfl,h1,h2,h3,h4⟩;rw [zX];rw [zVD] at h1 h3 h4;refine ⟨jf,rfl,by omega,h2,by omega,fun j hj => ?_⟩;rw [h4 j (by omega),zU4 hj]
set_option genInjectivity true in
inductive Climb (zA : List (List Int)) (l : Nat) (G : List Int -> Prop) : List Int -> List Int -> Prop
 | nil {t : List Int} : G t -> Climb zA l G t []
 | cons {t : List Int} {x : Int} {w : List Int} {n : Nat} : Dst zA l G t (n + 1) -> 0 <= x -> x < (l : Int) -> Dst zA l G (setR zA t x) n -> (∀ y,0 <= y -> y < x -> ¬ Dst zA l G (setR zA t y) n) -> Climb zA l G (setR zA t x) w -> Climb zA l G t (x :: w)
theorem zI0 : ∀ {w t : List Int} {n : Nat},Climb zA l G t w -> Dst zA l G t n -> w.length = n
 | [],_,_,.nil h,d => by have:=zA2 (zBJ.mpr h) d; simpa using this
 | x :: w,_,n,.cons (n:=a) d1 _ _ e1 _ c1,d => by
  have h1:=zI0 c1 e1;have h2:=zA2 d1 d;rw [zVU]; omega
theorem zBe : ∀ {w t : List Int},Climb zA l G t w -> (∀ x ∈ w,0 <= x /\ x < (l : Int)) /\ G (broR zA t w)
 | [],_,.nil h => ⟨fun _ h => (by cases h),h⟩
 | x :: w,_,.cons _ x0 x1 _ _ c1 => by
  obtain ⟨h1,h2⟩:=zBe c1;refine ⟨fun y hy => ?_,h2⟩;rcases zU9.mp hy with rfl | q
  ·exact ⟨x0,x1⟩
  ·exact h1 y q
theorem zJX {P : Int -> Prop} : ∀ (k : Nat),P (k : Int) -> ∃ x : Nat,x <= k /\ P (x : Int) /\ ∀ y : Int,0 <= y -> y < (x : Int) -> ¬ P y:=by
 intro k;induction k using Nat.strongRecOn with
 | ind k ih =>
  intro h;by_cases q : ∃ j : Nat,j < k /\ P (j : Int)
  ·obtain ⟨j,hj,hp⟩:=q;obtain ⟨x,h1,h2,h3⟩:=ih j hj hp;exact ⟨x,by omega,h2,h3⟩
  ·refine ⟨k,zU3 _,h,fun y y0 y1 hp => q ⟨y.toNat,by omega,?_⟩⟩;rw [show ((y.toNat : Nat) : Int) = y by omega]; exact hp
theorem zFS : ∀ (n : Nat) {t : List Int},Dst zA l G t n -> ∃ w,Climb zA l G t w
 | 0,t,d => ⟨[],.nil (zBJ.mp d)⟩
 | n + 1,t,d => by
  obtain ⟨_,x,hx,hd⟩:=zCB.mp d;obtain ⟨y,h1,h2,h3⟩:=zJX (P:=fun x => Dst zA l G (setR zA t x) n) x.toNat (by rw [show ((x.toNat : Nat) : Int) = x by omega]; exact hd);obtain ⟨w,hw⟩:=zFS n h2;exact ⟨(y : Int) :: w,.cons d (by omega) (by omega) h2 h3 hw⟩
end Lac
namespace Lac
open PySem PySem.Spec PyProof.Rows L2 L3 ST Law
theorem aC' {f : FE} {g : FA} {σ : Sd} {M M1 M2 : Mem} {d : D} {ds : List D} (h : toD f σ M = some (d,M1)) (hg : g σ M1 = some (ds,M2)) : zI (toD f) g σ M = some (d :: ds,M2):=by
 unfold zI; rw [h]; dsimp only; rw [hg]
theorem zMX (h : f σ M = some (.dat d,M)) : toD f σ M = some (d,M):=by unfold toD; rw [h]
theorem zMc {M M1 : Mem} (h : f σ M = some (.fl xs,M1)) : toD f σ M = some (.ref M1.length,M1 ++ [.lst xs]):=by unfold toD; rw [h]
theorem zLz {g : FA} {σ : Sd} {M M1 : Mem} {ds : List D} (h : g σ M = some (ds,M1)) (hz : ds.length <= 100000) : zAh g σ M = some (.fl ds,M1):=by
 unfold zAh; rw [h]; dsimp only; rw [zVC (zt hz)]
theorem zMB {g : FA} {σ : Sd} {M M1 : Mem} {ds : List D} (h : g σ M = some (ds,M1)) (hz : ds.length <= 100000) : zCZ g σ M = some (.dat (.tup ds),M1):=by
 unfold zCZ; rw [h]; dsimp only; rw [zVC (zt hz)]
theorem zRk (hf : f σ M = some (.dat (.int i),M)) (hg : g σ M = some (.dat (.int j),M)) : fB zLD (zg f (zg g zAC)) σ M = some (.dat (.int (if j < i then j else i)),M):=by
 unfold fB zg zAC; rw [hf]; dsimp only; rw [hg]; rfl
theorem zQb {f : FE} {σ : Sd} {M M1 : Mem} {xs : List D} (h : f σ M = some (.fl xs,M1)) : zAW f σ M = some (xs,none,M1):=by
 unfold zAW; rw [h]; rfl
theorem zNB (h1 : M[n]? = some (.lst xs)) (h2 : M[m]? = some (.lst ys)) (hz : xs.length + ys.length <= 90000) : zEp (.dat (.ref n)) [.ref m] M = some (.non,M.set n (.lst (xs ++ ys))):=by
 unfold zEp; dsimp only; rw [h1,h2]; dsimp only; rw [zVC (zt (by omega))]
theorem zRD (hf : f σ M = some (.dat (.int i),M)) (hg : g σ M = some (.dat (.int j),M)) : fB zKP (zg f (zg g zAC)) σ M = some (.dat (.int (if j > i then j else i)),M):=by
 unfold fB zg zAC; rw [hf]; dsimp only; rw [hg]; rfl
theorem zJm {m : FF} {a : FA} {σ : Sd} {M M1 M' : Mem} {ds : List D} {d : D} (h : a σ M = some (ds,M1)) (hm : m ds M1 = some (d,M')) : zb m a σ M = some (.dat d,M'):=by
 unfold zb; rw [h]; dsimp only; rw [hm]
noncomputable def zC3 : FS:=(za (zAB 3 (zAQ [4] (zAK (zI (toD (fB zBq (zg (fOp kIx (zD 0) (fC (.int 0))) zAC))) zS)) (gN 4) zAI (zb zBQ (zI (toD (zD 0)) (zI (toD (zD 1)) (zI (toD (zD 4)) zS))))))
  (zAj (fB (zHW false) (zg (zAQ [4,5] (zKT (zD 3)) (zMk 4 5) (zCa (tst (fOp (zBa false) (zD 5) (zD 2))) (tst (fOp kEq (fOp zBB (zD 2) (zD 5)) (fOp zMG (fOp zBB (zD 2) (zD 1)) (fC (.int 1)))))) (zD 4)) zAC))))
noncomputable def zAY : FF:=zB9 6 zC3
noncomputable def zE5 : FS:=(za (zAB 2 (zAQ [3] (zAW (zb zA0 (zI (toD (zb zBV (zI (toD (zD 0)) zS))) zS))) (gN 3) (tst (fOp kGt (zBR (zD 1) (zD 3) (fC (.int 0))) (fC (.int 0)))) (zD 3)))
  (zAj (zDY true [3] (zAW (zD 2)) (gN 3) zAI (zD 3) (zCZ (zI (toD (fOp zBB (zD 1) (zD 3))) (zI (toD (zb zAY (zI (toD (zD 0)) (zI (toD (zD 3)) (zI (toD (zD 1)) zS))))) zS))))))
noncomputable def zCD : FF:=zB9 4 zE5
noncomputable def zJx : FS:=(zAj (zb zCD (zI (toD (zD 0)) (zI (toD (zb zCm (zI (toD (zD 0)) zS))) zS))))
noncomputable def zFv : FF:=zB9 1 zJx
noncomputable def zGE : FS:=(za (zAB 3 (zAh zS))
  (za (zAB 4 (zD 2))
  (za (zBI (tst (fOp (zBa false) (zD 4) (zD 1))) (za (zAB 5 (fOp kIx (fOp zBB (zD 1) (zD 4)) (fC (.int 1))))
  (za (zAq (fM z0 (zD 3) (zI (toD (zD 5)) zS)))
  (zAB 4 (zb zBQ (zI (toD (zD 0)) (zI (toD (zD 4)) (zI (toD (zD 5)) zS))))))) 1000)
  (zAj (fB zBr (zg (zD 3) zAC))))))
noncomputable def zDj : FF:=zB9 6 zGE
theorem zIe {α : Type} (hgd : zBD gd all M) (enc out : α -> D) (keep : α -> Bool) : ∀ (as : List α),(∀ a ∈ as,∃ σ1,g (enc a) σ = some σ1 /\ tc σ1 M = some (keep a,M) /\ (keep a = true -> te σ1 M = some (.dat (out a),M))) -> zBN g tc te σ all gd (as.map enc) M = some ((as.filter keep).map out,M)
 | [],_ => by
  rw [List.map_nil];unfold zBN;rw [zVC hgd]; rfl
 | a :: r,h => by
  obtain ⟨σ1,e1,e2,e3⟩:=h a zVB;have ih:=zIe (σ:=σ) hgd enc out keep r fun b hb => h b (zVA _ hb);rw [zVG];unfold zBN;rw [zVC hgd,e1];dsimp only;rw [e2];cases hk : keep a with
  | false =>
   dsimp only;rw [ih,List.filter_cons_of_neg (by simp [hk])]
  | true =>
   dsimp only;rw [show toD te σ1 M = some (out a,M) by unfold toD; rw [e3 hk]];dsimp only;rw [ih,List.filter_cons_of_pos hk];rfl
theorem zDG {α : Type} {own : List Nat} {fi : FI} {g : FG} {tc : FT} {te : FE} {σ : Sd} {M M1 : Mem} {gd : Option (Mem -> Prop)} (as : List α) (enc out : α -> D) (keep : α -> Bool) (hi : fi σ M = some (as.map enc,gd,M1)) (hgd : zBD gd (as.map enc) M1) (hz : as.length <= 100000)
  (he : ∀ a ∈ as,∃ σ1,g (enc a) (zBc own σ) = some σ1 /\ tc σ1 M1 = some (keep a,M1) /\ (keep a = true -> te σ1 M1 = some (.dat (out a),M1))) : zAQ own fi g tc te σ M = some (.fl ((as.filter keep).map out),M1) :=
 zp (zDz.mpr ⟨_,_,_,hi,by rw [zU6]; exact zt hz,zL (zIe hgd enc out keep as he) ⟨rfl,rfl⟩⟩)
theorem zQe {f : FE} {σ : Sd} {M M1 : Mem} {xs : List Int} (hf : f σ M = some (.fl (xs.map D.int),M1)) (hx : xs ≠ []) : ∃ b,fB (zHW false) (zg f zAC) σ M = some (.dat (.int b),M1) /\ b ∈ xs /\ ∀ y ∈ xs,b <= y:=by
 cases xs with
 | nil => exact absurd rfl hx
 | cons x r =>
  obtain ⟨h1,h2⟩:=zDq false r x;refine ⟨zDf false x r,?_,h1,fun y hy => by simpa using h2 y hy⟩;unfold fB zg zAC;rw [hf];show zHW false [.fl ((x :: r).map D.int)] M1 = _;unfold zHW;dsimp only;rw [zD1]
def zPW (zA : List (List Int)) (l : Nat) (G : List Int -> Prop) (fd : List (List Int × D)) : Prop:=∀ t d,zM fd t = some d ↔ Th zA t /\ ∃ n : Nat,Dst zA l G t n /\ d = .int (n : Int)
structure Fst (zA : List (List Int)) (l : Nat) (G : List Int -> Prop) (p : List Int) (n : Nat) (x : Int) : Prop where
 x0 : 0 <= x
 x1 : x < (l : Int)
 d : Dst zA l G (setR zA p x) n
 f : ∀ y,0 <= y -> y < x -> ¬ Dst zA l G (setR zA p y) n
def isN (n : Nat) : Option D -> Bool
 | some (.int v) => decide (v = (n : Int))
 | _ => false
theorem zJP (sp : zPW zA l G fd) (u : Th zA t) : isN n (zM fd t) = true ↔ Dst zA l G t n:=by
 constructor
 ·intro h;cases e : zM fd t with
  | none => rw [e] at h; cases h
  | some d =>
   obtain ⟨_,k,hk,rfl⟩:=(sp t d).mp e;rw [e] at h;have : (k : Int) = (n : Int):=zVt h;rw [show n = k by omega]; exact hk
 ·intro h;rw [(sp t _).mpr ⟨u,n,h,rfl⟩];exact zV5 rfl
theorem eqE : kEq (.dat (.int a)) (.dat (.int b)) M = some (.dat (.bl (decide (a = b))),M):=zp (zKF.mpr ⟨rfl,rfl⟩)
theorem zUa : zMG (.dat (.int a)) (.dat (.int b)) M = some (.dat (.int (a - b)),M):=rfl
theorem gtE : kGt (.dat (.int a)) (.dat (.int b)) M = some (.dat (.bl (decide (b < a))),M):=rfl
theorem zQp (ha : a σ M = some (true,M)) (hb : b σ M = some (k,M)) : zCa a b σ M = some (k,M):=by unfold zCa; rw [ha]; exact hb
theorem zRG (ha : a σ M = some (false,M)) : zCa a b σ M = some (false,M):=by unfold zCa; rw [ha]
theorem zPO {zA : List (List Int)} {l : Nat} {G : List Int -> Prop} (m : IsM zA l) (hR : zA.length <= 26) (hl : l <= 12) {M : Mem} {jf : Nat} {fd : List (List Int × D)} (hf : M[jf]? = some (dT fd)) (sp : zPW zA l G fd) {p : List Int} (u : Th zA p) {n : Nat} (hd : Dst zA l G p (n + 1)) :
  Ok (zAY [mD zA,tI p,.ref jf] M) fun d M' => ∃ x : Int,d = .int x /\ Fst zA l G p n x /\ ∃ us,M' = M ++ us:=by
 unfold zAY;rw [zAe];unfold zC3;show OkS (za _ _ [some (mD zA),some (tI p),some (.ref jf),none,none,none] M) _;have hfl:=(zU0.mp hf).1;have er:=zI6 (σ:=[some (mD zA),some (tI p),some (.ref jf),none,none,none]) (M:=M) (zGo m (f:=zD 0) rfl) (by omega) (by omega);rw [show (l : Int).toNat = l by omega] at er;have ec:=zCy (own:=[4]) (g:=gN 4) (te:=zb zBQ (zI (toD (zD 0)) (zI (toD (zD 1)) (zI (toD (zD 4)) zS)))) (List.range l) (fun (k : Nat) => D.int k) (fun (k : Nat) => tI (setR zA p (k : Int))) er trivial (by rw [zWu]; omega) fun k hk => ⟨_,rfl,zAr (zAP (d:=mD zA) rfl (zAP (d:=tI p) rfl (zAH (d:=.int (k : Int)) rfl))) (zGv m (by omega) u.1 (by omega) (by have:=zVb.mp hk; omega))⟩;rw [zW,zi];refine zL ec (zAG ?_);rw [zc];show OkS (zAj _ [some (mD zA),some (tI p),some (.ref jf),some (.ref M.length),none,none] (M ++ [.lst ((List.range l).map fun (k : Nat) => tI (setR zA p (k : Int)))])) _;generalize hA : M ++ [MO.lst ((List.range l).map fun (k : Nat) => tI (setR zA p (k : Int)))] = A;have a1 : A[M.length]? = some (.lst ((List.range l).map fun (k : Nat) => tI (setR zA p (k : Int)))):=by rw [<- hA]; simp
 have a2 : A[jf]? = some (dT fd):=by rw [<- hA,zU4 hfl]; exact hf
 have hen : zKT (zD 3) [some (mD zA),some (tI p),some (.ref jf),some (.ref M.length),none,none] A = some ((List.range l).map (fun (k : Nat) => D.tup [.int (k : Nat),tI (setR zA p (k : Int))]),zDS (.dat (.ref M.length)) ((List.range l).map fun (k : Nat) => tI (setR zA p (k : Int))),A):=by
  unfold zKT;rw [show zD 3 [some (mD zA),some (tI p),some (.ref jf),some (.ref M.length),none,none] A = some (.dat (.ref M.length),A) from rfl];dsimp only;rw [zAA a1];dsimp only;congr 2;unfold zLC;rw [zU6,zWu];apply List.ext_getElem?;intro i;by_cases hi : i < l
  ·rw [zVK,zVK,List.zip_eq_zipWith,List.getElem?_zipWith,zVK,List.getElem?_range hi];rfl
  ·rw [zV6 (by simp; omega),zV6 (by simp; omega)]
 have lp : zM fd p = some (.int ((n + 1 : Nat) : Int)):=(sp p _).mpr ⟨u,n + 1,hd,rfl⟩;have ef:=zDG (own:=[4,5]) (g:=zMk 4 5) (tc:=zCa (tst (fOp (zBa false) (zD 5) (zD 2))) (tst (fOp kEq (fOp zBB (zD 2) (zD 5)) (fOp zMG (fOp zBB (zD 2) (zD 1)) (fC (.int 1)))))) (te:=zD 4) (List.range l) _ (fun (k : Nat) => D.int (k : Int)) (fun (k : Nat) => isN n (zM fd (setR zA p (k : Int)))) hen (.inl a1) (by rw [zWu]; omega) (fun k hk => by
  have u':=zCu m p (k : Int) u ⟨by omega,by have:=zVb.mp hk; omega⟩;refine ⟨[some (mD zA),some (tI p),some (.ref jf),some (.ref M.length),some (.int (k : Int)),some (tI (setR zA p (k : Int)))],rfl,?_,fun _ => rfl⟩;have e1 : fOp (zBa false) (zD 5) (zD 2) [some (mD zA),some (tI p),some (.ref jf),some (.ref M.length),some (.int (k : Int)),some (tI (setR zA p (k : Int)))] A = _:=zf (x:=.dat (tI (setR zA p (k : Int)))) (y:=.dat (.ref jf)) rfl rfl (zMF a2);rw [zVF (by decide)] at e1;cases e : zM fd (setR zA p (k : Int)) with
  | none =>
   rw [e] at e1;exact zRG (zBH e1)
  | some d =>
   obtain ⟨_,v,_,rfl⟩:=(sp _ d).mp e;rw [e] at e1;refine zQp (zBH e1) (zBH ?_);refine zf (x:=.dat (.int (v : Int))) (y:=.dat (.int (((n + 1 : Nat) : Int) - 1))) (zf (x:=.dat (.ref jf)) (y:=.dat (tI (setR zA p (k : Int)))) rfl rfl (zHq a2 e)) (zf (x:=.dat (.int ((n + 1 : Nat) : Int))) (y:=.dat (.int 1)) (zf (x:=.dat (.ref jf)) (y:=.dat (tI p)) rfl rfl (zHq a2 lp)) rfl zUa) ?_;rw [eqE];unfold isN;congr 5;exact propext ⟨fun h => by omega,fun h => by omega⟩)
 rw [show ((List.range l).filter fun (k : Nat) => isN n (zM fd (setR zA p (k : Int)))).map (fun (k : Nat) => D.int (k : Int)) = (((List.range l).filter fun (k : Nat) => isN n (zM fd (setR zA p (k : Int)))).map fun (k : Nat) => (k : Int)).map D.int by rw [zVL]; rfl] at ef;obtain ⟨b,eb,hb1,hb2⟩:=zQe ef (by
  obtain ⟨_,x,hx,hr⟩:=zCB.mp hd;have : ((x.toNat : Nat) : Int) ∈ ((List.range l).filter fun (k : Nat) => isN n (zM fd (setR zA p (k : Int)))).map fun (k : Nat) => (k : Int):=zVE.mpr ⟨x.toNat,zV8.mpr ⟨zVb.mpr (by omega),by rw [show ((x.toNat : Nat) : Int) = x by omega]; exact (zJP sp (zCu m p x u hx)).mpr hr⟩,rfl⟩;exact List.ne_nil_of_mem this)
 obtain ⟨k,hk,rfl⟩:=zVE.mp hb1;obtain ⟨k1,k2⟩:=zV8.mp hk;have k3:=zVb.mp k1;refine zBF eb ⟨(k : Int),rfl,⟨by omega,by omega,(zJP sp (zCu m p _ u ⟨by omega,by omega⟩)).mp k2,fun y y0 y1 hy => ?_⟩,_,hA.symm⟩;have:=hb2 y (zVE.mpr ⟨y.toNat,zV8.mpr ⟨zVb.mpr (by omega),by rw [show ((y.toNat : Nat) : Int) = y by omega]; exact (zJP sp (zCu m p y u ⟨y0,by omega⟩)).mpr hy⟩,by omega⟩);omega
theorem zLr (a : Fst zA l G p n x) (b : Fst zA l G p n y) : x = y:=by
 rcases Int.lt_trichotomy x y with q | q | q
 ·exact absurd a.d (b.f x a.x0 q)
 ·exact q
 ·exact absurd b.d (a.f y b.x0 q)
open Classical in
noncomputable def zEx (zA : List (List Int)) (l : Nat) (G : List Int -> Prop) (t : List Int) : Nat:=if h : ∃ n,Dst zA l G t n then Classical.choose h else 0
open Classical in
noncomputable def zSp (zA : List (List Int)) (l : Nat) (G : List Int -> Prop) (t : List Int) : Int:=if h : ∃ x,Fst zA l G t (zEx zA l G t - 1) x then Classical.choose h else 0
theorem zEo (h : Dst zA l G t n) : zEx zA l G t = n:=by
 unfold zEx;have hx : ∃ n,Dst zA l G t n:=⟨n,h⟩;rw [dif_pos hx];exact zA2 (Classical.choose_spec hx) h
theorem zK7 (h : 0 < zEx zA l G t) : Dst zA l G t (zEx zA l G t):=by
 by_cases hx : ∃ n,Dst zA l G t n
 ·obtain ⟨n,hn⟩:=hx;rw [zEo hn]; exact hn
 ·unfold zEx at h;rw [dif_neg hx] at h;omega
theorem zMw (hd : Dst zA l G t (n + 1)) (h : Fst zA l G t n x) : zSp zA l G t = x:=by
 unfold zSp;rw [zEo hd];have hx : ∃ x,Fst zA l G t (n + 1 - 1) x:=⟨x,h⟩;rw [dif_pos hx];exact zLr (Classical.choose_spec hx) h
noncomputable def zMW (zA : List (List Int)) (l : Nat) (G : List Int -> Prop) (t : List Int) : Bool:=decide (0 < zEx zA l G t)
noncomputable def zGV (zA : List (List Int)) (l : Nat) (G : List Int -> Prop) (t : List Int) : D:=.tup [.int (zEx zA l G t : Nat),.int (zSp zA l G t)]
noncomputable def zCU (zA : List (List Int)) (l : Nat) (G : List Int -> Prop) : List (List Int):=(zU (zQ zA)).filter (zMW zA l G)
noncomputable def zDE (zA : List (List Int)) (l : Nat) (G : List Int -> Prop) : List (List Int × D):=(zCU zA l G).map fun p => (p,zGV zA l G p)
theorem zKL {f : List Int -> D} {t : List Int} : ∀ {ps : List (List Int)},zM (ps.map fun p => (p,f p)) t = if t ∈ ps then some (f t) else none
 | [] => rfl
 | p :: r => by
  rw [zVG,zM];by_cases h : p = t
  ·subst h; rw [zVC rfl,zVC zVB]
  ·rw [zVF h,zKL (ps:=r)];by_cases hr : t ∈ r
   ·rw [zVC hr,zVC (zVA _ hr)]
   ·rw [zVF hr,zVF (by simp [hr,Ne.symm h])]
theorem zMp (h : g ∉ T.map (·.1)) : zCS T g v = T ++ [(g,v)]:=by
 unfold zCS;cases e : zM T g with
 | none => rfl
 | some d => exact absurd (zC2.mp (show (zM T g).isSome = true by rw [e]; rfl)) h
theorem zJu (h : xs.Nodup) : (zU xs).Nodup:=by
 have gen : ∀ r : List Int,r.Nodup -> (r.flatMap fun a => (xs.filter fun b => decide (a < b)).map fun b => [a,b]).Nodup:=by
  intro r;induction r with
  | nil => intro _; simp
  | cons a r ih =>
   intro hr;obtain ⟨h1,h2⟩:=List.nodup_cons.mp hr;rw [List.flatMap_cons,zWB];refine ⟨?_,ih h2,fun u hu v hv => ?_⟩
   ·refine List.pairwise_map.mpr (List.Pairwise.imp (fun {x y} q z => q (by simpa using z)) (List.Pairwise.filter _ h))
   ·obtain ⟨b,_,rfl⟩:=zVE.mp hu;obtain ⟨c,hc,hv⟩:=zXm.mp hv;obtain ⟨d,_,rfl⟩:=zVE.mp hv;intro z;have : a = c:=by simpa using (zV1 z).1
    exact h1 (by rw [this]; exact hc)
 exact gen xs h
theorem zKQ (zA : List (List Int)) : (zQ zA).Nodup:=by
 unfold zQ;exact List.pairwise_map.mpr (List.Pairwise.imp (fun {a b} h z => h (by omega)) List.nodup_range)
theorem zCn : t ∈ zCU zA l G ↔ t ∈ zU (zQ zA) /\ ∃ n,Dst zA l G t (n + 1):=by
 unfold zCU zMW;rw [zV8];constructor
 ·rintro ⟨a,b⟩;have:=zK7 (zVt b);exact ⟨a,zEx zA l G t - 1,by rw [show zEx zA l G t - 1 + 1 = zEx zA l G t by have:=zVt b; omega]; exact this⟩
 ·rintro ⟨a,n,h⟩;exact ⟨a,zV5 (by rw [zEo h]; omega)⟩
theorem zTU (hf : f σ M = some (.dat (.ref n),M)) (hn : M[n]? = some (dT T)) (hg : g σ M = some (.dat (tI k),M)) : zBR f g (fC c) σ M = some (.dat ((zM T k).getD c),M):=by
 unfold zBR;rw [show toD f σ M = some (.ref n,M) by unfold toD; rw [hf]];dsimp only;rw [hn];dsimp only;rw [show toD g σ M = some (tI k,M) by unfold toD; rw [hg]];dsimp only;rw [show toD (fC c) σ M = some (c,M) from rfl];dsimp only;rw [dgT hn]
theorem zNz {own : List Nat} {i : Nat} {tv : FE} {σ : Sd} {M : Mem} {jl jk : Nat} {K : MO} {ts : List (List Int)} {val : List Int -> D} (hj : M[jl]? = some (.lst (ts.map tI))) (hk : M[jk]? = some K) (nd : ts.Nodup) (hz : ts.length <= 80000)
  (hg : ∀ a,gN i a (zBc own σ) = some ((zBc own σ).set i (some a))) (hs : ∀ (a : D) M',zD i ((zBc own σ).set i (some a)) M' = some (.dat a,M'))
  (hv : ∀ t ∈ ts,∀ M' : Mem,M'[jk]? = some K -> ∃ us,tv ((zBc own σ).set i (some (tI t))) M' = some (.dat (val t),M' ++ us)) {n : Nat} (hn : n = M.length) :
  ∃ us,zC4 (gN i) zAI (zD i) tv (zBc own σ) n (ts.map tI) (zDS (.dat (.ref jl)) (ts.map tI)) (ts.map tI) (M ++ [dT []]) = some (M ++ dT (ts.map fun t => (t,val t)) :: us):=by
 subst hn;have hjl:=(zU0.mp hj).1;have hkl:=(zU0.mp hk).1;have loop : ∀ (r q : List (List Int)) (ws : Mem),q ++ r = ts -> ∃ us,zC4 (gN i) zAI (zD i) tv (zBc own σ) M.length (ts.map tI) (zDS (.dat (.ref jl)) (ts.map tI)) (r.map tI) (M ++ dT (q.map fun t => (t,val t)) :: ws) = some (M ++ dT (ts.map fun t => (t,val t)) :: us):=by
  intro r;induction r with
  | nil =>
   intro q ws e;rw [zVh] at e; subst e;exact ⟨ws,zIU (.inl (by rw [zU4 hjl]; exact hj))⟩
  | cons x r ih =>
   intro q ws e;have hx : x ∉ q:=fun z => by
    rw [<- e,zWB] at nd;exact nd.2.2 x z x zVB rfl
   have hl : q.length < 90000:=by have:=zWk List.length e; simp at this; omega
   obtain ⟨us,hu⟩:=hv x (by rw [<- e]; simp) (M ++ dT (q.map fun t => (t,val t)) :: ws) (by rw [zU4 hkl]; exact hk);obtain ⟨vs,hvs⟩:=ih (q ++ [x]) (ws ++ us) (by rw [<- e]; simp);refine ⟨vs,?_⟩;rw [<- hvs,zVG];have hgd : zBD (zDS (.dat (.ref jl)) (ts.map tI)) (ts.map tI) (M ++ dT (q.map fun t => (t,val t)) :: ws):=.inl (by rw [zU4 hjl]; exact hj);rw [zC4,zVC hgd,hg];dsimp only;rw [show zAI ((zBc own σ).set i (some (tI x))) (M ++ dT (q.map fun t => (t,val t)) :: ws) = some (true,M ++ dT (q.map fun t => (t,val t)) :: ws) from rfl];dsimp only;rw [show toD (zD i) ((zBc own σ).set i (some (tI x))) (M ++ dT (q.map fun t => (t,val t)) :: ws) = some (tI x,M ++ dT (q.map fun t => (t,val t)) :: ws) by unfold toD; rw [hs]];dsimp only;rw [show toD tv ((zBc own σ).set i (some (tI x))) (M ++ dT (q.map fun t => (t,val t)) :: ws) = some (val x,M ++ dT (q.map fun t => (t,val t)) :: ws ++ us) by unfold toD; rw [hu]];dsimp only;rw [zKU (T:=q.map fun t => (t,val t)) (by simp) (by rw [zU6]; exact hl),zMp (by rw [zVL]; simpa using hx)];dsimp only;congr 1;rw [zV3,List.set_append_right _ _ (zU3 _)];simp
 exact loop ts [] [] rfl
theorem zLG {zA : List (List Int)} {l : Nat} {G : List Int -> Prop} (m : IsM zA l) (hR : zA.length <= 26) (hl : l <= 12) {M : Mem} {jf : Nat} {fd : List (List Int × D)} (hf : M[jf]? = some (dT fd)) (sp : zPW zA l G fd) :
  Ok (zCD [mD zA,.ref jf] M) fun d M' => ∃ jr us,d = .ref jr /\ M' = M ++ us /\ M.length <= jr /\ M'[jr]? = some (dT (zDE zA l G)):=by
 unfold zCD;rw [zAe];unfold zE5;show OkS (za _ _ [some (mD zA),some (.ref jf),none,none] M) _;have hfl:=(zU0.mp hf).1;have hrl : (zQ zA).length = zA.length:=by unfold zQ; simp
 have epr:=zG8 (xs:=zQ zA) (by omega) (M:=M);have ei : zAW (zb zA0 (zI (toD (zb zBV (zI (toD (zD 0)) zS))) zS)) [some (mD zA),some (.ref jf),none,none] M = _:=zJg (zAH (d:=tI (zQ zA)) (zAr (zAH (d:=mD zA) rfl) (zKv (by omega)))) epr (zAf _ _);have hPl : (zU (zQ zA)).length <= 676:=by
  have h1:=zBu (zQ zA);rw [hrl] at h1;exact zVO h1 (zWZ hR hR)
 generalize hA : M ++ [MO.lst ((zU (zQ zA)).map tI)] = A at ei;have a1 : A[M.length]? = some (.lst ((zU (zQ zA)).map tI)):=by rw [<- hA]; simp
 have a2 : A[jf]? = some (dT fd):=by rw [<- hA,zU4 hfl]; exact hf
 have ef:=zDG (own:=[3]) (g:=gN 3) (tc:=tst (fOp kGt (zBR (zD 1) (zD 3) (fC (.int 0))) (fC (.int 0)))) (te:=zD 3) (zU (zQ zA)) tI tI (zMW zA l G) ei (.inl a1) (by omega) (fun p hp => by
  refine ⟨[some (mD zA),some (.ref jf),none,some (tI p)],rfl,zBH ?_,fun _ => rfl⟩;have e1 : zBR (zD 1) (zD 3) (fC (.int 0)) [some (mD zA),some (.ref jf),none,some (tI p)] A = _:=zTU (k:=p) rfl a2 rfl;unfold zMW;cases e : zM fd p with
  | none =>
   rw [e] at e1;rw [zf (x:=.dat (.int 0)) (y:=.dat (.int 0)) e1 rfl gtE];have : ¬ 0 < zEx zA l G p:=fun h => by
    rw [(sp p _).mpr ⟨zCe p hp,_,zK7 h,rfl⟩] at e;cases e
   rw [zVW this]; rfl
  | some d =>
   obtain ⟨_,v,hv,rfl⟩:=(sp _ d).mp e;rw [e] at e1;rw [zf (x:=.dat (.int (v : Int))) (y:=.dat (.int 0)) e1 rfl gtE,zEo hv];congr 5;exact propext ⟨fun h => by omega,fun h => by omega⟩)
 rw [zW,zi];refine zL ef (zAG ?_);rw [zc];show OkS (zAj _ [some (mD zA),some (.ref jf),some (.ref A.length),none] (A ++ [.lst ((zCU zA l G).map tI)])) _;have nd : (zCU zA l G).Nodup:=List.Pairwise.filter _ (zJu (zKQ zA));have hrl2 : (zCU zA l G).length <= 676:=zVO (zXH _ _) hPl;generalize hB : A ++ [MO.lst ((zCU zA l G).map tI)] = B;have b1 : B[A.length]? = some (.lst ((zCU zA l G).map tI)):=by rw [<- hB]; simp
 have b2 : B[jf]? = some (dT fd):=by rw [<- hB,zU4 (zU0.mp a2).1]; exact a2
 obtain ⟨us,hu⟩:=zNz (own:=[3]) (i:=3) (σ:=[some (mD zA),some (.ref jf),some (.ref A.length),none]) (tv:=zCZ (zI (toD (fOp zBB (zD 1) (zD 3))) (zI (toD (zb zAY (zI (toD (zD 0)) (zI (toD (zD 3)) (zI (toD (zD 1)) zS))))) zS))) (val:=zGV zA l G) b1 b2 nd (by omega) (fun _ => rfl) (fun _ _ => rfl) (fun t ht M' hM => by
  obtain ⟨ht1,n,hn⟩:=zCn.mp ht;obtain ⟨d,M2,e,x,rfl,fx,us,rfl⟩:=zPO m hR hl hM sp (zCe t ht1) hn;refine ⟨us,?_⟩;show zCZ _ [some (mD zA),some (.ref jf),some (.ref A.length),some (tI t)] M' = _;have e1 : fOp zBB (zD 1) (zD 3) [some (mD zA),some (.ref jf),some (.ref A.length),some (tI t)] M' = some (.dat (.int ((n + 1 : Nat) : Int)),M'):=zf (x:=.dat (.ref jf)) (y:=.dat (tI t)) rfl rfl (zHq hM ((sp t _).mpr ⟨zCe t ht1,n + 1,hn,rfl⟩));have e2 : zb zAY (zI (toD (zD 0)) (zI (toD (zD 3)) (zI (toD (zD 1)) zS))) [some (mD zA),some (.ref jf),some (.ref A.length),some (tI t)] M' = some (.dat (.int x),M' ++ us):=zAr (zAP (d:=mD zA) rfl (zAP (d:=tI t) rfl (zAH (d:=.ref jf) rfl))) e;rw [zMB (aC' (zMX e1) (zOt e2)) (by simp)];unfold zGV;rw [zEo hn,zMw hn fx]) rfl
 have ed : zDY true [3] (zAW (zD 2)) (gN 3) zAI (zD 3) (zCZ (zI (toD (fOp zBB (zD 1) (zD 3))) (zI (toD (zb zAY (zI (toD (zD 0)) (zI (toD (zD 3)) (zI (toD (zD 1)) zS))))) zS))) [some (mD zA),some (.ref jf),some (.ref A.length),none] B = some (.dat (.ref B.length),B ++ dT (zDE zA l G) :: us):=by
  unfold zDY zAW;rw [show zD 2 [some (mD zA),some (.ref jf),some (.ref A.length),none] B = some (.dat (.ref A.length),B) from rfl];dsimp only;rw [zAA b1];dsimp only;rw [show zJI true = dT [] from rfl,hu];rfl
 rw [zAx];refine zL ed ⟨B.length,[MO.lst ((zU (zQ zA)).map tI)] ++ ([MO.lst ((zCU zA l G).map tI)] ++ dT (zDE zA l G) :: us),rfl,by rw [<- hB,<- hA]; simp only [zV3],?_,by simp⟩;rw [<- hB,<- hA]; simp only [zVD]; omega
theorem zPQ (m : IsM zA l) (hR : zA.length <= 26) (hl : l <= 12) :
  Ok (zFv [mD zA] M) fun d M' => ∃ jr,d = .ref jr /\ M.length <= jr /\ M'[jr]? = some (dT (zDE zA l One)) /\ M.length <= M'.length /\ ∀ j,j < M.length -> M'[j]? = M[j]?:=by
 unfold zFv;rw [zAe];unfold zJx;show OkS (zAj _ [some (mD zA)] M) _;obtain ⟨d,M1,e,jf,rfl,h1,⟨fd,h2,_,sp⟩,h3,h4⟩:=zMO m hR hl (M:=M);obtain ⟨d2,M2,e2,jr,us,rfl,rfl,q1,q2⟩:=zLG m hR hl h2 sp;rw [zAx];have ec : zb zCD (zI (toD (zD 0)) (zI (toD (zb zCm (zI (toD (zD 0)) zS))) zS)) [some (mD zA)] M = some (.dat (.ref jr),M1 ++ us):=by
  exact zJm (aC' (zMX (d:=mD zA) rfl) (zOt (zAr (zAH (d:=mD zA) rfl) e))) e2
 refine zL ec ⟨jr,rfl,by omega,q2,by rw [zVD]; omega,fun j hj => ?_⟩;rw [zU4 (by omega)]; exact h4 j hj
theorem zIo (m : IsM zA l) (o : zEO zA G) : ∀ (n : Nat) (t : List Int),Th zA t -> Dst zA l G t n -> ∃ ts : List (List Int),ts.length = n /\ ts.Nodup /\ ∀ s ∈ ts,s ∈ zU (zQ zA) /\ ∃ k,k <= n /\ Dst zA l G s k
 | 0,_,_,_ => ⟨[],rfl,List.nodup_nil,fun _ h => by cases h⟩
 | n + 1,t,u,d => by
  obtain ⟨q,x,hx,hd⟩:=zCB.mp d;obtain ⟨ts,h1,h2,h3⟩:=zIo m o n (setR zA t x) (zCu m t x u hx) hd;refine ⟨t :: ts,by simp [h1],List.nodup_cons.mpr ⟨fun z => ?_,h2⟩,fun s hs => ?_⟩
  ·obtain ⟨_,k,hk,hk2⟩:=h3 t z;have:=zA2 hk2 d;omega
  ·rcases zU9.mp hs with rfl | z
   ·exact ⟨zF1 m o s (n + 1) u (fun g => by have:=zA2 (zBJ.mpr g) d; omega) d.1,n + 1,zU3 _,d⟩
   ·obtain ⟨a,k,hk,b⟩:=h3 s z;exact ⟨a,k,by omega,b⟩
theorem zLN (m : IsM zA l) (o : zEO zA G) (u : Th zA t) (d : Dst zA l G t n) : n <= (zU (zQ zA)).length:=by
 obtain ⟨ts,h1,h2,h3⟩:=zIo m o n t u d;rw [<- h1];exact zBw ts _ h2 fun s hs => (h3 s hs).1
theorem zDa (hR : zA.length <= 26) : (zU (zQ zA)).length <= 676:=by
 have h1:=zBu (zQ zA);have hrl : (zQ zA).length = zA.length:=by unfold zQ; simp
 rw [hrl] at h1;exact zVO h1 (zWZ hR hR)
theorem zF6 (c : Climb zA l G t w) : Dst zA l G t w.length:=by
 cases c with
 | nil g => exact zBJ.mpr g
 | cons d x0 x1 e f c => rw [zVU,zI0 c e]; exact d
theorem zEq : zM (zDE zA l G) t = if t ∈ zCU zA l G then some (zGV zA l G t) else none:=zKL
theorem zLd (m : IsM zA l) (o : zEO zA G) (hR : zA.length <= 26) (hr : M[jr]? = some (dT (zDE zA l G))) (u : Th zA p) (c : Climb zA l G p w) :
  Ok (zDj [mD zA,.ref jr,tI p] M) fun d M' => d = tI w /\ ∃ us,M' = M ++ us:=by
 have hrl:=(zU0.mp hr).1;have hw : w.length <= 676:=zVO (zLN m o u (zF6 c)) (zDa hR);unfold zDj;rw [zAe];unfold zGE;show OkS (za _ _ [some (mD zA),some (.ref jr),some (tI p),none,none,none] M) _;rw [zW,zi];refine zL (M:=M) (a:=.fl []) (zLz rfl (by simp)) (zAG ?_);rw [zc];show OkS (za _ _ [some (mD zA),some (.ref jr),some (tI p),some (.ref M.length),none,none] (M ++ [.lst []])) _;refine zCF (d:=tI p) rfl ?_;show OkS (za _ _ [some (mD zA),some (.ref jr),some (tI p),some (.ref M.length),some (tI p),none] (M ++ [.lst []])) _;rw [zW];refine zCH (I:=fun z σ M' => ∃ (w1 w2 here : List Int) (y : Option D),w = w1 ++ w2 /\ Climb zA l G here w2 /\ Th zA here /\ z = w2.length /\ σ = [some (mD zA),some (.ref jr),some (tI p),some (.ref M.length),some (tI here),y] /\ M' = M ++ [.lst (w1.map D.int)]) ?_ 1000 w.length _ _ (by omega) ⟨[],w,p,none,rfl,c,u,rfl,rfl,rfl⟩;rintro z σ M' ⟨w1,w2,here,y,hw12,c2,u2,rfl,rfl,rfl⟩;have hM : (M ++ [MO.lst (w1.map D.int)])[jr]? = some (dT (zDE zA l G)):=by rw [zU4 hrl]; exact hr
 have hL : (M ++ [MO.lst (w1.map D.int)])[M.length]? = some (.lst (w1.map D.int)):=by simp
 have et : tst (fOp (zBa false) (zD 4) (zD 1)) [some (mD zA),some (.ref jr),some (tI p),some (.ref M.length),some (tI here),y] (M ++ [MO.lst (w1.map D.int)]) = some ((zM (zDE zA l G) here).isSome,M ++ [MO.lst (w1.map D.int)]):=by
  have:=zf (k:=zBa false) (f:=zD 4) (g:=zD 1) (σ:=[some (mD zA),some (.ref jr),some (tI p),some (.ref M.length),some (tI here),y]) (x:=.dat (tI here)) (y:=.dat (.ref jr)) rfl rfl (zMF hM);rw [zVF (by decide)] at this;exact zBH this
 refine zL et ?_;cases c2 with
 | nil g =>
  have hlk : zM (zDE zA l G) here = none:=by rw [zEq,zVF (fun h => by obtain ⟨_,n,hn⟩:=zCn.mp h; have:=zA2 (zBJ.mpr g) hn; omega)]
  rw [hlk];show OkS (zAj _ _ _) _;rw [zVh] at hw12;subst hw12;exact zBF (d:=tI w) (zC8 (f:=zD 3) rfl (zAA hL)) ⟨rfl,_,rfl⟩
 | @cons _ x w3 n d x0 x1 e f c3 =>
  have hp:=zF1 m o here (n + 1) u2 (fun g => by have:=zA2 (zBJ.mpr g) d; omega) d.1;have hin : here ∈ zCU zA l G:=zCn.mpr ⟨hp,n,d⟩;have fx : Fst zA l G here n x:=⟨x0,x1,e,f⟩;have hv : zGV zA l G here = .tup [.int ((n + 1 : Nat) : Int),.int x]:=by unfold zGV; rw [zEo d,zMw d fx]
  have hlk : zM (zDE zA l G) here = some (.tup [.int ((n + 1 : Nat) : Int),.int x]):=by rw [zEq,zVC hin,hv]
  rw [hlk];have hlen:=zWk List.length hw12;rw [zVD,zVU] at hlen;show OkS (za _ _ [some (mD zA),some (.ref jr),some (tI p),some (.ref M.length),some (tI here),y] (M ++ [MO.lst (w1.map D.int)])) _;refine zCF (d:=.int x) (zf (x:=.dat (.tup [.int ((n + 1 : Nat) : Int),.int x])) (y:=.dat (.int 1)) (zf (x:=.dat (.ref jr)) (y:=.dat (tI here)) rfl rfl (zHq hM hlk)) rfl (zC0 zAU rfl)) ?_;show OkS (za _ _ [some (mD zA),some (.ref jr),some (tI p),some (.ref M.length),some (tI here),some (.int x)] (M ++ [MO.lst (w1.map D.int)])) _;rw [zW,zBm];refine zH8.mpr (zL (a:=.dat (.ref M.length)) (M:=M ++ [MO.lst (w1.map D.int)]) rfl ⟨⟨_,zBT hL⟩,zL (zAH (d:=.int x) rfl) ((zCv hL (by rw [zU6]; exact zVM (show w1.length < 1000 by omega) (zt (by omega)))).mpr ?_)⟩);rw [zc];have hset : (M ++ [MO.lst (w1.map D.int)]).set M.length (.lst (w1.map D.int ++ [.int x])) = M ++ [MO.lst ((w1 ++ [x]).map D.int)]:=by
   rw [List.set_append_right _ _ (zU3 _)]; simp
  rw [hset,zi];refine zL (zAr (zAP (d:=mD zA) rfl (zAP (d:=tI here) rfl (zAH (d:=.int x) rfl))) (zGv m (by omega) u2.1 x0 x1)) ?_;exact ⟨w3.length,by simp,w1 ++ [x],w3,setR zA here x,some (.int x),by rw [hw12]; simp,c3,zCu m here x u2 ⟨x0,x1⟩,rfl,rfl,rfl⟩
def zBW (a b : Int) : List Int:=[if b < a then b else a,if b > a then b else a]
theorem zOY (zA : List (List Int)) (r : Int) (w : List Int) (x : Int) : zCX zA r (w ++ [x]) = zBK zA (zCX zA r w) x:=by
 unfold zCX; rw [zWv]; rfl
abbrev Wd (l : Nat) (w : List Int) : Prop:=∀ x ∈ w,0 <= x /\ x < (l : Int)
theorem zTJ (h : Wd l u) (g : Wd l v) : Wd l (u ++ v):=fun x hx => (zVN.mp hx).elim (h x) (g x)
theorem zRK : (ris [a,b]).length = 1 ↔ a = b:=by
 constructor
 ·intro h;obtain ⟨r,e⟩:=List.length_eq_one_iff.mp h;have ha : a ∈ ris [a,b]:=(zCM _ _).mpr (by simp);have hb : b ∈ ris [a,b]:=(zCM _ _).mpr (by simp);rw [e,zVP] at ha hb;rw [ha,hb]
 ·rintro rfl;rw [show ris [a,a] = ris [a] from zFQ (by simp),zJv (by simp)];rfl
theorem zKH (h : a ≠ b) : (zBW a b).Pairwise (· < ·):=by
 unfold zBW;simp only [List.pairwise_cons,zVP,forall_eq,zVS,false_implies,implies_true,List.Pairwise.nil,and_true];split <;> split <;> omega
theorem zPv (h : a ≠ b) (w : List Int) : broR zA (zBW a b) w = ris [zCX zA a w,zCX zA b w]:=by
 rw [zFp (zKH h)];apply zFQ;intro x;unfold zBW;by_cases q : b < a
 ·rw [zVC q,zVF (by omega)]; simp [or_comm]
 ·rw [zVF q,zVC (by omega)]; simp
theorem zMx (h : a ≠ b) (w : List Int) : One (broR zA (zBW a b) w) ↔ zCX zA a w = zCX zA b w:=by
 unfold One; rw [zPv h]; exact zRK
theorem zPd (h1 : fv σ M = some (.dat v,M)) (h2 : fo σ M = some (.dat (.ref n),M)) (h3 : fi σ M = some (.dat k,M)) (h4 : zGS M n k v = some M4) (q : P .nx σ M4) : OkS (zB6 fv fo fi σ M) P:=by
 refine ⟨.nx,σ,M4,?_,q⟩;unfold zB6 toD;rw [h1]; dsimp only; rw [h2]; dsimp only; rw [h3]; dsimp only; rw [h4]
end Lac
namespace Lac
open PySem PySem.Spec PyProof.Rows L2 L3 ST Law
noncomputable def zEU : FS:=(za (zAB 1 (zAh zS))
  (za (zCG (zAK (zI (toD (fB zBq (zg (zD 0) zAC))) zS)) (gN 2) (zAq (fM zEp (zD 1) (zI (toD (zAQ [3] (zAW (fSl (zD 0) (zEZ (fOp zAt (zD 2) (fC (.int 1)))) zEz)) (gN 3) zAI (zCZ (zI (toD (fOp kIx (zD 0) (zD 2))) (zI (toD (zD 3)) zS))))) zS))))
  (zAj (zD 1))))
noncomputable def zAl : FF:=zB9 4 zEU
noncomputable def zDv : FS:=(za (zAB 3 (fOp kIx (fOp kIx (zD 0) (fOp kIx (zD 1) (fC (.int 0)))) (zD 2)))
  (za (zAB 4 (fOp kIx (fOp kIx (zD 0) (fOp kIx (zD 1) (fC (.int 1)))) (zD 2)))
  (zAj (zCZ (zI (toD (fB zLD (zg (zD 3) (zg (zD 4) zAC)))) (zI (toD (fB zKP (zg (zD 3) (zg (zD 4) zAC)))) zS))))))
noncomputable def zBE : FF:=zFW (zB9 5 zDv)
noncomputable def zD5 : FS:=(za (zAB 1 zHR)
  (za (zAB 2 (zAh zS))
  (za (zAB 3 zHR)
  (za (zCG (zAW (zb zAl (zI (toD (zGT (fB zBq (zg (zD 0) zAC)))) zS))) (gN 4) (zCG (zAK (zI (toD (fB zBq (zg (fOp kIx (zD 0) (fC (.int 0))) zAC))) zS)) (gN 5) (za (zAB 6 (zb zBE (zI (toD (zD 0)) (zI (toD (zD 4)) (zI (toD (zD 5)) zS)))))
  (sIf (tst (fOp kLt (fOp kIx (zD 6) (fC (.int 0))) (fOp kIx (zD 6) (fC (.int 1))))) (zAq (fM z0 (zCK (zD 1) (zD 6) (zAh zS)) (zI (toD (zD 4)) zS))) (sIf (tst (fOp (zBa true) (zD 4) (zD 3))) (za (zB6 (fC (.bl true)) (zD 3) (zD 4))
  (zAq (fM z0 (zD 2) (zI (toD (zD 4)) zS)))) zB4)))))
  (za (zBI (tst (fOp kNe (zD 2) (zAh zS))) (zCG (zAW (zBR (zD 1) (zFI (zD 2)) (zAh zS))) (gN 4) (sIf (tst (fOp (zBa true) (zD 4) (zD 3))) (za (zB6 (fC (.bl true)) (zD 3) (zD 4))
  (zAq (fM z0 (zD 2) (zI (toD (zD 4)) zS)))) zB4)) 1000)
  (zAj (zD 3)))))))
noncomputable def zB7 : FF:=zB9 7 zD5
theorem zK2 {xs : List Int} (h : xs.Pairwise (· < ·)) (hi : i < xs.length) : xs.filter (fun b => decide (xs[i] < b)) = xs.drop (i + 1):=by
 have hg:=List.pairwise_iff_getElem.mp h;have h1 : (xs.take (i + 1)).filter (fun b => decide (xs[i] < b)) = []:=by
  rw [List.filter_eq_nil_iff];intro b hb;obtain ⟨j,hj,rfl⟩:=zW0 hb;rw [zWL] at hj;rw [List.getElem_take,zWA];rcases zWJ j i with q | q
  ·have:=hg j i (by omega) hi q; omega
  ·have : j = i:=by omega
   subst this; omega
 have h2 : (xs.drop (i + 1)).filter (fun b => decide (xs[i] < b)) = xs.drop (i + 1):=by
  rw [List.filter_eq_self];intro b hb;obtain ⟨j,hj,rfl⟩:=zW0 hb;rw [zXQ] at hj;rw [List.getElem_drop,zWA];exact hg i (i + 1 + j) hi (by omega) (by omega)
 have key : ∀ f : Int -> Bool,(xs.take (i + 1)).filter f = [] -> (xs.drop (i + 1)).filter f = xs.drop (i + 1) -> xs.filter f = xs.drop (i + 1):=fun f a b => by
  have:=List.filter_append (p:=f) (xs.take (i + 1)) (xs.drop (i + 1));rw [List.take_append_drop,a,b] at this;simpa using this
 exact key _ h1 h2
def zFc (xs : List Int) (k : Nat) : List (List Int):=(List.range k).flatMap fun i => (xs.drop (i + 1)).map fun b => [xs.getD i 0,b]
theorem zOA {xs : List Int} (h : xs.Pairwise (· < ·)) : zFc xs xs.length = zU xs:=by
 have e : zU xs = (List.range xs.length).flatMap fun i => (xs.filter fun b => decide (xs.getD i 0 < b)).map fun b => [xs.getD i 0,b]:=by
  unfold zU;have : xs = (List.range xs.length).map fun i => xs.getD i 0:=by
   have:=zHc (fun x : Int => x) 0 xs;simpa using this.symm
  conv => lhs; arg 2; rw [this]
  rw [List.flatMap_map]
 rw [e];unfold zFc;have : ∀ i ∈ List.range xs.length,(xs.drop (i + 1)).map (fun b => [xs.getD i 0,b]) = (xs.filter fun b => decide (xs.getD i 0 < b)).map fun b => [xs.getD i 0,b]:=fun i hi => by
  have hi':=zVb.mp hi;rw [<- zK2 h hi'];congr 2;funext b;rw [zU2,zU1 hi'];rfl
 rw [List.flatMap_def,List.flatMap_def,List.map_congr_left this]
theorem zRp (xs : List Int) : ∀ k,(zFc xs k).length <= k * xs.length:=by
 intro k;induction k with
 | zero => simp [zFc]
 | succ k ih =>
  unfold zFc at ih ⊢;rw [List.range_succ,List.flatMap_append,zVD];simp only [List.flatMap_cons,List.flatMap_nil,zVh,zU6,zXQ];rw [Nat.add_mul]; omega
theorem zOm {xs : List D} (hk : k <= xs.length) : L3.zGi xs (some (k : Int)) none = xs.drop k:=by
 have ha : HT.sIx xs.length 0 (some (k : Int)) = k:=by rw [HT.zRf]; omega
 unfold L3.zGi;rw [ha,show HT.sIx xs.length xs.length none = xs.length from rfl];exact List.take_of_length_le (by simp)
theorem zM1 (n : Nat) (ps : List (List Int)) : D.unds n (ps.map tI) = true:=by
 induction ps with
 | nil => rfl
 | cons p r ih => rw [zVG]; unfold D.unds; rw [ih,show D.und n (tI p) = true from zAo p]; rfl
theorem zFO (hj : M[j]? = some (.lst (xs.map D.int))) (hx : xs.Pairwise (· < ·)) (hz : xs.length <= 100) :
  Ok (zAl [.ref j] M) fun d M' => d = .ref M.length /\ ∃ us : Mem,M' = M ++ .lst ((zU xs).map tI) :: us /\ ∀ u ∈ us,MO.und 0 u = true:=by
 have hjl:=(zU0.mp hj).1;unfold zAl;rw [zAe];unfold zEU;show OkS (za _ _ [some (.ref j),none,none,none] M) _;rw [zW,zi];refine zL (M:=M) (a:=.fl []) (zLz rfl (by simp)) (zAG ?_);rw [zc];show OkS (za _ _ [some (.ref j),some (.ref M.length),none,none] (M ++ [.lst []])) _;have up : ∀ us : Mem,(M ++ us)[j]? = some (.lst (xs.map D.int)):=fun us => by rw [zU4 hjl]; exact hj
 rw [zW,zBd];have el:=zGI (f:=zD 0) (σ:=[some (.ref j),some (.ref M.length),none,none]) (M:=M ++ [.lst []]) (x:=.dat (.ref j)) rfl (zAA (up _));rw [zU6] at el;refine ⟨_,_,_,zBn el (by omega) (by omega),?_⟩;rw [show ((xs.length : Int)).toNat = xs.length by omega];refine zG1 (n:=xs.length) (I:=fun k σ M' => (∃ y2 y3,σ = [some (.ref j),some (.ref M.length),y2,y3]) /\ ∃ us : Mem,M' = M ++ .lst ((zFc xs k).map tI) :: us /\ ∀ u ∈ us,MO.und 0 u = true) ?_ ?_ _ _ ⟨⟨_,_,rfl⟩,[],by simp [zFc],(fun _ h => by cases h)⟩
 ·rintro k σ M' hk ⟨⟨y2,y3,rfl⟩,us,rfl,hu⟩;refine ⟨_,rfl,?_⟩;show OkS (zAq _ [some (.ref j),some (.ref M.length),some (.int (k : Int)),y3] (M ++ .lst ((zFc xs k).map tI) :: us)) _;generalize hA : M ++ MO.lst ((zFc xs k).map tI) :: us = A;have a0 : A[j]? = some (.lst (xs.map D.int)):=by rw [<- hA]; exact up _
  have a1 : A[M.length]? = some (.lst ((zFc xs k).map tI)):=by rw [<- hA]; simp
  have al : M.length < A.length:=(zU0.mp a1).1;rw [zBm];have esl : fSl (zD 0) (zEZ (fOp zAt (zD 2) (fC (.int 1)))) zEz [some (.ref j),some (.ref M.length),some (.int (k : Int)),y3] A = some (.fl ((xs.drop (k + 1)).map D.int),A):=by
   refine zp (zPJ.mpr (zL (a:=.dat (.ref j)) (M:=A) rfl (zHE.mpr (zL (a:=.dat (.int ((k + 1 : Nat) : Int))) (M:=A) rfl (zHM.mpr (zG2.mpr ?_))))));rw [zMK (zBT a0) rfl,zOm (by rw [zU6]; omega),List.map_drop];exact ⟨rfl,rfl⟩
  have ec:=zCy (own:=[3]) (g:=gN 3) (te:=zCZ (zI (toD (fOp kIx (zD 0) (zD 2))) (zI (toD (zD 3)) zS))) (σ:=[some (.ref j),some (.ref M.length),some (.int (k : Int)),y3]) (M:=A) (xs.drop (k + 1)) D.int (fun b => tI [xs.getD k 0,b]) (zQb esl) trivial (by rw [zXQ]; omega) fun b _ => ⟨_,rfl,zMB (zAP (zf (x:=.dat (.ref j)) (y:=.dat (.int (k : Int))) rfl rfl (zC0 (zAA a0) (zLM (by rw [zVK,zU1 hk,zU2,zU1 hk]; rfl)))) (zAH (d:=.int b) rfl)) (by simp)⟩;have htl:=zRp xs k;have hmul : k * xs.length <= 100 * 100:=zWZ (by omega) hz;refine zH8.mpr (zL (a:=.dat (.ref M.length)) (M:=A) rfl ⟨⟨_,zBT a1⟩,zAp.mpr (zAz.mpr (zL ec (zAG ?_)))⟩);rw [zB3];refine zL (zNB (n:=M.length) (m:=A.length) (xs:=(zFc xs k).map tI) (ys:=(xs.drop (k + 1)).map fun b => tI [xs.getD k 0,b]) (by rw [zU4 al]; exact a1) (zAf _ _) (by rw [zU6,zU6,zXQ]; omega)) ?_;refine ⟨⟨_,_,rfl⟩,us ++ [.lst ((xs.drop (k + 1)).map fun b => tI [xs.getD k 0,b])],?_,fun u hu' => ?_⟩
  ·rw [<- hA,zV3,List.set_append_right _ _ (zU3 _)];have : (zFc xs (k + 1)).map tI = (zFc xs k).map tI ++ (xs.drop (k + 1)).map fun b => tI [xs.getD k 0,b]:=by
    unfold zFc;rw [List.range_succ,List.flatMap_append,zVp];simp [zVL,Function.comp_def]
   rw [this];simp
  ·rcases zVN.mp hu' with q | q
   ·exact hu u q
   ·rw [zVP] at q; subst q;show D.unds 0 _ = true;rw [show (xs.drop (k + 1)).map (fun b => tI [xs.getD k 0,b]) = ((xs.drop (k + 1)).map fun b => [xs.getD k 0,b]).map tI by rw [zVL]; rfl];exact zM1 0 _
 ·rintro σ M' ⟨⟨y2,y3,rfl⟩,us,rfl,hu⟩;rw [zc];exact zBF (d:=.ref M.length) rfl ⟨rfl,us,by rw [zOA hx],hu⟩
theorem zNP {zA : List (List Int)} {l : Nat} (m : IsM zA l) {a b x : Int} (a0 : 0 <= a) (a1 : a < zA.length) (b0 : 0 <= b) (b1 : b < zA.length) (x0 : 0 <= x) (x1 : x < l) {M : Mem} : zBE [mD zA,tI [a,b],.int x] M = some (tI (zBW (zBK zA a x) (zBK zA b x)),M):=by
 refine zp ?_;unfold zBE;refine zFr ?_ ?_
 ·unfold D.unds D.unds D.unds D.unds;rw [zF3,show D.und 0 (tI [a,b]) = true from zAo _]; rfl
 rw [zAe];unfold zDv;show OkS (za _ _ [some (mD zA),some (tI [a,b]),some (.int x),none,none] []) _;refine zCF (m.ix a0 a1 x0 x1 (f1:=zD 0) (f2:=fOp kIx (zD 1) (fC (.int 0))) (f3:=zD 2) rfl (zf (x:=.dat (tI [a,b])) (y:=.dat (.int 0)) rfl rfl (zC0 zAU rfl)) rfl) ?_;refine zCF (m.ix b0 b1 x0 x1 (f1:=zD 0) (f2:=fOp kIx (zD 1) (fC (.int 1))) (f3:=zD 2) rfl (zf (x:=.dat (tI [a,b])) (y:=.dat (.int 1)) rfl rfl (zC0 zAU rfl)) rfl) ?_;exact zBF (d:=tI (zBW (zBK zA a x) (zBK zA b x))) (zMB (zAP (zRk (i:=zBK zA a x) (j:=zBK zA b x) rfl rfl) (zAH (zRD (i:=zBK zA a x) (j:=zBK zA b x) rfl rfl))) (by simp [zBW])) ⟨zAo _,rfl,rfl⟩
theorem zOI (h : p ≠ q) : zBW p q = ris [p,q]:=by
 refine (zJv (zKH h)).symm.trans (zFQ fun x => ?_);unfold zBW;by_cases z : q < p
 ·rw [zVC z,zVF (by omega)]; simp [or_comm]
 ·rw [zVF z,zVC (by omega)]
theorem zPb : (zBW p q).getD 0 0 < (zBW p q).getD 1 0 ↔ p ≠ q:=by
 unfold zBW;show (if q < p then q else p) < (if q > p then q else p) ↔ _;constructor
 ·intro h e; subst e; simp at h
 ·intro h; split <;> split <;> omega
theorem Sr.frame {zA : List (List Int)} {M M' : Mem} {jd lo : Nat} {ps : List (List Int × Int)} (sr : Sr zA M jd lo ps) (h : ∀ j,j = jd \/ lo < j -> M'[j]? = M[j]?) : Sr zA M' jd lo ps:=by
 obtain ⟨T,ed,hT,h1,h2,h3⟩:=sr.ex;refine ⟨T,(h jd (.inl rfl)).trans ed,hT,fun g d hd => ?_,h2,h3⟩;obtain ⟨j,rfl,hj,ej⟩:=h1 g d hd;exact ⟨j,rfl,hj,(h j (.inr hj)).trans ej⟩
theorem zKI {zA : List (List Int)} {M : Mem} {jd lo : Nat} {ps : List (List Int × Int)} (hps : ps.length < 50000) (hlo : jd < lo) (hlo2 : lo < M.length) (sr : Sr zA M jd lo ps) (hAd : ∀ T,M[jd]? = some (dT T) -> ∀ q ∈ T,∃ j,q.2 = .ref j /\ j < M.length) {p goal : List Int} {x : Int} (hg : setR zA p x = goal) {σ : Sd} {i1 i6 i4 : Nat}
  (v1 : ∀ M,zD i1 σ M = some (.dat (.ref jd),M)) (v6 : ∀ M,zD i6 σ M = some (.dat (tI goal),M)) (v4 : ∀ M,zD i4 σ M = some (.dat (tI p),M)) :
  OkS (zAq (fM z0 (zCK (zD i1) (zD i6) (zAh zS)) (zI (toD (zD i4)) zS)) σ M) fun o σ' M' => o = .nx /\ σ' = σ /\ Sr zA M' jd lo (ps ++ [(p,x)]) /\ (∀ T,M'[jd]? = some (dT T) -> ∀ q ∈ T,∃ j,q.2 = .ref j /\ j < M'.length) /\ M.length <= M'.length /\ (∀ j,j <= lo -> j ≠ jd -> M'[j]? = M[j]?) /\ ∀ (j : Nat) u,lo < j -> M'[j]? = some u -> (∃ ts : List (List Int),u = .lst (ts.map tI)) \/ M[j]? = some u:=by
 obtain ⟨T,ed,hT,h1,h2,h3⟩:=sr.ex;have jdl : jd < M.length:=(zU0.mp ed).1;have ed' : (M ++ [MO.lst ([] : List D)])[jd]? = some (dT T):=by rw [zU4 jdl]; exact ed
 have last : ∀ (A : Mem) (T' : List (List Int × D)) (j : Nat),zCK (zD i1) (zD i6) (zAh zS) σ M = some (.dat (.ref j),A) -> A[jd]? = some (dT T') -> zM T' goal = some (.ref j) -> lo < j -> A[j]? = some (.lst ((zAy zA ps goal).map tI)) -> T'.length <= ps.length + 1 -> (∀ q ∈ T',∃ j,q.2 = .ref j /\ j < A.length) -> M.length <= A.length -> (∀ j,j <= lo -> j ≠ jd -> A[j]? = M[j]?) ->
   (∀ (j : Nat) u,lo < j -> A[j]? = some u -> (∃ ts : List (List Int),u = .lst (ts.map tI)) \/ M[j]? = some u) ->
   (∀ g d,zM T' g = some d -> ∃ j,d = .ref j /\ lo < j /\ A[j]? = some (.lst ((zAy zA ps g).map tI))) -> (∀ g,zM T' g = none -> zAy zA ps g = []) -> (∀ g g' j,zM T' g = some (.ref j) -> zM T' g' = some (.ref j) -> g = g') ->
   OkS (zAq (fM z0 (zCK (zD i1) (zD i6) (zAh zS)) (zI (toD (zD i4)) zS)) σ M) fun o σ' M' => o = .nx /\ σ' = σ /\ Sr zA M' jd lo (ps ++ [(p,x)]) /\ (∀ T,M'[jd]? = some (dT T) -> ∀ q ∈ T,∃ j,q.2 = .ref j /\ j < M'.length) /\ M.length <= M'.length /\ (∀ j,j <= lo -> j ≠ jd -> M'[j]? = M[j]?) /\ ∀ (j : Nat) u,lo < j -> M'[j]? = some u -> (∃ ts : List (List Int),u = .lst (ts.map tI)) \/ M[j]? = some u:=by
  intro A T' j hsd ea el hj ej hz hAt hle hfr hkd k1 k2 k3;rw [zBm];have hfl : (zAy zA ps goal).length <= ps.length:=by unfold zAy; rw [zU6]; exact zXH _ _
  have jl : j < A.length:=(zU0.mp ej).1;refine zH8.mpr (zL hsd ⟨⟨_,zBT ej⟩,zL (zAH (v4 A)) ?_⟩);rw [zCv ej (by rw [zU6]; exact zVM (m:=95000) (by omega) (zt (by omega)))];refine ⟨rfl,rfl,⟨T',by rw [zVR (by omega)]; exact ea,by simpa using hz,fun g d hd => ?_,fun g hd => ?_,k3⟩,fun T2 e2 => ?_,by simpa using hle,fun i hi hn => by rw [zVR (by omega)]; exact hfr i hi hn,fun i u hi hu => ?_⟩
  ·obtain ⟨j',rfl,hj',ej'⟩:=k1 g d hd;refine ⟨j',rfl,hj',?_⟩;rw [zDx,hg];by_cases hgg : goal = g
   ·subst hgg;rw [el] at hd;cases hd;rw [zVr jl,zVC rfl,zVp]; rfl
   ·rw [zVF hgg,zVh];have : j ≠ j':=fun z => hgg (k3 goal g j el (by rw [z]; exact hd));rw [zVR this]; exact ej'
  ·rw [zDx,hg,zVF (fun z => by rw [<- z,el] at hd; cases hd),zVh];exact k2 g hd
  ·rw [zVR (by omega),ea] at e2;have eT : zDb T' = zDb T2:=MO.dicT.inj (zVx e2);intro q hq;have hm : (tI q.1,q.2) ∈ zDb T2:=zVE.mpr ⟨q,hq,rfl⟩;rw [<- eT] at hm;obtain ⟨q',hq',e'⟩:=zVE.mp hm;obtain ⟨j',h1',h2'⟩:=hAt q' hq';refine ⟨j',?_,by rw [zXG]; exact h2'⟩;rw [<- h1']; exact (zWk Prod.snd e').symm
  ·by_cases q : j = i
   ·subst q;rw [zVr jl] at hu;cases hu;exact .inl ⟨zAy zA ps goal ++ [p],by simp⟩
   ·rw [zVR q] at hu;exact hkd i u hi hu
 have esd : zCK (zD i1) (zD i6) (zAh zS) σ M = match zM T goal with
   | some v => some (EV.dat v,M ++ [MO.lst ([] : List D)])
   | none => some (EV.dat (.ref M.length),(M ++ [MO.lst ([] : List D)]).set jd (dT (zCS T goal (.ref M.length)))):=by
  unfold zCK;rw [zMX (v1 M)];dsimp only;rw [ed];dsimp only;rw [zMX (v6 M)];dsimp only;rw [zMc (zLz (rfl : zS σ M = some ([],M)) (by simp))];dsimp only;rw [ed',zFa];dsimp only;rw [zVC (by rw [zU6]; exact zVM (m:=95000) (by omega) (zt (by omega))),zLv,zR0];all_goals (cases zM T goal <;> rfl)
 cases hl : zM T goal with
 | some d =>
  obtain ⟨j,rfl,hj,ej⟩:=h1 goal d hl;rw [hl] at esd;have jl:=(zU0.mp ej).1;refine last (M ++ [.lst []]) T j esd ed' hl hj (by rw [zU4 jl]; exact ej) (by omega) (fun q hq => by obtain ⟨j',a,b⟩:=hAd T ed q hq; exact ⟨j',a,by simp; omega⟩) (by simp) (fun i hi _ => zU4 (by omega)) (fun i u hi hu => ?_) (fun g d hd => ?_) h2 h3
  ·rcases zWJ i M.length with q | q
   ·rw [zU4 q] at hu; exact .inr hu
   ·have:=(zU0.mp hu).1;rw [zVD,List.length_singleton] at this;have : i = M.length:=by omega
    subst this;rw [zAf] at hu;cases hu;exact .inl ⟨[],rfl⟩
  ·obtain ⟨j',rfl,hj',ej'⟩:=h1 g d hd;exact ⟨j',rfl,hj',by rw [zU4 (zU0.mp ej').1]; exact ej'⟩
 | none =>
  rw [hl] at esd;have e0:=h2 goal hl;have hput:=fun g => zDg T goal g (.ref M.length);refine last _ (zCS T goal (.ref M.length)) M.length esd (zVr (by simp; omega)) (by rw [hput,zVC rfl]) hlo2 ?_ (by have:=zHC T goal (.ref M.length); omega) (fun q hq => ?_) (by simp) (fun i hi hn => ?_) (fun i u hi hu => ?_) (fun g d hd => ?_) (fun g hd => ?_) (fun g g' j hd hd' => ?_)
  ·rw [zVR (by omega),e0]; simp
  ·unfold zCS at hq;rw [hl] at hq;rcases zVN.mp hq with z | z
   ·obtain ⟨j',a,b⟩:=hAd T ed q z;exact ⟨j',a,by simp; omega⟩
   ·rw [zVP] at z; subst z;exact ⟨M.length,rfl,by simp⟩
  ·rw [zVR (Ne.symm hn),zU4 (by omega)]
  ·rw [zVR (by omega)] at hu;rcases zWJ i M.length with q | q
   ·rw [zU4 q] at hu; exact .inr hu
   ·have:=(zU0.mp hu).1;rw [zVD,List.length_singleton] at this;have : i = M.length:=by omega
    subst this;rw [zAf] at hu;cases hu;exact .inl ⟨[],rfl⟩
  ·rw [hput] at hd;by_cases hgg : goal = g
   ·subst hgg;rw [zVC rfl] at hd;cases hd;exact ⟨M.length,rfl,hlo2,by rw [zVR (by omega),e0]; simp⟩
   ·rw [zVF hgg] at hd;obtain ⟨j,rfl,hj,ej⟩:=h1 g d hd;exact ⟨j,rfl,hj,by rw [zVR (by omega),zU4 (zU0.mp ej).1]; exact ej⟩
  ·rw [hput] at hd;by_cases hgg : goal = g
   ·rw [zVC hgg] at hd; cases hd
   ·rw [zVF hgg] at hd; exact h2 g hd
  ·rw [hput] at hd hd';by_cases a : goal = g
   ·by_cases b : goal = g'
    ·rw [<- a,<- b]
    ·rw [zVC a] at hd;rw [zVF b] at hd';cases hd;obtain ⟨j,e,_,ej⟩:=h1 g' _ hd';cases e;exact absurd (zU0.mp ej).1 (zVf _)
   ·rw [zVF a] at hd;by_cases b : goal = g'
    ·rw [zVC b] at hd';cases hd';obtain ⟨j,e,_,ej⟩:=h1 g _ hd;cases e;exact absurd (zU0.mp ej).1 (zVf _)
    ·rw [zVF b] at hd';exact h3 g g' j hd hd'
abbrev jnT (J : List (List Int)) : List (List Int × D):=J.map fun p => (p,D.bl true)
theorem zGw : (zM (jnT J) p).isSome = true ↔ p ∈ J:=by
 rw [zC2,zVL];show p ∈ J.map (fun p => p) ↔ _;rw [List.map_id']
structure Jn (zA : List (List Int)) (B M : Mem) (jA jF jJ : Nat) (ps : List (List Int × Int)) (F J : List (List Int)) : Prop where
 a : Sr zA M jA (B.length - 1) ps
 ad : ∀ T,M[jA]? = some (dT T) -> ∀ q ∈ T,∃ j,q.2 = .ref j /\ j < M.length
 f : M[jF]? = some (.lst (F.map tI))
 j : M[jJ]? = some (dT (jnT J))
 len : B.length <= M.length
 fr : ∀ i,i < B.length -> i ≠ jA -> i ≠ jF -> i ≠ jJ -> M[i]? = B[i]?
 wf : ∀ (i : Nat) u,B.length <= i -> M[i]? = some u -> ∃ ts : List (List Int),u = .lst (ts.map tI)
def zFn (st : List (List Int) × List (List Int)) (p : List Int) : List (List Int) × List (List Int):=if p ∈ st.2 then st else (st.1 ++ [p],st.2 ++ [p])
theorem zMy {zA : List (List Int)} {B M : Mem} {jA jF jJ : Nat} {ps : List (List Int × Int)} {F J : List (List Int)} (h : Jn zA B M jA jF jJ ps F J) (dA : jA < B.length - 1) (dF : jF < B.length - 1) (dJ : jJ < B.length - 1) (n1 : jA ≠ jF) (n2 : jA ≠ jJ) (n3 : jF ≠ jJ) (zF : F.length < 5000) (zJ : J.length < 5000)
  {σ : Sd} {i4 i3 i2 : Nat} {p : List Int} (v4 : ∀ M,zD i4 σ M = some (.dat (tI p),M)) (v3 : ∀ M,zD i3 σ M = some (.dat (.ref jJ),M)) (v2 : ∀ M,zD i2 σ M = some (.dat (.ref jF),M)) :
  OkS (sIf (tst (fOp (zBa true) (zD i4) (zD i3))) (za (zB6 (fC (.bl true)) (zD i3) (zD i4)) (zAq (fM z0 (zD i2) (zI (toD (zD i4)) zS)))) zB4 σ M) fun o σ' M' => o = .nx /\ σ' = σ /\ Jn zA B M' jA jF jJ ps (zFn (F,J) p).1 (zFn (F,J) p).2 /\ M'.length = M.length /\ ∀ i,i ≠ jF -> i ≠ jJ -> M'[i]? = M[i]?:=by
 have e1:=zf (k:=zBa true) (v4 M) (v3 M) (zMF h.j);rw [zVC rfl] at e1;rw [zBh];refine zL (zBH e1) ?_;unfold zFn;by_cases hp : p ∈ J
 ·rw [zGw.mpr hp,zVC hp];show OkS (zB4 σ M) _;rw [zBG];exact ⟨rfl,rfl,h,rfl,fun _ _ _ => rfl⟩
 ·have hn : (zM (jnT J) p).isSome = false:=by
   cases e : (zM (jnT J) p).isSome with
   | false => rfl
   | true => exact absurd (zGw.mp e) hp
  rw [hn,zVF hp];show OkS (za _ _ σ M) _;rw [zW];have hF:=h.f;have hJl:=(zU0.mp h.j).1;have hFl:=(zU0.mp h.f).1;refine zPd (v:=.bl true) rfl (v3 _) (v4 _) (zKU h.j (by rw [zU6]; omega)) ?_;have hnk : p ∉ (jnT J).map (·.1):=fun z => hp (zGw.mp (zC2.mpr z));rw [zMp hnk,zc,zBm];have hF2 : (M.set jJ (dT (jnT J ++ [(p,.bl true)])))[jF]? = some (.lst (F.map tI)):=by rw [zVR (Ne.symm n3)]; exact h.f
  refine zH8.mpr (zL (v2 _) ⟨⟨_,zBT hF2⟩,zL (zAH (v4 _)) ((zCv hF2 (by rw [zU6]; exact zVM (m:=5000) zF (zt (by omega)))).mpr ?_)⟩);have fr : ∀ i,i ≠ jF -> i ≠ jJ -> ((M.set jJ (dT (jnT J ++ [(p,.bl true)]))).set jF (.lst (F.map tI ++ [tI p])))[i]? = M[i]?:=fun i q1 q2 => by
   rw [zVR (Ne.symm q1),zVR (Ne.symm q2)]
  refine ⟨rfl,rfl,⟨h.a.frame fun i hi => fr i (by omega) (by omega),fun T e q hq => by rw [zXG,zXG]; exact h.ad T ((fr jA n1 n2).symm.trans e) q hq,?_,?_,by simp; exact h.len,fun i hi q1 q2 q3 => (fr i q2 q3).trans (h.fr i hi q1 q2 q3),fun i u hi hu => h.wf i u hi ((fr i (by omega) (by omega)).symm.trans hu)⟩,by simp,fr⟩
  ·rw [zVr (by rw [zXG]; exact hFl)]; simp
  ·rw [zVR n3,zVr hJl]; simp
theorem zCI : ∀ (qs : List (List Int)) (F J : List (List Int)),∃ new : List (List Int),qs.foldl zFn (F,J) = (F ++ new,J ++ new) /\ new.Nodup /\ (∀ p ∈ new,p ∈ qs /\ p ∉ J) /\ ∀ p ∈ qs,p ∈ J ++ new
 | [],F,J => ⟨[],by simp,by simp,(fun _ h => by cases h),(fun _ h => by cases h)⟩
 | q :: qs,F,J => by
  by_cases h : q ∈ J
  ·obtain ⟨new,e,nd,h1,h2⟩:=zCI qs F J;refine ⟨new,?_,nd,fun p hp => ⟨zVA _ (h1 p hp).1,(h1 p hp).2⟩,fun p hp => ?_⟩
   ·rw [List.foldl_cons,show zFn (F,J) q = (F,J) from zVC h]; exact e
   ·rcases zU9.mp hp with rfl | z
    ·exact zWC _ h
    ·exact h2 p z
  ·obtain ⟨new,e,nd,h1,h2⟩:=zCI qs (F ++ [q]) (J ++ [q]);refine ⟨q :: new,?_,List.nodup_cons.mpr ⟨fun z => (h1 q z).2 (by simp),nd⟩,fun p hp => ?_,fun p hp => ?_⟩
   ·rw [List.foldl_cons,show zFn (F,J) q = (F ++ [q],J ++ [q]) from zVF h,e]; simp
   ·rcases zU9.mp hp with rfl | z
    ·exact ⟨zVB,h⟩
    ·exact ⟨zVA _ (h1 p z).1,fun y => (h1 p z).2 (zWC _ y)⟩
   ·rcases zU9.mp hp with rfl | z
    ·simp
    ·have:=h2 p z;simpa using this
def isP (zA : List (List Int)) (q : List Int × Int) : Bool:=decide ((setR zA q.1 q.2).length = 2)
def psP (zA : List (List Int)) (ps : List (List Int × Int)) : List (List Int × Int):=ps.filter (isP zA)
def jf (zA : List (List Int)) (ps : List (List Int × Int)) : List (List Int) × List (List Int):=((ps.filter fun q => !isP zA q).map (·.1)).foldl zFn ([],[])
theorem zKX (zA : List (List Int)) (ps : List (List Int × Int)) (q : List Int × Int) : psP zA (ps ++ [q]) = psP zA ps ++ (if isP zA q then [q] else []):=by
 unfold psP;rw [List.filter_append];congr 1;cases h : isP zA q with
 | true => rw [List.filter_cons_of_pos h]; rfl
 | false => rw [List.filter_cons_of_neg (by simp [h])]; rfl
theorem zMs (zA : List (List Int)) (ps : List (List Int × Int)) (q : List Int × Int) : jf zA (ps ++ [q]) = if isP zA q then jf zA ps else zFn (jf zA ps) q.1:=by
 unfold jf;rw [List.filter_append,zVp,zWv];cases h : isP zA q with
 | true => rw [List.filter_cons_of_neg (by simp [h])]; rfl
 | false => rw [List.filter_cons_of_pos (by simp [h])]; rfl
theorem zJW (zA : List (List Int)) (ps : List (List Int × Int)) : (jf zA ps).1 = (jf zA ps).2 /\ (jf zA ps).2.Nodup /\ ∀ p,p ∈ (jf zA ps).2 ↔ ∃ x,(p,x) ∈ ps /\ isP zA (p,x) = false:=by
 obtain ⟨new,e,nd,h1,h2⟩:=zCI ((ps.filter fun q => !isP zA q).map (·.1)) [] [];have e' : jf zA ps = ([] ++ new,[] ++ new):=e;rw [e'];refine ⟨rfl,by simpa using nd,fun p => ?_⟩;have mem : p ∈ (ps.filter fun q => !isP zA q).map (·.1) ↔ ∃ x,(p,x) ∈ ps /\ isP zA (p,x) = false:=by
  rw [zVE];constructor
  ·rintro ⟨⟨p',x⟩,hq,rfl⟩;obtain ⟨a,b⟩:=zV8.mp hq;exact ⟨x,a,by simpa using b⟩
  ·rintro ⟨x,a,b⟩;exact ⟨(p,x),zV8.mpr ⟨a,by simpa using b⟩,rfl⟩
 rw [<- mem];constructor
 ·intro h; exact (h1 p (by simpa using h)).1
 ·intro h; exact h2 p h
theorem zSc (zA : List (List Int)) {P : List (List Int)} (h : ∀ q ∈ ps,q.1 ∈ P) : (jf zA ps).2.length <= P.length:=by
 obtain ⟨_,nd,mem⟩:=zJW zA ps;exact zBw _ _ nd fun p hp => by obtain ⟨x,hx,_⟩:=(mem p).mp hp; exact h _ hx
theorem zTs {zA : List (List Int)} {l : Nat} (m : IsM zA l) {B M : Mem} {jA jF jJ : Nat} {ps : List (List Int × Int)} (h : Jn zA B M jA jF jJ (psP zA ps) (jf zA ps).1 (jf zA ps).2) (dA : jA < B.length - 1) (dF : jF < B.length - 1) (dJ : jJ < B.length - 1) (n1 : jA ≠ jF) (n2 : jA ≠ jJ) (n3 : jF ≠ jJ) (zP : ps.length < 50000) (zJ : (jf zA ps).2.length < 5000)
  {p : List Int} (hp : p ∈ zU (zQ zA)) {x : Int} (x0 : 0 <= x) (x1 : x < l) {y6 : Option D} :
  OkS (za (zAB 6 (zb zBE (zI (toD (zD 0)) (zI (toD (zD 4)) (zI (toD (zD 5)) zS))))) (sIf (tst (fOp kLt (fOp kIx (zD 6) (fC (.int 0))) (fOp kIx (zD 6) (fC (.int 1))))) (zAq (fM z0 (zCK (zD 1) (zD 6) (zAh zS)) (zI (toD (zD 4)) zS))) (sIf (tst (fOp (zBa true) (zD 4) (zD 3))) (za (zB6 (fC (.bl true)) (zD 3) (zD 4)) (zAq (fM z0 (zD 2) (zI (toD (zD 4)) zS)))) zB4)) [some (mD zA),some (.ref jA),some (.ref jF),some (.ref jJ),some (tI p),some (.int x),y6] M)
   fun o σ' M' => o = .nx /\ (∃ y,σ' = [some (mD zA),some (.ref jA),some (.ref jF),some (.ref jJ),some (tI p),some (.int x),y]) /\ Jn zA B M' jA jF jJ (psP zA (ps ++ [(p,x)])) (jf zA (ps ++ [(p,x)])).1 (jf zA (ps ++ [(p,x)])).2:=by
 obtain ⟨a,b,rfl,ha,hb,hlt⟩:=zAc.mp hp;have ha':=zBO.mp ha;have hb':=zBO.mp hb;refine zCF (zAr (zAP (d:=mD zA) rfl (zAP (d:=tI [a,b]) rfl (zAH (d:=.int x) rfl))) (zNP m ha'.1 ha'.2 hb'.1 hb'.2 x0 x1)) ?_;generalize hu : zBK zA a x = u;generalize hv : zBK zA b x = v;have hs : setR zA [a,b] x = ris [u,v]:=by rw [<- hu,<- hv]; rfl
 show OkS (sIf _ _ _ [some (mD zA),some (.ref jA),some (.ref jF),some (.ref jJ),some (tI [a,b]),some (.int x),some (tI (zBW u v))] M) _;generalize hσ : [some (mD zA),some (D.ref jA),some (.ref jF),some (.ref jJ),some (tI [a,b]),some (.int x),some (tI (zBW u v))] = σ;have v6 : ∀ M,zD 6 σ M = some (.dat (tI (zBW u v)),M):=fun M => by rw [<- hσ]; rfl
 have v4 : ∀ M,zD 4 σ M = some (.dat (tI [a,b]),M):=fun M => by rw [<- hσ]; rfl
 have v3 : ∀ M,zD 3 σ M = some (.dat (.ref jJ),M):=fun M => by rw [<- hσ]; rfl
 have v2 : ∀ M,zD 2 σ M = some (.dat (.ref jF),M):=fun M => by rw [<- hσ]; rfl
 have v1 : ∀ M,zD 1 σ M = some (.dat (.ref jA),M):=fun M => by rw [<- hσ]; rfl
 have et : tst (fOp kLt (fOp kIx (zD 6) (fC (.int 0))) (fOp kIx (zD 6) (fC (.int 1)))) σ M = some (decide (u ≠ v),M):=by
  refine zBH ((zf (x:=.dat (.int ((zBW u v).getD 0 0))) (y:=.dat (.int ((zBW u v).getD 1 0))) (zf (y:=.dat (.int 0)) (v6 M) rfl (zC0 zAU rfl)) (zf (y:=.dat (.int 1)) (v6 M) rfl (zC0 zAU rfl)) (zp (zTn.mpr ⟨rfl,rfl⟩))).trans ?_);rw [decide_eq_decide.mpr zPb]
 rw [zBh];refine zL et ?_;by_cases huv : u = v
 ·rw [zVW (by simpa using huv),zVF (by decide)];have hp1 : isP zA ([a,b],x) = false:=by
   unfold isP;rw [hs,zVW];rw [huv,show ris [v,v] = ris [v] from zFQ (by simp),zJv (by simp)];simp
  rw [zKX,zMs,hp1];have hj1:=(zJW zA ps).1;refine OkS.mono (zMy h dA dF dJ n1 n2 n3 (by rw [hj1]; exact zJ) zJ v4 v3 v2) ?_;rintro o σ' M' ⟨rfl,rfl,hj,_,_⟩;refine ⟨rfl,⟨_,hσ.symm⟩,?_⟩;simpa using hj
 ·rw [zV5 (by simpa using huv),zVC rfl];have hgo : setR zA [a,b] x = zBW u v:=by rw [hs,zOI huv]
  have hp1 : isP zA ([a,b],x) = true:=by
   unfold isP;rw [hgo];exact zV5 rfl
  rw [zKX,zMs,hp1];have hlen:=h.len;have hpl : (psP zA ps).length <= ps.length:=zXH _ _;refine OkS.mono (zKI (by omega) (by omega) (by omega) h.a h.ad hgo v1 v6 v4) ?_;rintro o σ' M' ⟨rfl,rfl,sr,had,hl',fr,wf⟩;refine ⟨rfl,⟨_,hσ.symm⟩,⟨by simpa using sr,had,(fr jF (by omega) (Ne.symm n1)).trans h.f,(fr jJ (by omega) (Ne.symm n2)).trans h.j,by omega,fun i hi q1 q2 q3 => (fr i (by omega) q1).trans (h.fr i hi q1 q2 q3),fun i u hi hu => ?_⟩⟩;rcases wf i u (by omega) hu with z | z
  ·exact z
  ·exact h.wf i u hi z
theorem zTq (m : IsM zA l) (hR : zA.length <= 26) (hl : l <= 12) (h0 : Jn zA B B jA jF jJ [] [] []) (dA : jA < B.length - 1) (dF : jF < B.length - 1) (dJ : jJ < B.length - 1) (n1 : jA ≠ jF) (n2 : jA ≠ jJ) (n3 : jF ≠ jJ)
  (hP : B[jP]? = some (.lst ((zU (zQ zA)).map tI))) (p1 : jP ≠ jA) (p2 : jP ≠ jF) (p3 : jP ≠ jJ) :
  OkS (zCb (gN 4) (zCG (zAK (zI (toD (fB zBq (zg (fOp kIx (zD 0) (fC (.int 0))) zAC))) zS)) (gN 5) (za (zAB 6 (zb zBE (zI (toD (zD 0)) (zI (toD (zD 4)) (zI (toD (zD 5)) zS))))) (sIf (tst (fOp kLt (fOp kIx (zD 6) (fC (.int 0))) (fOp kIx (zD 6) (fC (.int 1))))) (zAq (fM z0 (zCK (zD 1) (zD 6) (zAh zS)) (zI (toD (zD 4)) zS))) (sIf (tst (fOp (zBa true) (zD 4) (zD 3))) (za (zB6 (fC (.bl true)) (zD 3) (zD 4)) (zAq (fM z0 (zD 2) (zI (toD (zD 4)) zS)))) zB4)))) ((zU (zQ zA)).map tI) (zDS (.dat (.ref jP)) ((zU (zQ zA)).map tI)) ((zU (zQ zA)).map tI) [some (mD zA),some (.ref jA),some (.ref jF),some (.ref jJ),y4,y5,y6] B)
   fun o σ' M' => o = .nx /\ (∃ y4 y5 y6,σ' = [some (mD zA),some (.ref jA),some (.ref jF),some (.ref jJ),y4,y5,y6]) /\ Jn zA B M' jA jF jJ (psP zA (zj l (zU (zQ zA)))) (jf zA (zj l (zU (zQ zA)))).1 (jf zA (zj l (zU (zQ zA)))).2:=by
 have hPl:=zDa hR;have hpl:=(zU0.mp hP).1;generalize hQ : zU (zQ zA) = P at hP hPl ⊢;have mem1 : ∀ (us : List (List Int)),(∀ p ∈ us,p ∈ P) -> ∀ q ∈ zj l us,q.1 ∈ P:=fun us hu q hq => by
  unfold zj at hq;obtain ⟨p,hp,hq⟩:=zXm.mp hq;obtain ⟨x,_,rfl⟩:=zVE.mp hq;exact hu p hp
 refine zBX (I:=fun r σ M' => (∃ y4 y5 y6,σ = [some (mD zA),some (.ref jA),some (.ref jF),some (.ref jJ),y4,y5,y6]) /\ ∃ us vs : List (List Int),P = us ++ vs /\ r = vs.map tI /\ Jn zA B M' jA jF jJ (psP zA (zj l us)) (jf zA (zj l us)).1 (jf zA (zj l us)).2) ?_ ?_ _ _ _ ⟨⟨_,_,_,rfl⟩,[],P,rfl,rfl,h0⟩
 ·rintro x r σ M' ⟨⟨y4,y5,y6,rfl⟩,us,vs,hab,hr,jn⟩;cases vs with
  | nil => cases hr
  | cons p vs =>
   rw [zVG] at hr;obtain ⟨rfl,rfl⟩:=zV1 hr;have hpm : p ∈ P:=by rw [hab]; simp
   have hul : us.length < P.length:=by have:=zWk List.length hab; simp at this; omega
   refine ⟨.inl ((jn.fr jP hpl p1 p2 p3).trans hP),_,rfl,?_⟩;show OkS (zCG _ _ _ [some (mD zA),some (.ref jA),some (.ref jF),some (.ref jJ),some (tI p),y5,y6] M') _;rw [zBd];refine ⟨_,_,_,zBn (zGo m rfl) (by omega) (by omega),?_⟩;rw [show (l : Int).toNat = l by omega];have husP : ∀ q ∈ us,q ∈ P:=fun q hq => by rw [hab]; simp [hq]
   refine zG1 (n:=l) (I:=fun i σ M'' => (∃ y5 y6,σ = [some (mD zA),some (.ref jA),some (.ref jF),some (.ref jJ),some (tI p),y5,y6]) /\ Jn zA B M'' jA jF jJ (psP zA (zj l us ++ (List.range i).map fun (x : Nat) => (p,(x : Int)))) (jf zA (zj l us ++ (List.range i).map fun (x : Nat) => (p,(x : Int)))).1 (jf zA (zj l us ++ (List.range i).map fun (x : Nat) => (p,(x : Int)))).2) ?_ ?_ _ _ ⟨⟨_,_,rfl⟩,by simpa using jn⟩
   ·rintro i σ M2 hi ⟨⟨y5,y6,rfl⟩,jn2⟩;refine ⟨_,rfl,?_⟩;have hcount : (zj l us ++ (List.range i).map fun (x : Nat) => (p,(x : Int))).length < 50000:=by
     rw [zVD,zE7,zU6,zWu];have:=zWZ (show us.length <= 676 by omega) hl;omega
    have hjl:=zSc zA (ps:=zj l us ++ (List.range i).map fun (x : Nat) => (p,(x : Int))) (P:=P) fun q hq => by
     rcases zVN.mp hq with z | z
     ·exact mem1 us husP q z
     ·obtain ⟨y,_,rfl⟩:=zVE.mp z;exact hpm
    refine OkS.mono (zTs m jn2 dA dF dJ n1 n2 n3 hcount (by omega) (by rw [hQ]; exact hpm) (x:=(i : Int)) (by omega) (by omega)) ?_;rintro o σ' M3 ⟨rfl,⟨y,rfl⟩,jn3⟩;refine ⟨⟨_,_,rfl⟩,?_⟩;rw [List.range_succ,zVp,<- zV3];exact jn3
   ·rintro σ M2 ⟨⟨y5,y6,rfl⟩,jn2⟩;refine ⟨⟨_,_,_,rfl⟩,us ++ [p],vs,by rw [hab]; simp,rfl,?_⟩;have : zj l (us ++ [p]) = zj l us ++ (List.range l).map fun (x : Nat) => (p,(x : Int)):=by
     unfold zj; rw [List.flatMap_append]; simp
    rw [this]; exact jn2
 ·rintro σ M' ⟨⟨y4,y5,y6,rfl⟩,us,vs,hab,hr,jn⟩;have : vs = []:=by cases vs with | nil => rfl | cons _ _ => cases hr
  subst this;rw [zVh] at hab;subst hab;exact ⟨.inl ((jn.fr jP hpl p1 p2 p3).trans hP),rfl,⟨_,_,_,rfl⟩,jn⟩
structure Cl (zA : List (List Int)) (l : Nat) (F J : List (List Int)) : Prop where
 nf : F.Nodup
 nj : J.Nodup
 sub : ∀ p ∈ F,p ∈ J
 real : ∀ p ∈ J,p ∈ zU (zQ zA) /\ ∃ n,Dst zA l One p (n + 1)
 base : ∀ p ∈ zU (zQ zA),∀ x : Int,0 <= x -> x < (l : Int) -> One (setR zA p x) -> p ∈ J
 clo : ∀ q ∈ J,q ∉ F -> ∀ p ∈ zAy zA (psP zA (zj l (zU (zQ zA)))) q,p ∈ J
theorem zMi : p ∈ zAy zA (psP zA (zj l (zU (zQ zA)))) q ↔ p ∈ zU (zQ zA) /\ q.length = 2 /\ ∃ x : Int,(0 <= x /\ x < (l : Int)) /\ setR zA p x = q:=by
 unfold zAy psP zj isP;simp only [zVE,zV8,zXm,zVb,zWA];constructor
 ·rintro ⟨s,⟨⟨⟨p',hp,k,hk,rfl⟩,h2⟩,hq⟩,rfl⟩;exact ⟨hp,by rw [<- hq]; exact h2,(k : Int),⟨by omega,by omega⟩,hq⟩
 ·rintro ⟨hp,h2,x,⟨x0,x1⟩,hq⟩;refine ⟨(p,x),⟨⟨⟨p,hp,x.toNat,by omega,?_⟩,by rw [hq]; exact h2⟩,hq⟩,rfl⟩;rw [show ((x.toNat : Nat) : Int) = x by omega]
theorem zHi (u : Th zA t) : t.length = 1 \/ t.length = 2:=by
 have:=u.1.n0;have:=u.2;omega
theorem zPe (m : IsM zA l) : Cl zA l (jf zA (zj l (zU (zQ zA)))).1 (jf zA (zj l (zU (zQ zA)))).2:=by
 obtain ⟨e,nd,mem⟩:=zJW zA (zj l (zU (zQ zA)));have ms : ∀ {p : List Int} {x : Int},(p,x) ∈ zj l (zU (zQ zA)) ↔ p ∈ zU (zQ zA) /\ 0 <= x /\ x < (l : Int):=by
  intro p x;unfold zj;simp only [zXm,zVE,zVb,Prod.mk.injEq];constructor
  ·rintro ⟨p',hp,k,hk,rfl,rfl⟩; exact ⟨hp,by omega,by omega⟩
  ·rintro ⟨hp,h0,h1⟩; exact ⟨p,hp,x.toNat,by omega,rfl,by omega⟩
 rw [e];refine ⟨nd,nd,fun p h => h,fun p hp => ?_,fun p hp x x0 x1 h1 => ?_,fun q hq hn => absurd hq hn⟩
 ·obtain ⟨x,hx,hi⟩:=(mem p).mp hp;obtain ⟨hpp,x0,x1⟩:=ms.mp hx;have u:=zCu m p x (zCe p hpp) ⟨x0,x1⟩;have h2 : ¬ (setR zA p x).length = 2:=of_decide_eq_false hi;have h1 : One (setR zA p x):=(zHi u).elim id fun z => absurd z h2;refine ⟨hpp,0,zCB.mpr ⟨fun k hk hr => ?_,x,⟨x0,x1⟩,zBJ.mpr h1⟩⟩;have : k = 0:=by omega
  subst this;have:=zHT.mp hr;obtain ⟨a,b,rfl,_⟩:=zAc.mp hpp;exact absurd this (by simp [One])
 ·refine (mem p).mpr ⟨x,ms.mpr ⟨hp,x0,x1⟩,zVW ?_⟩;rw [show (setR zA p x).length = 1 from h1]; decide
theorem zQw (m : IsM zA l) (c : Cl zA l (F ++ [q]) J) : Cl zA l ((zAy zA (psP zA (zj l (zU (zQ zA)))) q).foldl zFn (F,J)).1 ((zAy zA (psP zA (zj l (zU (zQ zA)))) q).foldl zFn (F,J)).2:=by
 obtain ⟨new,e,nd,h1,h2⟩:=zCI (zAy zA (psP zA (zj l (zU (zQ zA)))) q) F J;rw [e];have nf:=c.nf;rw [zWB] at nf;obtain ⟨nF,_,hFq⟩:=nf;have hqF : q ∉ F:=fun z => hFq q z q (by simp) rfl;have hqJ : q ∈ J:=c.sub q (by simp);refine ⟨?_,?_,fun p hp => ?_,fun p hp => ?_,fun p hp x x0 x1 h => zWC _ (c.base p hp x x0 x1 h),fun q2 hq2 hn p hp => ?_⟩
 ·rw [zWB];exact ⟨nF,nd,fun a ha b hb z => (h1 b hb).2 (z ▸ c.sub a (by simp [ha]))⟩
 ·rw [zWB];exact ⟨c.nj,nd,fun a ha b hb z => (h1 b hb).2 (z ▸ ha)⟩
 ·rcases zVN.mp hp with z | z
  ·exact zWC _ (c.sub p (by simp [z]))
  ·exact zVH _ z
 ·rcases zVN.mp hp with z | z
  ·exact c.real p z
  ·obtain ⟨hpp,_,x,hx,hs⟩:=zMi.mp (h1 p z).1;obtain ⟨_,n,hn⟩:=c.real q hqJ;have hr : Rch zA l One p (n + 2):=zFs.mpr ⟨x,hx,by rw [hs]; exact hn.1⟩;obtain ⟨k,_,hk⟩:=zE4 _ hr;cases k with
   | zero =>
    have:=zBJ.mp hk;obtain ⟨a,b,rfl,_⟩:=zAc.mp hpp;exact absurd this (by simp [One])
   | succ k => exact ⟨hpp,k,hk⟩
 ·have hqJ2 : q2 ∈ J:=(zVN.mp hq2).elim id fun z => absurd (zVH _ z) hn;by_cases hqq : q2 = q
  ·rw [hqq] at hp;exact h2 p hp
  ·refine zWC _ (c.clo q2 hqJ2 (fun z => ?_) p hp);rcases zVN.mp z with y | y
   ·exact hn (zWC _ y)
   ·exact hqq (by simpa using y)
theorem zTI (m : IsM zA l) (c : Cl zA l [] J) (p : List Int) : p ∈ J ↔ p ∈ zCU zA l One:=by
 rw [zCn];constructor
 ·exact c.real p
 ·rintro ⟨hp,n,hn⟩;induction n generalizing p with
  | zero =>
   obtain ⟨_,x,hx,hd⟩:=zCB.mp hn;exact c.base p hp x hx.1 hx.2 (zBJ.mp hd)
  | succ n ih =>
   obtain ⟨_,x,hx,hd⟩:=zCB.mp hn;have u:=zCu m p x (zCe p hp) hx;have h1 : ¬ One (setR zA p x):=fun z => by have:=zA2 (zBJ.mpr z) hd; omega
   have hq:=zJ8 _ u h1;have hin:=ih (setR zA p x) hq hd;exact c.clo _ hin (by simp) p (zMi.mpr ⟨hp,(zHi u).elim (fun z => absurd z h1) id,x,hx,rfl⟩)
theorem Sr.frame' {zA : List (List Int)} {M M' : Mem} {jd lo : Nat} {ps : List (List Int × Int)} (sr : Sr zA M jd lo ps) (h : ∀ j u,j = jd \/ lo < j -> M[j]? = some u -> M'[j]? = some u) : Sr zA M' jd lo ps:=by
 obtain ⟨T,ed,hT,h1,h2,h3⟩:=sr.ex;refine ⟨T,h jd _ (.inl rfl) ed,hT,fun g d hd => ?_,h2,h3⟩;obtain ⟨j,rfl,hj,ej⟩:=h1 g d hd;exact ⟨j,rfl,hj,h j _ (.inr hj) ej⟩
theorem Jn.pop {zA : List (List Int)} {B M : Mem} {jA jF jJ : Nat} {ps : List (List Int × Int)} {F J : List (List Int)} {q : List Int} (h : Jn zA B M jA jF jJ ps (F ++ [q]) J) (dF : jF < B.length - 1) (n1 : jA ≠ jF) (n3 : jF ≠ jJ) : Jn zA B (M.set jF (.lst (F.map tI)) ++ [.lst []]) jA jF jJ ps F J:=by
 have hFl:=(zU0.mp h.f).1;have hlen:=h.len;have get : ∀ {i : Nat} {u : MO},i ≠ jF -> M[i]? = some u -> (M.set jF (.lst (F.map tI)) ++ [MO.lst []])[i]? = some u:=fun {i u} hi e => by
  rw [zU4 (by rw [zXG]; exact (zU0.mp e).1),zVR (Ne.symm hi)]; exact e
 obtain ⟨T0,ed,_⟩:=h.a.ex;refine ⟨h.a.frame' fun i u hi e => get (by omega) e,fun T e q' hq => ?_,?_,get (Ne.symm n3) h.j,by simp; omega,fun i hi q1 q2 q3 => ?_,fun i u hi hu => ?_⟩
 ·have eA:=get n1 ed;rw [e] at eA;have eT : zDb T = zDb T0:=MO.dicT.inj (zVx eA);have hm : (tI q'.1,q'.2) ∈ zDb T:=zVE.mpr ⟨q',hq,rfl⟩;rw [eT] at hm;obtain ⟨q2,hq2,e2⟩:=zVE.mp hm;obtain ⟨j,h1,h2⟩:=h.ad T0 ed q2 hq2;exact ⟨j,by rw [<- h1]; exact (zWk Prod.snd e2).symm,by simp; omega⟩
 ·rw [zU4 (by rw [zXG]; exact hFl),zVr hFl]
 ·rw [zU4 (by rw [zXG]; omega),zVR (Ne.symm q2)];exact h.fr i hi q1 q2 q3
 ·rcases zWJ i M.length with z | z
  ·rw [zU4 (by rw [zXG]; exact z),zVR (by omega)] at hu;exact h.wf i u hi hu
  ·have:=(zU0.mp hu).1;rw [zVD,zXG,List.length_singleton] at this;have : i = (M.set jF (MO.lst (F.map tI))).length:=by rw [zXG]; omega
   subst this;rw [zAf] at hu;cases hu;exact ⟨[],rfl⟩
theorem zLR (hR : zA.length <= 26) (c : Cl zA l F J) : J.length <= 676 /\ F.length <= J.length :=
 ⟨zVO (zBw _ _ c.nj fun p hp => (c.real p hp).1) (zDa hR),zBw _ _ c.nf c.sub⟩
theorem zTk (m : IsM zA l) (hR : zA.length <= 26) (dA : jA < B.length - 1) (dF : jF < B.length - 1) (dJ : jJ < B.length - 1) (n1 : jA ≠ jF) (n2 : jA ≠ jJ) (n3 : jF ≠ jJ) (h : Jn zA B M jA jF jJ (psP zA (zj l (zU (zQ zA)))) F J) (c : Cl zA l F J) :
  OkS (zBI (tst (fOp kNe (zD 2) (zAh zS))) (zCG (zAW (zBR (zD 1) (zFI (zD 2)) (zAh zS))) (gN 4) (sIf (tst (fOp (zBa true) (zD 4) (zD 3))) (za (zB6 (fC (.bl true)) (zD 3) (zD 4)) (zAq (fM z0 (zD 2) (zI (toD (zD 4)) zS)))) zB4)) 1000 [some (mD zA),some (.ref jA),some (.ref jF),some (.ref jJ),y4,y5,y6] M)
   fun o σ' M' => o = .nx /\ (∃ y4 y5 y6,σ' = [some (mD zA),some (.ref jA),some (.ref jF),some (.ref jJ),y4,y5,y6]) /\ ∃ J',Jn zA B M' jA jF jJ (psP zA (zj l (zU (zQ zA)))) [] J' /\ Cl zA l [] J':=by
 have hl0:=zLR hR c;refine zCH (I:=fun z σ M' => ∃ (F J : List (List Int)) (y4 y5 y6 : Option D),σ = [some (mD zA),some (.ref jA),some (.ref jF),some (.ref jJ),y4,y5,y6] /\ Jn zA B M' jA jF jJ (psP zA (zj l (zU (zQ zA)))) F J /\ Cl zA l F J /\ z = F.length + (676 - J.length)) ?_ 1000 (F.length + (676 - J.length)) _ _ (by omega) ⟨F,J,y4,y5,y6,rfl,h,c,rfl⟩;rintro z σ M' ⟨F,J,y4,y5,y6,rfl,h,c,rfl⟩;have hlc:=zLR hR c;have et : tst (fOp kNe (zD 2) (zAh zS)) [some (mD zA),some (.ref jA),some (.ref jF),some (.ref jJ),y4,y5,y6] M' = some (!(F.map tI).isEmpty,M'):=by
  refine zBH (zf (x:=.dat (.ref jF)) (y:=.fl []) rfl (zLz rfl (by simp)) (zp ((zMT (zBT h.f) (fun d e => by cases e; rfl)).mpr ⟨rfl,rfl⟩)))
 refine zL et ?_;rcases List.eq_nil_or_concat F with hF | ⟨F',q,hF⟩
 ·subst hF;exact ⟨rfl,⟨_,_,_,rfl⟩,J,h,c⟩
 ·rw [List.concat_eq_append] at hF;subst hF;have hne : (!((F' ++ [q]).map tI).isEmpty) = true:=by simp
  rw [hne];show OkS (zCG _ _ _ [some (mD zA),some (.ref jA),some (.ref jF),some (.ref jJ),y4,y5,y6] M') _;obtain ⟨T,ed,hT,h1,h2,h3⟩:=h.a.ex;have hFl:=(zU0.mp h.f).1;have hAl:=(zU0.mp ed).1;have jp:=h.pop dF n1 n3;have ePop : toD (zFI (zD 2)) [some (mD zA),some (.ref jA),some (.ref jF),some (.ref jJ),y4,y5,y6] M' = some (tI q,M'.set jF (.lst (F'.map tI))):=by
   refine (show toD (zFI (zD 2)) [some (mD zA),some (.ref jA),some (.ref jF),some (.ref jJ),y4,y5,y6] M' = _ from ?_);unfold toD zFI;rw [show zD 2 [some (mD zA),some (.ref jA),some (.ref jF),some (.ref jJ),y4,y5,y6] M' = some (.dat (.ref jF),M') from rfl];dsimp only;rw [h.f];dsimp only;rw [show ((F' ++ [q]).map tI)[((F' ++ [q]).map tI).length - 1]? = some (tI q) by simp,show ((F' ++ [q]).map tI).dropLast = F'.map tI by rw [zVp]; simp]
  have ed3 : (M'.set jF (.lst (F'.map tI)) ++ [MO.lst []])[jA]? = some (dT T):=by
   rw [zU4 (by rw [zXG]; exact hAl),zVR (Ne.symm n1)]; exact ed
  have eG : zBR (zD 1) (zFI (zD 2)) (zAh zS) [some (mD zA),some (.ref jA),some (.ref jF),some (.ref jJ),y4,y5,y6] M' = some (.dat ((zM T q).getD (.ref M'.length)),M'.set jF (.lst (F'.map tI)) ++ [.lst []]):=by
   unfold zBR;rw [show toD (zD 1) [some (mD zA),some (.ref jA),some (.ref jF),some (.ref jJ),y4,y5,y6] M' = some (.ref jA,M') from rfl];dsimp only;rw [ed];dsimp only;rw [ePop];dsimp only;rw [zMc (zLz (rfl : zS _ (M'.set jF (.lst (F'.map tI))) = some ([],_)) (by simp))];dsimp only;rw [dgT ed3,zXG]
  obtain ⟨js,ejs,hjs,el⟩ : ∃ js,(zM T q).getD (.ref M'.length) = .ref js /\ B.length <= js /\ (M'.set jF (.lst (F'.map tI)) ++ [MO.lst []])[js]? = some (.lst ((zAy zA (psP zA (zj l (zU (zQ zA)))) q).map tI)):=by
   have hlen:=h.len;cases e : zM T q with
   | some d =>
    obtain ⟨j,rfl,hj,ej⟩:=h1 q d e;have jl:=(zU0.mp ej).1;exact ⟨j,rfl,by omega,by rw [zU4 (by rw [zXG]; exact jl),zVR (by omega)]; exact ej⟩
   | none => exact ⟨M'.length,rfl,hlen,by rw [h2 q e,show M'.length = (M'.set jF (.lst (F'.map tI))).length by rw [zXG],zAf]; rfl⟩
  rw [ejs] at eG;rw [zBd];refine ⟨_,_,_,(show zAW (zBR (zD 1) (zFI (zD 2)) (zAh zS)) [some (mD zA),some (.ref jA),some (.ref jF),some (.ref jJ),y4,y5,y6] M' = some ((zAy zA (psP zA (zj l (zU (zQ zA)))) q).map tI,zDS (.dat (.ref js)) ((zAy zA (psP zA (zj l (zU (zQ zA)))) q).map tI),M'.set jF (.lst (F'.map tI)) ++ [.lst []]) by unfold zAW; rw [eG]; dsimp only; rw [zAA el]),?_⟩;have cT:=zQw m c;have hlT:=zLR hR cT;generalize hS : zAy zA (psP zA (zj l (zU (zQ zA)))) q = S at el cT hlT ⊢;have small : ∀ us vs,S = us ++ vs -> (us.foldl zFn (F',J)).2.length <= 676 /\ (us.foldl zFn (F',J)).1.length <= 1352:=fun us vs e => by
   obtain ⟨n1',e1,_⟩:=zCI us F' J;obtain ⟨n2',e2,_⟩:=zCI vs (F' ++ n1') (J ++ n1');rw [e,zWv,e1,e2] at hlT;rw [e1];have hlc1:=hlc.2;simp only [zVD,List.length_singleton] at hlT hlc1 ⊢;omega
  refine zBX (I:=fun r σ M2 => ∃ (us vs : List (List Int)) (y4 : Option D),σ = [some (mD zA),some (.ref jA),some (.ref jF),some (.ref jJ),y4,y5,y6] /\ S = us ++ vs /\ r = vs.map tI /\ Jn zA B M2 jA jF jJ (psP zA (zj l (zU (zQ zA)))) (us.foldl zFn (F',J)).1 (us.foldl zFn (F',J)).2 /\ M2[js]? = some (.lst (S.map tI))) ?_ ?_ _ _ _ ⟨[],S,y4,rfl,rfl,rfl,jp,el⟩
  ·rintro x r σ M2 ⟨us,vs,y4,rfl,hab,hr,jn,eS⟩;cases vs with
   | nil => cases hr
   | cons p vs =>
    rw [zVG] at hr;obtain ⟨rfl,rfl⟩:=zV1 hr;refine ⟨.inl eS,_,rfl,?_⟩;have sm:=small us (p :: vs) hab;refine OkS.mono (zMy (σ:=[some (mD zA),some (.ref jA),some (.ref jF),some (.ref jJ),some (tI p),y5,y6]) (p:=p) jn dA dF dJ n1 n2 n3 (by omega) (by omega) (fun _ => rfl) (fun _ => rfl) (fun _ => rfl)) ?_;rintro o σ' M3 ⟨rfl,rfl,jn3,_,fr⟩;refine ⟨us ++ [p],vs,_,rfl,by rw [hab]; simp,rfl,?_,(fr js (by omega) (by omega)).trans eS⟩;rw [zWv];exact jn3
  ·rintro σ M2 ⟨us,vs,y4,rfl,hab,hr,jn,eS⟩;have : vs = []:=by cases vs with | nil => rfl | cons _ _ => cases hr
   subst this;rw [zVh] at hab;subst hab;refine ⟨.inl eS,?_⟩;obtain ⟨new,e1,_⟩:=zCI S F' J;refine ⟨_,?_,_,_,_,_,_,rfl,jn,cT,rfl⟩;rw [e1] at hlT ⊢;simp only [zVD,List.length_singleton] at hlT ⊢;omega
noncomputable def zF8 : FS:=(za (zAB 2 (zAQ [3] (zAW (zb zA0 (zI (toD (zD 1)) zS))) (gN 3) (tst (fOp (zBa false) (zD 3) (zD 0))) (zCZ (zI (toD (fOp kIx (fOp zBB (zD 0) (zD 3)) (fC (.int 0)))) (zI (toD (zD 3)) zS)))))
  (zAj (vIf (zMD (zD 2)) (fOp kIx (fB zGa (zg (zD 2) zAC)) (fC (.int 1))) (fC .non))))
noncomputable def zCp : FF:=zB9 4 zF8
noncomputable def zJr : FS:=(za (zAB 2 (zb zFv (zI (toD (zD 0)) zS)))
  (za (zAB 3 (zD 1))
  (za (zAB 4 (zCZ zS))
  (za (zAB 5 (zAh zS))
  (za (zAB 6 (zb zCp (zI (toD (zD 2)) (zI (toD (zD 3)) zS))))
  (za (zBI (tst (fOp (kIs true) (zD 6) (fC .non))) (za (zAB 7 (zb zDj (zI (toD (zD 0)) (zI (toD (zD 2)) (zI (toD (zD 6)) zS)))))
  (za (zAB 3 (zb zDe (zI (toD (zD 0)) (zI (toD (zD 3)) (zI (toD (zD 7)) zS)))))
  (za (zAB 4 (fOp zAt (zD 4) (zD 7)))
  (za (zAq (fM z0 (zD 5) (zI (toD (zCZ (zI (toD (zD 6)) (zI (toD (fB zBq (zg (zD 4) zAC))) zS)))) zS)))
  (zAB 6 (zb zCp (zI (toD (zD 2)) (zI (toD (zD 3)) zS)))))))) 100)
  (zAj (zCZ (zI (toD (zD 4)) (zI (toD (fB zBr (zg (zD 5) zAC))) zS))))))))))
noncomputable def zFm : FF:=zFW (zB9 8 zJr)
open Classical in
noncomputable def zHV (zA : List (List Int)) (l : Nat) (p : List Int) : Bool:=decide (p ∈ zCU zA l One)
noncomputable def npR (zA : List (List Int)) (l : Nat) (p : List Int) : NP:=((zEx zA l One p : Nat),p.getD 0 0,p.getD 1 0)
noncomputable def zCq (zA : List (List Int)) (l : Nat) (S : List Int) : List (List Int):=(zU S).filter (zHV zA l)
noncomputable def zC6 (zA : List (List Int)) (l : Nat) (S : List Int) : Option (List Int):=match (zCq zA l S).map (npR zA l) with
 | [] => none
 | t :: ts => some [(zB5 t ts).2.1,(zB5 t ts).2.2]
noncomputable def zGO (zA : List (List Int)) (l : Nat) (S : List Int) : D:=match zC6 zA l S with
 | none => .non
 | some p => tI p
theorem zHG : zC6 zA l S = none ↔ zCq zA l S = []:=by
 unfold zC6;cases h : zCq zA l S with
 | nil => simp
 | cons a r => simp
theorem zEk : p ∈ zCq zA l S ↔ p ∈ zU S /\ p ∈ zCU zA l One:=by
 unfold zCq zHV;rw [zV8,zWA]
theorem zNQ (h : zC6 zA l S = some p) : p ∈ zCq zA l S:=by
 unfold zC6 at h;cases e : (zCq zA l S).map (npR zA l) with
 | nil => rw [e] at h; cases h
 | cons t ts =>
  rw [e] at h;cases h;have hm:=zId ts t;rw [<- e] at hm;obtain ⟨q,hq,eq⟩:=zVE.mp hm;rw [<- eq];obtain ⟨a,b,rfl,_⟩:=zAc.mp (zEk.mp hq).1;exact hq
theorem zTX (h : p ∈ zU S) : npD (npR zA l p) = .tup [.int (zEx zA l One p : Nat),tI p]:=by
 obtain ⟨a,b,rfl,_⟩:=zAc.mp h;rfl
theorem zFK (s : IsS zA S) : S.length <= zA.length:=zMQ (a:=0) s.pw fun x hx => by have:=s.mem x hx; omega
theorem zHh (hR : zA.length <= 26) (hr : M[jr]? = some (dT (zDE zA l One))) (s : IsS zA S) :
  Ok (zCp [.ref jr,tI S] M) fun d M' => d = zGO zA l S /\ ∃ us,M' = M ++ us:=by
 have hrl:=(zU0.mp hr).1;have hS:=zFK s;unfold zCp;rw [zAe];unfold zF8;show OkS (za _ _ [some (.ref jr),some (tI S),none,none] M) _;have epr:=zG8 (xs:=S) (by omega) (M:=M);have ei : zAW (zb zA0 (zI (toD (zD 1)) zS)) [some (.ref jr),some (tI S),none,none] M = _:=zJg (zAH (d:=tI S) rfl) epr (zAf _ _);have hPl : (zU S).length <= 676:=zVO (zBu S) (zVO (zWZ hS hS) (zWZ hR hR));generalize hA : M ++ [MO.lst ((zU S).map tI)] = A at ei;have a1 : A[M.length]? = some (.lst ((zU S).map tI)):=by rw [<- hA]; simp
 have a2 : A[jr]? = some (dT (zDE zA l One)):=by rw [<- hA,zU4 hrl]; exact hr
 have ef:=zDG (own:=[3]) (g:=gN 3) (tc:=tst (fOp (zBa false) (zD 3) (zD 0))) (te:=zCZ (zI (toD (fOp kIx (fOp zBB (zD 0) (zD 3)) (fC (.int 0)))) (zI (toD (zD 3)) zS))) (zU S) tI (fun p => .tup [.int (zEx zA l One p : Nat),tI p]) (zHV zA l) ei (.inl a1) (by omega) (fun p hp => by
  refine ⟨[some (.ref jr),some (tI S),none,some (tI p)],rfl,?_,fun hk => ?_⟩
  ·have e1 : fOp (zBa false) (zD 3) (zD 0) [some (.ref jr),some (tI S),none,some (tI p)] A = _:=zf (x:=.dat (tI p)) (y:=.dat (.ref jr)) rfl rfl (zMF a2);rw [zVF (by decide),zEq] at e1;rw [zBH e1];unfold zHV;by_cases h : p ∈ zCU zA l One
   ·rw [zVC h,zV5 h]; rfl
   ·rw [zVF h,zVW h]; rfl
  ·have h : p ∈ zCU zA l One:=zVt hk;have hlk : zM (zDE zA l One) p = some (zGV zA l One p):=by rw [zEq,zVC h]
   exact zMB (zAP (zf (x:=.dat (zGV zA l One p)) (y:=.dat (.int 0)) (zf (x:=.dat (.ref jr)) (y:=.dat (tI p)) rfl rfl (zHq a2 hlk)) rfl (zC0 zAU rfl)) (zAH (d:=tI p) rfl)) (by simp))
 rw [zW,zi];refine zL ef (zAG ?_);rw [zc];have hmap : ((zU S).filter (zHV zA l)).map (fun p => D.tup [.int (zEx zA l One p : Nat),tI p]) = ((zCq zA l S).map (npR zA l)).map npD:=by
  rw [zVL];exact List.map_congr_left fun p hp => (zTX (zV8.mp hp).1).symm
 rw [hmap];show OkS (zAj _ [some (.ref jr),some (tI S),some (.ref A.length),none] (A ++ [.lst (((zCq zA l S).map (npR zA l)).map npD)])) _;generalize hB : A ++ [MO.lst (((zCq zA l S).map (npR zA l)).map npD)] = B;have b1 : B[A.length]? = some (.lst (((zCq zA l S).map (npR zA l)).map npD)):=by rw [<- hB]; simp
 have hus : ∃ us,B = M ++ us:=⟨[MO.lst ((zU S).map tI)] ++ [MO.lst (((zCq zA l S).map (npR zA l)).map npD)],by rw [<- hB,<- hA,zV3]⟩;rw [zAx,zSg];refine zL (zOX (f:=zD 2) (σ:=[some (.ref jr),some (tI S),some (.ref A.length),none]) rfl b1) ?_;unfold zGO zC6;cases e : (zCq zA l S).map (npR zA l) with
 | nil =>
  show Ok (fC .non _ _) _;refine zL (a:=.dat .non) (M:=B) rfl ?_;exact ⟨rfl,hus⟩
 | cons t ts =>
  rw [e] at b1;show Ok (fOp kIx (fB zGa (zg (zD 2) zAC)) (fC (.int 1)) [some (.ref jr),some (tI S),some (.ref A.length),none] B) _;have em : fB zGa (zg (zD 2) zAC) [some (.ref jr),some (tI S),some (.ref A.length),none] B = some (.dat (npD (zB5 t ts)),B):=by
   unfold fB zg zAC;rw [show zD 2 [some (.ref jr),some (tI S),some (.ref A.length),none] B = some (.dat (.ref A.length),B) from rfl];show zGa [.dat (.ref A.length)] B = _;unfold zGa;dsimp only;rw [zAA b1];dsimp only;rw [zI2]
  exact zL (zf (y:=.dat (.int 1)) em rfl (zC0 (d:=tI [(zB5 t ts).2.1,(zB5 t ts).2.2]) zAU rfl)) ⟨rfl,hus⟩
def stD (q : List Int × Int) : D:=.tup [tI q.1,.int q.2]
set_option genInjectivity true in
inductive Quick (zA : List (List Int)) (l : Nat) : Nat -> List Int -> List Int -> List (List Int × Int) -> Prop
 | nil {k : Nat} {S : List Int} : zC6 zA l S = none -> Quick zA l k S [] []
 | cons {k : Nat} {S p v w : List Int} {st : List (List Int × Int)} : zC6 zA l S = some p -> Climb zA l One p v -> Quick zA l (k + v.length) (broR zA S v) w st -> Quick zA l k S (v ++ w) ((p,((k + v.length : Nat) : Int)) :: st)
theorem zNw (s : IsS zA S) (h : p ∈ zU S) : p ∈ zU (zQ zA):=by
 obtain ⟨a,b,rfl,ha,hb,hlt⟩:=zAc.mp h;exact zAc.mpr ⟨a,b,rfl,zBO.mpr (s.mem a ha),zBO.mpr (s.mem b hb),hlt⟩
theorem zN6 (s : IsS zA S) (ha : a ∈ S) (hb : b ∈ S) (hne : a ≠ b) (he : zCX zA a v = zCX zA b v) : (broR zA S v).length < S.length:=by
 rw [zFp s.pw];have nd : (ris (S.map fun r => zCX zA r v)).Nodup:=List.Pairwise.imp (fun {x y} h => Int.ne_of_lt h) (zHH _);have h1:=zBw _ ((S.erase b).map fun r => zCX zA r v) nd fun x hx => by
  obtain ⟨r,hr,rfl⟩:=zVE.mp ((zCM _ _).mp hx);by_cases q : r = b
  ·subst q;exact zVE.mpr ⟨a,(List.mem_erase_of_ne hne).mpr ha,he⟩
  ·exact zVE.mpr ⟨r,(List.mem_erase_of_ne q).mpr hr,rfl⟩
 rw [zU6,List.length_erase_of_mem hb] at h1;have:=List.length_pos_of_mem hb;omega
theorem zEj (s : IsS zA S) (h : zC6 zA l S = some p) : p ∈ zU S /\ p ∈ zU (zQ zA) /\ ∃ n,Dst zA l One p (n + 1):=by
 obtain ⟨h1,h2⟩:=zEk.mp (zNQ h);obtain ⟨h3,h4⟩:=zCn.mp h2;exact ⟨h1,h3,h4⟩
theorem zPs (h : p ∈ zU S) : ∃ a b,p = [a,b] /\ p = zBW a b /\ a ∈ S /\ b ∈ S /\ a < b:=by
 obtain ⟨a,b,rfl,ha,hb,hlt⟩:=zAc.mp h;exact ⟨a,b,rfl,by unfold zBW; rw [zVF (by omega),zVC (by omega)],ha,hb,hlt⟩
theorem zHQ (s : IsS zA S) (h : zC6 zA l S = some p) (c : Climb zA l One p v) : (broR zA S v).length < S.length:=by
 obtain ⟨h1,_,_⟩:=zEj s h;obtain ⟨a,b,rfl,hp,ha,hb,hlt⟩:=zPs h1;have hm:=(zBe c).2;rw [hp,zMx (by omega)] at hm;exact zN6 s ha hb (by omega) hm
theorem zFj (m : IsM zA l) : ∀ (n k : Nat) {S : List Int},S.length <= n -> IsS zA S -> ∃ w st,Quick zA l k S w st
 | 0,k,S,h,s => by have:=s.n0; omega
 | n + 1,k,S,h,s => by
  cases e : zC6 zA l S with
  | none => exact ⟨_,_,.nil e⟩
  | some p =>
   obtain ⟨_,_,j,hj⟩:=zEj s e;obtain ⟨v,c⟩:=zFS _ hj;have hlt:=zHQ s e c;obtain ⟨w,st,q⟩:=zFj m n (k + v.length) (S:=broR zA S v) (by omega) (m.broR v s (zBe c).1);exact ⟨_,_,.cons e c q⟩
theorem zEy : ∀ {k : Nat} {S w : List Int} {st : List (List Int × Int)},Quick zA l k S w st -> Wd l w
 | _,_,_,_,.nil _ => fun _ h => by cases h
 | _,_,_,_,.cons _ c q => zTJ (zBe c).1 (zEy q)
theorem zIc : ∀ {k : Nat} {S w : List Int} {st : List (List Int × Int)},Quick zA l k S w st -> zC6 zA l (broR zA S w) = none
 | _,_,_,_,.nil e => e
 | _,_,_,_,.cons _ c q => by rw [zRW]; exact zIc q
theorem zI8 (m : IsM zA l) (hR : zA.length <= 26) : ∀ {k : Nat} {S w : List Int} {st : List (List Int × Int)},IsS zA S -> Quick zA l k S w st -> w.length <= 676 * S.length /\ st.length < S.length
 | _,_,_,_,s,.nil _ => ⟨by simp,s.n0⟩
 | _,S,_,_,s,.cons (v:=v) e c q => by
  have hlt:=zHQ s e c;obtain ⟨h1,h2⟩:=zI8 m hR (m.broR v s (zBe c).1) q;obtain ⟨_,hp,_⟩:=zEj s e;have h3:=zVO (zLN m zGm (zCe _ hp) (zF6 c)) (zDa hR);have h4:=Nat.mul_le_mul_left 676 hlt;rw [Nat.mul_succ] at h4;rw [zVD,zVU];omega
theorem zQN {zA : List (List Int)} (m : IsM zA l) (hR : zA.length <= 26) (hl : l <= 12) {st : List (List Int × Int)} (s : IsS zA S) (q : Quick zA l 0 S w st) :
  zFm [mD zA,tI S] M = some (.tup [tI w,.tup (st.map stD)],M):=by
 refine zp ?_;unfold zFm;refine zFr ?_ ?_
 ·unfold D.unds D.unds D.unds;rw [zF3]; simp [tI,zAo]
 rw [zAe];unfold zJr;show OkS (za _ _ [some (mD zA),some (tI S),none,none,none,none,none,none] []) _;obtain ⟨d,M1,e,jr,rfl,_,h2,_,_⟩:=zPQ m hR hl (M:=[]);rw [zW,zi];refine zL (zAr (zAH (d:=mD zA) rfl) e) ?_;rw [zX,zc];show OkS (za _ _ [some (mD zA),some (tI S),some (.ref jr),none,none,none,none,none] M1) _;refine zCF (d:=tI S) rfl ?_;show OkS (za _ _ [some (mD zA),some (tI S),some (.ref jr),some (tI S),none,none,none,none] M1) _;refine zCF (d:=tI []) (zMB rfl (by simp)) ?_;show OkS (za _ _ [some (mD zA),some (tI S),some (.ref jr),some (tI S),some (tI []),none,none,none] M1) _;rw [zW,zi];refine zL (M:=M1) (a:=.fl []) (zLz rfl (by simp)) (zAG ?_);rw [zc];show OkS (za _ _ [some (mD zA),some (tI S),some (.ref jr),some (tI S),some (tI []),some (.ref M1.length),none,none] (M1 ++ [.lst []])) _;have hjl:=(zU0.mp h2).1;have up : ∀ xs : Mem,(M1 ++ xs)[jr]? = some (dT (zDE zA l One)):=fun xs => by rw [zU4 hjl]; exact h2
 obtain ⟨d,M2,e2,rfl,us,rfl⟩:=zHh hR (up [.lst []]) s;rw [zW,zi];refine zL (zAr (zAP (d:=.ref jr) rfl (zAH (d:=tI S) rfl)) e2) ?_;rw [zX,zc,zW];show OkS (zBI _ _ _ [some (mD zA),some (tI S),some (.ref jr),some (tI S),some (tI []),some (.ref M1.length),some (zGO zA l S),none] (M1 ++ [.lst []] ++ us)) _;have hS:=zFK s;have ql:=zI8 m hR s q;refine zCH (I:=fun z σ M' => ∃ (T W w2 : List Int) (st1 st2 : List (List Int × Int)) (us : Mem) (y : Option D),IsS zA T /\ Quick zA l W.length T w2 st2 /\ w = W ++ w2 /\ st = st1 ++ st2 /\ z = st2.length /\ σ = [some (mD zA),some (tI S),some (.ref jr),some (tI T),some (tI W),some (.ref M1.length),some (zGO zA l T),y] /\ M' = M1 ++ .lst (st1.map stD) :: us) ?_ 100 st.length _ _ (by omega) ⟨S,[],w,[],st,us,none,s,q,rfl,rfl,rfl,rfl,by simp⟩;rintro z σ M' ⟨T,W,w2,st1,st2,us,y,sT,q2,hw,hst,rfl,rfl,rfl⟩;have hL : (M1 ++ MO.lst (st1.map stD) :: us)[M1.length]? = some (.lst (st1.map stD)):=by simp
 have et : tst (fOp (kIs true) (zD 6) (fC .non)) [some (mD zA),some (tI S),some (.ref jr),some (tI T),some (tI W),some (.ref M1.length),some (zGO zA l T),y] (M1 ++ MO.lst (st1.map stD) :: us) = some ((zC6 zA l T).isSome,M1 ++ MO.lst (st1.map stD) :: us):=by
  unfold zGO;cases h : zC6 zA l T with
  | none => exact zBH (zf (x:=.dat .non) (y:=.dat .non) rfl rfl rfl)
  | some p => exact zBH (zf (x:=.dat (tI p)) (y:=.dat .non) rfl rfl rfl)
 refine zL et ?_;cases q2 with
 | nil h =>
  rw [h];show OkS (zAj _ _ _) _;rw [zVh] at hw hst;subst hw; subst hst;refine zBF (d:=.tup [tI w,.tup (st.map stD)]) (zMB (zAP (d:=tI w) rfl (zAH (zC8 (f:=zD 5) rfl (zAA hL)))) (by simp)) ⟨?_,rfl,rfl⟩;unfold D.und D.unds D.unds D.unds;rw [show D.und 0 (tI w) = true from zAo w];have : ∀ xs : List (List Int × Int),D.und 0 (.tup (xs.map stD)) = true:=by
   intro xs;unfold D.und;induction xs with
   | nil => rfl
   | cons x r ih =>
    rw [zVG];unfold D.unds;rw [ih];unfold stD;unfold D.und D.unds D.unds D.unds;rw [show D.und 0 (tI x.1) = true from zAo _];rfl
  rw [this]; rfl
 | @cons _ _ p v w3 st3 h c q3 =>
  have hnd : zGO zA l T = tI p:=by unfold zGO; rw [h]
  rw [h,hnd];obtain ⟨hp1,hp2,_⟩:=zEj sT h;have cb:=(zBe c).1;have hvl:=zVO (zLN m zGm (zCe _ hp2) (zF6 c)) (zDa hR);have hwl:=zWk List.length hw;have hstl:=zWk List.length hst;simp only [zVD,zVU] at hwl hstl;show OkS (za _ _ [some (mD zA),some (tI S),some (.ref jr),some (tI T),some (tI W),some (.ref M1.length),some (tI p),y] (M1 ++ MO.lst (st1.map stD) :: us)) _;obtain ⟨d,M3,e3,rfl,us3,rfl⟩:=zLd m zGm hR (up (.lst (st1.map stD) :: us)) (zCe _ hp2) c;rw [zW,zi];refine zL (zAr (zAP (d:=mD zA) rfl (zAP (d:=.ref jr) rfl (zAH (d:=tI p) rfl))) e3) ?_;rw [zX,zc];show OkS (za _ _ [some (mD zA),some (tI S),some (.ref jr),some (tI T),some (tI W),some (.ref M1.length),some (tI p),some (tI v)] (M1 ++ MO.lst (st1.map stD) :: us ++ us3)) _;rw [show M1 ++ MO.lst (st1.map stD) :: us ++ us3 = M1 ++ MO.lst (st1.map stD) :: (us ++ us3) by simp];generalize us ++ us3 = us4;have sB:=m.broR v sT cb;refine zCF (zAr (zAP (d:=mD zA) rfl (zAP (d:=tI T) rfl (zAH (d:=tI v) rfl))) (zST m (by omega) sT cb (by omega))) ?_;show OkS (za _ _ [some (mD zA),some (tI S),some (.ref jr),some (tI (broR zA T v)),some (tI W),some (.ref M1.length),some (tI p),some (tI v)] _) _;refine zCF (d:=tI (W ++ v)) ?_ ?_
  ·rw [zf (x:=.dat (tI W)) (y:=.dat (tI v)) rfl rfl (zSK (zt (by rw [zU6,zU6]; omega)))];unfold tI; rw [zVp]
  show OkS (za _ _ [some (mD zA),some (tI S),some (.ref jr),some (tI (broR zA T v)),some (tI (W ++ v)),some (.ref M1.length),some (tI p),some (tI v)] _) _;have hL4 : (M1 ++ MO.lst (st1.map stD) :: us4)[M1.length]? = some (.lst (st1.map stD)):=by simp
  have elen : fB zBq (zg (zD 4) zAC) [some (mD zA),some (tI S),some (.ref jr),some (tI (broR zA T v)),some (tI (W ++ v)),some (.ref M1.length),some (tI p),some (tI v)] (M1 ++ MO.lst (st1.map stD) :: us4) = some (.dat (.int ((W.length + v.length : Nat) : Int)),M1 ++ MO.lst (st1.map stD) :: us4):=by
   rw [zLB (xs:=W ++ v) rfl,zVD]
  rw [zW,zBm];refine zH8.mpr (zL (a:=.dat (.ref M1.length)) (M:=M1 ++ MO.lst (st1.map stD) :: us4) rfl ⟨⟨_,zBT hL4⟩,zL (zAH (d:=stD (p,((W.length + v.length : Nat) : Int))) (zMB (zAP (d:=tI p) rfl (zAH elen)) (by simp))) ((zCv hL4 (by rw [zU6]; exact zVM (show st1.length < 1000 by omega) (zt (by omega)))).mpr ?_)⟩);rw [zc];have hset : (M1 ++ MO.lst (st1.map stD) :: us4).set M1.length (.lst (st1.map stD ++ [stD (p,((W.length + v.length : Nat) : Int))])) = M1 ++ MO.lst ((st1 ++ [(p,((W.length + v.length : Nat) : Int))]).map stD) :: us4:=by
   rw [List.set_append_right _ _ (zU3 _)]; simp
  rw [hset];obtain ⟨d,M5,e5,rfl,us5,rfl⟩:=zHh hR (up (.lst ((st1 ++ [(p,((W.length + v.length : Nat) : Int))]).map stD) :: us4)) sB;rw [zi];refine zL (zAr (zAP (d:=.ref jr) rfl (zAH (d:=tI (broR zA T v)) rfl)) e5) ?_;rw [zX];exact ⟨st3.length,by simp,broR zA T v,W ++ v,w3,st1 ++ [(p,((W.length + v.length : Nat) : Int))],st3,us4 ++ us5,some (tI v),sB,by rw [zVD]; exact q3,by rw [hw]; simp,by rw [hst]; simp,rfl,rfl,by simp⟩
theorem zMR (hf : f σ M = some (x,M)) (h : zAZ M x = some xs) : fB zFb (zg f zAC) σ M = some (.fl xs,M):=by
 unfold fB zg zAC; rw [hf]; dsimp only; unfold zFb; dsimp only; rw [h]
theorem zQG (m : IsM zA l) : IsS zA (zQ zA):=by
 have r0:=m.r0;refine ⟨?_,by unfold zQ; simp; omega,fun x hx => zBO.mp hx⟩;unfold zQ;exact List.pairwise_map.mpr (List.Pairwise.imp (fun {a b} h => by omega) List.pairwise_lt_range)
theorem zP0 (h : xs.Nodup) : (ris xs).length = xs.length:=Nat.le_antisymm (zJs xs) (zBw _ _ h fun x hx => (zCM xs x).mpr hx)
theorem zNv {K v : List Int} (s : IsS zA K) (hn : zC6 zA l K = none) (hv : Wd l v) : (broR zA K v).length = K.length:=by
 have nd : K.Nodup:=List.Pairwise.imp (fun {x y} h => Int.ne_of_lt h) s.pw;rw [zFp s.pw,zP0,zU6];refine List.pairwise_map.mpr (List.Pairwise.imp_of_mem (fun {a b} ha hb hlt he => ?_) s.pw);have hlt : a < b:=hlt;have hp : [a,b] ∈ zU K:=zAc.mpr ⟨a,b,rfl,ha,hb,hlt⟩;have hpr : [a,b] = zBW a b:=by unfold zBW; rw [zVF (by omega),zVC (by omega)]
 have hm : One (broR zA [a,b] v):=by rw [hpr,zMx (by omega)]; exact he
 obtain ⟨n,_,hd⟩:=zE4 _ ⟨v,rfl,hv,hm⟩;cases n with
 | zero => exact absurd (zBJ.mp hd) (by simp [One])
 | succ n =>
  have : [a,b] ∈ zCq zA l K:=zEk.mpr ⟨hp,zCn.mpr ⟨zNw s hp,n,hd⟩⟩;rw [zHG.mp hn] at this;cases this
theorem zM9 (h : Gen M n k) (m0 : 0 < most) (m1 : most <= 90000) (l0 : 0 < lets) (l1 : lets <= 90000) (ha : ∀ M,fa σ M = some (.dat (.ref n),M)) (hb : ∀ M,fb σ M = some (.dat (.int most),M))
  (hc : ∀ (r : Int) M,fc ((zBc own σ).set i (some (.int r))) M = some (.dat (.ref n),M)) (hd : ∀ (r : Int) M,fd ((zBc own σ).set i (some (.int r))) M = some (.dat (.int lets),M)) :
  Ok (zAQ own (zAK (zI (toD (zb zh (zI (toD fa) (zI (toD fb) zS)))) zS)) (gN i) zAI (zb zh (zI (toD fc) (zI (toD fd) zS))) σ M) fun x M' => (∃ c : List Int,x = .fl (c.map D.int) /\ (c.length : Int) < most /\ ∀ y ∈ c,0 <= y /\ y < lets) /\ Nx M M' n k:=by
 obtain ⟨x,M1,e,cnt,rfl,c0,c1,nx1⟩ : Ok (zb zh (zI (toD fa) (zI (toD fb) zS)) σ M) fun x M' => ∃ cnt : Int,x = .dat (.int cnt) /\ 0 <= cnt /\ cnt < most /\ Nx M M' n k:=zAN h (ha M) (hb M) m0 (by omega) fun i M' i0 i1 nx => ⟨i,rfl,i0,i1,nx⟩;have er:=zHs (zOt e) c0 (show cnt < 2 ^ 62 by omega);rw [zFt] at er;refine zDz.mpr ⟨_,_,_,er,by rw [zBl]; exact zt (by omega),?_⟩;refine Ok.mono (zME (n:=cnt.toNat) (I:=fun j acc M2 => (∃ c : List Int,acc = c.map D.int /\ c.length = j /\ ∀ y ∈ c,0 <= y /\ y < lets) /\ Nx M M2 n k) ?_ ⟨⟨[],rfl,rfl,fun _ h => by cases h⟩,nx1⟩) ?_
 ·rintro j acc M2 hj ⟨⟨c,rfl,hcl,hc'⟩,nx⟩;refine ⟨_,rfl,?_⟩;refine zAN nx.gen (hc _ _) (hd _ _) l0 (by omega) fun v M3 v0 v1 nx3 => ?_;rw [zX];refine ⟨⟨c ++ [v],by simp,by simp [hcl],fun z hz => ?_⟩,nx.trans nx3⟩;rcases zVN.mp hz with q | q
  ·exact hc' z q
  ·have : z = v:=by simpa using q
   subst this; exact ⟨v0,v1⟩
 ·rintro ys M2 ⟨⟨c,rfl,hcl,hc'⟩,nx⟩;exact ⟨⟨c,rfl,by omega,hc'⟩,nx⟩
theorem zNM {c r : Int} (c0 : 1 <= c) (r0 : 0 < r) (cr : c + r <= 28) {rest : FS} {τ : Sd} {P : Out -> Sd -> Mem -> Prop} {ns : List Int} (h : ns.length <= 63)
  (q : ∀ zA l M,IsM zA l -> c <= (zA.length : Int) -> (zA.length : Int) < c + r -> zA.length <= 27 -> l <= 6 -> Gen M 2 1 -> M[0]? = some (.fro (ns.map D.int)) -> OkS (rest (some (.ref 0) :: some (.ref 2) :: some (mD zA) :: τ) M) P) :
  OkS (za (zAB 1 (zb zBx (zI (toD (zD 0)) zS))) (za (zAB 2 (zb zBP (zI (toD (zD 1)) (zI (toD (fOp zAt (fC (.int c)) (zb zh (zI (toD (zD 1)) (zI (toD (fC (.int r))) zS))))) (zI (toD (fOp zAt (fC (.int 1)) (zb zh (zI (toD (zD 1)) (zI (toD (fC (.int 6))) zS))))) zS))))) rest) (some (.ref 0) :: none :: none :: τ) [.fro (ns.map D.int)]) P:=by
 rw [zW,zi];refine zCj.mpr (zL (zAH rfl) ?_);refine Ok.mono (zOp h) ?_;rintro d M1 ⟨rfl,g1,e0,_⟩;rw [zX,zc,zW,zi];show Ok (zb _ _ (some (.ref 0) :: some (.ref 2) :: none :: τ) M1) _;refine zCj.mpr (zAp.mpr (zAz.mpr (zL (a:=.dat (.ref 2)) rfl ?_)));rw [zX];refine zAp.mpr (zAz.mpr (zAm.mpr (zL rfl (zAN g1 rfl rfl r0 (by omega) fun i M2 i0 i1 nx2 => zL (a:=.dat (.int (c + i))) rfl ?_))));rw [zX];refine zAp.mpr (zAz.mpr (zAm.mpr (zL rfl (zAN nx2.gen rfl rfl (by decide) (by decide) fun j M3 j0 j1 nx3 => zL (a:=.dat (.int (1 + j))) rfl ?_))));rw [zX,zB3];refine Ok.mono (zL2 nx3.gen (by omega) (by omega) (by omega) (by omega)) ?_;rintro d M4 ⟨⟨zA,l,rfl,m,hR,hL⟩,nx4⟩;rw [zX,zc];have l3 : 0 < M3.length:=by rw [nx3.len,nx2.len]; exact (zU0.mp e0).1
 have e4 : M4[0]? = some (.fro (ns.map D.int)):=(nx4.fr 0 l3 (by decide) (by decide)).trans ((nx3.fr 0 (by decide) (by decide)).trans ((nx2.fr 0 (by decide) (by decide)).trans e0));exact q zA l M4 m (by omega) (by omega) (by omega) (by omega) nx4.gen e4
theorem zJz (n : Nat) (ts : List (List Int)) : MO.und n (.lst (ts.map tI)) = true:=zM1 n ts
theorem zSO (n : Nat) (J : List (List Int)) : MO.und n (dT (jnT J)) = true:=by
 show ((zDb (jnT J)).all fun p => D.und n p.1 && D.und n p.2) = true;rw [zVY];intro p hp;obtain ⟨q,hq,rfl⟩:=zVE.mp hp;obtain ⟨r,_,rfl⟩:=zVE.mp hq;simp [tI,zAo,D.und,zy]
theorem zMA (hz : zA.length <= 1000) (hf : f σ M = some (.dat (.int zA.length),M)) : zGT f σ M = some (.fl ((zQ zA).map D.int),M):=by
 refine zp (zQn (j:=(zA.length : Int)) hf (by omega) (by omega) ⟨?_,rfl⟩);unfold upD zQ;rw [zVL,show (zA.length : Int).toNat = zA.length by omega]; rfl
theorem zOL (m : IsM zA l) (hR : zA.length <= 26) (hl : l <= 12) :
  Ok (zB7 [mD zA] M) fun d M' => ∃ jJ J,d = .ref jJ /\ M.length <= jJ /\ M'[jJ]? = some (dT (jnT J)) /\ (∀ p,p ∈ J ↔ p ∈ zCU zA l One) /\ M.length <= M'.length /\ (∀ i,i < M.length -> M'[i]? = M[i]?) /\ ∀ (i : Nat) u,M.length <= i -> M'[i]? = some u -> MO.und M'.length u = true:=by
 unfold zB7;rw [zAe];unfold zD5;show OkS (za _ _ [some (mD zA),none,none,none,none,none,none] M) _;rw [zW,zi];refine zL (M:=M ++ [.dicT []]) (a:=.dat (.ref M.length)) rfl ?_;rw [zX,zc,zW,zi];refine zL (M:=M ++ [.dicT []]) (a:=.fl []) (zLz rfl (by simp)) (zAG ?_);rw [zc,zW,zi];refine zL (M:=M ++ [.dicT []] ++ [.lst []] ++ [.dicT []]) (a:=.dat (.ref (M ++ [MO.dicT []] ++ [MO.lst []]).length)) rfl ?_;rw [zX,zc];have sr:=zQG m;have hrl : (zQ zA).length = zA.length:=by unfold zQ; simp
 generalize hB0 : M ++ [MO.dicT []] ++ [MO.lst []] ++ [MO.dicT []] = B0;have b0l : B0.length = M.length + 3:=by rw [<- hB0]; simp
 have b0A : B0[M.length]? = some (dT []):=by rw [<- hB0]; simp
 have b0F : B0[M.length + 1]? = some (.lst []):=by rw [<- hB0]; simp
 have b0J : B0[M.length + 2]? = some (dT []):=by rw [<- hB0]; simp
 have b0fr : ∀ i,i < M.length -> B0[i]? = M[i]?:=fun i hi => by rw [<- hB0,zV3,zV3,zU4 hi]
 rw [show (M ++ [MO.dicT []]).length = M.length + 1 by simp,show (M ++ [MO.dicT []] ++ [MO.lst []]).length = M.length + 2 by simp];show OkS (za _ _ [some (mD zA),some (.ref M.length),some (.ref (M.length + 1)),some (.ref (M.length + 2)),none,none,none] B0) _;have eL:=zMc (zMA (σ:=[some (mD zA),some (.ref M.length),some (.ref (M.length + 1)),some (.ref (M.length + 2)),none,none,none]) (M:=B0) (by omega) (zFu (f:=zD 0) rfl));obtain ⟨d,B,ep,rfl,us,hB,hus⟩:=zFO (M:=B0 ++ [.lst ((zQ zA).map D.int)]) (j:=B0.length) (xs:=zQ zA) (zAf _ _) sr.pw (by omega);rw [zW,zBd];have b1l : (B0 ++ [MO.lst ((zQ zA).map D.int)]).length = M.length + 4:=by rw [zVD,b0l]; rfl
 have hP : B[M.length + 4]? = some (.lst ((zU (zQ zA)).map tI)):=by rw [hB,<- b1l]; simp
 have up : ∀ {i : Nat},i < B0.length -> B[i]? = B0[i]?:=fun {i} hi => by rw [hB,zV3,zU4 hi]
 have hBl : M.length + 5 <= B.length:=by rw [hB,zVD,b1l,zVU]; omega
 refine ⟨_,_,_,(show zAW (zb zAl (zI (toD (zGT (fB zBq (zg (zD 0) zAC)))) zS)) [some (mD zA),some (.ref M.length),some (.ref (M.length + 1)),some (.ref (M.length + 2)),none,none,none] B0 = some ((zU (zQ zA)).map tI,zDS (.dat (.ref (M.length + 4))) ((zU (zQ zA)).map tI),B) by
  have ec : zb zAl (zI (toD (zGT (fB zBq (zg (zD 0) zAC)))) zS) [some (mD zA),some (.ref M.length),some (.ref (M.length + 1)),some (.ref (M.length + 2)),none,none,none] B0 = some (.dat (.ref (M.length + 4)),B):=by
   rw [<- b1l];exact zJm (aC' eL rfl) ep
  unfold zAW; rw [ec]; dsimp only; rw [zAA hP]),?_⟩
 have h0 : Jn zA B B M.length (M.length + 1) (M.length + 2) [] [] []:=by
  refine ⟨⟨[],(up (by omega)).trans b0A,by simp,(fun g d h => by cases h),(fun _ _ => rfl),(fun g g' j h => by cases h)⟩,fun T e q hq => ?_,(up (by omega)).trans b0F,(up (by omega)).trans b0J,zU3 _,fun _ _ _ _ _ => rfl,fun i u hi hu => absurd (zU0.mp hu).1 (by omega)⟩;rw [(up (by omega)).trans b0A] at e;have eT : zDb [] = zDb T:=MO.dicT.inj (zVx e);have hm : (tI q.1,q.2) ∈ zDb T:=zVE.mpr ⟨q,hq,rfl⟩;rw [<- eT] at hm;cases hm
 refine OkS.mono (zTq m hR hl h0 (by omega) (by omega) (by omega) (by omega) (by omega) (by omega) hP (by omega) (by omega) (by omega)) ?_;rintro o σ' M2 ⟨rfl,⟨y4,y5,y6,rfl⟩,jn⟩;rw [zc,zW];refine OkS.mono (zTk m hR (by omega) (by omega) (by omega) (by omega) (by omega) (by omega) jn (zPe m)) ?_;rintro o σ' M3 ⟨rfl,⟨y4,y5,y6,rfl⟩,J,jn3,c3⟩;rw [zc];refine zBF (d:=.ref (M.length + 2)) rfl ⟨M.length + 2,J,rfl,by omega,jn3.j,zTI m c3,by have:=jn3.len; omega,fun i hi => ?_,fun i u hi hu => ?_⟩
 ·rw [jn3.fr i (by omega) (by omega) (by omega) (by omega),up (by omega)];exact b0fr i hi
 ·rcases zWJ i B.length with q | q
  ·by_cases q1 : i = M.length
   ·subst q1;obtain ⟨T,ed,_⟩:=jn3.a.ex;rw [ed] at hu;cases hu;show ((zDb T).all fun p => D.und M3.length p.1 && D.und M3.length p.2) = true;rw [zVY];intro p hp;obtain ⟨r,hr,rfl⟩:=zVE.mp hp;obtain ⟨j,h1,h2⟩:=jn3.ad T ed r hr;rw [h1];simp [tI,zAo,D.und,zy,h2]
   by_cases q2 : i = M.length + 1
   ·subst q2; rw [jn3.f] at hu; cases hu; exact zJz _ _
   by_cases q3 : i = M.length + 2
   ·subst q3; rw [jn3.j] at hu; cases hu; exact zSO _ _
   rw [jn3.fr i q q1 q2 q3,hB] at hu;have hi3 : M.length + 3 <= i:=by omega
   rw [zV3,zV7 (by omega)] at hu;rcases Nat.eq_or_lt_of_le hi3 with z | z
   ·rw [<- z,b0l,Nat.sub_self] at hu;cases hu;show D.unds _ _ = true;exact zy _ _
   ·rw [zV7 (by simp; omega)] at hu;rcases Nat.eq_or_lt_of_le z with y | y
    ·rw [show i - B0.length - [MO.lst ((zQ zA).map D.int)].length = 0 by simp; omega] at hu;cases hu;exact zJz _ _
    ·obtain ⟨k,hk⟩ : ∃ k,i - B0.length - [MO.lst ((zQ zA).map D.int)].length = k + 1:=⟨i - B0.length - [MO.lst ((zQ zA).map D.int)].length - 1,by simp; omega⟩;rw [hk,List.getElem?_cons_succ] at hu;exact zEm (zVj _) (hus u (List.mem_of_getElem? hu))
  ·obtain ⟨ts,rfl⟩:=jn3.wf i u q hu;exact zJz _ _
noncomputable def zEM : FS:=(za (sIf (tst (fOp kEq (zb zh (zI (toD (zD 0)) (zI (toD (fC (.int 4))) zS))) (fC (.int 0)))) (zAj (zHm (zD 1))) zB4)
  (za (zAB 2 (fB zBr (zg (zAQ [3] (zAK (zI (toD (zD 1)) zS)) (gN 3) (tst (fOp kEq (zb zh (zI (toD (zD 0)) (zI (toD (fC (.int 2))) zS))) (fC (.int 0)))) (zD 3)) zAC)))
  (za (sIf (tst (fOp zKS (zD 2) (zCZ zS))) (zAj (zCZ (zI (toD (zb zh (zI (toD (zD 0)) (zI (toD (zD 1)) zS)))) zS))) zB4)
  (zAj (zD 2)))))
noncomputable def zCR : FF:=zB9 4 zEM
theorem zNA (h : Gen M n k) (h0 : 0 < R) (h1 : R <= 1000) : Ok (zCR [.ref n,.int R] M) fun d M' => Nx M M' n k /\ ∃ xs : List Int,d = tI xs /\ 0 < xs.length /\ (∀ x ∈ xs,0 <= x /\ x < R) /\ xs.Pairwise (· < ·):=by
 unfold zCR;rw [zAe];unfold zEM;show OkS (za _ _ [some (.ref n),some (.int R),none,none] M) _;rw [zW,zBh];refine zHS.mpr (zAm.mpr (zAN h rfl rfl (by decide) (by decide) fun t M1 t0 t1 nx1 => zCf.mpr (zKF.mpr (zHJ.mpr ?_))));by_cases ht : t = 0
 ·rw [zV5 ht,zVC rfl,zAx];refine zQi (j:=R) rfl (by omega) (by omega) ?_;rw [zX];refine ⟨nx1,(List.range R.toNat).map fun (x : Nat) => (x : Int),?_,by simp; omega,fun x hx => ?_,?_⟩
  ·unfold upD tI; rw [zVL]; rfl
  ·obtain ⟨y,hy,rfl⟩:=zVE.mp hx;have:=zVb.mp hy;omega
  ·exact List.pairwise_map.mpr (List.Pairwise.imp (fun {a b} h => by omega) List.pairwise_lt_range)
 rw [zVW ht,zVF (by decide),zBG,zc,zW,zi];refine zRB.mpr (zFx.mpr ?_);rw [zDz];refine ⟨_,_,_,zBn (j:=R) rfl (by omega) (by omega),by rw [zBl]; exact zt (by omega),?_⟩;refine Ok.mono (zDl (I:=fun r acc M' => Nx M M' n k /\ ∃ i,i <= R.toNat /\ r = zCY i (R.toNat - i) /\ ∃ xs : List Int,acc = xs.map D.int /\ (∀ x ∈ xs,0 <= x /\ x < (i : Int)) /\ xs.Pairwise (· < ·)) (Q:=fun acc M' => Nx M M' n k /\ ∃ xs : List Int,acc = xs.map D.int /\ (∀ x ∈ xs,0 <= x /\ x < R) /\ xs.Pairwise (· < ·)) ?_ ?_ _ [] _ ⟨nx1,0,zVj _,by simp,[],rfl,(fun _ h => by cases h),.nil⟩) ?_
 ·rintro x r acc M2 ⟨nx,i,hi,e,xs,rfl,hx,hp⟩;have hlt : i < R.toNat:=by
   rcases zWJ i R.toNat with z | z
   ·exact z
   ·rw [show R.toNat - i = 0 by omega] at e; cases e
  rw [show R.toNat - i = (R.toNat - (i + 1)) + 1 by omega] at e;obtain ⟨rfl,rfl⟩:=zV1 e;refine ⟨zA7,_,rfl,zHS.mpr (zAm.mpr (zAN nx.gen rfl rfl (by decide) (by decide) fun w M3 w0 w1 nx3 => zCf.mpr (zKF.mpr (zHJ.mpr ?_))))⟩;by_cases hw : w = 0
  ·rw [zVC (by simpa using hw)];refine zAR.mpr ⟨.int i,rfl,zX.mpr ⟨nx.trans nx3,i + 1,hlt,rfl,xs ++ [(i : Int)],by simp,fun y hy => ?_,?_⟩⟩
   ·rcases zVN.mp hy with q | q
    ·have:=hx y q; omega
    ·have:=zVP.mp q; omega
   ·rw [List.pairwise_append];exact ⟨hp,by simp,fun a ha b hb => by have:=hx a ha; have:=zVP.mp hb; omega⟩
  ·rw [zVF (by simpa using hw)];exact ⟨nx.trans nx3,i + 1,hlt,rfl,xs,rfl,(fun y hy => by have:=hx y hy; omega),hp⟩
 ·rintro acc M2 ⟨nx,i,hi,e,xs,rfl,hx,hp⟩;have : i = R.toNat:=by
   rcases zWJ i R.toNat with z | z
   ·rw [show R.toNat - i = (R.toNat - (i + 1)) + 1 by omega] at e; cases e
   ·omega
  subst this;exact ⟨zA7,nx,xs,rfl,(fun y hy => by have:=hx y hy; omega),hp⟩
 ·rintro ys M2 hh;obtain ⟨nx,xs,e,hx,hp⟩:=hh;rw [List.nil_append] at e;subst e;refine zGu.mpr ((zMr zER).mpr ?_);rw [zX,zc,zW,zBh];refine zL (zBH (zf (f:=zD 2) (g:=zCZ zS) (k:=zKS) (r:=some (.dat (.bl (xs.map D.int).isEmpty),M2)) rfl rfl rfl)) ?_;cases xs with
  | nil =>
   rw [zVC (by rfl),zAx];refine zSQ.mpr (zAp.mpr (zAz.mpr (zAN nx.gen rfl rfl h0 (by omega) fun g M3 g0 g1 nx3 => ?_)));rw [zX,zB3];refine ⟨zt (by simp),?_⟩;rw [zX];exact ⟨nx.trans nx3,[g],rfl,by simp,(fun x hx => by rw [zVP.mp hx]; exact ⟨g0,g1⟩),by simp⟩
  | cons x r =>
   rw [zVF (by simp),zBG,zc];exact zBF rfl ⟨nx,x :: r,rfl,by simp,hx,hp⟩
noncomputable def zDW : FS:=(za (zAB 3 (fB zFb (zg (zD 1) zAC)))
  (za (zCG (zAW (zD 2)) (gN 4) (zAB 3 (zAQ [5] (zAW (zD 3)) (gN 5) zAI (fOp kIx (fOp kIx (zD 0) (zD 5)) (zD 4)))))
  (zAj (fB zBr (zg (zGA (zHw (zD 3))) zAC)))))
noncomputable def zA3 : FF:=zIQ (zB9 6 zDW)
noncomputable def zPr : FS:=(za (zAB 1 (zb zBx (zI (toD (zD 0)) zS)))
  (za (zAB 2 (zb zBP (zI (toD (zD 1)) (zI (toD (fOp zAt (fC (.int 1)) (zb zh (zI (toD (zD 1)) (zI (toD (fC (.int 26))) zS))))) (zI (toD (fOp zAt (fC (.int 1)) (zb zh (zI (toD (zD 1)) (zI (toD (fC (.int 6))) zS))))) zS)))))
  (za (zAB 3 (zb zB7 (zI (toD (zD 2)) zS)))
  (za (zAB 4 (zb zCR (zI (toD (zD 1)) (zI (toD (fB zBq (zg (zD 2) zAC))) zS))))
  (za (zAB 5 (zb zA3 (zI (toD (zD 2)) (zI (toD (zD 4)) (zI (toD (fOp kIx (zb zFm (zI (toD (zD 2)) (zI (toD (zD 4)) zS))) (fC (.int 0)))) zS)))))
  (za (sIf (tst (fB zTG (zg (zAQ [6] (zAW (zb zAl (zI (toD (fB zFb (zg (zD 5) zAC))) zS))) (gN 6) zAI (fOp (zBa false) (zD 6) (zD 3))) zAC))) (zAj (fC (.bl false))) zB4)
  (za (zCG (zAK (zI (toD (fB zBq (zg (fSl (zD 0) zEz (zEZ (fC (.int 63)))) zAC))) zS)) (gN 7) (za (zAB 8 (zAQ [9] (zAK (zI (toD (zb zh (zI (toD (zD 1)) (zI (toD (fC (.int 61))) zS)))) zS)) (gN 9) zAI (zb zh (zI (toD (zD 1)) (zI (toD (fB zBq (zg (fOp kIx (zD 2) (fC (.int 0))) zAC))) zS)))))
  (sIf (tst (fOp kNe (fB zBq (zg (zb zA3 (zI (toD (zD 2)) (zI (toD (zD 5)) (zI (toD (zD 8)) zS)))) zAC)) (fB zBq (zg (zD 5) zAC)))) (zAj (fC (.bl false))) zB4)))
  (zAj (fC (.bl true))))))))))
noncomputable def zGR : FF:=zB9 10 zPr
theorem zRy (m : IsM zA l) (hR : zA.length <= 26) (s : IsS zA S) (hw : Wd l w) (hM : ∀ (i : Nat) u,M[i]? = some u -> MO.und M.length u = true) (hx : zAZ M (.dat x) = some (w.map D.int)) (hx2 : (∃ j,x = .ref j /\ M[j]? = some (.lst (w.map D.int))) \/ x = tI w) :
  zA3 [mD zA,tI S,x] M = some (tI (broR zA S w),M):=by
 have hl:=zFK s;have hS:=s.mem;refine zp ?_;unfold zA3;refine zMh ?_;rw [zAe];unfold zDW;show OkS (za _ _ [some (mD zA),some (tI S),some x,none,none,none] M) _;rw [zW,zi];refine zL (zMR (f:=zD 1) (x:=.dat (tI S)) rfl zAU) (zAG ?_);rw [zc];show OkS (za _ _ [some (mD zA),some (tI S),some x,some (.ref M.length),none,none] (M ++ [.lst (S.map D.int)])) _;rw [zW,zBd];have key : ∃ gd,zAW (zD 2) [some (mD zA),some (tI S),some x,some (.ref M.length),none,none] (M ++ [.lst (S.map D.int)]) = some (w.map D.int,gd,M ++ [.lst (S.map D.int)]) /\ ∀ r us,zBD gd r (M ++ us):=by
  rcases hx2 with ⟨j,rfl,hj⟩ | rfl
  ·have hjl:=(zU0.mp hj).1;refine ⟨zDS (.dat (.ref j)) (w.map D.int),?_,fun r us => .inl (by rw [zU4 hjl]; exact hj)⟩;unfold zAW;rw [show zD 2 [some (mD zA),some (tI S),some (D.ref j),some (.ref M.length),none,none] (M ++ [MO.lst (S.map D.int)]) = some (.dat (.ref j),M ++ [.lst (S.map D.int)]) from rfl];dsimp only;rw [zAA (by rw [zU4 hjl]; exact hj)]
  ·exact ⟨none,zGr (xs:=w.map D.int) rfl,fun _ _ => zA7⟩
 obtain ⟨gd,ei,hgd⟩:=key;refine ⟨_,_,_,ei,?_⟩;refine zBX (I:=fun r σ M' => ∃ (w1 w2 : List Int) (j : Nat) (y4 y5 : Option D) (us : List MO),w = w1 ++ w2 /\ r = w2.map D.int /\ σ = [some (mD zA),some (tI S),some x,some (.ref j),y4,y5] /\ M'[j]? = some (.lst ((S.map fun r => zCX zA r w1).map D.int)) /\ M' = M ++ us) ?_ ?_ _ _ _ ⟨[],w,M.length,none,none,_,rfl,rfl,rfl,by simp [zCX],rfl⟩
 ·rintro x' r σ M' ⟨w1,w2,j,y4,y5,us,hw12,hr,rfl,hj,hM'⟩;cases w2 with
  | nil => cases hr
  | cons g w2 =>
   rw [zVG] at hr;obtain ⟨rfl,rfl⟩:=zV1 hr;have hg:=hw g (by rw [hw12]; simp);have hw1 : Wd l w1:=fun x hx => hw x (by rw [hw12]; simp [hx]);refine ⟨by rw [hM']; exact hgd _ _,_,rfl,?_⟩;show OkS (zAB _ _ [some (mD zA),some (tI S),some x,some (.ref j),some (.int g),y5] M') _;rw [zi];have ei : zAW (zD 3) [some (mD zA),some (tI S),some x,some (.ref j),some (.int g),y5] M' = some ((S.map fun r => zCX zA r w1).map D.int,zDS (.dat (.ref j)) ((S.map fun r => zCX zA r w1).map D.int),M'):=by
    unfold zAW;rw [show zD 3 [some (mD zA),some (tI S),some x,some (.ref j),some (.int g),y5] M' = some (.dat (.ref j),M') from rfl];dsimp only; rw [zAA hj]
   have ec:=zCy (own:=[5]) (g:=gN 5) (te:=fOp kIx (fOp kIx (zD 0) (zD 5)) (zD 4)) (S.map fun r => zCX zA r w1) D.int (fun r => .int (zBK zA r g)) ei (.inl hj) (by rw [zU6]; omega) fun r hr => by
    obtain ⟨q,hq,rfl⟩:=zVE.mp hr;have hq':=hS q hq;have hl':=m.led w1 hq'.1 hq'.2 hw1;exact ⟨_,rfl,m.ix hl'.1 hl'.2 hg.1 hg.2 rfl rfl rfl⟩
   refine zL ec (zAG ?_);refine ⟨w1 ++ [g],w2,M'.length,_,_,us ++ [_],by rw [hw12]; simp,rfl,rfl,?_,by rw [hM',zV3]⟩;rw [zAf];congr 2;rw [zVL,zVL];exact List.map_congr_left fun r _ => by show D.int (zBK zA (zCX zA r w1) g) = D.int (zCX zA r (w1 ++ [g])); rw [zOY]
 ·rintro σ M' ⟨w1,w2,j,y4,y5,us,hw12,hr,rfl,hj,hM'⟩;have : w2 = []:=by cases w2 with | nil => rfl | cons _ _ => cases hr
  subst this;rw [zVh] at hw12;subst hw12;refine ⟨by rw [hM']; exact hgd _ _,?_⟩;rw [zc];have hz : (zAM (S.map fun r => zCX zA r w)).length < 64:=by
   have:=zCs (S.map fun r => zCX zA r w);rw [zU6] at this; omega
  refine zBF (d:=tI (ris (S.map fun r => zCX zA r w))) (zC8 (zK4 (zPX (f:=zD 3) (x:=.dat (.ref j)) rfl (zAA hj) (by rw [zU6]; omega)) hz) zER) ⟨⟨?_,by rw [hM',zVD]; omega,fun i u hi hu => ?_⟩,?_,?_⟩
  ·unfold tI D.und; exact zy _ _
  ·rw [hM',zU4 hi] at hu;exact hM i u hu
  ·rw [zFp s.pw]
  ·rw [hM',List.take_left]
theorem zSI {f : FE} {σ : Sd} {M M1 : Mem} {n : Nat} (h : f σ M = some (.fl (List.replicate n (D.bl false)),M1)) : fB zTG (zg f zAC) σ M = some (.dat (.bl false),M1):=by
 have e : zFL (List.replicate n (D.bl false)) = some (List.replicate n false):=by
  have:=zIO (List.replicate n false);rwa [List.map_replicate] at this
 unfold fB zg zAC; rw [h];refine zp ((zUG zSX e).mpr ⟨?_,rfl⟩);simp
theorem zOZ (ns : List Int) (h : ns.length <= 63) : ∃ M',zGR [.ref 0] [.fro (ns.map D.int)] = some (.bl true,M'):=by
 suffices hh : Ok (zGR [.ref 0] [.fro (ns.map D.int)]) fun d _ => d = .bl true by
  obtain ⟨d,M',e,rfl⟩:=hh;exact ⟨M',e⟩
 unfold zGR;rw [zAe];unfold zPr;refine zNM (τ:=[none,none,none,none,none,none,none]) (by decide) (by decide) (by decide) h fun zA l M2 m hr1 hr2 hr3 hl g2 e02 => ?_;have hR : zA.length <= 26:=by omega
 have l0:=m.l0;rw [zW,zi];refine zCj.mpr (zL (zAH (d:=mD zA) rfl) (Ok.mono (zOL m hR (by omega)) ?_));rintro d M3 ⟨jJ,J,rfl,hjJ,eJ,hJ,hl3,fr3,wf3⟩;rw [zX,zc];obtain ⟨hn2,hk2⟩:=g2.lt;have g3 : Gen M3 2 1:=by
  obtain ⟨c,s,e1,e2,r⟩:=g2.ex;refine ⟨⟨c,s,(fr3 _ hn2).trans e1,(fr3 _ hk2).trans e2,r⟩,g2.ne,fun i u hu => ?_⟩;rcases zWJ i M2.length with q | q
  ·exact zEm hl3 (g2.wf i u ((fr3 i q).symm.trans hu))
  ·exact wf3 i u q hu
 have e03 : M3[0]? = some (.fro (ns.map D.int)):=(fr3 0 (zU0.mp e02).1).trans e02;show OkS (za _ _ [some (.ref 0),some (.ref 2),some (mD zA),some (.ref jJ),none,none,none,none,none,none] M3) _;rw [zW,zi];refine zCj.mpr (zL (zAP (d:=.ref 2) rfl (zAH (zFu rfl))) (Ok.mono (zNA g3 (by omega) (by omega)) ?_));rintro d M4 ⟨nx4,S,rfl,s0,sm,sp⟩;rw [zX,zc];have s : IsS zA S:=⟨sp,s0,sm⟩;obtain ⟨w,st,q⟩:=zFj m 100 0 (zVO (zFK s) (by omega)) s;have hw:=zEy q;have sK:=m.broR w s hw;have hn:=zIc q;have g4:=nx4.gen;have e04 : M4[0]? = some (.fro (ns.map D.int)):=(nx4.fr 0 (by decide) (by decide)).trans e03;have eJ4 : M4[jJ]? = some (dT (jnT J)):=(nx4.fr jJ (by omega) (by omega)).trans eJ;show OkS (za _ _ [some (.ref 0),some (.ref 2),some (mD zA),some (.ref jJ),some (tI S),none,none,none,none,none] M4) _;refine zCF (zAr (zAP (d:=mD zA) rfl (zAP (d:=tI S) rfl (zAH (d:=tI w) (zf (y:=.dat (.int 0)) (zAr (zAP (d:=mD zA) rfl (zAH (d:=tI S) rfl)) (zQN m hR (by omega) s q)) rfl (zC0 zAU rfl))))) (zRy m hR s hw g4.wf zAU (.inr rfl))) ?_;generalize hK : broR zA S w = K at sK hn ⊢;have hKl:=zFK sK;show OkS (za _ _ [some (.ref 0),some (.ref 2),some (mD zA),some (.ref jJ),some (tI S),some (tI K),none,none,none,none] M4) _;have eL:=zMc (zMR (f:=zD 5) (σ:=[some (.ref 0),some (.ref 2),some (mD zA),some (.ref jJ),some (tI S),some (tI K),none,none,none,none]) (M:=M4) (x:=.dat (tI K)) rfl zAU);obtain ⟨d,B,ep,rfl,us,hB,hus⟩:=zFO (M:=M4 ++ [.lst (K.map D.int)]) (j:=M4.length) (xs:=K) (zAf _ _) sK.pw (by omega);have b1l : (M4 ++ [MO.lst (K.map D.int)]).length = M4.length + 1:=by simp
 have hP : B[M4.length + 1]? = some (.lst ((zU K).map tI)):=by rw [hB,<- b1l]; simp
 have hjl:=(zU0.mp eJ4).1;have upB : ∀ {i : Nat},i < M4.length -> B[i]? = M4[i]?:=fun {i} hi => by rw [hB,zV3,zU4 hi]
 have ei : zAW (zb zAl (zI (toD (fB zFb (zg (zD 5) zAC))) zS)) [some (.ref 0),some (.ref 2),some (mD zA),some (.ref jJ),some (tI S),some (tI K),none,none,none,none] M4 = some ((zU K).map tI,zDS (.dat (.ref (M4.length + 1))) ((zU K).map tI),B):=by
  have ec : zb zAl (zI (toD (fB zFb (zg (zD 5) zAC))) zS) [some (.ref 0),some (.ref 2),some (mD zA),some (.ref jJ),some (tI S),some (tI K),none,none,none,none] M4 = some (.dat (.ref (M4.length + 1)),B):=by
   rw [<- b1l];exact zJm (aC' eL rfl) ep
  unfold zAW; rw [ec]; dsimp only; rw [zAA hP]
 have hPl : (zU K).length <= 676:=zVO (zBu K) (zVO (zWZ hKl hKl) (zWZ hR hR));have ef:=zDG (own:=[6]) (g:=gN 6) (tc:=zAI) (te:=fOp (zBa false) (zD 6) (zD 3)) (zU K) tI (fun _ => .bl false) (fun _ => true) ei (.inl hP) (by omega) (fun p hp => by
  refine ⟨[some (.ref 0),some (.ref 2),some (mD zA),some (.ref jJ),some (tI S),some (tI K),some (tI p),none,none,none],rfl,rfl,fun _ => ?_⟩;have e1 : fOp (zBa false) (zD 6) (zD 3) [some (.ref 0),some (.ref 2),some (mD zA),some (.ref jJ),some (tI S),some (tI K),some (tI p),none,none,none] B = _:=zf (x:=.dat (tI p)) (y:=.dat (.ref jJ)) rfl rfl (zMF (T:=jnT J) ((upB hjl).trans eJ4));have hno : (zM (jnT J) p).isSome = false:=by
   cases h : (zM (jnT J) p).isSome with
   | false => rfl
   | true =>
    have : p ∈ zCq zA l K:=zEk.mpr ⟨hp,(hJ p).mp (zGw.mp h)⟩;rw [zHG.mp hn] at this;cases this
  rw [e1,hno]; rfl)
 rw [List.filter_eq_self.mpr (fun _ _ => rfl),List.map_const'] at ef;have gB : Gen B 2 1:=by
  rw [hB,zV3];refine g4.app fun u hu => ?_;rcases zVN.mp hu with z | z
  ·rw [zVP] at z; subst z;show D.unds _ _ = true;exact zy _ _
  ·rcases zU9.mp z with y | y
   ·subst y; exact zJz _ _
   ·exact zEm (zVj _) (hus u y)
 have e0B : B[0]? = some (.fro (ns.map D.int)):=(upB (zU0.mp e04).1).trans e04;rw [zW,zBh];refine zL (zBH (zSI ef)) ?_;rw [zVF (by decide),zBG,zc];rw [zW,zBd];obtain ⟨c,ec,lc⟩:=zS3 (σ:=[some (.ref 0),some (.ref 2),some (mD zA),some (.ref jJ),some (tI S),some (tI K),none,none,none,none]) (i:=63) (j:=0) rfl rfl e0B;refine ⟨_,_,_,zBn (zGI ec zER) (by omega) (by rw [zU6]; omega),?_⟩;refine zG1 (n:=(((c.map D.int).length : Int)).toNat) (I:=fun i σ M' => (∃ y7 y8 y9,σ = [some (.ref 0),some (.ref 2),some (mD zA),some (.ref jJ),some (tI S),some (tI K),none,y7,y8,y9]) /\ Gen M' 2 1) ?_ ?_ _ _ ⟨⟨_,_,_,rfl⟩,gB⟩
 ·rintro i σ M' hi ⟨⟨y7,y8,y9,rfl⟩,g⟩;refine ⟨_,rfl,?_⟩;show OkS (za _ _ [some (.ref 0),some (.ref 2),some (mD zA),some (.ref jJ),some (tI S),some (tI K),none,some (.int (i : Int)),y8,y9] M') _;rw [zW,zi];refine Ok.mono (zM9 (most:=61) (lets:=l) g (by omega) (by omega) (by omega) (by omega) (fun _ => rfl) (fun _ => rfl) (fun _ _ => rfl) (fun _ _ => zGo m rfl)) ?_;rintro x M5 ⟨⟨v,rfl,hvl,hv⟩,nx5⟩;refine zAG ?_;rw [zc];have nw5:=nx5.gen.lst (v.map D.int) (zy _ _);have eW : (M5 ++ [MO.lst (v.map D.int)])[M5.length]? = some (.lst (v.map D.int)):=zAf _ _;have g6:=nw5.gen;generalize hM6 : M5 ++ [MO.lst (v.map D.int)] = M6 at eW g6 ⊢;generalize M5.length = jW at eW ⊢;show OkS (sIf _ _ _ [some (.ref 0),some (.ref 2),some (mD zA),some (.ref jJ),some (tI S),some (tI K),none,some (.int (i : Int)),some (.ref jW),y9] M6) _;have el:=zGI (f:=zb zA3 (zI (toD (zD 2)) (zI (toD (zD 5)) (zI (toD (zD 8)) zS)))) (σ:=[some (.ref 0),some (.ref 2),some (mD zA),some (.ref jJ),some (tI S),some (tI K),none,some (.int (i : Int)),some (.ref jW),y9]) (M:=M6) (zAr (zAP (d:=mD zA) rfl (zAP (d:=tI K) rfl (zAH (d:=.ref jW) rfl))) (zRy m hR sK hv g6.wf (zAA eW) (.inl ⟨jW,rfl,eW⟩))) (zAU (xs:=(broR zA K v).map D.int));rw [zU6,zNv sK hn hv] at el;refine zO6 (zBH (zf el (zLB (xs:=K) rfl) (zp (zUi.mpr ⟨?_,rfl⟩)))) ⟨⟨_,_,_,rfl⟩,g6⟩;simp
 ·rintro σ M' ⟨⟨y7,y8,y9,rfl⟩,g⟩;exact zBF (d:=.bl true) rfl rfl
end Lac
set_option maxHeartbeats 4000000
namespace Lac
open PySem PySem.Spec PyProof.Rows L2 L3 Law
-- the text by places
def top (i : Nat) : Stmt:=PySem.Challenge.pw_bringhome_k27_quick_leaves_rooms_apart.main.body.getD i (.Pass ⟨0,0,0,0⟩)
abbrev zEW : Stmt:=top 1
abbrev zEl : Stmt:=top 3
abbrev zGx : Stmt:=top 4
abbrev zGK : Stmt:=top 5
abbrev zDt : Stmt:=top 7
abbrev zEc : Stmt:=top 8
abbrev zCh : Stmt:=top 9
abbrev zEt : Stmt:=top 10
abbrev zBY : Stmt:=top 11
abbrev zCz : Stmt:=top 12
abbrev zJB : Stmt:=top 13
abbrev zF5 : Stmt:=top 14
abbrev zEn : Stmt:=top 16
abbrev zJ7 : Stmt:=top 17
abbrev zDR : Stmt:=top 19
abbrev zFB : Stmt:=top 20
abbrev zEJ : Stmt:=top 21
abbrev zAX : Stmt:=top 22
abbrev zBk : Stmt:=top 23
abbrev zDH : Stmt:=top 24
abbrev zDm : Stmt:=top 25
abbrev zDr : Stmt:=top 26
abbrev zDO : Stmt:=top 27
abbrev zCN : Stmt:=top 28
abbrev zKd : Stmt:=top 29
structure Txt (K : PySem.W.Frag) (mg : Str -> Option Value) where
  d_all_rooms : Df K mg "all_rooms" zEW ["machine"]
  d_stepped : Df K mg "stepped" zEl ["machine", "rooms", "letter"]
  d_walked : Df K mg "walked" zGx ["machine", "rooms", "word"]
  d_brought : Df K mg "brought" zGK ["machine", "rooms", "word"]
  d_pairs_of : Df K mg "pairs_of" zDt ["rooms"]
  d_ways_back : Df K mg "ways_back" zEc ["machine"]
  d_lengths_to : Df K mg "lengths_to" zCh ["machine", "goals"]
  d_lengths : Df K mg "lengths" zEt ["machine"]
  d_first_letter : Df K mg "first_letter" zBY ["machine", "pair", "found"]
  d_rungs_to : Df K mg "rungs_to" zCz ["machine", "found"]
  d_rungs : Df K mg "rungs" zJB ["machine"]
  d_climbed : Df K mg "climbed" zF5 ["machine", "steps", "pair"]
  d_nearest : Df K mg "nearest" zEn ["ways", "rooms"]
  d_quick : Df K mg "quick" zJ7 ["machine", "rooms"]
  d_law_begin : Df K mg "_law_begin" zDR ["_law_script"]
  d_law_next : Df K mg "_law_next" zFB ["_law_state", "_law_many"]
  d_law_order : Df K mg "_law_order" zEJ ["_law_state", "_law_many"]
  d_law_column : Df K mg "_law_column" zAX ["_law_state", "_law_family", "_law_rooms_here", "_law_letter"]
  d_law_machine : Df K mg "_law_machine" zBk ["_law_state", "_law_rooms_here", "_law_letters"]
  d_law_pairs : Df K mg "_law_pairs" zDH ["_law_rooms_here"]
  d_law_behind : Df K mg "_law_behind" zDm ["_law_machine_here", "_law_pair", "_law_letter"]
  d_law_joined : Df K mg "_law_joined" zDr ["_law_machine_here"]
  d_law_rooms : Df K mg "_law_rooms" zDO ["_law_state", "_law_rooms_here"]
  d_law_brought : Df K mg "_law_brought" zCN ["_law_machine_here", "_law_rooms_here", "_law_word"]
  d_law : Df K mg "law" zKd ["_law_script"]
  z_tuple : mg "tuple" = none
  z_range : mg "range" = none
  z_len : mg "len" = none
  z_sorted : mg "sorted" = none
  z_min : mg "min" = none
  z_enumerate : mg "enumerate" = none
  z_abs : mg "abs" = none
  z_int : mg "int" = none
  z_max : mg "max" = none
  z_list : mg "list" = none
  z_set : mg "set" = none
  z_any : mg "any" = none
section
variable {P : Program} {w : World} {K : PySem.W.Frag} {mg : Str -> Option Value} {base : Heap}
abbrev zKa : List Str:=["machine"]
theorem zJ9 : FnScope zKa ["machine"] (zT zEW):=⟨rfl,rfl,rfl,by decide +kernel,rfl,by decide +kernel,by decide +kernel⟩
theorem zFh (T : Txt K mg) : Od P w base 1 T.d_all_rooms zBV:=by
  unfold zBV;exact zAd (n:=1) T.d_all_rooms.F zJ9 rfl (fun cdv A outer s H E hr => by
    unfold zEI;exact (zd (zAS (zPK rfl rfl T.z_tuple rfl T.z_range (zDL rfl T.z_len (zn (zE (pv 0)) zAE (zC rfl)) (zC rfl) rfl) (zC rfl) rfl (zC rfl) rfl))))
abbrev zIj : List Str:=["machine", "rooms", "letter", "room"]
theorem zHO : FnScope zIj ["machine", "rooms", "letter"] (zT zEl):=⟨rfl,rfl,rfl,by decide +kernel,rfl,by decide +kernel,by decide +kernel⟩
theorem zD6 (T : Txt K mg) : Od P w base 1 T.d_stepped zBQ:=by
  unfold zBQ;exact zFd (zAd (n:=3) T.d_stepped.F zHO rfl (fun cdv A outer s H E hr => by
    unfold zFz;exact (zd (zAS (zDK rfl T.z_tuple (zn (zMY rfl rfl T.z_sorted (zTV (zl (i:=3) (by decide)) (zm (sc:=zT zEl) (N:=zIj) rfl rfl rfl (by decide +kernel) (by decide +kernel)) rfl (zA5 (zE (pv 1))) ⟨fun _ _ _ _ _ => (zAL (i:=3) zHO.nd rfl),fun _ _ _ _ _ => zA4,fun _ _ _ _ _ => (zBA (zBA (zE (pv 0)) (zE (pv 3))) (zE (pv 2)))⟩) (zC rfl) rfl) zAE (zC rfl)) (zC rfl) rfl)))))
abbrev zHF : List Str:=["rooms", "one", "other"]
theorem zEN : FnScope zHF ["rooms"] (zT zDt):=⟨rfl,rfl,rfl,by decide +kernel,rfl,by decide +kernel,by decide +kernel⟩
theorem zEL (T : Txt K mg) : Od P w base 1 T.d_pairs_of zA0:=by
  unfold zA0;exact zAd (n:=1) T.d_pairs_of.F zEN rfl (fun cdv A outer s H E hr => by
    unfold zE6;exact (zd (zAS (zQj (by decide) (zl (i:=1) (by decide)) (zl (i:=2) (by decide)) (zm (sc:=zT zDt) (N:=zHF) rfl rfl rfl (by decide +kernel) (by decide +kernel)) rfl (zA5 (zE (pv 0))) ⟨fun _ _ _ _ _ => (zAL (i:=1) zEN.nd rfl),fun _ _ _ _ _ => zA4,fun _ _ _ _ _ => (zA5 (zE (pv 0))),fun _ _ _ _ _ => (zAL (i:=2) zEN.nd rfl),fun _ _ _ _ _ => (zGC (zR7 (zE (pv 1)) (zE (pv 2)))),fun _ _ _ _ _ => (zEG (zH (zK (zE (pv 1))) (zH (zK (zE (pv 2))) zN (zC rfl)) (zC rfl))),fun _ _ _ _ _ _ => rfl⟩))))
abbrev zGd : List Str:=["_law_script", "_law_seed", "_law_cell"]
theorem zB1 : FnScope zGd ["_law_script"] (zT zDR):=⟨rfl,rfl,rfl,by decide +kernel,rfl,by decide +kernel,by decide +kernel⟩
theorem zJY (T : Txt K mg) : Od P w base 1 T.d_law_begin zBx:=by
  unfold zBx;exact zAd (n:=1) T.d_law_begin.F zB1 rfl (fun cdv A outer s H E hr => by
    unfold zEe;exact (zR (zAu (i:=1) zB1.nd rfl (zBp (zDL rfl T.z_len (zn (zE (pv 0)) zAE (zC rfl)) (zC rfl) rfl) ze))
    (zR (zDc zA8 zWQ rfl (zA5 (zGl (zE (pv 0)) zGs (zGn ze))) (zAL (i:=2) zB1.nd rfl) (zd (zAu (i:=1) zB1.nd rfl (zFk (zBp (zBp (zPn (zE (pv 1)) ze) (zFk (zE (pv 2)) (zRz ze ze))) ze) ze))))
    (zd (zAS (zCP (zH (zK (zBt (zl (i:=2) (by decide)) (zm (sc:=zT zDR) (N:=zGd) rfl rfl rfl (by decide +kernel) (by decide +kernel)) rfl (zA5 (zGl (zE (pv 0)) zGs (zGn ze))) ⟨fun _ _ _ _ _ => (zAL (i:=2) zB1.nd rfl),fun _ _ _ _ _ => (zGC (zTy (zRt rfl T.z_abs (zn (zE (pv 2)) zAE (zC rfl)) (zC rfl) rfl) (zRz ze ze))),fun _ _ _ _ _ => (zRt rfl T.z_abs (zn (zE (pv 2)) zAE (zC rfl)) (zC rfl) rfl)⟩)) (zH (zK (zE (pv 1))) zN (zC rfl)) (zC rfl))))))))
abbrev zLi : List Str:=["_law_state", "_law_many", "_law_digit"]
theorem zGZ : FnScope zLi ["_law_state", "_law_many"] (zT zFB):=⟨rfl,rfl,rfl,by decide +kernel,rfl,by decide +kernel,by decide +kernel⟩
theorem zw (T : Txt K mg) : Od P w base 1 T.d_law_next zh:=by
  unfold zh;exact zAd (n:=2) T.d_law_next.F zGZ rfl (fun cdv A outer s H E hr => by
    unfold zFC;exact (zR (zFX 100 zWQ (zQK (zJE (zMo hr.units0 (zBA (zE (pv 0)) ze) (zCP zN)) (zGq (zDQ hr.units0 (zBA (zBA (zE (pv 0)) ze) ze) ze)))) (zd (zC7 (zT2 (zBA (zE (pv 0)) ze) (zH (zK ze) zN (zC rfl))))))
    (zR (zEa (zMo hr.units0 (zBA (zE (pv 0)) ze) (zCP zN)) (zR (zAu (i:=2) zGZ.nd rfl (zFk (zBA (zBA (zE (pv 0)) ze) ze) (zE (pv 1))))
    (zR (zHd (zPE (zBA (zBA (zE (pv 0)) ze) ze) (zE (pv 1))) (zBA (zE (pv 0)) ze) ze)
    (zd (zAS (zE (pv 2)))))) zBf)
    (zR (zHd (zFk (zBp (zPn (zBA (zE (pv 0)) ze) ze) ze) ze) (zE (pv 0)) ze)
    (zd (zAS (zFk (zPE (zFk (zPn (zBA (zE (pv 0)) ze) (zBA (zE (pv 0)) ze)) ze) ze) (zE (pv 1)))))))))
abbrev zGX : List Str:=["_law_rooms_here", "_law_found", "_law_k", "_law_other"]
theorem zCd : FnScope zGX ["_law_rooms_here"] (zT zDH):=⟨rfl,rfl,rfl,by decide +kernel,rfl,by decide +kernel,by decide +kernel⟩
theorem zFT (T : Txt K mg) : Od P w base 1 T.d_law_pairs zAl:=by
  unfold zAl;exact zAd (n:=1) T.d_law_pairs.F zCd rfl (fun cdv A outer s H E hr => by
    unfold zEU;exact (zR (zAu (i:=1) zCd.nd rfl (zCP zN))
    (zR (zDc zA8 zWQ rfl (zAF rfl T.z_range (zH (zK (zDL rfl T.z_len (zn (zE (pv 0)) zAE (zC rfl)) (zC rfl) rfl)) zN (zC rfl)) (zG zO) (zAO rfl)) (zAL (i:=2) zCd.nd rfl) (zd (zC7 (zOQ (zE (pv 1)) (zH (zK (zBt (zl (i:=3) (by decide)) (zm (sc:=zT zDH) (N:=zGX) rfl rfl rfl (by decide +kernel) (by decide +kernel)) rfl (zA5 (zGl (zE (pv 0)) (zGn (zBp (zE (pv 2)) ze)) zGs)) ⟨fun _ _ _ _ _ => (zAL (i:=3) zCd.nd rfl),fun _ _ _ _ _ => zA4,fun _ _ _ _ _ => (zEG (zH (zK (zBA (zE (pv 0)) (zE (pv 2)))) (zH (zK (zE (pv 3))) zN (zC rfl)) (zC rfl)))⟩)) zN (zC rfl))))))
    (zd (zAS (zE (pv 1)))))))
abbrev zJ2 : List Str:=["_law_machine_here", "_law_pair", "_law_letter", "_law_one", "_law_other"]
theorem zDU : FnScope zJ2 ["_law_machine_here", "_law_pair", "_law_letter"] (zT zDm):=⟨rfl,rfl,rfl,by decide +kernel,rfl,by decide +kernel,by decide +kernel⟩
theorem zIF (T : Txt K mg) : Od P w base 1 T.d_law_behind zBE:=by
  unfold zBE;exact zFd (zAd (n:=3) T.d_law_behind.F zDU rfl (fun cdv A outer s H E hr => by
    unfold zDv;exact (zR (zAu (i:=3) zDU.nd rfl (zBA (zBA (zE (pv 0)) (zBA (zE (pv 1)) ze)) (zE (pv 2))))
    (zR (zAu (i:=4) zDU.nd rfl (zBA (zBA (zE (pv 0)) (zBA (zE (pv 1)) ze)) (zE (pv 2))))
    (zd (zAS (zEG (zH (zK (zSn rfl rfl T.z_min (zn (zE (pv 3)) (zn (zE (pv 4)) zAE (zC rfl)) (zC rfl)) (zC rfl) (zY rfl))) (zH (zK (zSH rfl rfl T.z_max (zn (zE (pv 3)) (zn (zE (pv 4)) zAE (zC rfl)) (zC rfl)) (zC rfl) (zY rfl))) zN (zC rfl)) (zC rfl)))))))))
abbrev zE0 : List Str:=["_law_machine_here", "_law_rooms_here", "_law_word", "_law_now", "_law_letter", "_law_room"]
theorem zBZ : FnScope zE0 ["_law_machine_here", "_law_rooms_here", "_law_word"] (zT zCN):=⟨rfl,rfl,rfl,by decide +kernel,rfl,by decide +kernel,by decide +kernel⟩
theorem zEV (T : Txt K mg) : Od P w base 1 T.d_law_brought zA3:=by
  unfold zA3;exact zMf (zAd (n:=3) T.d_law_brought.F zBZ rfl (fun cdv A outer s H E hr => by
    unfold zDW;exact (zR (zAu (i:=3) zBZ.nd rfl (zO7 rfl T.z_list (zn (zE (pv 1)) zAE (zC rfl)) (zC rfl) rfl))
    (zR (zDc zA8 zWQ rfl (zA5 (zE (pv 2))) (zAL (i:=4) zBZ.nd rfl) (zd (zCk (i:=3) zBZ.nd rfl (by first | exact Or.inl rfl | exact Or.inr rfl) (by first | exact .inl rfl | exact .inr rfl) rfl (zl (i:=5) (by decide)) (zm (sc:=zT zCN) (N:=zE0) rfl rfl rfl (by decide +kernel) (by decide +kernel)) rfl (zA5 (zE (pv 3))) ⟨fun _ _ _ _ _ => (zAL (i:=5) zBZ.nd rfl),fun _ _ _ _ _ => zA4,fun _ _ _ _ _ => (zBA (zBA (zE (pv 0)) (zE (pv 5))) (zE (pv 4)))⟩)))
    (zd (zAS (zDK rfl T.z_tuple (zn (zMY rfl rfl T.z_sorted (zRi rfl rfl T.z_set (zE (pv 3)) (zC rfl) rfl) (zC rfl) rfl) zAE (zC rfl)) (zC rfl) rfl)))))))
abbrev zPR : List Str:=["machine", "rooms", "word", "sets", "letter"]
theorem zF9 : FnScope zPR ["machine", "rooms", "word"] (zT zGx):=⟨rfl,rfl,rfl,by decide +kernel,rfl,by decide +kernel,by decide +kernel⟩
theorem zNf (T : Txt K mg) : Od P w base 2 T.d_walked zEb:=by
  unfold zEb;exact zFd (zAd (n:=3) T.d_walked.F zF9 rfl (fun cdv A outer s H E hr => by
    unfold zG0;exact (zR (zAu (i:=3) zF9.nd rfl (zCP (zH (zK (zE (pv 1))) zN (zC rfl))))
    (zR (zDc zA8 zWQ rfl (zA5 (zE (pv 2))) (zAL (i:=4) zF9.nd rfl) (zd (zC7 (zCW (zE (pv 3)) (zH (zK (zAn (zD6 T) (hr.mono (by omega)) rfl (zH (zK (zE (pv 0))) (zH (zK (zBA (zE (pv 3)) (zRw ze))) (zH (zK (zE (pv 4))) zN (zC rfl)) (zC rfl)) (zC rfl)) (zG (zG (zG zO))) (by decide) (zC rfl) (zY rfl))) zN (zC rfl))))))
    (zd (zAS (zDK rfl T.z_tuple (zn (zE (pv 3)) zAE (zC rfl)) (zC rfl) rfl)))))))
abbrev zK5 : List Str:=["machine", "sources", "pair", "letter", "goal"]
theorem zB2 : FnScope zK5 ["machine"] (zT zEc):=⟨rfl,rfl,rfl,by decide +kernel,rfl,by decide +kernel,by decide +kernel⟩
theorem zJc (T : Txt K mg) : Od P w base 2 T.d_ways_back zCV:=by
  unfold zCV;exact zAd (n:=1) T.d_ways_back.F zB2 rfl (fun cdv A outer s H E hr => by
    unfold zES;exact (zR (zAu (i:=1) zB2.nd rfl zJd)
    (zR (zDc zA8 zWQ rfl (zA5 (zAn (zEL T) (hr.mono (by omega)) rfl (zH (zK (zAn (zFh T) (hr.mono (by omega)) rfl (zH (zK (zE (pv 0))) zN (zC rfl)) (zG zO) (by decide) (zC rfl) (zY rfl))) zN (zC rfl)) (zG zO) (by decide) (zC rfl) (zY rfl))) (zAL (i:=2) zB2.nd rfl) (zd (zDc zA8 zWQ rfl (zAF rfl T.z_range (zH (zK (zDL rfl T.z_len (zn (zBA (zE (pv 0)) ze) zAE (zC rfl)) (zC rfl) rfl)) zN (zC rfl)) (zG zO) (zAO rfl)) (zAL (i:=3) zB2.nd rfl) (zR (zAu (i:=4) zB2.nd rfl (zAn (zD6 T) (hr.mono (by omega)) rfl (zH (zK (zE (pv 0))) (zH (zK (zE (pv 2))) (zH (zK (zE (pv 3))) zN (zC rfl)) (zC rfl)) (zC rfl)) (zG (zG (zG zO))) (by decide) (zC rfl) (zY rfl)))
    (zR (zEa (zEi (zBL hr) (zE (pv 4)) (zE (pv 1))) (zd (zJy (zBL hr) (zCP zN) (zE (pv 1)) (zE (pv 4)))) zBf)
    (zd (zC7 (zCW (zFE (zBL hr) (zE (pv 1)) (zE (pv 4))) (zH (zK (zE (pv 2))) zN (zC rfl))))))))))
    (zd (zAS (zE (pv 1)))))))
abbrev zCx : List Str:=["machine", "pair", "found", "goals", "letter", "goal"]
theorem zBM : FnScope zCx ["machine", "pair", "found"] (zT zBY):=⟨rfl,rfl,rfl,by decide +kernel,rfl,by decide +kernel,by decide +kernel⟩
theorem zGk (T : Txt K mg) : Od P w base 2 T.d_first_letter zAY:=by
  unfold zAY;exact zAd (n:=3) T.d_first_letter.F zBM rfl (fun cdv A outer s H E hr => by
    unfold zC3;exact (zR (zCk (i:=3) zBM.nd rfl (by first | exact Or.inl rfl | exact Or.inr rfl) (by first | exact .inl rfl | exact .inr rfl) rfl (zl (i:=4) (by decide)) (zm (sc:=zT zBY) (N:=zCx) rfl rfl rfl (by decide +kernel) (by decide +kernel)) rfl (zAF rfl T.z_range (zH (zK (zDL rfl T.z_len (zn (zBA (zE (pv 0)) ze) zAE (zC rfl)) (zC rfl) rfl)) zN (zC rfl)) (zG zO) (zAO rfl)) ⟨fun _ _ _ _ _ => (zAL (i:=4) zBM.nd rfl),fun _ _ _ _ _ => zA4,fun _ _ _ _ _ => (zAn (zD6 T) (hr.mono (by omega)) rfl (zH (zK (zE (pv 0))) (zH (zK (zE (pv 1))) (zH (zK (zE (pv 4))) zN (zC rfl)) (zC rfl)) (zC rfl)) (zG (zG (zG zO))) (by decide) (zC rfl) (zY rfl))⟩)
    (zd (zAS (zSi rfl rfl T.z_min (zn (zBt (zN9 (i:=4) (j:=5) (by decide) (by decide)) (zm (sc:=zT zBY) (N:=zCx) rfl rfl rfl (by decide +kernel) (by decide +kernel)) rfl (zRH rfl T.z_enumerate (zE (pv 3)) (zC rfl) rfl) ⟨fun _ _ _ _ _ => (zSy rfl (zK0 (zAL (i:=4) zBM.nd rfl) (zK0 (zAL (i:=5) zBM.nd rfl) zQy))),fun _ _ _ _ _ => (zGC (zQK (zJE (zLx (zBL hr) (zE (pv 5)) (zE (pv 2))) (zGq (zDQ hr.units0 (zFE (zBL hr) (zE (pv 2)) (zE (pv 5))) (zMg (zFE (zBL hr) (zE (pv 2)) (zE (pv 1))) ze)))))),fun _ _ _ _ _ => (zE (pv 4))⟩) zAE (zC rfl)) (zC rfl) rfl)))))
abbrev zNK : List Str:=["machine", "steps", "pair", "word", "here", "letter"]
theorem zC5 : FnScope zNK ["machine", "steps", "pair"] (zT zF5):=⟨rfl,rfl,rfl,by decide +kernel,rfl,by decide +kernel,by decide +kernel⟩
theorem zLo (T : Txt K mg) : Od P w base 2 T.d_climbed zDj:=by
  unfold zDj;exact zAd (n:=3) T.d_climbed.F zC5 rfl (fun cdv A outer s H E hr => by
    unfold zGE;exact (zR (zAu (i:=3) zC5.nd rfl (zCP zN))
    (zR (zAu (i:=4) zC5.nd rfl (zE (pv 2)))
    (zR (zFX 1000 zWQ (zLx (zBL hr) (zE (pv 4)) (zE (pv 1))) (zR (zAu (i:=5) zC5.nd rfl (zBA (zFE (zBL hr) (zE (pv 1)) (zE (pv 4))) ze))
    (zR (zC7 (zCW (zE (pv 3)) (zH (zK (zE (pv 5))) zN (zC rfl))))
    (zd (zAu (i:=4) zC5.nd rfl (zAn (zD6 T) (hr.mono (by omega)) rfl (zH (zK (zE (pv 0))) (zH (zK (zE (pv 4))) (zH (zK (zE (pv 5))) zN (zC rfl)) (zC rfl)) (zC rfl)) (zG (zG (zG zO))) (by decide) (zC rfl) (zY rfl)))))))
    (zd (zAS (zDK rfl T.z_tuple (zn (zE (pv 3)) zAE (zC rfl)) (zC rfl) rfl)))))))
abbrev zIZ : List Str:=["ways", "rooms", "found", "pair"]
theorem zFA : FnScope zIZ ["ways", "rooms"] (zT zEn):=⟨rfl,rfl,rfl,by decide +kernel,rfl,by decide +kernel,by decide +kernel⟩
theorem zHU (T : Txt K mg) : Od P w base 2 T.d_nearest zCp:=by
  unfold zCp;exact zAd (n:=2) T.d_nearest.F zFA rfl (fun cdv A outer s H E hr => by
    unfold zF8;exact (zR (zCk (i:=2) zFA.nd rfl (by first | exact Or.inl rfl | exact Or.inr rfl) (by first | exact .inl rfl | exact .inr rfl) rfl (zl (i:=3) (by decide)) (zm (sc:=zT zEn) (N:=zIZ) rfl rfl rfl (by decide +kernel) (by decide +kernel)) rfl (zA5 (zAn (zEL T) (hr.mono (by omega)) rfl (zH (zK (zE (pv 1))) zN (zC rfl)) (zG zO) (by decide) (zC rfl) (zY rfl))) ⟨fun _ _ _ _ _ => (zAL (i:=3) zFA.nd rfl),fun _ _ _ _ _ => (zGC (zLx (zBL hr) (zE (pv 3)) (zE (pv 0)))),fun _ _ _ _ _ => (zEG (zH (zK (zBA (zFE (zBL hr) (zE (pv 0)) (zE (pv 3))) ze)) (zH (zK (zE (pv 3))) zN (zC rfl)) (zC rfl)))⟩)
    (zd (zAS (zRU (zMn (zE (pv 2))) (zBA (zSJ rfl (zUO 3 (by decide) hr) rfl T.z_min (zn (zE (pv 2)) zAE (zC rfl)) (zC rfl) rfl) ze) zRu)))))
abbrev zKj : List Str:=["_law_state", "_law_many", "_law_order_here", "_law_k"]
theorem zDs : FnScope zKj ["_law_state", "_law_many"] (zT zEJ):=⟨rfl,rfl,rfl,by decide +kernel,rfl,by decide +kernel,by decide +kernel⟩
theorem zJq (T : Txt K mg) : Od P w base 2 T.d_law_order zCO:=by
  unfold zCO;exact zAd (n:=2) T.d_law_order.F zDs rfl (fun cdv A outer s H E hr => by
    unfold zEK;exact (zR (zAu (i:=2) zDs.nd rfl (zCP zN))
    (zR (zDc zA8 zWQ rfl (zAF rfl T.z_range (zH (zK (zE (pv 1))) zN (zC rfl)) (zG zO) (zAO rfl)) (zAL (i:=3) zDs.nd rfl) (zd (zC7 (zPD (zE (pv 2)) (zH (zK (zAn (zw T) (hr.mono (by omega)) rfl (zH (zK (zE (pv 0))) (zH (zK (zBp (zE (pv 3)) ze)) zN (zC rfl)) (zC rfl)) (zG (zG zO)) (by decide) (zC rfl) (zY rfl))) (zH (zK (zE (pv 3))) zN (zC rfl)) (zC rfl))))))
    (zd (zAS (zE (pv 2)))))))
abbrev zJl : List Str:=["_law_machine_here", "_law_ahead", "_law_front", "_law_joined_here", "_law_pair", "_law_letter", "_law_goal"]
theorem zAk : FnScope zJl ["_law_machine_here"] (zT zDr):=⟨rfl,rfl,rfl,by decide +kernel,rfl,by decide +kernel,by decide +kernel⟩
theorem zIH (T : Txt K mg) : Od P w base 2 T.d_law_joined zB7:=by
  unfold zB7;exact zAd (n:=1) T.d_law_joined.F zAk rfl (fun cdv A outer s H E hr => by
    unfold zD5;exact (zR (zAu (i:=1) zAk.nd rfl zJd)
    (zR (zAu (i:=2) zAk.nd rfl (zCP zN))
    (zR (zAu (i:=3) zAk.nd rfl zJd)
    (zR (zDc zA8 zWQ rfl (zA5 (zAn (zFT T) (hr.mono (by omega)) rfl (zH (zK (zSF rfl rfl T.z_list rfl T.z_range (zDL rfl T.z_len (zn (zE (pv 0)) zAE (zC rfl)) (zC rfl) rfl) (zC rfl) rfl (zC rfl) rfl)) zN (zC rfl)) (zG zO) (by decide) (zC rfl) (zY rfl))) (zAL (i:=4) zAk.nd rfl) (zd (zDc zA8 zWQ rfl (zAF rfl T.z_range (zH (zK (zDL rfl T.z_len (zn (zBA (zE (pv 0)) ze) zAE (zC rfl)) (zC rfl) rfl)) zN (zC rfl)) (zG zO) (zAO rfl)) (zAL (i:=5) zAk.nd rfl) (zR (zAu (i:=6) zAk.nd rfl (zAn (zIF T) (hr.mono (by omega)) rfl (zH (zK (zE (pv 0))) (zH (zK (zE (pv 4))) (zH (zK (zE (pv 5))) zN (zC rfl)) (zC rfl)) (zC rfl)) (zG (zG (zG zO))) (by decide) (zC rfl) (zY rfl)))
    (zd (zEa (zR7 (zBA (zE (pv 6)) ze) (zBA (zE (pv 6)) ze)) (zd (zC7 (zCW (zOa (zBL hr) (zE (pv 1)) (zE (pv 6)) (zCP zN) ⟨rfl,rfl,rfl,rfl⟩) (zH (zK (zE (pv 4))) zN (zC rfl))))) (zd (zEa (zEi (zBL hr) (zE (pv 4)) (zE (pv 3))) (zR (zJy (zBL hr) zO8 (zE (pv 3)) (zE (pv 4)))
    (zd (zC7 (zCW (zE (pv 2)) (zH (zK (zE (pv 4))) zN (zC rfl)))))) zBf))))))))
    (zR (zFX 1000 zWQ (zMo hr.units0 (zE (pv 2)) (zCP zN)) (zd (zDc zA8 zWQ rfl (zA5 (zJD (zBL hr) (zE (pv 1)) (zSs (zE (pv 2))) (zCP zN) ⟨rfl,rfl,rfl,rfl⟩)) (zAL (i:=4) zAk.nd rfl) (zd (zEa (zEi (zBL hr) (zE (pv 4)) (zE (pv 3))) (zR (zJy (zBL hr) zO8 (zE (pv 3)) (zE (pv 4)))
    (zd (zC7 (zCW (zE (pv 2)) (zH (zK (zE (pv 4))) zN (zC rfl)))))) zBf)))))
    (zd (zAS (zE (pv 3))))))))))
abbrev zGQ : List Str:=["_law_state", "_law_rooms_here", "_law_found", "_law_room"]
theorem zDu : FnScope zGQ ["_law_state", "_law_rooms_here"] (zT zDO):=⟨rfl,rfl,rfl,by decide +kernel,rfl,by decide +kernel,by decide +kernel⟩
theorem zJb (T : Txt K mg) : Od P w base 2 T.d_law_rooms zCR:=by
  unfold zCR;exact zAd (n:=2) T.d_law_rooms.F zDu rfl (fun cdv A outer s H E hr => by
    unfold zEM;exact (zR (zEa (zDQ hr.units0 (zAn (zw T) (hr.mono (by omega)) rfl (zH (zK (zE (pv 0))) (zH (zK ze) zN (zC rfl)) (zC rfl)) (zG (zG zO)) (by decide) (zC rfl) (zY rfl)) ze) (zd (zAS (zPK rfl rfl T.z_tuple rfl T.z_range (zE (pv 1)) (zC rfl) rfl (zC rfl) rfl))) zBf)
    (zR (zAu (i:=2) zDu.nd rfl (zDK rfl T.z_tuple (zn (zBt (zl (i:=3) (by decide)) (zm (sc:=zT zDO) (N:=zGQ) rfl rfl rfl (by decide +kernel) (by decide +kernel)) rfl (zAF rfl T.z_range (zH (zK (zE (pv 1))) zN (zC rfl)) (zG zO) (zAO rfl)) ⟨fun _ _ _ _ _ => (zAL (i:=3) zDu.nd rfl),fun _ _ _ _ _ => (zGC (zDQ hr.units0 (zAn (zw T) (hr.mono (by omega)) rfl (zH (zK (zE (pv 0))) (zH (zK ze) zN (zC rfl)) (zC rfl)) (zG (zG zO)) (by decide) (zC rfl) (zY rfl)) ze)),fun _ _ _ _ _ => (zE (pv 3))⟩) zAE (zC rfl)) (zC rfl) rfl))
    (zR (zEa (zRo hr.units0 (zE (pv 2)) (zEG zN)) (zd (zAS (zEG (zH (zK (zAn (zw T) (hr.mono (by omega)) rfl (zH (zK (zE (pv 0))) (zH (zK (zE (pv 1))) zN (zC rfl)) (zC rfl)) (zG (zG zO)) (by decide) (zC rfl) (zY rfl))) zN (zC rfl))))) zBf)
    (zd (zAS (zE (pv 2))))))))
abbrev zNh : List Str:=["machine", "rooms", "word"]
theorem zL8 : FnScope zNh ["machine", "rooms", "word"] (zT zGK):=⟨rfl,rfl,rfl,by decide +kernel,rfl,by decide +kernel,by decide +kernel⟩
theorem zLU (T : Txt K mg) : Od P w base 3 T.d_brought zDe:=by
  unfold zDe;exact zFd (zAd (n:=3) T.d_brought.F zL8 rfl (fun cdv A outer s H E hr => by
    unfold zGB;exact (zd (zAS (zBA (zAn (zNf T) (hr.mono (by omega)) rfl (zH (zK (zE (pv 0))) (zH (zK (zE (pv 1))) (zH (zK (zE (pv 2))) zN (zC rfl)) (zC rfl)) (zC rfl)) (zG (zG (zG zO))) (by decide) (zC rfl) (zY rfl)) (zRw ze))))))
abbrev zFV : List Str:=["machine", "goals", "sources", "level", "found", "goal", "behind", "pair"]
theorem zAV : FnScope zFV ["machine", "goals"] (zT zCh):=⟨rfl,rfl,rfl,by decide +kernel,rfl,by decide +kernel,by decide +kernel⟩
theorem zIA (T : Txt K mg) : Od P w base 3 T.d_lengths_to zB8:=by
  unfold zB8;exact zAd (n:=2) T.d_lengths_to.F zAV rfl (fun cdv A outer s H E hr => by
    unfold zDp;exact (zR (zAu (i:=2) zAV.nd rfl (zAn (zJc T) (hr.mono (by omega)) rfl (zH (zK (zE (pv 0))) zN (zC rfl)) (zG zO) (by decide) (zC rfl) (zY rfl)))
    (zR (zAu (i:=3) zAV.nd rfl (zE (pv 1)))
    (zR (zL6 (i:=4) (isT:=true) zAV.nd rfl (by first | exact Or.inl rfl | exact Or.inr rfl) (by first | exact .inl rfl | exact .inr rfl) rfl (zBL hr) (zl (i:=5) (by decide)) (zm (sc:=zT zCh) (N:=zFV) rfl rfl rfl (by decide +kernel) (by decide +kernel)) rfl (zA5 (zE (pv 1))) ⟨fun _ _ _ _ _ => (zAL (i:=5) zAV.nd rfl),fun _ _ _ _ _ => zA4,fun _ _ _ _ _ => (zE (pv 5))⟩ (fun _ _ _ _ _ => ze))
    (zR (zFX 1000 zWQ (zMn (zE (pv 3))) (zR (zAu (i:=6) zAV.nd rfl (zCP zN))
    (zR (zDc zA8 zWQ rfl (zA5 (zE (pv 3))) (zAL (i:=5) zAV.nd rfl) (zd (zDc zA8 zWQ rfl (zA5 (zJD (zBL hr) (zE (pv 2)) (zE (pv 5)) (zCP zN) ⟨rfl,rfl,rfl,rfl⟩)) (zAL (i:=7) zAV.nd rfl) (zd (zEa (zEi (zBL hr) (zE (pv 7)) (zE (pv 4))) (zR (zJy (zBL hr) (zBp (zFE (zBL hr) (zE (pv 4)) (zE (pv 5))) ze) (zE (pv 4)) (zE (pv 7)))
    (zd (zC7 (zCW (zE (pv 6)) (zH (zK (zE (pv 7))) zN (zC rfl)))))) zBf)))))
    (zd (zAu (i:=3) zAV.nd rfl (zE (pv 6)))))))
    (zd (zAS (zE (pv 4)))))))))
abbrev zE3 : List Str:=["machine", "found", "pairs", "pair"]
theorem zDI : FnScope zE3 ["machine", "found"] (zT zCz):=⟨rfl,rfl,rfl,by decide +kernel,rfl,by decide +kernel,by decide +kernel⟩
theorem zKb (T : Txt K mg) : Od P w base 3 T.d_rungs_to zCD:=by
  unfold zCD;exact zAd (n:=2) T.d_rungs_to.F zDI rfl (fun cdv A outer s H E hr => by
    unfold zE5;exact (zR (zCk (i:=2) zDI.nd rfl (by first | exact Or.inl rfl | exact Or.inr rfl) (by first | exact .inl rfl | exact .inr rfl) rfl (zl (i:=3) (by decide)) (zm (sc:=zT zCz) (N:=zE3) rfl rfl rfl (by decide +kernel) (by decide +kernel)) rfl (zA5 (zAn (zEL T) (hr.mono (by omega)) rfl (zH (zK (zAn (zFh T) (hr.mono (by omega)) rfl (zH (zK (zE (pv 0))) zN (zC rfl)) (zG zO) (by decide) (zC rfl) (zY rfl))) zN (zC rfl)) (zG zO) (by decide) (zC rfl) (zY rfl))) ⟨fun _ _ _ _ _ => (zAL (i:=3) zDI.nd rfl),fun _ _ _ _ _ => (zGC (zTo (zJD (zBL hr) (zE (pv 1)) (zE (pv 3)) ze ⟨rfl,rfl,rfl,rfl⟩) ze)),fun _ _ _ _ _ => (zE (pv 3))⟩)
    (zd (zAS (zRC (isT:=true) (zBL hr) (zl (i:=3) (by decide)) (zm (sc:=zT zCz) (N:=zE3) rfl rfl rfl (by decide +kernel) (by decide +kernel)) rfl (zA5 (zE (pv 2))) ⟨fun _ _ _ _ _ => (zAL (i:=3) zDI.nd rfl),fun _ _ _ _ _ => zA4,fun _ _ _ _ _ => (zE (pv 3))⟩ (fun _ _ _ _ _ => (zEG (zH (zK (zFE (zBL hr) (zE (pv 1)) (zE (pv 3)))) (zH (zK (zAn (zGk T) (hr.mono (by omega)) rfl (zH (zK (zE (pv 0))) (zH (zK (zE (pv 3))) (zH (zK (zE (pv 1))) zN (zC rfl)) (zC rfl)) (zC rfl)) (zG (zG (zG zO))) (by decide) (zC rfl) (zY rfl))) zN (zC rfl)) (zC rfl)))))))))
abbrev zAw : List Str:=["_law_state", "_law_family", "_law_rooms_here", "_law_letter", "_law_room", "_law_half", "_law_ahead", "_law_far", "_law_order_here", "_law_goal"]
theorem zv : FnScope zAw ["_law_state", "_law_family", "_law_rooms_here", "_law_letter"] (zT zAX):=⟨rfl,rfl,rfl,by decide +kernel,rfl,by decide +kernel,by decide +kernel⟩
theorem zIE (T : Txt K mg) : Od P w base 3 T.d_law_column zCA:=by
  unfold zCA;exact zAd (n:=4) T.d_law_column.F zv rfl (fun cdv A outer s H E hr => by
    unfold zDw;exact (zR (zEa (zDQ hr.units0 (zE (pv 1)) ze) (zd (zAS (zBt (zl (i:=4) (by decide)) (zm (sc:=zT zAX) (N:=zAw) rfl rfl rfl (by decide +kernel) (by decide +kernel)) rfl (zAF rfl T.z_range (zH (zK (zE (pv 2))) zN (zC rfl)) (zG zO) (zAO rfl)) ⟨fun _ _ _ _ _ => (zAL (i:=4) zv.nd rfl),fun _ _ _ _ _ => zA4,fun _ _ _ _ _ => (zAn (zw T) (hr.mono (by omega)) rfl (zH (zK (zE (pv 0))) (zH (zK (zE (pv 2))) zN (zC rfl)) (zC rfl)) (zG (zG zO)) (by decide) (zC rfl) (zY rfl))⟩))) zBf)
    (zR (zEa (zDQ hr.units0 (zE (pv 1)) ze) (zd (zAS (zBt (zl (i:=4) (by decide)) (zm (sc:=zT zAX) (N:=zAw) rfl rfl rfl (by decide +kernel) (by decide +kernel)) rfl (zAF rfl T.z_range (zH (zK (zE (pv 2))) zN (zC rfl)) (zG zO) (zAO rfl)) ⟨fun _ _ _ _ _ => (zAL (i:=4) zv.nd rfl),fun _ _ _ _ _ => zA4,fun _ _ _ _ _ => (zFk (zBp (zE (pv 4)) (zAn (zw T) (hr.mono (by omega)) rfl (zH (zK (zE (pv 0))) (zH (zK ze) zN (zC rfl)) (zC rfl)) (zG (zG zO)) (by decide) (zC rfl) (zY rfl))) (zE (pv 2)))⟩))) zBf)
    (zR (zEa (zDQ hr.units0 (zE (pv 1)) ze) (zR (zAu (i:=5) zv.nd rfl (zPE (zBp (zE (pv 2)) ze) ze))
    (zR (zCk (i:=6) zv.nd rfl (by first | exact Or.inl rfl | exact Or.inr rfl) (by first | exact .inl rfl | exact .inr rfl) rfl (zl (i:=4) (by decide)) (zm (sc:=zT zAX) (N:=zAw) rfl rfl rfl (by decide +kernel) (by decide +kernel)) rfl (zAF rfl T.z_range (zH (zK (zE (pv 5))) zN (zC rfl)) (zG zO) (zAO rfl)) ⟨fun _ _ _ _ _ => (zAL (i:=4) zv.nd rfl),fun _ _ _ _ _ => zA4,fun _ _ _ _ _ => (zAn (zw T) (hr.mono (by omega)) rfl (zH (zK (zE (pv 0))) (zH (zK (zE (pv 5))) zN (zC rfl)) (zC rfl)) (zG (zG zO)) (by decide) (zC rfl) (zY rfl))⟩)
    (zd (zAS (zSP (zE (pv 6)) (zBt (zl (i:=4) (by decide)) (zm (sc:=zT zAX) (N:=zAw) rfl rfl rfl (by decide +kernel) (by decide +kernel)) rfl (zAF rfl T.z_range (zH (zK (zMg (zE (pv 2)) (zE (pv 5)))) zN (zC rfl)) (zG zO) (zAO rfl)) ⟨fun _ _ _ _ _ => (zAL (i:=4) zv.nd rfl),fun _ _ _ _ _ => zA4,fun _ _ _ _ _ => (zBp (zE (pv 5)) (zAn (zw T) (hr.mono (by omega)) rfl (zH (zK (zE (pv 0))) (zH (zK (zMg (zE (pv 2)) (zE (pv 5)))) zN (zC rfl)) (zC rfl)) (zG (zG zO)) (by decide) (zC rfl) (zY rfl)))⟩)))))) zBf)
    (zR (zEa (zQK (zJE (zDQ hr.units0 (zE (pv 1)) ze) (zGq (zDQ hr.units0 (zE (pv 3)) ze)))) (zd (zAS (zBt (zl (i:=4) (by decide)) (zm (sc:=zT zAX) (N:=zAw) rfl rfl rfl (by decide +kernel) (by decide +kernel)) rfl (zAF rfl T.z_range (zH (zK (zE (pv 2))) zN (zC rfl)) (zG zO) (zAO rfl)) ⟨fun _ _ _ _ _ => (zAL (i:=4) zv.nd rfl),fun _ _ _ _ _ => zA4,fun _ _ _ _ _ => (zFk (zBp (zE (pv 4)) ze) (zE (pv 2)))⟩))) zBf)
    (zR (zEa (zDQ hr.units0 (zE (pv 1)) ze) (zd (zAS (zBt (zl (i:=4) (by decide)) (zm (sc:=zT zAX) (N:=zAw) rfl rfl rfl (by decide +kernel) (by decide +kernel)) rfl (zAF rfl T.z_range (zH (zK (zE (pv 2))) zN (zC rfl)) (zG zO) (zAO rfl)) ⟨fun _ _ _ _ _ => (zAL (i:=4) zv.nd rfl),fun _ _ _ _ _ => zA4,fun _ _ _ _ _ => (zBA (zCP (zH (zK (zE (pv 4))) (zH (zK ze) zN (zC rfl)) (zC rfl))) (zOw rfl T.z_int (zn (zTr hr.units0 (zE (pv 4)) (zMg (zE (pv 2)) ze)) zAE (zC rfl)) (zC rfl) rfl))⟩))) zBf)
    (zR (zEa (zQK (zTx (zDQ hr.units0 (zE (pv 1)) ze) (zSN (zDQ hr.units0 (zE (pv 1)) ze)))) (zR (zAu (i:=7) zv.nd rfl (zAn (zw T) (hr.mono (by omega)) rfl (zH (zK (zE (pv 0))) (zH (zK (zE (pv 2))) zN (zC rfl)) (zC rfl)) (zG (zG zO)) (by decide) (zC rfl) (zY rfl)))
    (zd (zAS (zBt (zl (i:=4) (by decide)) (zm (sc:=zT zAX) (N:=zAw) rfl rfl rfl (by decide +kernel) (by decide +kernel)) rfl (zAF rfl T.z_range (zH (zK (zE (pv 2))) zN (zC rfl)) (zG zO) (zAO rfl)) ⟨fun _ _ _ _ _ => (zAL (i:=4) zv.nd rfl),fun _ _ _ _ _ => zA4,fun _ _ _ _ _ => (zBA (zCP (zH (zK (zFk (zBp (zE (pv 4)) (zE (pv 7))) (zE (pv 2)))) (zH (zK (zE (pv 7))) zN (zC rfl)) (zC rfl))) (zOw rfl T.z_int (zn (zTr hr.units0 (zE (pv 1)) ze) zAE (zC rfl)) (zC rfl) rfl))⟩)))) zBf)
    (zR (zAu (i:=8) zv.nd rfl (zAn (zJq T) (hr.mono (by omega)) rfl (zH (zK (zE (pv 0))) (zH (zK (zE (pv 2))) zN (zC rfl)) (zC rfl)) (zG (zG zO)) (by decide) (zC rfl) (zY rfl)))
    (zR (zEa (zQK (zJE (zDQ hr.units0 (zE (pv 1)) ze) (zGq (zDQ hr.units0 (zE (pv 3)) ze)))) (zR (zAu (i:=9) zv.nd rfl (zBA (zE (pv 8)) (zAn (zw T) (hr.mono (by omega)) rfl (zH (zK (zE (pv 0))) (zH (zK (zE (pv 2))) zN (zC rfl)) (zC rfl)) (zG (zG zO)) (by decide) (zC rfl) (zY rfl))))
    (zd (zHd (zE (pv 9)) (zE (pv 8)) (zAn (zw T) (hr.mono (by omega)) rfl (zH (zK (zE (pv 0))) (zH (zK (zE (pv 2))) zN (zC rfl)) (zC rfl)) (zG (zG zO)) (by decide) (zC rfl) (zY rfl))))) zBf)
    (zd (zAS (zE (pv 8)))))))))))))
abbrev zI1 : List Str:=["machine", "room"]
theorem zHg : FnScope zI1 ["machine"] (zT zEt):=⟨rfl,rfl,rfl,by decide +kernel,rfl,by decide +kernel,by decide +kernel⟩
theorem zMJ (T : Txt K mg) : Od P w base 4 T.d_lengths zCm:=by
  unfold zCm;exact zAd (n:=1) T.d_lengths.F zHg rfl (fun cdv A outer s H E hr => by
    unfold zGG;exact (zd (zAS (zAn (zIA T) (hr.mono (by omega)) rfl (zH (zK (zE (pv 0))) (zH (zK (zBt (zl (i:=1) (by decide)) (zm (sc:=zT zEt) (N:=zI1) rfl rfl rfl (by decide +kernel) (by decide +kernel)) rfl (zAF rfl T.z_range (zH (zK (zDL rfl T.z_len (zn (zE (pv 0)) zAE (zC rfl)) (zC rfl) rfl)) zN (zC rfl)) (zG zO) (zAO rfl)) ⟨fun _ _ _ _ _ => (zAL (i:=1) zHg.nd rfl),fun _ _ _ _ _ => zA4,fun _ _ _ _ _ => (zEG (zH (zK (zE (pv 1))) zN (zC rfl)))⟩)) zN (zC rfl)) (zC rfl)) (zG (zG zO)) (by decide) (zC rfl) (zY rfl)))))
abbrev zCJ : List Str:=["_law_state", "_law_rooms_here", "_law_letters", "_law_family", "_law_columns", "_law_letter", "_law_column_here", "_law_room"]
theorem zA6 : FnScope zCJ ["_law_state", "_law_rooms_here", "_law_letters"] (zT zBk):=⟨rfl,rfl,rfl,by decide +kernel,rfl,by decide +kernel,by decide +kernel⟩
theorem zHz (T : Txt K mg) : Od P w base 4 T.d_law_machine zBP:=by
  unfold zBP;exact zMf (zAd (n:=3) T.d_law_machine.F zA6 rfl (fun cdv A outer s H E hr => by
    unfold zDZ;exact (zR (zAu (i:=3) zA6.nd rfl (zAn (zw T) (hr.mono (by omega)) rfl (zH (zK (zE (pv 0))) (zH (zK ze) zN (zC rfl)) (zC rfl)) (zG (zG zO)) (by decide) (zC rfl) (zY rfl)))
    (zR (zAu (i:=4) zA6.nd rfl (zBt (zl (i:=5) (by decide)) (zm (sc:=zT zBk) (N:=zCJ) rfl rfl rfl (by decide +kernel) (by decide +kernel)) rfl (zAF rfl T.z_range (zH (zK (zE (pv 2))) zN (zC rfl)) (zG zO) (zAO rfl)) ⟨fun _ _ _ _ _ => (zAL (i:=5) zA6.nd rfl),fun _ _ _ _ _ => zA4,fun _ _ _ _ _ => (zAn (zIE T) (hr.mono (by omega)) rfl (zH (zK (zE (pv 0))) (zH (zK (zE (pv 3))) (zH (zK (zE (pv 1))) (zH (zK (zE (pv 5))) zN (zC rfl)) (zC rfl)) (zC rfl)) (zC rfl)) (zG (zG (zG (zG zO)))) (by decide) (zC rfl) (zY rfl))⟩))
    (zd (zAS (zDK rfl T.z_tuple (zn (zBt (zl (i:=7) (by decide)) (zm (sc:=zT zBk) (N:=zCJ) rfl rfl rfl (by decide +kernel) (by decide +kernel)) rfl (zAF rfl T.z_range (zH (zK (zE (pv 1))) zN (zC rfl)) (zG zO) (zAO rfl)) ⟨fun _ _ _ _ _ => (zAL (i:=7) zA6.nd rfl),fun _ _ _ _ _ => zA4,fun _ _ _ _ _ => (zDK rfl T.z_tuple (zn (zBt (zl (i:=6) (by decide)) (zm (N:=zCJ) rfl rfl rfl (by rfl) (by decide +kernel)) rfl (zA5 (zE (pv 4))) ⟨fun _ _ _ _ _ => (zAL (i:=6) zA6.nd rfl),fun _ _ _ _ _ => zA4,fun _ _ _ _ _ => (zBA (zE (pv 6)) (zE (pv 7)))⟩) zAE (zC rfl)) (zC rfl) rfl)⟩) zAE (zC rfl)) (zC rfl) rfl)))))))
abbrev zQz : List Str:=["machine"]
theorem zPh : FnScope zQz ["machine"] (zT zJB):=⟨rfl,rfl,rfl,by decide +kernel,rfl,by decide +kernel,by decide +kernel⟩
theorem zO5 (T : Txt K mg) : Od P w base 5 T.d_rungs zFv:=by
  unfold zFv;exact zAd (n:=1) T.d_rungs.F zPh rfl (fun cdv A outer s H E hr => by
    unfold zJx;exact (zd (zAS (zAn (zKb T) (hr.mono (by omega)) rfl (zH (zK (zE (pv 0))) (zH (zK (zAn (zMJ T) (hr.mono (by omega)) rfl (zH (zK (zE (pv 0))) zN (zC rfl)) (zG zO) (by decide) (zC rfl) (zY rfl))) zN (zC rfl)) (zC rfl)) (zG (zG zO)) (by decide) (zC rfl) (zY rfl)))))
abbrev zQq : List Str:=["machine", "rooms", "ways", "here", "word", "steps", "pair", "part"]
theorem zBi : FnScope zQq ["machine", "rooms"] (zT zJ7):=⟨rfl,rfl,rfl,by decide +kernel,rfl,by decide +kernel,by decide +kernel⟩
theorem zPk (T : Txt K mg) : Od P w base 6 T.d_quick zFm:=by
  unfold zFm;exact zFd (zAd (n:=2) T.d_quick.F zBi rfl (fun cdv A outer s H E hr => by
    unfold zJr;exact (zR (zAu (i:=2) zBi.nd rfl (zAn (zO5 T) (hr.mono (by omega)) rfl (zH (zK (zE (pv 0))) zN (zC rfl)) (zG zO) (by decide) (zC rfl) (zY rfl)))
    (zR (zAu (i:=3) zBi.nd rfl (zE (pv 1)))
    (zR (zAu (i:=4) zBi.nd rfl (zEG zN))
    (zR (zAu (i:=5) zBi.nd rfl (zCP zN))
    (zR (zAu (i:=6) zBi.nd rfl (zAn (zHU T) (hr.mono (by omega)) rfl (zH (zK (zE (pv 2))) (zH (zK (zE (pv 3))) zN (zC rfl)) (zC rfl)) (zG (zG zO)) (by decide) (zC rfl) (zY rfl)))
    (zR (zFX 100 zWQ (zQZ (zE (pv 6)) zRu) (zR (zAu (i:=7) zBi.nd rfl (zAn (zLo T) (hr.mono (by omega)) rfl (zH (zK (zE (pv 0))) (zH (zK (zE (pv 2))) (zH (zK (zE (pv 6))) zN (zC rfl)) (zC rfl)) (zC rfl)) (zG (zG (zG zO))) (by decide) (zC rfl) (zY rfl)))
    (zR (zAu (i:=3) zBi.nd rfl (zAn (zLU T) (hr.mono (by omega)) rfl (zH (zK (zE (pv 0))) (zH (zK (zE (pv 3))) (zH (zK (zE (pv 7))) zN (zC rfl)) (zC rfl)) (zC rfl)) (zG (zG (zG zO))) (by decide) (zC rfl) (zY rfl)))
    (zR (zAu (i:=4) zBi.nd rfl (zBp (zE (pv 4)) (zE (pv 7))))
    (zR (zC7 (zCW (zE (pv 5)) (zH (zK (zEG (zH (zK (zE (pv 6))) (zH (zK (zDL rfl T.z_len (zn (zE (pv 4)) zAE (zC rfl)) (zC rfl) rfl)) zN (zC rfl)) (zC rfl)))) zN (zC rfl))))
    (zd (zAu (i:=6) zBi.nd rfl (zAn (zHU T) (hr.mono (by omega)) rfl (zH (zK (zE (pv 2))) (zH (zK (zE (pv 3))) zN (zC rfl)) (zC rfl)) (zG (zG zO)) (by decide) (zC rfl) (zY rfl)))))))))
    (zd (zAS (zEG (zH (zK (zE (pv 4))) (zH (zK (zDK rfl T.z_tuple (zn (zE (pv 5)) zAE (zC rfl)) (zC rfl) rfl)) zN (zC rfl)) (zC rfl)))))))))))))
abbrev zPV : List Str:=["_law_script", "_law_state", "_law_machine_here", "_law_joined_here", "_law_rooms_here", "_law_left", "_law_pair", "_law_turn", "_law_word", "_law_k"]
theorem zDT : FnScope zPV ["_law_script"] (zT zKd):=⟨rfl,rfl,rfl,by decide +kernel,rfl,by decide +kernel,by decide +kernel⟩
theorem zSu (T : Txt K mg) : Od P w base 7 T.d_law zGR:=by
  unfold zGR;exact zAd (n:=1) T.d_law.F zDT rfl (fun cdv A outer s H E hr => by
    unfold zPr;exact (zR (zAu (i:=1) zDT.nd rfl (zAn (zJY T) (hr.mono (by omega)) rfl (zH (zK (zE (pv 0))) zN (zC rfl)) (zG zO) (by decide) (zC rfl) (zY rfl)))
    (zR (zAu (i:=2) zDT.nd rfl (zAn (zHz T) (hr.mono (by omega)) rfl (zH (zK (zE (pv 1))) (zH (zK (zBp ze (zAn (zw T) (hr.mono (by omega)) rfl (zH (zK (zE (pv 1))) (zH (zK ze) zN (zC rfl)) (zC rfl)) (zG (zG zO)) (by decide) (zC rfl) (zY rfl)))) (zH (zK (zBp ze (zAn (zw T) (hr.mono (by omega)) rfl (zH (zK (zE (pv 1))) (zH (zK ze) zN (zC rfl)) (zC rfl)) (zG (zG zO)) (by decide) (zC rfl) (zY rfl)))) zN (zC rfl)) (zC rfl)) (zC rfl)) (zG (zG (zG zO))) (by decide) (zC rfl) (zY rfl)))
    (zR (zAu (i:=3) zDT.nd rfl (zAn (zIH T) (hr.mono (by omega)) rfl (zH (zK (zE (pv 2))) zN (zC rfl)) (zG zO) (by decide) (zC rfl) (zY rfl)))
    (zR (zAu (i:=4) zDT.nd rfl (zAn (zJb T) (hr.mono (by omega)) rfl (zH (zK (zE (pv 1))) (zH (zK (zDL rfl T.z_len (zn (zE (pv 2)) zAE (zC rfl)) (zC rfl) rfl)) zN (zC rfl)) (zC rfl)) (zG (zG zO)) (by decide) (zC rfl) (zY rfl)))
    (zR (zAu (i:=5) zDT.nd rfl (zAn (zEV T) (hr.mono (by omega)) rfl (zH (zK (zE (pv 2))) (zH (zK (zE (pv 4))) (zH (zK (zBA (zAn (zPk T) (hr.mono (by omega)) rfl (zH (zK (zE (pv 2))) (zH (zK (zE (pv 4))) zN (zC rfl)) (zC rfl)) (zG (zG zO)) (by decide) (zC rfl) (zY rfl)) ze)) zN (zC rfl)) (zC rfl)) (zC rfl)) (zG (zG (zG zO))) (by decide) (zC rfl) (zY rfl)))
    (zR (zEa (zSC (zTY rfl rfl T.z_any (zn (zBt (zl (i:=6) (by decide)) (zm (sc:=zT zKd) (N:=zPV) rfl rfl rfl (by decide +kernel) (by decide +kernel)) rfl (zA5 (zAn (zFT T) (hr.mono (by omega)) rfl (zH (zK (zO7 rfl T.z_list (zn (zE (pv 5)) zAE (zC rfl)) (zC rfl) rfl)) zN (zC rfl)) (zG zO) (by decide) (zC rfl) (zY rfl))) ⟨fun _ _ _ _ _ => (zAL (i:=6) zDT.nd rfl),fun _ _ _ _ _ => zA4,fun _ _ _ _ _ => (zUF (zBL hr) (zE (pv 6)) (zE (pv 3)))⟩) zAE (zC rfl)) (zC rfl) rfl)) (zd (zAS zO8)) zBf)
    (zR (zDc zA8 zWQ rfl (zAF rfl T.z_range (zH (zK (zDL rfl T.z_len (zn (zGl (zE (pv 0)) zGs (zGn ze)) zAE (zC rfl)) (zC rfl) rfl)) zN (zC rfl)) (zG zO) (zAO rfl)) (zAL (i:=7) zDT.nd rfl) (zR (zCk (i:=8) zDT.nd rfl (by first | exact Or.inl rfl | exact Or.inr rfl) (by first | exact .inl rfl | exact .inr rfl) rfl (zl (i:=9) (by decide)) (zm (sc:=zT zKd) (N:=zPV) rfl rfl rfl (by decide +kernel) (by decide +kernel)) rfl (zAF rfl T.z_range (zH (zK (zAn (zw T) (hr.mono (by omega)) rfl (zH (zK (zE (pv 1))) (zH (zK ze) zN (zC rfl)) (zC rfl)) (zG (zG zO)) (by decide) (zC rfl) (zY rfl))) zN (zC rfl)) (zG zO) (zAO rfl)) ⟨fun _ _ _ _ _ => (zAL (i:=9) zDT.nd rfl),fun _ _ _ _ _ => zA4,fun _ _ _ _ _ => (zAn (zw T) (hr.mono (by omega)) rfl (zH (zK (zE (pv 1))) (zH (zK (zDL rfl T.z_len (zn (zBA (zE (pv 2)) ze) zAE (zC rfl)) (zC rfl) rfl)) zN (zC rfl)) (zC rfl)) (zG (zG zO)) (by decide) (zC rfl) (zY rfl))⟩)
    (zd (zEa (zMo hr.units0 (zDL rfl T.z_len (zn (zAn (zEV T) (hr.mono (by omega)) rfl (zH (zK (zE (pv 2))) (zH (zK (zE (pv 5))) (zH (zK (zE (pv 8))) zN (zC rfl)) (zC rfl)) (zC rfl)) (zG (zG (zG zO))) (by decide) (zC rfl) (zY rfl)) zAE (zC rfl)) (zC rfl) rfl) (zDL rfl T.z_len (zn (zE (pv 5)) zAE (zC rfl)) (zC rfl) rfl)) (zd (zAS zO8)) zBf))))
    (zd (zAS zO8))))))))))
end
theorem zTL {l : PySem.W.OpenLaw} {w : World} {K : PySem.W.Frag} {h : Heap} {mg : Str -> Option Value} {fa : Addr} (X : K.In h) (G : h.Ns mainGlobals mg) (hfa : mg "law" = some (.ref fa))
    (g1 : Dg K "all_rooms" zEW) (g2 : Dg K "stepped" zEl) (g3 : Dg K "walked" zGx) (g4 : Dg K "brought" zGK) (g5 : Dg K "pairs_of" zDt) (g6 : Dg K "ways_back" zEc) (g7 : Dg K "lengths_to" zCh) (g8 : Dg K "lengths" zEt) (g9 : Dg K "first_letter" zBY) (g10 : Dg K "rungs_to" zCz) (g11 : Dg K "rungs" zJB) (g12 : Dg K "climbed" zF5) (g13 : Dg K "nearest" zEn) (g14 : Dg K "quick" zJ7) (g15 : Dg K "_law_begin" zDR) (g16 : Dg K "_law_next" zFB) (g17 : Dg K "_law_order" zEJ) (g18 : Dg K "_law_column" zAX) (g19 : Dg K "_law_machine" zBk) (g20 : Dg K "_law_pairs" zDH) (g21 : Dg K "_law_behind" zDm) (g22 : Dg K "_law_joined" zDr) (g23 : Dg K "_law_rooms" zDO) (g24 : Dg K "_law_brought" zCN) (g25 : Dg K "law" zKd) (z1 : Zn K "tuple") (z2 : Zn K "range") (z3 : Zn K "len") (z4 : Zn K "sorted") (z5 : Zn K "min") (z6 : Zn K "enumerate") (z7 : Zn K "abs") (z8 : Zn K "int") (z9 : Zn K "max") (z10 : Zn K "list") (z11 : Zn K "set") (z12 : Zn K "any") :
    ∃ fd : FuncData,(∀ (s : Shared) (v : Value),BindsTo s fd ⟨[v],[]⟩ [("_law_script", v)]) /\ ∀ base : Heap,K.In base -> base.Ns mainGlobals mg -> FnOk l.prog w K mg base CX0 7 fa fd ["_law_script"] (spF K 1 zGR):=by
  have e:=hfa.symm.trans (PySem.W.mg_of X G g25.a);cases e;let T : Txt K mg:=⟨g1.df X G fun _ _ _ _ _ _ => zJL fun _ => rfl,g2.df X G fun _ _ _ _ _ _ => zKl fun _ _ _ => rfl,g3.df X G fun _ _ _ _ _ _ => zKl fun _ _ _ => rfl,g4.df X G fun _ _ _ _ _ _ => zKl fun _ _ _ => rfl,g5.df X G fun _ _ _ _ _ _ => zJL fun _ => rfl,g6.df X G fun _ _ _ _ _ _ => zJL fun _ => rfl,g7.df X G fun _ _ _ _ _ _ => zLy fun _ _ => rfl,g8.df X G fun _ _ _ _ _ _ => zJL fun _ => rfl,g9.df X G fun _ _ _ _ _ _ => zKl fun _ _ _ => rfl,g10.df X G fun _ _ _ _ _ _ => zLy fun _ _ => rfl,g11.df X G fun _ _ _ _ _ _ => zJL fun _ => rfl,g12.df X G fun _ _ _ _ _ _ => zKl fun _ _ _ => rfl,g13.df X G fun _ _ _ _ _ _ => zLy fun _ _ => rfl,g14.df X G fun _ _ _ _ _ _ => zLy fun _ _ => rfl,g15.df X G fun _ _ _ _ _ _ => zJL fun _ => rfl,g16.df X G fun _ _ _ _ _ _ => zLy fun _ _ => rfl,g17.df X G fun _ _ _ _ _ _ => zLy fun _ _ => rfl,g18.df X G fun _ _ _ _ _ _ => zUX fun _ _ _ _ => rfl,g19.df X G fun _ _ _ _ _ _ => zKl fun _ _ _ => rfl,g20.df X G fun _ _ _ _ _ _ => zJL fun _ => rfl,g21.df X G fun _ _ _ _ _ _ => zKl fun _ _ _ => rfl,g22.df X G fun _ _ _ _ _ _ => zJL fun _ => rfl,g23.df X G fun _ _ _ _ _ _ => zLy fun _ _ => rfl,g24.df X G fun _ _ _ _ _ _ => zKl fun _ _ _ => rfl,g25.df X G fun _ _ _ _ _ _ => zJL fun _ => rfl,zVw X G z1,zVw X G z2,zVw X G z3,zVw X G z4,zVw X G z5,zVw X G z6,zVw X G z7,zVw X G z8,zVw X G z9,zVw X G z10,zVw X G z11,zVw X G z12⟩;refine ⟨T.d_law.fd,fun s v => .of_eq rfl,fun base _ _ => ?_⟩;exact zSu (P:=l.prog) (w:=w) (base:=base) T
theorem zUl {l : PySem.W.OpenLaw} {q : Program} {loose : List Str} {XP : (Str -> Option Value) -> Heap -> Prop} {YP : World -> Heap -> Prop} {d : DefRec} {K : Params -> PySem.W.Frag} (hn : l.most = some 63) (hdf : d.params.defaults = [])
    (hY : ∀ (w : World) (h : Heap),YP w h -> (K w.params).In h) (hL : ∀ w : World,zJf (K w.params) = true)
    (F : ∀ (w : World) (mg : Str -> Option Value) (fa : Addr) (h : Heap),(K w.params).In h -> h.Ns mainGlobals mg -> mg d.name = some (.ref fa) ->
      ∃ fd : FuncData,(∀ (s : Shared) (u : Value),BindsTo s fd ⟨[u],[]⟩ [("_law_script", u)]) /\ ∀ base : Heap,(K w.params).In base -> base.Ns mainGlobals mg -> FnOk l.prog w (K w.params) mg base CX0 7 fa fd ["_law_script"] (spF (K w.params) 1 zGR)) :
    PySem.W.WalkO q loose XP YP l.row.toRowW d [] (fun f vs => PySem.call f vs) :=
  L2.zQl (n:=63) (k:=7) (x := "_law_script") (CX:=fun _ => CX0) (sp:=fun w => spF (K w.params) 1 zGR) hn (by decide) hdf ⟨rfl,by decide,by decide⟩ hY F
    (fun w H a ns hl hO hS => zM7 (hL w) hO hS (zOZ ns hl)) fun _ _ _ _ _ z => z
end Lac
open PySem PySem.W PyProof.Rows
set_option maxRecDepth 100000 in
set_option maxHeartbeats 0 in
theorem PySem.Challenge.cw_bringhome_k27_quick_leaves_rooms_apart_holds : PySem.Challenge.rw_bringhome_k27_quick_leaves_rooms_apart.Holds := by
  w_on; o_law; k_head; (case hw => w_witness2);k_fill;refine Lac.zUl (l:=PySem.Challenge.rw_bringhome_k27_quick_leaves_rooms_apart) rfl rfl (fun w h Y => PySem.W.kIn_of Y) (fun w => by rfl) ?F
  case F =>
    intro w mg fa h KX G hmg;refine' Lac.zTL KX G hmg ?_ ?_ ?_ ?_ ?_ ?_ ?_ ?_ ?_ ?_ ?_ ?_ ?_ ?_ ?_ ?_ ?_ ?_ ?_ ?_ ?_ ?_ ?_ ?_ ?_ ?_ ?_ ?_ ?_ ?_ ?_ ?_ ?_ ?_ ?_ ?_ ?_;all_goals first | exact ⟨_,by k_is,by k_is,by k_is,by k_is⟩ | (unfold L3.Zn; k_is) | (unfold L3.Ki; kit_is) | k_is
