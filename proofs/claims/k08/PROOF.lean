import PyProof.Rows.All
import Wide.All
import OpenK.AllK
import Wide.FinOn
import PyProof.EqAt
import PyProof.EqKinds
import PyProof.TupleCall
import PyProof.NeData
import PyProof.ReprRoads
import PyProof.ZipIter
import PyProof.ExcArgsOwn
import PyProof.ExcAttrAll.ValueError
import PyProof.SetRoads
import PyProof.Rows.SetFrom
import PyProof.Rows.SortStr
import PyProof.WalksMore
import PyProof.TupleIter
import PyProof.FactsAll.set_1
import PyProof.CollectWalk
import PyProof.Rows.SortStrRead
import PyProof.Tail
import PyProof.FactsAll.set_2
import PyProof.Rows.StrCase
import PyProof.DictCompW
import PyProof.Rows.ListMul
import PyProof.Rows.ListMulArg
import PyProof.FactsAll.tuple
import PySem.Challenge.RW_handedon_k08_books_at_their_bounds
def PySem.W.Fast.tw17768878380607947559 := 0
def PySem.W.Fast.tw5863516967492746743 := 0
def PySem.W.Fast.tw11801861867089020034 := 0
def PySem.W.Fast.tw14137691987807523995 := 0
def PySem.W.Fast.tw17486902188522348507 := 0
def PySem.W.Fast.tw14737858052208420035 := 0
def PySem.W.Fast.tw10181427745960661091 := 0
def PySem.W.Fast.tw9844377798996030409 := 0
def PySem.W.Fast.tw4109438098670247655 := 0
def PySem.W.Fast.tw3620820550503697548 := 0
def PySem.W.Fast.tw2956947874712163175 := 0
def PySem.W.Fast.tw4155366637794157773 := 0
def PySem.W.Fast.tw1207623861942350646 := 0
def PySem.W.Fast.tw14589428313382131121 := 0
open PySem renaming wpAny_bind->CU6,wpAny_pure->CU7,Shared->CV4,sizeLine->CV8,sizeLine_eq->CX1,wpAny_newObj_type->CX5,FuncData->CX7,mainGlobals->CY1,starEach->CY3,foldedSetIterable->CY5,wpAny_setState_of->CY7,Spec->CZ5,wpAny_callSpecial?_slot->CZ7,Program->DA0,wpAny_holding->DA2,mem_of_lookup->DA3,bootBuiltins->DB0,compareOp->DB4,wpAny_mono->DB9,Value->DC1,wpAny_field->DC5,wpAny_setField->DC6,wpAny_call_entry->DC7,wpAny_askSetting->DC8,Str->DD1,Around->DD3,wpAny_truthy_bool->DD4,Addr->DD5,scanBound->DE3,wpAny_seqItems->DE7,wpAny_setEntries_of->DE9,Builtin->DF3,wpAny_Call_Name_kw->DF5,wpAny_of_eq->DF8,binaryOp->DG2,wpAny_storeSet_of->DG5,sysModules->DG6,fits_of_scanBound->DG7,wpAny_rule->DH2,assignEach->DH3,IsPair->DI0,wpAny_setEpoch_of->DI3,SetTable->DI4,NameKind->DI6,wpAny_isInstance->DJ7,call_meets->DK0,backTo->DK1,letOwnedTupleGo->DL1,codeAny_builtin->DL2,sliceBounds->DM1,Expr->DM3,wpAny_typeOf->DM4,swapsWith->DM5,rawInt->DM6,codeAny_mono->DM7,wpAny_standAt->DN5,wpAny_attempt->DN6,setsByText->DO0,wpAny_passesOwn->DO3,pickOrder->DO5,wpAny_pyIter_tuple->DP7,pyNext->DP8,valueAt->DQ0,isSubtype_type->DQ1,getItem->DQ2
open PySem.Heap renaming get?_push_of_some->CU8,lt_size->CV9,get?_push_size->CW0,get?_update_other->CY6,get?_update_self->CZ4,get?_none_of_le->DA4,SameBut->DD0,size_push->DD2,ExtBut->DN2
open List renaming not_mem_nil->CU9,mem_cons->CV0,length_map->CV1,replicate->CV2,length_cons->CV6,range->CV7,length_append->CW3,mem_cons_self->CW4,mem_cons_of_mem->CW5,mem_append_right->CW6,size_toArray->CW7,getElem?_map->CW8,map_cons->CW9,getElem?_eq_getElem->CX2,all_eq_true->CX4,map_append->CX6,getElem?_append_right->CX8,length_nil->CY0,getElem?_append_left->CZ0,length_range->CZ1,map_nil->CZ3,Nodup->CZ6,mem_append->CZ9,mem_of_getElem?->DA1,map_map->DA8,Perm->DA9,take_length->DB1,getElem_mem->DB2,length_replicate->DB8,getElem?_replicate->DC0,nil_append->DC4,cons_append->DD6,mem_append_left->DE0,take_succ->DE1,mem_singleton->DF1,forIn_cons->DF6,append_nil->DF7,sum_cons->DG4,zip_cons_cons->DH0,find?_cons->DH5,length_eraseIdx_of_lt->DH8,lookup_cons->DI7,length_take->DI8,replicate_succ->DJ0,mem_map_of_mem->DJ1,length->DJ2,zip_nil_right->DJ8,any_cons->DJ9,take_of_length_le->DK6,reverse_cons->DL0,sum_nil->DL7,length_singleton->DL8,sum_append->DM8,getElem?_range->DM9,getD->DN0,filterMap_cons->DN1,filter_append->DN8,flatten_cons->DO9,append_assoc->DP0,take_append_drop->DQ5,mem_map->DQ6,length_filter_le->DQ7,getElem?_eq_none->DQ8
open PySem.W renaming Frag->CV3,mg_none_of->CZ2,nsIn->CZ8,keepIn->DD8,fnOf->DD9,mg_of->DJ3,codeIn->DK2
open Bool renaming false_ne_true->CV5,and_eq_true->CX9,eq_iff_iff->DE5,or_eq_false_iff->DH9,and_false->DI2
open Nat renaming le_refl->CW1,ne_of_lt->CX3,le_trans->CY4,lt_of_lt_of_le->CY9,zero_le->DC3,lt_irrefl->DC9,le_add_right->DF0,ne_of_gt->DL9,lt_or_ge->DO2,lt_succ_of_lt->DP6
open Array renaming length_toList->CW2,getElem?_eq_getElem->DI1,getElem?_eq_none->DK3,getElem?_toList->DL5,size_map->DN9
open PySem.SetTable renaming sizeAbove->CY2,grown->DD7,eraseAt->DE6,fresh->DG0,fill->DH1,fits->DI9
open PySem.Obj renaming mapFields->CY8,mapSeq->DH7
open PySem.Heap.SameBut renaming update->DA5
open Int renaming toNat_natCast->DA6,emod_lt_of_pos->DF2,emod_nonneg->DH6
open PySem.Builtin.Slice renaming slicePlaces->DA7,sliceAdjust->DE4,sliceApplied->DG8
open PySem.Builtin.Tuple renaming tupleExact->DB3,tupleItemsOf->DL3
open PyProof.Rows renaming slot_tuple_getitem->DB5,callWith_type1->DG3,callWith_builtin1->DJ5,slot_tupleiter_next->DO4
open PySem.Builtin.SmallTypes renaming nextOf->DB6
open PySem.PyData renaming keyHash->DB7,eqv->DF4,canLayAll0->DH4,depth->DI5,depthAll->DJ6,canLay0->DK5,strOk->DK8,leavesShortAll->DK9,showableAll->DN3,hasDictAll->DO1,weightAll->DP5,showable->DQ3
open PySem.PassesOwn renaming never->DC2
open Option renaming map_some->DE2,getD_some->DL6
open PySem.Builtin.List renaming listTooLong->DE8
open PySem.Value renaming isStrOf_shape->DF9,isStrOf->DM2
open PySem.F renaming plainAttrs_list->DG1,slot_dict_get->DK4,slot_list_extend->DK7,args_tuple_add_2->DN7,entry_tuple_add->DO6,args_dict_get_2->DO7,type_list_extend->DP1,slot_list_append->DP2,slot_tuple_add->DP3,entry_dict_get->DP4
open PyProof.Rows.F renaming plain_set_update_loop->DG9,entry_set_update_loop->DO8
open PySem.Str renaming ofString->DJ4
open PySem.Builtin.Int renaming intBits->DL4
open PySem.Around renaming under_plainId->DM0
open PySem.Builtin.Str renaming occurrences->DN4
open PySem.Heap.IsSliceOf renaming new->DP9
open PySem.Builtin.Frozenset renaming updateFrom->DQ4
set_option Elab.async false
set_option linter.all false
set_option maxRecDepth 100000
variable {us:List DC1}{u:DC1}{a:DD5}{b:DD5}{α:Type}{P:PySem.Program}{w:PySem.World}{h:DD1}{o:PySem.Obj}{t':Nat}{ch:List DD5}{N:List DD1}{i:Nat}{j:Nat}{x:DD1}{A:PySem.Around}{E:DC1->PySem.Shared->Prop}{Q:DC1->PySem.Shared->Prop}{s':PySem.Shared}{s:PySem.Shared}{pos:PySem.Pos}{pins:List (DD5×PySem.Obj)}{y:DD1}{e:DM3}{es:List DM3}{k:Nat}{n:Nat}{tg:DM3}{K:CV3}{fp:List DD5}{iter:DM3}{body:List PySem.Stmt}{f:DC1->DC1->PySem.Sem DC1}{op:PySem.CmpOp}{mg:DD1->Option DC1}{base:PySem.Heap}{fd:PySem.FuncData}{ps:List DD1}{qual:DD1}{scope:PySem.Scope}{doc:DC1}{pm:DC1}{cdv:DC1}{ct:DC1}{oc:DC1}{an:Option DD5}{od:Option DD5}{osl:Array (Option DC1)}{sl:DD5}{lo:Option Int}{hi:Option Int}{t:PySem.SetTable}{items:Array DC1}{p:DD5}{its:List DC1}{loose:List DD1}{ns:List Int}{l:List α}{st:PySem.Stmt}{h':PySem.Heap}{prog:PySem.Program}{env:PySem.Env}{z:DD1}{c:DD1->DD5}{elt:DM3}{ifs:List DM3}{is:List Nat}{tns:List DD1}{caps:List DD1}{slots:List Nat}{i1:DD5}{i2:DD5}{l1:DD5}{l2:DD5}{ys:Array DC1}{py:PySem.Pos}{spos:PySem.Pos}{rows:List (DD1×PySem.Tok×DD5)}{tbl:List (DD1×List DD1)}{zs:List DD1}{mask:Nat}{kx:DM3}{vx:DM3}{sh:List DD1}{hd:DD1}{kr:Nat}{lv:Nat}
namespace L2
open PySem PySem.Spec PyProof.Rows
abbrev Key:=Sum Int Str
def RB:Key->Value->Bool
 | .inl k,v=>Value.isInt k v
 | .inr x,v=>DM2 x v
def CR9 (w:World):Key->Int
 | .inl k=>hashInt k
 | .inr x=>hashStr w x
theorem G5:∀{k:Key} {v:Value},RB k v=true->(∃i t,k=Sum.inl i/\v=Value.int i t)\/(∃x t,k=Sum.inr x/\v=Value.str x t)
 | .inl i,v,h=>by
  obtain⟨t,e⟩:=Value.isInt_shape (k:=i) (v:=v) h
  exact .inl ⟨i,t,rfl,e⟩
 | .inr x,v,h=>by
  obtain⟨t,e⟩:=DF9 (x:=x) (v:=v) h
  exact .inr ⟨x,t,rfl,e⟩
theorem AL5 (i:Int)(t:Tok):RB (.inl i) (.int i t)=true:=by simp[RB,Value.isInt]
theorem AL6 (x:Str)(t:Tok):RB (.inr x) (.str x t)=true:=by simp[RB,DM2]
theorem BT3 (a b:Int):decide ((Sum.inl a:Key)=Sum.inl b)=(a==b):=by
 by_cases e:a=b
 ·subst e;simp
 ·have h:¬(Sum.inl a:Key)=Sum.inl b:=fun q=>e (Sum.inl.inj q)
  rw[decide_eq_false h]
  exact(beq_eq_false_iff_ne.mpr e).symm
theorem BT6 (a b:Str):decide ((Sum.inr a:Key)=Sum.inr b)=decide (a=b):=by
 by_cases e:a=b
 ·subst e;simp
 ·have h:¬(Sum.inr a:Key)=Sum.inr b:=fun q=>e (Sum.inr.inj q)
  rw[decide_eq_false h,decide_eq_false e]
theorem BT4 (a:Int)(b:Str):decide ((Sum.inl a:Key)=Sum.inr b)=false:=decide_eq_false (fun q=>nomatch q)
theorem BT5 (a:Str)(b:Int):decide ((Sum.inr a:Key)=Sum.inl b)=false:=decide_eq_false (fun q=>nomatch q)
def E3 (prog:DA0)(w:World):PySem.KeyKind prog w Key where
 is:=RB
 hash:=CR9 w
 inj:=fun v a b ha hb=>by
  rcases G5 ha with⟨i,t,rfl,rfl⟩|⟨x,t,rfl,rfl⟩
  ·rcases G5 hb with⟨j,u,rfl,e⟩|⟨y,u,rfl,e⟩
   ·injection e with e1 _;rw[e1]
   ·exact nomatch e
  ·rcases G5 hb with⟨j,u,rfl,e⟩|⟨y,u,rfl,e⟩
   ·exact nomatch e
   ·injection e with e1 _;rw[e1]
 byValue:=fun k v h=>by
  rcases G5 h with⟨i,t,rfl,rfl⟩|⟨x,t,rfl,rfl⟩<;>rfl
 pyHash:=fun hv h=>by
  rcases G5 hv with⟨i,t,rfl,rfl⟩|⟨x,t,rfl,rfl⟩
  ·exact wpAny_pyHash_int h
  ·exact wpAny_pyHash_str h
 eqBool:=fun hu hv h=>by
  rcases G5 hu with⟨i,t,rfl,rfl⟩|⟨x,t,rfl,rfl⟩
  ·rcases G5 hv with⟨j,u,rfl,rfl⟩|⟨y,u,rfl,rfl⟩
   ·rw[BT3] at h;exact wpAny_eqBool_int h
   ·rw[BT4] at h;exact SeqAt.EqAt.int_str i t y u _ _ _ _ h
  ·rcases G5 hv with⟨j,u,rfl,rfl⟩|⟨y,u,rfl,rfl⟩
   ·rw[BT5] at h;exact SeqAt.EqAt.str_int x t j u _ _ _ _ h
   ·rw[BT6] at h;exact wpAny_eqBool_str h
 «strs»:=fun k x t v h=>by
  rcases G5 h with⟨i,u,rfl,e⟩|⟨y,u,rfl,e⟩
  ·exact nomatch e
  ·injection e with e1 _
   subst e1
   cases v<;>rfl
theorem WQ (prog:DA0)(w:World)(i:Int)(t:Tok):(E3 prog w).is (.inl i) (.int i t)=true:=AL5 i t
theorem DB (prog:DA0)(w:World)(x:Str)(t:Tok):(E3 prog w).is (.inr x) (.str x t)=true:=AL6 x t
inductive V where
 | non|bl (b:Bool)|int (i:Int)|str (x:Str)|byt (b:Array UInt8)|flt (b:UInt64)|ref (a:Addr)|ty (n:String)
 deriving DecidableEq
def RelV:V->Value->Prop
 | .non,u=>u=Value.none
 | .bl b,u=>u=Value.bool b
 | .int i,u=>∃t,u=Value.int i t
 | .str x,u=>∃t,u=Value.str x t
 | .byt b,u=>∃t,u=Value.bytes b t
 | .flt b,u=>∃t,u=Value.float b t
 | .ref a,u=>u=Value.ref a
 | .ty n,u=>u=Value.type n
abbrev Vals:List V->List Value->Prop:=Paired RelV
theorem Vals.length {xs:List V}(r:Vals xs us):xs.length=us.length:=Paired.length r
theorem Vals.get:∀{xs:List V} {us:List Value} {i:Nat} {x:V},Vals xs us->xs[i]?=some x->∃u,us[i]?=some u/\RelV x u
 | _,_,_,_,.nil,e=>by simp at e
 | _,_,0,_,.cons r _,e=>by simp at e;subst e;exact⟨_,rfl,r⟩
 | _,_,i+1,x,.cons _ t,e=>by
  obtain⟨u,h1,h2⟩:=Vals.get (i:=i) (x:=x) t (by simpa using e)
  exact⟨u,by simpa using h1,h2⟩
theorem Vals.set {x:V}(r:RelV x u):∀{xs:List V} {us:List Value} (i:Nat),Vals xs us->Vals (xs.set i x) (us.set i u)
 | _,_,_,.nil=>.nil
 | _,_,0,.cons _ t=>.cons r t
 | _,_,i+1,.cons q t=>.cons q (Vals.set r i t)
theorem Vals.append:∀{xs ys:List V} {us ws:List Value},Vals xs us->Vals ys ws->Vals (xs++ys) (us++ws)
 | _,_,_,_,.nil,s=>s
 | _,_,_,_,.cons r t,s=>.cons r (Vals.append t s)
theorem Vals.take:∀{xs:List V} {us:List Value} (n:Nat),Vals xs us->Vals (xs.take n) (us.take n)
 | _,_,0,_=>.nil
 | _,_,_+1,.nil=>.nil
 | _,_,n+1,.cons r t=>.cons r (Vals.take n t)
theorem Vals.drop:∀{xs:List V} {us:List Value} (n:Nat),Vals xs us->Vals (xs.drop n) (us.drop n)
 | _,_,0,r=>r
 | _,_,_+1,.nil=>.nil
 | _,_,n+1,.cons _ t=>Vals.drop n t
def RelO:Option V->Option Value->Prop
 | some v,some u=>RelV v u
 | none,none=>True
 | _,_=>False
def KV {κ:Type}:List (κ×V)->List (κ×Value)->Prop:=Paired fun(p:κ×V) (q:κ×Value)=>p.1=q.1/\RelV p.2 q.2
def kV:Key->V
 | .inl i=>.int i
 | .inr x=>.str x
inductive HO where
 | lst (xs:List V)
 | tup (xs:List V)
 | dK (kvs:List (Key×V))|dT (kvs:List (List Key×V))
 | set (S:Int->Bool) (n:Nat)
 | ins (C dx:Addr) (fs:List (Str×V))
 | own (x:Addr)
 | xd (fs:List (Str×V))
 | met (f x:Addr)
 | rng (lo hi:Int)
 | frz (o:Obj) (u:HO)
 | tbl (ps:Array Value)
 | ext (φ:Heap->Prop)
abbrev Hp:=Addr->Option HO
def upd (H:Hp)(a:Addr)(o:HO):Hp:=fun b=>if b=a then some o else H b
theorem D4 {H:Hp}{o:HO}:upd H a o a=some o:=by unfold upd;rw[if_pos rfl]
theorem D5 {H:Hp}{o:HO}(h:b≠a):upd H a o b=H b:=by unfold upd;rw[if_neg h]
theorem CG3 {H:Hp}{o u:HO}(h:H a=some o)(h':H b=some u)(d:o≠u):a≠b:=by
 intro e;subst e;rw[h] at h';exact d (Option.some.inj h')
theorem F3 {H:Hp}{o:HO}(h:H a=some o)(h':H b=none):a≠b:=by
 intro e;subst e;rw[h] at h';cases h'
section
variable (P:DA0)(w:World)
def ObjOk (H:Hp)(h:Heap)(a:Addr):HO->Prop
 | .lst xs=>xs.length<=CV8/\∃(its:List Value) (n:Nat),Vals xs its/\h.get? a=some {cls:=.type "list",data:=.seq its.toArray n}
 | .tup xs=>xs.length<=CV8/\∃its:List Value,Vals xs its/\IsTup h a its.toArray
 | .dK kvs=>kvs.length<=CV8/\(a==DG6)=false/\∃vs,KV kvs vs/\h.DictOf (E3 P w) a vs
 | .dT kvs=>kvs.length<=CV8/\(a==DG6)=false/\∃xs:List (List Key×Addr×Value),
   Paired (fun(p:List Key×V) (q:List Key×Addr×Value)=>p.1=q.1/\H q.2.1=some (.tup (p.1.map kV))/\RelV p.2 q.2.2) kvs xs /\
   ∃o es ep,h.get? a=some o/\o.ExactDict/\o.data=.dict es ep/\es.toList=xs.map (entryOfKey (tupleKind (E3 P w)))/\(xs.map (·.1)).Nodup
 | .set S n=>h.SetOf (intKind P w) a S n
 | .ins C dx fs=>H dx=some (.own a)/\fs.length<=1000/\dx≠a/\h.get? a=some (PySem.W.instObj C dx) /\
   ∃mA,h.Ns1 dx mA/\(∀f,RelO (fs.lookup f) (mA f))/\PySem.Within mA (fs.map (·.1))
 | .own _=>∃o,h.get? a=some o
 | .xd fs=>∃mA,h.Ns1 a mA/\∀f,RelO (fs.lookup f) (mA f)
 | .rng lo hi=>∃t u v,h.get? a=some {cls:=.type "range",data:=.fields #[.int lo t,.int hi u,.int 1 v]}
 | .frz o u=>h.get? a=some o/\ObjOk H h a u
 | .tbl ps=>h.get? a=some {cls:=.none,data:=.fields ps}
 | .met f x=>h.get? a=some (PySem.W.methodObj (.ref f) (.ref x))
 | .ext φ=>φ h/\(∃o,h.get? a=some o)/\∀h1 h2:Heap,φ h1->(∀o,h1.get? a=some o->h2.get? a=some o)->φ h2
def HOk (H:Hp)(h:Heap):Prop:=∀a o,H a=some o->ObjOk P w H h a o
end
section
variable {P:DA0}{w:World}{H H':Hp}{h h':Heap}{a:Addr}{o:HO}
theorem ObjOk.lt (x:ObjOk P w H h a o):a<h.objs.size:=by
 cases o with
 | lst xs=>obtain⟨_,_,_,_,e⟩:=x;exact CV9 e
 | tup xs=>obtain⟨_,_,_,p⟩:=x;exact p.lt
 | dK kvs=>obtain⟨_,_,_,_,o,_,_,e,_⟩:=x;exact CV9 e
 | dT kvs=>obtain⟨_,_,_,_,o,_,_,e,_⟩:=x;exact CV9 e
 | set S n=>obtain⟨o,_,_,_,e,_⟩:=x;exact CV9 e
 | ins C dx fs=>obtain⟨_,_,_,e,_⟩:=x;exact CV9 e
 | own y=>obtain⟨_,e⟩:=x;exact CV9 e
 | xd fs=>obtain⟨_,⟨_,_,_,e,_⟩,_⟩:=x;exact CV9 e
 | rng lo hi=>obtain⟨_,_,_,e⟩:=x;exact CV9 e
 | frz ob u=>obtain⟨e,_⟩:=x;exact CV9 e
 | tbl ps=>exact CV9 (show h.get? a=some _ from x)
 | met f y=>exact CV9 (show h.get? a=some _ from x)
 | ext φ=>obtain⟨_,⟨_,e⟩,_⟩:=x;exact CV9 e
theorem Paired.mapP {β:Type}{F G:α->β->Prop}:∀{l₁:List α} {l₂:List β},Paired F l₁ l₂->(∀a b,F a b->G a b)->Paired G l₁ l₂
 | _,_,.nil,_=>.nil
 | _,_,.cons r t,f=>.cons (f _ _ r) (Paired.mapP t f)
theorem ObjOk.stay (x:ObjOk P w H h a o)(k:∀b u,(b=a\/H b=some (.own a))->h.get? b=some u->h'.get? b=some u)
  (ho:∀b,H b=some (.own a)->H' b=some (.own a)) (ht:∀b xs,H b=some (.tup xs)->H' b=some (.tup xs)):ObjOk P w H' h' a o:=by
 induction o with
 | lst xs=>obtain⟨z,its,n,r,e⟩:=x;exact⟨z,its,n,r,k _ _ (.inl rfl) e⟩
 | tup xs=>obtain⟨z,its,r,ob,e,c⟩:=x;exact⟨z,its,r,ob,k _ _ (.inl rfl) e,c⟩
 | dK kvs=>obtain⟨z,y,vs,r,ob,es,ep,e,c⟩:=x;exact⟨z,y,vs,r,ob,es,ep,k _ _ (.inl rfl) e,c⟩
 | dT kvs =>
  obtain⟨z,y,xs,r,ob,es,ep,e,c⟩:=x
  exact⟨z,y,xs,Paired.mapP r fun p q z=>⟨z.1,ht _ _ z.2.1,z.2.2⟩,ob,es,ep,k _ _ (.inl rfl) e,c⟩
 | set S n=>obtain⟨ob,es,ep,t,e,c⟩:=x;exact⟨ob,es,ep,t,k _ _ (.inl rfl) e,c⟩
 | ins C dx fs =>
  obtain⟨d,z,ne,e,mA,⟨od,es,ep,e2,c⟩,r⟩:=x
  exact⟨ho _ d,z,ne,k _ _ (.inl rfl) e,mA,⟨od,es,ep,k _ _ (.inr d) e2,c⟩,r⟩
 | own y=>obtain⟨ob,e⟩:=x;exact⟨ob,k _ _ (.inl rfl) e⟩
 | xd fs=>obtain⟨mA,⟨od,es,ep,e,c⟩,r⟩:=x;exact⟨mA,⟨od,es,ep,k _ _ (.inl rfl) e,c⟩,r⟩
 | rng lo hi=>obtain⟨t,u,v,e⟩:=x;exact⟨t,u,v,k _ _ (.inl rfl) e⟩
 | frz ob u ih=>obtain⟨e,q⟩:=x;exact⟨k _ _ (.inl rfl) e,ih q⟩
 | tbl ps =>
  have e:h.get? a=some {cls:=.none,data:=.fields ps}:=x
  show h'.get? a=some {cls:=.none,data:=.fields ps}
  exact k a _ (.inl rfl) e
 | met f y =>
  have e:h.get? a=some (PySem.W.methodObj (.ref f) (.ref y)):=x
  show h'.get? a=some (PySem.W.methodObj (.ref f) (.ref y))
  exact k a _ (.inl rfl) e
 | ext φ=>obtain⟨p,⟨o,e⟩,st⟩:=x;exact⟨st _ _ p fun o q=>k _ _ (.inl rfl) q,⟨o,k _ _ (.inl rfl) e⟩,st⟩
theorem HOk.lt (x:HOk P w H h)(e:H a=some o):a<h.objs.size:=(x a o e).lt
theorem HOk.fresh (x:HOk P w H h)(e:h.objs.size<=a):H a=none:=by
 cases q:H a with
 | none=>rfl
 | some u=>exact absurd (CY9 (x.lt q) e) (DC9 _)
theorem HOk.kept (x:HOk P w H h)(k:∀b u,h.get? b=some u->h'.get? b=some u):HOk P w H h':=fun a o e =>
 (x a o e).stay (fun b u _ q=>k b u q) (fun _ q=>q) fun _ _ q=>q
theorem HOk.laid (x:HOk P w H h)(k:∀b u,h.get? b=some u->h'.get? b=some u)(hp:h.objs.size<=a)(new:ObjOk P w (upd H a o) h' a o):HOk P w (upd H a o) h':=fun b u e=>by
 have hn:=x.fresh hp
 by_cases hb:b=a
 ·subst hb;rw[D4] at e;cases e;exact new
 ·rw[D5 hb] at e
  exact(x b u e).stay (fun c v _ q=>k c v q) (fun c q=>by rw[D5 (F3 q hn)];exact q) fun c xs q=>by rw[D5 (F3 q hn)];exact q
end
def Rd (H:Hp)(a:Addr)(u:HO):Prop:=H a=some u\/∃o,H a=some (.frz o u)
theorem Rd.ok {H:Hp}{h:Heap}{u:HO}(r:Rd H a u)(x:HOk P w H h):ObjOk P w H h a u:=by
 rcases r with r|⟨o,r⟩
 ·exact x a u r
 ·obtain⟨_,q⟩:=x a _ r
  exact q
def Mut:Option HO->Prop
 | some (.lst _)=>True
 | some (.dK _)=>True
 | some (.dT _)=>True
 | some (.set _ _)=>True
 | some (.ins _ _ _)=>True
 | some (.ext _)=>True
 | _=>False
section
variable {P:DA0}{w:World}{H:Hp}{h h':Heap}{x e:Addr}{o':HO}
theorem HOk.write (ok:HOk P w H h)(mu:Mut (H x))(he:e=x\/H e=some (.own x))(k:∀b u,b≠e->h.get? b=some u->h'.get? b=some u)(heo:∃u,h'.get? e=some u)
  (new:ObjOk P w (upd H x o') h' x o'):HOk P w (upd H x o') h':=fun b u q=>by
 have nown:∀c y,H c=some (.own y)->c≠x:=fun c y r z=>by subst z;rw[r] at mu;exact mu
 have ntup:∀c xs,H c=some (.tup xs)->c≠x:=fun c xs r z=>by subst z;rw[r] at mu;exact mu
 by_cases hb:b=x
 ·subst hb;rw[D4] at q;cases q;exact new
 ·rw[D5 hb] at q
  by_cases hbe:b=e
  ·have q':H b=some (.own x):=by
    rcases he with z|z
    ·exact absurd (hbe.trans z) hb
    ·rw[hbe];exact z
   rw[q] at q';cases q'
   obtain⟨v,hv⟩:=heo
   exact⟨v,by rw[hbe];exact hv⟩
  ·refine(ok b u q).stay (fun c v hc r=>k c v ?_ r) (fun c r=>by rw[D5 (nown c b r)];exact r) fun c xs r=>by rw[D5 (ntup c xs r)];exact r
   rcases hc with rfl|hc
   ·exact hbe
   ·rintro rfl
    rcases he with z|z
    ·exact nown c b hc z
    ·rw[hc] at z;cases z;exact hb rfl
end
structure Un (fs ex:List Addr)(H H':Hp)(h h':Heap):Prop where
 keep:∀b o,h.get? b=some o->H b=none->b∉fs->b∉ex->h'.get? b=some o
 slot:∀b o,h.get? b=some o->H b=none->b∈fs->b∉ex->∃sl,h'.get? b=some {o with slots:=sl}
 free:∀b o,h.get? b=some o->H b=none->b∉ex->H' b=none
 there:∀b o,h.get? b=some o->b∉ex->∃o',h'.get? b=some o'
 tups:∀b xs,H b=some (.tup xs)->H' b=some (.tup xs)
 frzs:∀b o u,H b=some (.frz o u)->H' b=some (.frz o u)
 tbls:∀b ps,H b=some (.tbl ps)->∃more,H' b=some (.tbl (ps++more))
section
variable {fs fs' ex ex':List Addr}{H H1 H2:Hp}{h h1 h2 h':Heap}{a x e:Addr}{o:HO}
theorem Un.any (u:Un fs ex H H1 h h1){ob:Obj}(q:h.get? b=some ob)(n:H b=none)(hx:b∉ex):∃sl,h1.get? b=some {ob with slots:=sl}:=by
 by_cases hb:b∈fs
 ·exact u.slot b ob q n hb hx
 ·exact⟨ob.slots,u.keep b ob q n hb hx⟩
theorem Un.kept (k:∀b u,h.get? b=some u->h'.get? b=some u):Un fs ex H H h h' :=
 ⟨fun b ob q _ _ _=>k b ob q,fun b ob q _ _ _=>⟨ob.slots,k b ob q⟩,fun _ _ _ n _=>n,fun b ob q _=>⟨ob,k b ob q⟩,fun _ _ q=>q,fun _ _ _ q=>q,fun _ ps q=>⟨#[],by rw[q];simp⟩⟩
theorem Un.refl:Un fs ex H H h h:=Un.kept fun _ _ q=>q
theorem Un.laid (k:∀b u,h.get? b=some u->h'.get? b=some u)(hp:h.objs.size<=a)(hn:H a=none):Un fs ex H (upd H a o) h h' where
 keep:=fun b u q _ _ _=>k b u q
 slot:=fun b u q _ _ _=>⟨u.slots,k b u q⟩
 free:=fun b u q n _=>by rw[D5 (CX3 (CY9 (CV9 q) hp))];exact n
 there:=fun b u q _=>⟨u,k b u q⟩
 tups:=fun b xs q=>by rw[D5 (F3 q hn)];exact q
 frzs:=fun b u xs q=>by rw[D5 (F3 q hn)];exact q
 tbls:=fun b ps q=>⟨#[],by rw[D5 (F3 q hn),q];simp⟩
theorem Un.write (mu:Mut (H x))(he:e=x\/H e=some (.own x))(k:∀b u,b≠e->h.get? b=some u->h'.get? b=some u)(heo:∃u,h'.get? e=some u):Un fs ex H (upd H x o) h h':=by
 have hx:∀b,H b=none->b≠x:=fun b n z=>by subst z;rw[n] at mu;exact mu
 have hb:∀b,H b=none->b≠e:=fun b n z=>by
  subst z
  rcases he with r|r
  ·exact hx b n r
  ·rw[n] at r;cases r
 have hm:∀b u,H b=some u->¬Mut (some u)->b≠x:=fun b u q nm z=>by subst z;rw[q] at mu;exact nm mu
 refine⟨fun b u q n _ _=>k b u (hb b n) q,fun b u q n _ _=>⟨u.slots,k b u (hb b n) q⟩,fun b u q n _=>by rw[D5 (hx b n)];exact n,fun b u q _=>?_,
  fun b xs q=>by rw[D5 (hm b _ q fun z=>z)];exact q,fun b u xs q=>by rw[D5 (hm b _ q fun z=>z)];exact q,fun b ps q=>⟨#[],by rw[D5 (hm b _ q fun z=>z),q];simp⟩⟩
 by_cases hbe:b=e
 ·subst hbe;exact heo
 ·exact⟨u,k b u hbe q⟩
end
def trk (h:Heap)(H:Hp):List Addr:=(CV7 h.objs.size).filter fun a=>(H a).isSome
def SO (h:Heap)(H:Hp):Heap:=PySem.W.hideAll h (trk h H)
theorem AL1 (h:Heap)(H:Hp):(SO h H).objs.size=h.objs.size:=PySem.W.hideAll_size _ _
theorem AT6 {h:Heap}{H:Hp}(e:h.get? b=some o)(n:H b=none):(SO h H).get? b=some o :=
 PySem.W.hideAll_get _ e fun hm=>by
  have q:(H b).isSome=true:=(List.mem_filter.mp hm).2
  rw[n] at q;simp at q
theorem BI8 {h:Heap}{H:Hp}(e:(SO h H).get? b=some o):h.get? b=some o/\H b=none:=by
 have e':h.get? b=some o:=PySem.W.of_hideAll (trk h H) e
 refine⟨e',?_⟩
 cases q:H b with
 | none=>rfl
 | some x =>
  have hm:b∈trk h H:=List.mem_filter.mpr ⟨List.mem_range.mpr (CV9 e'),by simp[q]⟩
  have z:(SO h H).get? b=none:=PySem.W.hideAll_none (trk h H) hm
  rw[z] at e;cases e
structure Mod (K:CV3)(mg:Str->Option Value)(base:Heap):Prop where
 kin:K.In base
 glob:base.Ns CY1 mg
 blt:∃mb,base.Ns builtinsNs mb/\∀x:Str,x≠"__name__"->mb x=DB0 x
 nolimit:base.NoLimit
structure Cx where
 prog:DA0
 w:World
 K:CV3
 mg:Str->Option Value
 base:Heap
 A:DD3
 N:List Str
 s₀:CV4
 H₀:Hp
 env:Env
 outer:List Env
 stack:List Env
 ex:List Addr
 fn:Str->Bool
 calm:Bool
 pn:List (Addr×Obj)
 xe:Value->CV4->Prop
def frs (l:List Env):List Addr:=l.filterMap (·.frame)
abbrev Cx.fs (X:Cx):List Addr:=frs X.outer
def Vis (sc:Scope)(x:Str):Prop:=sc.names.lookup x=some .local\/sc.names.lookup x=some .cell\/sc.names.lookup x=some .free
def Loc (sc:Scope)(x:Str):Prop:=sc.names.lookup x=some .local\/sc.names.lookup x=some .cell
def Look (env:Env)(h:Heap)(m:Str->Option Value)(x:Str)(u:Value):Prop :=
 (env.kindOf x=some .local/\m x=some u)\/((env.kindOf x=some .cell\/env.kindOf x=some .free)/\∃c,env.cells.lookup x=some c/\h.IsCell c (some u))
structure Cx.Ok (X:Cx):Prop where
 mod:Mod X.K X.mg X.base
 kind:X.env.scope.kind=.function
 glob:X.env.globals=CY1
 blt:X.env.builtins=builtinsNs
 above:X.s₀.heap.objs.size<=X.env.locals
 inj:∀x y c,X.env.cells.lookup x=some c->X.env.cells.lookup y=some c->x=y
 has:∀x,(X.env.kindOf x=some .cell\/X.env.kindOf x=some .free)->∃c,X.env.cells.lookup x=some c
 cab:∀x c,X.fn x=true->X.env.cells.lookup x=some c->X.s₀.heap.objs.size<=c
 hd:X.calm=true->X.A.handled=none
 frames:X.A.frames=some X.stack
 stk:X.stack=X.outer\/(X.stack=X.env::X.outer/\X.env.frame=some X.env.locals)
 exf:∀b∈X.ex,b≠X.env.locals/\∀x c,X.env.cells.lookup x=some c->c≠b
 bs:∀b o,X.base.get? b=some o->X.s₀.heap.get? b=some o/\X.H₀ b=none
 bsz:X.base.objs.size<=X.s₀.heap.objs.size
 noex:∀b o,X.base.get? b=some o->b∉X.ex
 exfs:∀b∈X.ex,b∉X.fs
 funs:X.s₀.heap.FunFrames X.base X.outer
 frf:∀b∈X.fs,X.H₀ b=none
structure Inv (X:Cx)(pins:List (Addr×Obj))(σ:List (Option V))(H:Hp)(s:CV4):Prop where
 ok:X.Ok
 os:s.os=X.s₀.os
 bare:AllBare s.gens
 base:Un X.fs X.ex X.H₀ H X.s₀.heap s.heap
 loc:∃m,s.heap.Ns X.env.locals m/\∀(i:Nat) (x:Str) (v:V),X.N[i]?=some x->σ[i]?=some (some v)->Vis X.env.scope x->∃u,RelV v u/\Look X.env s.heap m x u
 cell:∀x c,X.env.cells.lookup x=some c->∃v,s.heap.IsCell c v
 free:H X.env.locals=none
 freeC:∀x c,X.env.cells.lookup x=some c->H c=none
 pin:∀p∈X.pn++pins,s.heap.get? p.1=some p.2/\H p.1=none/\p.1≠X.env.locals/\p.1∉X.fs/\∀v,p.2.data≠.cell v
 hok:HOk X.prog X.w H s.heap
 len:σ.length=X.N.length
section
variable {X:Cx}{pins:List (Addr×Obj)}{σ:List (Option V)}{H H':Hp}{s:CV4}{h':Heap}
theorem Cx.Ok.nofr (ok:X.Ok)(e:X.base.get? b=some o):b∉X.fs:=fun hb=>by
 have:=(ok.funs.mem hb).1
 rw[e] at this;cases this
theorem Inv.bs (I:Inv X pins σ H s):∀b o,X.base.get? b=some o->s.heap.get? b=some o/\H b=none:=fun b o e =>
 ⟨I.base.keep b o (I.ok.bs b o e).1 (I.ok.bs b o e).2 (I.ok.nofr e) (I.ok.noex b o e),I.base.free b o (I.ok.bs b o e).1 (I.ok.bs b o e).2 (I.ok.noex b o e)⟩
theorem Inv.bk (I:Inv X pins σ H s):∀b o,X.base.get? b=some o->s.heap.get? b=some o:=fun b o e=>(I.bs b o e).1
theorem Inv.mod (I:Inv X pins σ H s):Mod X.K X.mg X.base:=I.ok.mod
theorem Inv.kIn (I:Inv X pins σ H s):X.K.In s.heap:=I.ok.mod.kin.keeps I.bk
theorem Inv.lt (I:Inv X pins σ H s):X.env.locals<s.heap.objs.size:=let ⟨_,hn,_⟩:=I.loc;hn.lt
theorem Inv.sz (I:Inv X pins σ H s):X.s₀.heap.objs.size<=s.heap.objs.size:=CY4 I.ok.above (Nat.le_of_lt I.lt)
theorem Inv.nofs (I:Inv X pins σ H s)(h:s.heap.objs.size<=a):a∉X.fs:=fun hb=>by
 obtain⟨_,o,ho,_⟩:=I.ok.funs.mem hb
 exact absurd (CY9 (CV9 ho) (CY4 I.sz h)) (DC9 _)
theorem Inv.cne (I:Inv X pins σ H s):∀x c,X.env.cells.lookup x=some c->c≠X.env.locals:=fun x c e z=>by
 obtain⟨v,o,ho,hd⟩:=I.cell x c e
 obtain⟨m,⟨o',es,ep,ho',hd',_⟩,_⟩:=I.loc
 rw[z,ho'] at ho;cases ho;rw[hd'] at hd;cases hd
theorem Inv.funs (I:Inv X pins σ H s):s.heap.FunFrames X.base X.outer:=by
 have all:∀(l:List Env),(∀b∈frs l,b∈X.fs)->X.s₀.heap.FunFrames X.base l->s.heap.FunFrames X.base l:=by
  intro l
  induction l with
  | nil=>intro _ _;trivial
  | cons env r ih =>
   intro hs hl
   obtain⟨hk,⟨L,o,hf,hn,ho,hd⟩,hr⟩:=hl
   have hL:L∈X.fs:=hs L (by unfold frs;rw[DN1,hf];exact CW4)
   obtain⟨sl,e⟩:=I.base.slot L o ho (I.ok.frf L hL) hL fun z=>I.ok.exfs L z hL
   exact⟨hk,⟨L,_,hf,hn,e,hd⟩,ih (fun b hb=>hs b (by unfold frs;rw[DN1,hf];exact CW5 _ hb)) hr⟩
 exact all X.outer (fun _ hb=>hb) I.ok.funs
theorem Inv.stack (I:Inv X pins σ H s):s.heap.FunFrames X.base X.stack:=by
 rcases I.ok.stk with e|⟨e,hf⟩
 ·rw[e];exact I.funs
 ·rw[e]
  obtain⟨m,hn,_⟩:=I.loc
  refine .cons (by rw[I.ok.kind];decide) hf hn ?_ I.funs
  exact DA4 (CY4 I.ok.bsz I.ok.above)
theorem Inv.stkSub (I:Inv X pins σ H s):∀b∈frs X.stack,b∈X.env.locals::X.fs:=fun b hb=>by
 rcases I.ok.stk with e|⟨e,hf⟩
 ·rw[e] at hb;exact CW5 _ hb
 ·rw[e] at hb
  unfold frs at hb
  rw[DN1,hf] at hb
  exact hb
theorem Inv.stkFree (I:Inv X pins σ H s):∀b∈frs X.stack,H b=none:=fun b hb=>by
 rcases CV0.mp (I.stkSub b hb) with e|hb
 ·rw[e];exact I.free
 ·obtain⟨_,o,ho,_⟩:=I.ok.funs.mem hb
  exact I.base.free b o ho (I.ok.frf b hb) fun z=>I.ok.exfs b z hb
theorem Inv.step {g':Array GenState}{t':Nat}{d':Drawn}(I:Inv X pins σ H s)
  (hch:∀b∈ch,(b∈X.ex\/X.s₀.heap.objs.size<=b)/\b≠X.env.locals/\(∀x c,X.env.cells.lookup x=some c->c≠b)/\∀p∈X.pn++pins,p.1≠b)
  (keep:∀b o,b≠X.env.locals->b∉X.fs->b∉ch->s.heap.get? b=some o->H b=none->h'.get? b=some o)
  (slot:∀b o,b≠X.env.locals->b∈X.fs->b∉ch->s.heap.get? b=some o->H b=none->∃sl,h'.get? b=some {o with slots:=sl}) (free:∀b o,b∉ch->s.heap.get? b=some o->H b=none->H' b=none)
  (there:∀b o,b∉ch->s.heap.get? b=some o->∃o',h'.get? b=some o')
  (tups:∀b xs,H b=some (.tup xs)->H' b=some (.tup xs)) (frzs:∀b o u,H b=some (.frz o u)->H' b=some (.frz o u)) (tbls:∀b ps,H b=some (.tbl ps)->∃more,H' b=some (.tbl (ps++more)))
  (ns:∀m,s.heap.Ns X.env.locals m->h'.Ns X.env.locals m) (hok:HOk X.prog X.w H' h') (hg:AllBare g') :
  Inv X pins σ H' {s with heap:=h',gens:=g',drawn:=d',toks:=t'}:=by
 have neL:∀b o,X.s₀.heap.get? b=some o->b≠X.env.locals:=fun b o e=>CX3 (CY9 (CV9 e) I.ok.above)
 have neC:∀b o,X.s₀.heap.get? b=some o->b∉X.ex->b∉ch:=fun b o e hx hb=>by
  rcases(hch b hb).1 with z|z
  ·exact hx z
  ·exact absurd (CY9 (CV9 e) z) (DC9 _)
 have cellK:∀x c,X.env.cells.lookup x=some c->∀v,s.heap.IsCell c v->h'.IsCell c v:=fun x c e v ⟨o,ho,hd⟩=>by
  have nch:c∉ch:=fun z=>(hch c z).2.2.1 x c e rfl
  by_cases hc:c∈X.fs
  ·obtain⟨sl,q⟩:=slot c o (I.cne x c e) hc nch ho (I.freeC x c e)
   exact⟨_,q,hd⟩
  ·exact⟨o,keep c o (I.cne x c e) hc nch ho (I.freeC x c e),hd⟩
 refine⟨I.ok,I.os,hg,⟨fun b o e n hb hx=>?_,fun b o e n hb hx=>?_,fun b o e n hx=>?_,fun b o e hx=>?_,fun b xs e=>tups b xs (I.base.tups b xs e),fun b o xs e=>frzs b o xs (I.base.frzs b o xs e),fun b ps e=>?_⟩,?_,fun x c e=>?_,?_,fun x c e=>?_,fun p hp=>?_,hok,I.len⟩
 ·exact keep b o (neL b o e) hb (neC b o e hx) (I.base.keep b o e n hb hx) (I.base.free b o e n hx)
 ·obtain⟨sl,e1⟩:=I.base.slot b o e n hb hx
  obtain⟨sl',e2⟩:=slot b _ (neL b o e) hb (neC b o e hx) e1 (I.base.free b o e n hx)
  exact⟨sl',e2⟩
 ·obtain⟨o',e1⟩:=I.base.there b o e hx
  exact free b o' (neC b o e hx) e1 (I.base.free b o e n hx)
 ·obtain⟨o',e1⟩:=I.base.there b o e hx
  exact there b o' (neC b o e hx) e1
 ·obtain⟨m1,e1⟩:=I.base.tbls b ps e
  obtain⟨m2,e2⟩:=tbls b _ e1
  exact⟨m1++m2,by rw[e2,Array.append_assoc]⟩
 ·obtain⟨m,hn,hl⟩:=I.loc
  refine⟨m,ns m hn,fun i x v e1 e2 e3=>?_⟩
  obtain⟨u,r,l⟩:=hl i x v e1 e2 e3
  refine⟨u,r,?_⟩
  rcases l with l|⟨k,c,e,z⟩
  ·exact .inl l
  ·exact .inr ⟨k,c,e,cellK x c e _ z⟩
 ·obtain⟨v,z⟩:=I.cell x c e
  exact⟨v,cellK x c e v z⟩
 ·obtain⟨m,⟨o,_,_,ho,_⟩,_⟩:=I.loc
  exact free _ o (fun z=>(hch _ z).2.1 rfl) ho I.free
 ·obtain⟨v,o,ho,hd⟩:=I.cell x c e
  exact free c o (fun z=>(hch c z).2.2.1 x c e rfl) ho (I.freeC x c e)
 ·obtain⟨e,n,ne,nf,d⟩:=I.pin p hp
  have nch:p.1∉ch:=fun z=>(hch p.1 z).2.2.2 p hp rfl
  exact⟨keep p.1 p.2 ne nf nch e n,free p.1 p.2 nch e n,ne,nf,d⟩
theorem Inv.un {t':Nat}(I:Inv X pins σ H s)(u:Un X.fs [] H H' s.heap h')(hok:HOk X.prog X.w H' h'):Inv X pins σ H' {s with heap:=h',toks:=t'}:=by
 obtain⟨m,⟨o,es,ep,ho,r⟩,_⟩:=id I.loc
 obtain⟨sl,hL⟩:=u.any ho I.free (by simp)
 exact I.step (g':=s.gens) (d':=s.drawn) (ch:=[]) (fun _ z=>nomatch z) (fun b o _ hb _ e n=>u.keep b o e n hb (by simp)) (fun b o _ hb _ e n=>u.slot b o e n hb (by simp)) (fun b o _ e n=>u.free b o e n (by simp)) (fun b o _ e=>u.there b o e (by simp)) u.tups u.frzs u.tbls (fun m' hm=>by
  obtain⟨o',es',ep',ho',r'⟩:=hm
  rw[ho] at ho';cases ho'
  exact⟨_,es',ep',hL,r'⟩) hok I.bare
theorem Inv.call {g':Array GenState}{t':Nat}{d':Drawn}(I:Inv X pins σ H s)(u:Un (frs X.stack) ch H H' s.heap h')(hok:HOk X.prog X.w H' h')(hg:AllBare g')
  (hch:∀b∈ch,(b∈X.ex\/X.s₀.heap.objs.size<=b)/\b≠X.env.locals/\(∀x c,X.env.cells.lookup x=some c->c≠b)/\∀p∈X.pn++pins,p.1≠b) :
  Inv X pins σ H' {s with heap:=h',gens:=g',drawn:=d',toks:=t'}:=by
 obtain⟨m,⟨o,es,ep,ho,r⟩,_⟩:=id I.loc
 obtain⟨sl,hL⟩:=u.any ho I.free fun z=>(hch _ z).2.1 rfl
 exact I.step (ch:=ch) hch (fun b o hL hb hc e n=>u.keep b o e n (fun z=>(CV0.mp (I.stkSub b z)).elim hL hb) hc) (fun b o _ _ hc e n=>u.any e n hc) (fun b o hc e n=>u.free b o e n hc) (fun b o hc e=>u.there b o e hc) u.tups u.frzs u.tbls (fun m' hm=>by
  obtain⟨o',es',ep',ho',r'⟩:=hm
  rw[ho] at ho';cases ho'
  exact⟨_,es',ep',hL,r'⟩) hok hg
theorem Inv.turned {t':Nat}{it:Addr}(I:Inv X pins σ H s)(k:∀b o,b≠it->s.heap.get? b=some o->h'.get? b=some o)(hn:H it=none)(hL:it≠X.env.locals)
  (h1:it∈X.ex\/X.s₀.heap.objs.size<=it) (h2:∀x c,X.env.cells.lookup x=some c->c≠it) (h3:∀p∈X.pn++pins,p.1≠it):Inv X pins σ H {s with heap:=h',toks:=t'}:=by
 have nit:∀b u,H b=some u->b≠it:=fun b u e z=>by rw[z,hn] at e;cases e
 refine I.step (g':=s.gens) (d':=s.drawn) (ch:=[it]) (fun b hb=>?_) (fun b o _ _ hc e _=>k b o (fun z=>hc (by simp[z])) e) (fun b o _ _ hc e _=>⟨o.slots,k b o (fun z=>hc (by simp[z])) e⟩) (fun _ _ _ _ n=>n)
  (fun b o hc e=>⟨o,k b o (fun z=>hc (by simp[z])) e⟩) (fun _ _ e=>e) (fun _ _ _ e=>e) (fun b ps e=>⟨#[],by rw[e];simp⟩) (fun m hm=>?_) (fun b u e=>?_) I.bare
 ·have e:b=it:=by simpa using hb
  subst e
  exact⟨h1,hL,h2,h3⟩
 ·obtain⟨o,es,ep,ho,r⟩:=hm
  exact⟨o,es,ep,k _ o (Ne.symm hL) ho,r⟩
 ·refine(I.hok b u e).stay (fun c v hc q=>k c v ?_ q) (fun _ q=>q) fun _ _ q=>q
  rcases hc with z|z
  ·rw[z];exact nit b u e
  ·exact nit c _ z
theorem Inv.tok (I:Inv X pins σ H s)(t:Nat):Inv X pins σ H {s with toks:=t}:=I.un (h':=s.heap) (t':=t) Un.refl I.hok
theorem Inv.kept {t':Nat}(I:Inv X pins σ H s)(k:∀b u,s.heap.get? b=some u->h'.get? b=some u):Inv X pins σ H {s with heap:=h',toks:=t'}:=I.un (Un.kept k) (I.hok.kept k)
theorem Inv.laid {o:HO}{t':Nat}(I:Inv X pins σ H s)(k:∀b u,s.heap.get? b=some u->h'.get? b=some u)(hp:s.heap.objs.size<=a)(new:ObjOk X.prog X.w (upd H a o) h' a o) :
  Inv X pins σ (upd H a o) {s with heap:=h',toks:=t'}:=I.un (Un.laid k hp (I.hok.fresh hp)) (I.hok.laid k hp new)
theorem Inv.write {x e:Addr}{o:HO}{t':Nat}(I:Inv X pins σ H s)(mu:Mut (H x))(he:e=x\/H e=some (.own x))(k:∀b u,b≠e->s.heap.get? b=some u->h'.get? b=some u)(heo:∃u,h'.get? e=some u)
  (new:ObjOk X.prog X.w (upd H x o) h' x o):Inv X pins σ (upd H x o) {s with heap:=h',toks:=t'}:=I.un (Un.write mu he k heo) (I.hok.write mu he k heo new)
theorem Inv.pins_of {pins':List (Addr×Obj)}(I:Inv X pins σ H s)(h:∀p∈pins',s.heap.get? p.1=some p.2/\H p.1=none/\p.1≠X.env.locals/\p.1∉X.fs/\∀v,p.2.data≠.cell v):Inv X pins' σ H s :=
 ⟨I.ok,I.os,I.bare,I.base,I.loc,I.cell,I.free,I.freeC,fun p hp=>(CZ9.mp hp).elim (fun z=>I.pin p (DE0 _ z)) (h p),I.hok,I.len⟩
theorem WS (hN:N.Nodup)(a:N[i]?=some x)(b:N[j]?=some x):i=j:=by
 obtain⟨h1,e1⟩:=List.getElem?_eq_some_iff.mp a
 obtain⟨h2,e2⟩:=List.getElem?_eq_some_iff.mp b
 exact(List.getElem_inj hN).mp (e1.trans e2.symm)
theorem AP2 {M:Model}{v:V}{Q:Unit->CV4->Prop}(I:Inv X pins σ H s)(hN:X.N.Nodup)(hi:X.N[i]?=some x)(hx:Loc X.env.scope x)(r:RelV v u)
  (h:∀s',Inv X pins (σ.set i (some v)) H s'->(∃a,DD0 a s.heap s'.heap/\(a=X.env.locals\/X.env.cells.lookup x=some a))->Q () s') (hf:X.fn x=true\/X.env.scope.names.lookup x=some .local:=by first|exact .inl rfl|exact .inr rfl|assumption):wpAny M A (storeName X.env x u) Q E s:=by
 obtain⟨m,hn,hl⟩:=id I.loc
 have hcls:(X.env.scope.kind==.class || (X.env.scope.kind==.module && X.env.locals != X.env.globals))=false:=by rw[I.ok.kind];rfl
 have hiσ:i<σ.length:=by rw[I.len];exact(List.getElem?_eq_some_iff.mp hi).1
 have cne:=I.cne
 have tracked:∀{a:Addr} {h':Heap},(∃o,s.heap.get? a=some o/\H a=none)->DD0 a s.heap h'->HOk X.prog X.w H h':=fun{a h'} ha hs b ob e=>by
  obtain⟨_,_,hfree⟩:=ha
  refine(I.hok b ob e).stay (fun c w' hc q=>(hs.2 c ?_).trans q) (fun _ q=>q) fun _ _ q=>q
  rintro rfl
  rcases hc with rfl|hc
  ·rw[hfree] at e;cases e
  ·rw[hfree] at hc;cases hc
 rcases hx with hk|hk
 ·refine wpAny_storeName_local hk hn (fun h' hn' hs=>?_) hcls
  obtain⟨oL,_,_,hoL,_⟩:=id hn
  refine h _ ⟨I.ok,I.os,I.bare,⟨fun b o e n hb hx=>?_,fun b o e n hb hx=>?_,I.base.free,fun b o e hx=>?_,I.base.tups,I.base.frzs,I.base.tbls⟩,⟨_,hn',fun j y v' e1 e2 e3=>?_⟩,fun y c e=>?_,I.free,I.freeC,fun p hp=>?_,tracked ⟨oL,hoL,I.free⟩ hs,by simpa using I.len⟩ ⟨_,hs,.inl rfl⟩
  ·exact(hs.2 b (CX3 (CY9 (CV9 e) I.ok.above))).trans (I.base.keep b o e n hb hx)
  ·obtain⟨sl,e1⟩:=I.base.slot b o e n hb hx
   exact⟨sl,(hs.2 b (CX3 (CY9 (CV9 e) I.ok.above))).trans e1⟩
  ·obtain⟨o',e1⟩:=I.base.there b o e hx
   exact⟨o',(hs.2 b (CX3 (CY9 (CV9 e) I.ok.above))).trans e1⟩
  ·by_cases hj:j=i
   ·subst hj
    rw[hi] at e1;cases e1
    rw[List.getElem?_set_self hiσ] at e2
    cases e2
    exact⟨u,r,.inl ⟨hk,by simp⟩⟩
   ·rw[List.getElem?_set_ne (Ne.symm hj)] at e2
    obtain⟨u',r',q⟩:=hl j y v' e1 e2 e3
    refine⟨u',r',?_⟩
    rcases q with⟨k,e⟩|⟨k,c,e,z⟩
    ·refine .inl ⟨k,?_⟩
     have:y≠x:=fun e=>hj (WS hN e1 (e ▸ hi))
     simp[this,e]
    ·exact .inr ⟨k,c,e,z.sameBut hs (cne y c e)⟩
  ·obtain⟨w',z⟩:=I.cell y c e
   exact⟨w',z.sameBut hs (cne y c e)⟩
  ·obtain⟨e,n,ne,nf,d⟩:=I.pin p hp
   exact⟨(hs.2 p.1 ne).trans e,n,ne,nf,d⟩
 ·have hfn:X.fn x=true:=by
   rcases hf with z|z
   ·exact z
   ·rw[z] at hk;cases hk
  obtain⟨c,hc⟩:=I.ok.has x (.inl hk)
  obtain⟨w',z⟩:=I.cell x c hc
  refine wpAny_storeName_cell I.ok.kind hk hc z (fun h' hc' hs=>?_)
  obtain⟨oc,hoc,hocd⟩:=id z
  refine h {s with heap:=h'} ⟨I.ok,I.os,I.bare,⟨fun b o e n hb hx=>?_,fun b o e n hb hx=>?_,I.base.free,fun b o e hx=>?_,I.base.tups,I.base.frzs,I.base.tbls⟩,⟨m,hn.sameBut hs (Ne.symm (cne x c hc)),fun j y v' e1 e2 e3=>?_⟩,fun y c' e=>?_,I.free,I.freeC,fun p hp=>?_,tracked ⟨oc,hoc,I.freeC x c hc⟩ hs,by simpa using I.len⟩ ⟨c,hs,.inr hc⟩
  ·exact(hs.2 b (CX3 (CY9 (CV9 e) (I.ok.cab x c hfn hc)))).trans (I.base.keep b o e n hb hx)
  ·obtain⟨sl,e1⟩:=I.base.slot b o e n hb hx
   exact⟨sl,(hs.2 b (CX3 (CY9 (CV9 e) (I.ok.cab x c hfn hc)))).trans e1⟩
  ·obtain⟨o',e1⟩:=I.base.there b o e hx
   exact⟨o',(hs.2 b (CX3 (CY9 (CV9 e) (I.ok.cab x c hfn hc)))).trans e1⟩
  ·by_cases hj:j=i
   ·subst hj
    rw[hi] at e1;cases e1
    rw[List.getElem?_set_self hiσ] at e2
    cases e2
    exact⟨u,r,.inr ⟨.inl hk,c,hc,hc'⟩⟩
   ·rw[List.getElem?_set_ne (Ne.symm hj)] at e2
    obtain⟨u',r',q⟩:=hl j y v' e1 e2 e3
    refine⟨u',r',?_⟩
    rcases q with q|⟨k,c',e,z'⟩
    ·exact .inl q
    ·refine .inr ⟨k,c',e,z'.sameBut hs ?_⟩
     rintro rfl
     exact hj (WS hN e1 (I.ok.inj _ _ _ e hc ▸ hi))
  ·by_cases hcc:c'=c
   ·subst hcc;exact⟨_,hc'⟩
   ·obtain⟨w2,z2⟩:=I.cell y c' e
    exact⟨w2,z2.sameBut hs hcc⟩
  ·obtain⟨e,n,ne,nf,d⟩:=I.pin p hp
   refine⟨(hs.2 p.1 ?_).trans e,n,ne,nf,d⟩
   intro q
   rw[q,hoc] at e
   have q':oc=p.2:=Option.some.inj e
   exact d w' (by rw[<-q'];exact hocd)
theorem IS {M:Model}{v:V}{Q:Unit->CV4->Prop}(I:Inv X pins σ H s)(hN:X.N.Nodup)(hi:X.N[i]?=some x)(hx:Loc X.env.scope x)(r:RelV v u)
  (h:∀s',Inv X pins (σ.set i (some v)) H s'->Q () s') (hf:X.fn x=true\/X.env.scope.names.lookup x=some .local:=by first|exact .inl rfl|exact .inr rfl|assumption):wpAny M A (storeName X.env x u) Q E s :=
 AP2 I hN hi hx r (fun s' I' _=>h s' I') hf
theorem Inv.call' (I:Inv X pins σ H s)(ho:s'.os=s.os)(u:Un (frs X.stack) ch H H' s.heap s'.heap)(hok:HOk X.prog X.w H' s'.heap)(hg:AllBare s'.gens)
  (hch:∀b∈ch,(b∈X.ex\/X.s₀.heap.objs.size<=b)/\b≠X.env.locals/\(∀x c,X.env.cells.lookup x=some c->c≠b)/\∀p∈X.pn++pins,p.1≠b):Inv X pins σ H' s':=by
 obtain⟨h',g',d',t',o'⟩:=s'
 have e:o'=s.os:=ho
 subst e
 exact I.call (g':=g') (t':=t') (d':=d') u hok hg hch
end
abbrev XK:=Value->Option Addr->Hp->Prop
abbrev St:=List (Option V)
abbrev VK:=V->Hp->Prop
abbrev TE:=St->Hp->VK->Prop
abbrev TA:=St->Hp->(List V->Hp->Prop)->Prop
structure Ends where
 nx:St->Hp->Prop
 rt:VK
 bk:St->Hp->Prop:=fun _ _=>False
 ct:St->Hp->Prop:=fun _ _=>False
abbrev TS:=Ends->St->Hp->Prop
def EP (X:Cx)(pins:List (Addr×Obj))(σ:St)(Q:VK)(u:Value)(s':CV4):Prop:=∃v H',Inv X pins σ H' s'/\RelV v u/\Q v H'
def AP (X:Cx)(pins:List (Addr×Obj))(σ:St)(Q:List V->Hp->Prop)(us:List Value)(s':CV4):Prop:=∃vs H',Inv X pins σ H' s'/\Vals vs us/\Q vs H'
def SP (X:Cx)(pins:List (Addr×Obj))(D:Ends)(f:Flow)(s':CV4):Prop :=
 match f with
 | .next=>∃σ' H',Inv X pins σ' H' s'/\D.nx σ' H'
 | .brk=>∃σ' H',Inv X pins σ' H' s'/\D.bk σ' H'
 | .cont=>∃σ' H',Inv X pins σ' H' s'/\D.ct σ' H'
 | .ret u=>∃v σ' H',Inv X pins σ' H' s'/\RelV v u/\D.rt v H'
def PE (X:Cx)(e:Expr)(t:TE):Prop :=
 ∀(pins:List (Addr×Obj)) (s:CV4) (σ:St) (H:Hp) (Q:VK),Inv X pins σ H s->t σ H Q->wpAny (model X.prog X.w) X.A (eval e X.env) (EP X pins σ Q) X.xe s
def PA (X:Cx)(es:List Expr)(t:TA):Prop :=
 ∀(pos:Pos) (pins:List (Addr×Obj)) (s:CV4) (σ:St) (H:Hp) (Q:List V->Hp->Prop),Inv X pins σ H s->t σ H Q->wpAny (model X.prog X.w) X.A (spliced (DK1 pos (CY3 es X.env))) (AP X pins σ Q) X.xe s
def PS (X:Cx)(st:Stmt)(t:TS):Prop :=
 ∀(pins:List (Addr×Obj)) (s:CV4) (σ:St) (H:Hp) (D:Ends),Inv X pins σ H s->t D σ H->wpAny (model X.prog X.w) X.A (exec st X.env) (SP X pins D) X.xe s
def PSs (X:Cx)(st:List Stmt)(t:TS):Prop :=
 ∀(pins:List (Addr×Obj)) (s:CV4) (σ:St) (H:Hp) (D:Ends),Inv X pins σ H s->t D σ H->wpAny (model X.prog X.w) X.A (execs st X.env) (SP X pins D) X.xe s
theorem thn {t:Sem α}{Q Q':α->CV4->Prop}{M:Model}(h:wpAny M A t Q E s)(hQ:∀a s,Q a s->Q' a s):wpAny M A t Q' E s:=DB9 h hQ fun _ _ x=>x
section
variable {X:Cx}
def CQ0 (i:Nat):TE:=fun σ H Q=>∃v,σ[i]?=some (some v)/\Q v H
def tC (v:V):TE:=fun _ H Q=>Q v H
theorem BW8 (hN:X.N[i]?=some x)(hv:Vis X.env.scope x)(hd:(x==("__debug__":Str))=false:=by decide) (hcd:(x==("__classdict__":Str))=false:=by decide):PE X (.Name x pos) (CQ0 i):=by
 intro pins s σ H Q I h
 obtain⟨v,e,h⟩:=h
 obtain⟨m,hn,hl⟩:=I.loc
 obtain⟨u,r,l⟩:=hl i x v hN e hv
 have fin:EP X pins σ Q u s:=⟨v,H,I,r,h⟩
 rcases l with⟨hk,hm⟩|⟨hk,c,hc,hcell⟩
 ·exact wpAny_Name (wpAny_loadName_local I.ok.kind hk hn hm fin) hd
 ·rcases hk with hk|hk
  ·exact wpAny_Name (wpAny_loadName_cell I.ok.kind hk hc hcell fin) hd
  ·exact wpAny_Name (wpAny_loadName_free I.ok.kind hk hc hcell fin hcd) hd
theorem BW4 {i j pos}:PE X (.Constant (.int i) j pos) (tC (.int i)):=fun _ _ _ H _ I h=>wpAny_Constant_int ⟨.int i,H,I.tok _,⟨_,rfl⟩,h⟩
theorem CL9 {b j pos}:PE X (.Constant (.bool b) j pos) (tC (.bl b)):=fun _ _ _ H _ I h=>Constant_bool ⟨.bl b,H,I,rfl,h⟩
theorem BW5 {j pos}:PE X (.Constant .none j pos) (tC .non):=fun _ _ _ H _ I h=>Constant_none ⟨.non,H,I,rfl,h⟩
theorem BW6 {x j pos}:PE X (.Constant (.str x) j pos) (tC (.str x)):=fun _ _ _ H _ I h=>Calls.Constant_str ⟨.str x,H,I.tok _,⟨_,rfl⟩,h⟩
def Gl (X:Cx)(x:Str):Prop:=X.env.kindOf x=some .globalImplicit
theorem AG6 {σ:St}{H:Hp}(I:Inv X pins σ H s)(hg:Gl X x)(hm:X.mg x=some u)(h:Q u s)
  (hd:(x==("__debug__":Str))=false:=by decide):wpAny (model X.prog X.w) X.A (eval (.Name x pos) X.env) Q E s :=
 Calls.Name_function_global I.ok.kind hg (Calls.loadGlobal_global (by rw[I.ok.glob];exact I.mod.glob.keeps I.bk) hm h) hd
theorem CW {σ:St}{H:Hp}(I:Inv X pins σ H s)(hg:Gl X x)(hm:X.mg x=none)(hv:DB0 x=some u)(h:Q u s)
  (hn:x≠"__name__":=by decide) (hd:(x==("__debug__":Str))=false:=by decide):wpAny (model X.prog X.w) X.A (eval (.Name x pos) X.env) Q E s:=by
 obtain⟨mb,h1,h2⟩:=I.mod.blt
 exact Calls.Name_function_global I.ok.kind hg (Calls.loadGlobal_builtin (by rw[I.ok.glob];exact I.mod.glob.keeps I.bk) hm (by rw[I.ok.blt];exact h1.keeps I.bk) ((h2 x hn).trans hv) h) hd
theorem BK5 {v:V}(hg:Gl X x)(hm:X.mg x=some u)(r:RelV v u)(hd:(x==("__debug__":Str))=false:=by decide):PE X (.Name x pos) (tC v) :=
 fun _ _ _ H _ I h=>AG6 I hg hm ⟨v,H,I,r,h⟩ hd
theorem BK1 {v:V}(hg:Gl X x)(hm:X.mg x=none)(hv:DB0 x=some u)(r:RelV v u)(hn:x≠"__name__":=by decide) (hd:(x==("__debug__":Str))=false:=by decide):PE X (.Name x pos) (tC v) :=
 fun _ _ _ H _ I h=>CW I hg hm hv ⟨v,H,I,r,h⟩ hn hd
variable {a b:Expr}{ta tb:TE}{pos:Pos}
variable {tA tB':TT}{rest:List Expr}
end
def SqL (K:CV3)(H:Hp)(a:Addr)(xs:List V):Prop :=
 Rd H a (.lst xs) \/
  ∃(o:Obj) (its:Array Value) (n:Nat),K.lookup a=some o/\o.cls=.type "list"/\o.dict=none/\o.data=.seq its n/\its.size<=CV8/\Vals xs its.toList
def SqT (K:CV3)(H:Hp)(a:Addr)(xs:List V):Prop :=
 Rd H a (.tup xs) \/
  ∃(o:Obj) (its:Array Value) (n:Nat),K.lookup a=some o/\o.cls=.type "tuple"/\o.data=.seq its n/\its.size<=CV8/\Vals xs its.toList
def CQ9:Value->Option V
 | .none=>some .non
 | .bool b=>some (.bl b)
 | .int i _=>some (.int i)
 | .str x _=>some (.str x)
 | .bytes b _=>some (.byt b)
 | .float b _=>some (.flt b)
 | .ref a=>some (.ref a)
 | .type n=>some (.ty n)
 | _=>none
theorem RelV.abs {x:V}(r:RelV x u):CQ9 u=some x:=by
 cases x with
 | non=>cases r;rfl
 | bl _=>cases r;rfl
 | int _=>obtain⟨t,rfl⟩:=r;rfl
 | str _=>obtain⟨t,rfl⟩:=r;rfl
 | byt _=>obtain⟨t,rfl⟩:=r;rfl
 | flt _=>obtain⟨t,rfl⟩:=r;rfl
 | ref _=>cases r;rfl
 | ty _=>cases r;rfl
theorem RelV.inj {x y:V}(r:RelV x u)(q:RelV y u):x=y:=Option.some.inj (r.abs.symm.trans q.abs)
theorem Vals.inj:∀{xs ys:List V} {us:List Value},Vals xs us->Vals ys us->xs=ys
 | _,_,_,.nil,.nil=>rfl
 | _,_,_,.cons r t,.cons r' t'=>by rw[r.inj r',Vals.inj t t']
section
variable {X:Cx}{pins:List (Addr×Obj)}{σ:St}{H:Hp}{s:CV4}{a:Addr}{xs ys:List V}
theorem Inv.list (I:Inv X pins σ H s)(h:SqL X.K H a xs):∃its:List Value,Vals xs its/\PlainL s.heap a its.toArray/\xs.length<=CV8:=by
 rcases h with h|⟨o,its,n,hk,hc,hd,hs,hz,r⟩
 ·obtain⟨z,its,n,r,e⟩:=h.ok I.hok
  exact⟨its,r,⟨_,n,e,rfl,rfl,rfl⟩,z⟩
 ·refine⟨its.toList,r,⟨o,n,I.kIn a o hk,hc,hd,by simpa using hs⟩,?_⟩
  have e:=r.length
  simp only[CW2] at e
  lia
theorem Inv.tuple (I:Inv X pins σ H s)(h:SqT X.K H a xs):∃its:List Value,Vals xs its/\IsTup s.heap a its.toArray/\xs.length<=CV8:=by
 rcases h with h|⟨o,its,n,hk,hc,hs,hz,r⟩
 ·obtain⟨z,its,r,p⟩:=h.ok I.hok
  exact⟨its,r,p,z⟩
 ·refine⟨its.toList,r,⟨o,I.kIn a o hk,hc,n,by simpa using hs⟩,?_⟩
  have e:=r.length
  simp only[CW2] at e
  lia
theorem Inv.list_inj (I:Inv X pins σ H s)(h:SqL X.K H a xs)(h':SqL X.K H a ys):xs=ys:=by
 obtain⟨its,r,⟨o,n,e,_,_,d⟩,_⟩:=I.list h
 obtain⟨its',r',⟨o',n',e',_,_,d'⟩,_⟩:=I.list h'
 rw[e] at e';cases e'
 rw[d] at d'
 injection d' with d1 _
 have:its=its':=by simpa using congrArg Array.toList d1
 subst this
 exact r.inj r'
theorem Inv.tuple_inj (I:Inv X pins σ H s)(h:SqT X.K H a xs)(h':SqT X.K H a ys):xs=ys:=by
 obtain⟨its,r,⟨o,e,_,n,d⟩,_⟩:=I.tuple h
 obtain⟨its',r',⟨o',e',_,n',d'⟩,_⟩:=I.tuple h'
 rw[e] at e';cases e'
 rw[d] at d'
 injection d' with d1 _
 have:its=its':=by simpa using congrArg Array.toList d1
 subst this
 exact r.inj r'
end
abbrev Cx.wish (X:Cx)(E:Value->CV4->Prop):Cx:={X with xe:=E}
abbrev Cx.nox (X:Cx):Cx:=X.wish fun _ _=>False
theorem Cx.Ok.wish {X:Cx}(ok:X.Ok)(E:Value->CV4->Prop):(X.wish E).Ok :=
 ⟨ok.mod,ok.kind,ok.glob,ok.blt,ok.above,ok.inj,ok.has,ok.cab,ok.hd,ok.frames,ok.stk,ok.exf,ok.bs,ok.bsz,ok.noex,ok.exfs,ok.funs,ok.frf⟩
theorem Cx.Ok.unwish {X:Cx}(ok:(X.wish E).Ok):X.Ok :=
 ⟨ok.mod,ok.kind,ok.glob,ok.blt,ok.above,ok.inj,ok.has,ok.cab,ok.hd,ok.frames,ok.stk,ok.exf,ok.bs,ok.bsz,ok.noex,ok.exfs,ok.funs,ok.frf⟩
section
variable {X:Cx}{pins:List (Addr×Obj)}{σ:St}{H:Hp}{s:CV4}{E:Value->CV4->Prop}
theorem Inv.wish (I:Inv X pins σ H s)(E:Value->CV4->Prop):Inv (X.wish E) pins σ H s:=⟨I.ok.wish E,I.os,I.bare,I.base,I.loc,I.cell,I.free,I.freeC,I.pin,I.hok,I.len⟩
theorem Inv.unwish (I:Inv (X.wish E) pins σ H s):Inv X pins σ H s:=⟨I.ok.unwish,I.os,I.bare,I.base,I.loc,I.cell,I.free,I.freeC,I.pin,I.hok,I.len⟩
theorem SP.unwish {D:Ends}{f:Flow}(h:SP (X.wish E) pins D f s'):SP X pins D f s':=by
 cases f with
 | next=>obtain⟨σ',H',I,q⟩:=h;exact⟨σ',H',I.unwish,q⟩
 | brk=>obtain⟨σ',H',I,q⟩:=h;exact⟨σ',H',I.unwish,q⟩
 | cont=>obtain⟨σ',H',I,q⟩:=h;exact⟨σ',H',I.unwish,q⟩
 | ret u=>obtain⟨v,σ',H',I,r,q⟩:=h;exact⟨v,σ',H',I.unwish,r,q⟩
theorem PSs.nox {st:List Stmt}{t:TS}(h:PSs X.nox st t):PSs X st t:=fun pins s σ H D I hw =>
 DB9 (h pins s σ H D (I.wish _) hw) (fun _ _ q=>q.unwish) fun _ _ z=>False.elim z
end
section
variable {X:Cx}{st:Stmt}{rest:List Stmt}{t u:TS}{e:Expr}{te:TE}{pos:Pos}
theorem Inv.quiet {σ:St}{H:Hp}(I:Inv X pins σ H s):interactive X.env=false:=by simp[interactive,I.ok.kind]
end
abbrev TG:=V->St->Hp->(St->Hp->Prop)->Prop
abbrev TGs:=List V->St->Hp->(St->Hp->Prop)->Prop
def PG (X:Cx)(target:Expr)(t:TG):Prop :=
 ∀(pins:List (Addr×Obj)) (s:CV4) (σ:St) (H:Hp) (v:V) (u:Value) (Q:St->Hp->Prop),Inv X pins σ H s->RelV v u->t v σ H Q ->
  wpAny (model X.prog X.w) X.A (assign target X.env u) (fun _ s'=>∃σ' H',Inv X pins σ' H' s'/\Q σ' H') X.xe s
def PGs (X:Cx)(ts:List Expr)(t:TGs):Prop :=
 ∀(pins:List (Addr×Obj)) (s:CV4) (σ:St) (H:Hp) (vs:List V) (us:List Value) (Q:St->Hp->Prop),Inv X pins σ H s->Vals vs us->t vs σ H Q ->
  wpAny (model X.prog X.w) X.A (assignInOrder ((DH3 ts X.env).map (·.2)) us) (fun _ s'=>∃σ' H',Inv X pins σ' H' s'/\Q σ' H') X.xe s
abbrev TSet:=V->V->V->Hp->(Hp->Prop)->Prop
def CF1 (X:Cx)(t:TSet):Prop :=
 ∀(pins:List (Addr×Obj)) (s:CV4) (σ:St) (H:Hp) (o i v:V) (ov iv u:Value) (Q:Hp->Prop),Inv X pins σ H s->RelV o ov->RelV i iv->RelV v u->t o i v H Q ->
  wpAny (model X.prog X.w) X.A (setItem ov iv u) (fun _ s'=>∃H',Inv X pins σ H' s'/\Q H') X.xe s
section
variable {X:Cx}{pos:Pos}
def BO9 (i:Nat):TG:=fun v σ H Q=>Q (σ.set i (some v)) H
theorem TP (hN:X.N.Nodup)(hi:X.N[i]?=some x)(hx:Loc X.env.scope x)(hf:X.fn x=true\/X.env.scope.names.lookup x=some .local:=by first|exact .inl rfl|exact .inr rfl|assumption):PG X (.Name x pos) (BO9 i):=by
 intro pins s σ H v u Q I r h
 exact wpAny_assign_Name (IS I hN hi hx r (fun s' I'=>⟨_,H,I',h⟩) hf)
def CR4:TGs:=fun vs σ H Q=>vs=[]/\Q σ H
def CG0 (t:TG)(u:TGs):TGs:=fun vs σ H Q=>∃v r,vs=v::r/\t v σ H fun σ' H'=>u r σ' H' Q
theorem BK7:PGs X [] CR4:=by
 intro pins s σ H vs us Q I r h
 obtain⟨e,h⟩:=h
 subst e
 cases r
 exact assignInOrder_nil ⟨σ,H,I,h⟩
theorem AZ0 {t:TG}{u:TGs}(h1:PG X e t)(h2:PGs X es u)
  (hs:(DH3 (e::es) X.env).map (·.2)=assign e X.env::(DH3 es X.env).map (·.2):=by rfl):PGs X (e::es) (CG0 t u):=by
 intro pins s σ H vs us Q I r h
 obtain⟨v,vr,e1,h⟩:=h
 subst e1
 cases r with
 | cons r rr =>
  rw[hs]
  refine assignInOrder_cons (thn (h1 pins s σ H _ _ _ I r h) fun _ s1 ⟨σ1,H1,I1,q1⟩=>?_)
  exact h2 pins s1 σ1 H1 _ _ Q I1 rr q1
def CR6 (K:CV3)(n:Nat)(t:TGs):TG:=fun v σ H Q=>∃a xs,v=.ref a/\SqT K H a xs/\xs.length=n/\t xs σ H Q
theorem BX0 {t:TGs}(hc:X.calm=true)(h:PGs X es t)
  (hn:(DH3 es X.env).length=n:=by rfl) (hst:(DH3 es X.env).findIdx? (·.1)=none:=by rfl):PG X (.Tuple es k pos) (CR6 X.K n t):=by
 intro pins s σ H v u Q I r hw
 obtain⟨a,xs,e1,hq,hl,hw⟩:=hw
 subst e1
 cases r
 obtain⟨its,rv,ht,hz⟩:=I.tuple hq
 refine assign_Tuple_tuple (I.ok.hd hc) ht (by simp[hn,<-hl,rv.length]) hst fun h' hx=>?_
 have I1:Inv X pins σ H {s with heap:=h'}:=I.kept (t':=s.toks) fun b o e=>hx b o (CX3 (CV9 e)) e
 exact h pins _ σ H xs _ Q I1 (by simpa using rv) hw
def CR5 (to ti:TE)(t:TSet):TG:=fun v σ H Q=>to σ H fun o H1=>ti σ H1 fun i H2=>t o i v H2 fun H3=>Q σ H3
theorem BW9 {o i:Expr}{to ti:TE}{t:TSet}(ho:PE X o to)(hi:PE X i ti)(hs:CF1 X t)
  (ha:∀v,assign (.Subscript o i pos) X.env v=(do
   let ov <-holding [v] (eval o X.env)
   let iv <-holding [v,ov] (eval i X.env)
   standAt pos
   holding [v,ov,iv] (setItem ov iv v)
   release [v,ov,iv] []):=by intro _;rfl):PG X (.Subscript o i pos) (CR5 to ti t):=by
 intro pins s σ H v u Q I r h
 rw[ha]
 refine CU6 (DA2 (thn (ho pins s σ H _ I h) fun ov s1 ⟨x,H1,I1,r1,q1⟩=>?_))
 refine CU6 (DA2 (thn (hi pins s1 σ H1 _ I1 q1) fun iv s2 ⟨y,H2,I2,r2,q2⟩=>?_))
 refine CU6 (DN5 (CU6 (DA2 (thn (hs pins s2 σ H2 x y v ov iv u _ I2 r1 r2 r q2) fun _ s3 ⟨H3,I3,q3⟩=>?_))))
 exact wpAny_release ⟨σ,H3,I3,q3⟩
def CP6 (te:TE)(g:TG):TS:=fun D σ H=>te σ H fun x H1=>g x σ H1 D.nx
theorem BA3 {te:TE}{g:TG}(he:PE X e te)(hg:PG X tg g)(hs:swapsWithSole [tg] e pos.line X.env=pure false:=by rfl) (hw:swappedStores [tg] e X.env=pure none:=by rfl)
  (h1:(DH3 [tg] X.env).map (·.2)=[assign tg X.env]:=by rfl):PS X (.Assign [tg] e pos) (CP6 te g):=by
 intro pins s σ H D I h
 refine wpAny_Assign_stores (thn (he pins s σ H _ I h) fun v s1 ⟨x,H1,I1,r1,q1⟩=>?_) hs hw
 rw[h1]
 exact thn (hg pins s1 σ H1 x v _ I1 r1 q1) fun _ s2 q=>q
theorem BX5 {te:TE}{pos':Pos}(hN:X.N.Nodup)(hi:X.N[i]?=some x)(hx:Loc X.env.scope x)(he:PE X e te)(hs:DM5 e (some (.Name x pos')) pos.line X.env=pure false:=by rfl) (hf:X.fn x=true\/X.env.scope.names.lookup x=some .local:=by first|exact .inl rfl|exact .inr rfl|assumption) :
  PS X (.Assign [.Name x pos'] e pos) (CP6 te (BO9 i)):=by
 intro pins s σ H D I h
 refine wpAny_Assign_Name (thn (he pins s σ H _ I h) fun v s1 ⟨y,H1,I1,r1,q1⟩=>?_) hs
 exact IS I1 hN hi hx r1 (fun s2 I2=>⟨_,H1,I2,q1⟩) hf
end
section
variable {X:Cx}{pos:Pos}
end
structure It where
 go:Nat->Hp->Prop
 yld:Nat->Hp->V->Hp->Prop
 stop:Nat->Hp->Prop
def ON (X:Cx)(pins:List (Addr×Obj))(H:Hp)(b:Addr):Prop :=
 H b=none/\b≠X.env.locals/\b∉X.fs/\(b∈X.ex\/X.s₀.heap.objs.size<=b)/\(∀x c,X.env.cells.lookup x=some c->c≠b)/\∀p∈X.pn++pins,p.1≠b
theorem Inv.fpOk {X:Cx}{σ:St}{H H':Hp}(I:Inv X pins σ H s)(hb:s.heap.objs.size<=b)(hn:H' b=none):ON X pins H' b:=by
 refine⟨hn,DL9 (CY9 I.lt hb),I.nofs hb,.inr (CY4 I.sz hb),fun x c e z=>?_,fun p hp z=>?_⟩
 ·obtain⟨v,q⟩:=I.cell x c e
  exact absurd (CY9 q.lt (by rw[z];exact hb)) (DC9 _)
 ·exact absurd (CY9 (CV9 (I.pin p hp).1) (by rw[z];exact hb)) (DC9 _)
structure Turn (P:DA0)(w:World)(K:CV3)(tg:Expr)(J:It)(fp:List Addr)(it:Addr)(tn:Nat->Heap->Prop):Prop where
 mem:it∈fp
 obj:∀i h,tn i h->∀b∈fp,∃o,h.get? b=some o/\∀v,o.data≠.cell v
 keep:∀i h h',tn i h->(∀b∈fp,∀o,h.get? b=some o->h'.get? b=some o)->tn i h'
 item:∀(X:Cx),X.prog=P->X.w=w->X.K=K->X.calm=true->∀(i:Nat) (pins:List (Addr×Obj)) (s:CV4) (σ:St) (H:Hp) (E:Value->CV4->Prop),Inv X pins σ H s->(∀b∈fp,ON X pins H b)->tn i s.heap->J.go i H ->
  wpAny (model P w) X.A (DP8 (.ref it)) (fun r s1=>∃u,r=some u /\
   wpAny (model P w) X.A (DL1 tg (.ref it) u) (fun _ s2=>∃x H',Inv X pins σ H' s2/\RelV x u/\J.yld i H x H'/\tn (i+1) s2.heap/\∀b∈fp,H' b=none) E s1) E s
 done:∀(X:Cx),X.prog=P->X.w=w->X.K=K->X.calm=true->∀(i:Nat) (pins:List (Addr×Obj)) (s:CV4) (σ:St) (H:Hp) (E:Value->CV4->Prop),Inv X pins σ H s->(∀b∈fp,ON X pins H b)->tn i s.heap->J.stop i H ->
  wpAny (model P w) X.A (DP8 (.ref it)) (fun r s1=>r=none/\Inv X pins σ H s1) E s
 self:∀(A:DD3) (i:Nat) (s:CV4) (Q:Value->CV4->Prop) (E:Value->CV4->Prop),tn i s.heap->Q (.ref it) s->wpAny (model P w) A (pyIter (.ref it)) Q E s
abbrev TI:=St->Hp->(It->Hp->Prop)->Prop
def PIE (X:Cx)(pins:List (Addr×Obj))(σ:St)(tg:Expr)(R:It->Hp->Prop)(itv:Value)(s2:CV4):Prop :=
 ∃(it:Addr) (fp:List Addr) (tn:Nat->Heap->Prop) (J:It) (H':Hp),itv=.ref it/\Inv X pins σ H' s2/\Turn X.prog X.w X.K tg J fp it tn/\tn 0 s2.heap/\(∀b∈fp,ON X pins H' b)/\R J H'
def PI (X:Cx)(tg iter:Expr)(wi:TI):Prop :=
 ∀(pins:List (Addr×Obj)) (s:CV4) (σ:St) (H:Hp) (R:It->Hp->Prop),Inv X pins σ H s->wi σ H R ->
  wpAny (model X.prog X.w) X.A (eval iter X.env) (fun v s1=>wpAny (model X.prog X.w) X.A (pyIter v) (PIE X pins σ tg R) X.xe s1) X.xe s
theorem AF9 {M:Model}{it:Addr}{n:String}{vs:Array Value}{Q:Unit->CV4->Prop}(ho:s.heap.get? it=some o)(hc:o.cls=.type n)(hd:o.data=.fields vs)
  (hn:["enumerate","zip","dict_itemiterator","dict_reverseitemiterator","odict_iterator","itertools.zip_longest","itertools.pairwise"].contains n=false) (hQ:Q () s):wpAny M A (DL1 tg (.ref it) u) Q E s:=by
 unfold DL1
 cases tg<;>first
  | exact CU7 hQ
  | (cases u<;>first
    | exact CU7 hQ
    | (refine CU6 (wpAny_load ho ?_)
       rw[hc,hd]
       show wpAny M A (if (["enumerate","zip","dict_itemiterator","dict_reverseitemiterator","odict_iterator","itertools.zip_longest","itertools.pairwise"].contains n && vs[0]?==some (DM6 _))=true then _ else _) Q E s
       rw[if_neg (by intro h;rw[hn,Bool.false_and] at h;cases h)]
       exact CU7 hQ))
def Itl (K:CV3)(a:Addr):It :=
 ⟨fun i H=>∃xs x,SqL K H a xs/\xs[i]?=some x,fun i H x H'=>H'=H/\∀xs,SqL K H a xs->xs[i]?=some x,fun i H=>∃xs,SqL K H a xs/\xs.length<=i⟩
def Itt (K:CV3)(a:Addr):It :=
 ⟨fun i H=>∃xs x,SqT K H a xs/\xs[i]?=some x,fun i H x H'=>H'=H/\∀xs,SqT K H a xs->xs[i]?=some x,fun i H=>∃xs,SqT K H a xs/\xs.length<=i⟩
def Itr (lo:Int)(n:Nat):It:=⟨fun i _=>i<n,fun i H x H'=>H'=H/\x=.int (lo+i),fun i _=>n<=i⟩
theorem AP4 (a it:Addr):Turn P w K tg (Itl K a) [it] it (fun i h=>h.IsListIter it a i) where
 mem:=by simp
 obj:=fun i h st b hb=>by
  have e:b=it:=by simpa using hb
  subst e
  obtain⟨o,e,c,d⟩:=st
  exact⟨o,e,fun v z=>by rw[d] at z;cases z⟩
 keep:=fun i h h' st k=>st.at fun o e=>k it (by simp) o e
 item:=by
  intro X hP hw hK hc i pins s σ H E I hf st hg
  subst hP hw hK
  obtain⟨xs,x,hq,hx⟩:=hg
  obtain⟨its,rv,p,hz⟩:=I.list hq
  obtain⟨u,hu,ru⟩:=rv.get hx
  obtain⟨f0,f1,f2,f3,f4,f5⟩:=hf it (by simp)
  refine wpAny_pyNext_list_item st p.isList (x:=u) (by simpa using hu) fun h' st' sb=>?_
  have I1:Inv X pins σ H {s with heap:=h'}:=I.turned (t':=s.toks) (fun b o hb e=>(sb.2 b hb).trans e) f0 f1 f3 f4 f5
  obtain⟨o,e,c,d⟩:=id st'
  exact⟨u,rfl,AF9 (s:={s with heap:=h'}) e c d (by decide) ⟨x,H,I1,ru,⟨rfl,fun ys hy=>by rw[I.list_inj hy hq];exact hx⟩,st',fun b hb=>(hf b hb).1⟩⟩
 done:=by
  intro X hP hw hK hc i pins s σ H E I hf st hg
  subst hP hw hK
  obtain⟨xs,hq,hx⟩:=hg
  obtain⟨its,rv,p,hz⟩:=I.list hq
  obtain⟨f0,f1,f2,f3,f4,f5⟩:=hf it (by simp)
  have hl:=rv.length
  exact wpAny_pyNext_list_end (I.ok.hd hc) st p.isList (by simp;lia) fun h' eb=>⟨rfl,I.turned (t':=s.toks) (fun b o hb e=>eb b o hb e) f0 f1 f3 f4 f5⟩
 self:=fun _ _ _ _ _ st h=>wpAny_pyIter_listiter st h
theorem AD1 (a it:Addr):Turn P w K tg (Itt K a) [it] it (fun i h=>h.IsTupleIter it a i) where
 mem:=by simp
 obj:=fun i h st b hb=>by
  have e:b=it:=by simpa using hb
  subst e
  obtain⟨o,e,c,d⟩:=st
  exact⟨o,e,fun v z=>by rw[d] at z;cases z⟩
 keep:=fun i h h' st k=>st.at fun o e=>k it (by simp) o e
 item:=by
  intro X hP hw hK hc i pins s σ H E I hf st hg
  subst hP hw hK
  obtain⟨xs,x,hq,hx⟩:=hg
  obtain⟨its,rv,p,hz⟩:=I.tuple hq
  obtain⟨u,hu,ru⟩:=rv.get hx
  obtain⟨f0,f1,f2,f3,f4,f5⟩:=hf it (by simp)
  refine wpAny_pyNext_tuple_item st (show s.heap.IsTuple a its.toArray from p) (x:=u) (by simpa using hu) fun h' st' sb=>?_
  have I1:Inv X pins σ H {s with heap:=h'}:=I.turned (t':=s.toks) (fun b o hb e=>(sb.2 b hb).trans e) f0 f1 f3 f4 f5
  obtain⟨o,e,c,d⟩:=id st'
  exact⟨u,rfl,AF9 (s:={s with heap:=h'}) e c d (by decide) ⟨x,H,I1,ru,⟨rfl,fun ys hy=>by rw[I.tuple_inj hy hq];exact hx⟩,st',fun b hb=>(hf b hb).1⟩⟩
 done:=by
  intro X hP hw hK hc i pins s σ H E I hf st hg
  subst hP hw hK
  obtain⟨xs,hq,hx⟩:=hg
  obtain⟨its,rv,p,hz⟩:=I.tuple hq
  obtain⟨f0,f1,f2,f3,f4,f5⟩:=hf it (by simp)
  have hl:=rv.length
  exact wpAny_pyNext_tuple_end (I.ok.hd hc) st (show s.heap.IsTuple a its.toArray from p) (by simp;lia) fun h' eb=>⟨rfl,I.turned (t':=s.toks) (fun b o hb e=>eb b o hb e) f0 f1 f3 f4 f5⟩
 self:=fun _ _ _ _ _ st h=>wpAny_pyIter_tupleiter st h
theorem AD0 (it:Addr)(lo:Int)(n:Nat):Turn P w K tg (Itr lo n) [it] it (fun i h=>IsRangeIter h it (lo+(i:Nat)*1) ((n:Int)-(i:Nat)) 1) where
 mem:=by simp
 obj:=fun i h st b hb=>by
  have e:b=it:=by simpa using hb
  subst e
  exact⟨_,st,fun v z=>by
   have z':Data.fields _=Data.cell v:=z
   cases z'⟩
 keep:=fun i h h' st k=>k it (by simp) _ st
 item:=by
  intro X hP hw hK hc i pins s σ H E I hf st hg
  subst hP hw hK
  obtain⟨f0,f1,f2,f3,f4,f5⟩:=hf it (by simp)
  have W:=Walks.range (prog:=X.prog) (w:=X.w) (I.ok.hd hc) it lo 1 n
  refine W.item i s _ _ hg st fun v h' tk hv st' kk=>?_
  obtain⟨t,rfl⟩:=hv
  have I1:Inv X pins σ H {s with heap:=h',toks:=tk}:=I.turned (fun b o hb e=>kk b o (by simpa using hb) e) f0 f1 f3 f4 f5
  refine⟨_,rfl,AF9 (s:={s with heap:=h',toks:=tk}) (n:="range_iterator") st' rfl rfl (by decide) ⟨.int (lo+i),H,I1,⟨t,?_⟩,⟨rfl,rfl⟩,st',fun b hb=>(hf b hb).1⟩⟩
  rw[Int.mul_one]
 done:=by
  intro X hP hw hK hc i pins s σ H E I hf st hg
  subst hP hw hK
  obtain⟨f0,f1,f2,f3,f4,f5⟩:=hf it (by simp)
  exact wpAny_pyNext_range_end (I.ok.hd hc) st (by have:n<=i:=hg;lia) fun h' eb=>⟨rfl,I.turned (t':=s.toks) (fun b o hb e=>eb b o hb e) f0 f1 f3 f4 f5⟩
 self:=fun _ _ _ _ _ st h=>wpAny_pyIter_rangeiter st h
section
variable {X:Cx}{tg:Expr}
def CG1 (K:CV3)(tl:TE):TI:=fun σ H R=>tl σ H fun x H1=>∃a,x=.ref a/\(∃xs,SqL K H1 a xs)/\R (Itl K a) H1
def CR7 (K:CV3)(tl:TE):TI:=fun σ H R=>tl σ H fun x H1=>∃a,x=.ref a/\(∃xs,SqT K H1 a xs)/\R (Itt K a) H1
theorem BL0 {l:Expr}{tl:TE}(hl:PE X l tl):PI X tg l (CG1 X.K tl):=by
 intro pins s σ H R I h
 refine thn (hl pins s σ H _ I h) fun v s1 ⟨x,H1,I1,r1,q1⟩=>?_
 obtain⟨a,e,⟨xs,hq⟩,q⟩:=q1
 subst e
 cases r1
 obtain⟨its,rv,p,hz⟩:=I1.list hq
 refine wpAny_pyIter_list p.isList ?_
 refine⟨s1.heap.objs.size,[s1.heap.objs.size],_,_,H1,rfl,I1.kept (t':=s1.toks) fun b o e=>CU8 _ e,AP4 a _,⟨_,CW0 _ rfl,rfl,rfl⟩,fun b hb=>?_,q⟩
 have e:b=s1.heap.objs.size:=by simpa using hb
 subst e
 exact I1.fpOk (CW1 _) (I1.hok.fresh (CW1 _))
theorem BX2 {l:Expr}{tl:TE}(hl:PE X l tl):PI X tg l (CR7 X.K tl):=by
 intro pins s σ H R I h
 refine thn (hl pins s σ H _ I h) fun v s1 ⟨x,H1,I1,r1,q1⟩=>?_
 obtain⟨a,e,⟨xs,hq⟩,q⟩:=q1
 subst e
 cases r1
 obtain⟨its,rv,p,hz⟩:=I1.tuple hq
 refine DP7 (show s1.heap.IsTuple a its.toArray from p) ?_
 refine⟨s1.heap.objs.size,[s1.heap.objs.size],_,_,H1,rfl,I1.kept (t':=s1.toks) fun b o e=>CU8 _ e,AD1 a _,⟨_,CW0 _ rfl,rfl,rfl⟩,fun b hb=>?_,q⟩
 have e:b=s1.heap.objs.size:=by simpa using hb
 subst e
 exact I1.fpOk (CW1 _) (I1.hok.fresh (CW1 _))
theorem BA9 {σ:St}{H:Hp}{R:It->Hp->Prop}{lo hi:Int}{t u v:Tok}{tk:Nat}(I:Inv X pins σ H s)(h1:-(2^62)<=lo)(h2:lo<2^62)(h3:-(2^62)<=hi)(h4:hi<2^62)
  (q:R (Itr lo (hi-lo).toNat) H):wpAny (model X.prog X.w) X.A (pyIter (.ref s.heap.objs.size)) (PIE X pins σ tg R) E {s with heap:=s.heap.push {cls:=.type "range",data:=.fields #[.int lo t,.int hi u,.int 1 v]},toks:=tk}:=by
 refine wpAny_pyIter_range (IsRange.new ..) (small_one h1 h2 h3 h4) ?_
 have I1:Inv X pins σ H {s with heap:=s.heap.push {cls:=.type "range",data:=.fields #[.int lo t,.int hi u,.int 1 v]},toks:=tk}:=I.kept fun b o e=>CU8 _ e
 refine⟨(s.heap.push {cls:=.type "range",data:=.fields #[.int lo t,.int hi u,.int 1 v]}).objs.size,[(s.heap.push {cls:=.type "range",data:=.fields #[.int lo t,.int hi u,.int 1 v]}).objs.size],_,_,H,rfl,
  I1.kept (t':=tk) fun b o e=>CU8 _ e,AD0 _ lo (hi-lo).toNat,?_,fun b hb=>?_,q⟩
 ·have e1:lo+((0:Nat):Int)*1=lo:=by simp
  have e2:(((hi-lo).toNat:Nat):Int)-((0:Nat):Int)=Builtin.Range.rangeSize lo hi 1:=by rw[rangeSize_one];split<;>lia
  show IsRangeIter _ _ (lo+((0:Nat):Int)*1) ((((hi-lo).toNat:Nat):Int)-((0:Nat):Int)) 1
  rw[e1,e2]
  exact CW0 _ rfl
 ·have e:b=(s.heap.push {cls:=.type "range",data:=.fields #[.int lo t,.int hi u,.int 1 v]}).objs.size:=by simpa using hb
  subst e
  exact I1.fpOk (CW1 _) (I1.hok.fresh (CW1 _))
def CG2 (ta:TA):TI:=fun σ H R=>ta σ H fun vs H1=>∃j:Int,vs=[.int j]/\-(2^62)<=j/\j<2^62/\R (Itr 0 j.toNat) H1
theorem AN9 {a:Expr}{ta:TA}{p:Pos}(hg:Gl X "range")(hm:X.mg "range"=none)(ha:PA X [a] ta)(hs:CY3 [a] X.env=[(false,eval a X.env)]:=by rfl):PI X tg (.Call (.Name "range" p) [a] [] pos) (CG2 ta):=by
 intro pins s σ H R I h
 refine Call_ (CW I hg hm boot_range (DG3 (thn (ha pos pins s σ H _ I h) fun us s1 ⟨vs,H1,I1,r1,q1⟩=>?_) hs rfl))
 obtain⟨j,e,q1,q2,q⟩:=q1
 subst e
 cases r1 with
 | cons r rr =>
  cases rr
  obtain⟨t,rfl⟩:=r
  exact call_range_1 (BA9 I1 (by lia) (by lia) q1 q2 (by simpa using q))
def CU1 (wi:TI)(g:TG)(tb:TS):TS:=fun D σ H=>wi σ H fun J H1=>∃W:Nat->Nat->St->Hp->Prop,(∃m,W 0 m σ H1)/\∀i m σ H,W i m σ H ->
 (J.stop i H/\D.nx σ H)\/(J.go i H/\∃N:St->Hp->Prop,(∀σ' H',N σ' H'->∃m',m'<m/\W (i+1) m' σ' H')/\∀x H',J.yld i H x H'->g x σ H' fun σ2 H2=>tb {D with nx:=N,ct:=N,bk:=D.nx} σ2 H2)
def JL (fp:List Addr)(h:Heap):List (Addr×Obj):=fp.filterMap fun b=>(h.get? b).map fun o=>(b,o)
theorem P9 {h:Heap}(hb:b∈fp)(e:h.get? b=some o):(b,o)∈JL fp h:=List.mem_filterMap.mpr ⟨b,hb,by rw[e];rfl⟩
theorem AM3 {h:Heap}{p:Addr×Obj}(hp:p∈JL fp h):p.1∈fp/\h.get? p.1=some p.2:=by
 obtain⟨b,hb,e⟩:=List.mem_filterMap.mp hp
 cases q:h.get? b with
 | none=>rw[q] at e;cases e
 | some o =>
  rw[q] at e
  have e':(b,o)=p:=Option.some.inj e
  subst e'
  exact⟨hb,q⟩
theorem Inv.pinned {σ:St}{H:Hp}(I:Inv X pins σ H s)(hf:∀b∈fp,ON X pins H b)(ho:∀b∈fp,∃o,s.heap.get? b=some o/\∀v,o.data≠.cell v):Inv X (pins++JL fp s.heap) σ H s :=
 I.pins_of fun p hp=>(CZ9.mp hp).elim (fun z=>I.pin p (CW6 _ z)) fun z=>by
  obtain⟨hb,e⟩:=AM3 z
  obtain⟨f0,f1,f2,_⟩:=hf p.1 hb
  obtain⟨o,e',d⟩:=ho p.1 hb
  rw[e] at e';cases e'
  exact⟨e,f0,f1,f2,d⟩
theorem Inv.unpinned {pl:List (Addr×Obj)}{σ:St}{H:Hp}(I:Inv X (pins++pl) σ H s):Inv X pins σ H s:=I.pins_of fun p hp=>I.pin p (CW6 _ (DE0 _ hp))
theorem BX4 {wi:TI}{g:TG}{tb:TS}(hp:PassesOwn (model X.prog X.w) X.A X.env X.xe)(hc:X.calm=true)(hi:PI X tg iter wi)(hg:PG X tg g)(hb:PSs X body tb)
  (hs:∀x,CY5 iter X.env x=pure x:=by intro _;rfl):PS X (.For tg iter body [] pos) (CU1 wi g tb):=by
 intro pins s σ H D I h
 refine wpAny_For (thn (hi pins s σ H _ I h) fun v s1 h1=>thn h1 fun itv s2 h2=>?_) hs
 obtain⟨it,fp,tn,J,H2,e,I2,T,st2,f2,W,⟨m0,w0⟩,turn⟩:=h2
 subst e
 have stat:∀{H':Hp},(∀b∈fp,H' b=none)->∀b∈fp,ON X pins H' b:=fun hn b hb=>⟨hn b hb,(f2 b hb).2⟩
 refine codeAny_forLoop_any (fun n s'=>∃i σ' H',Inv X pins σ' H' s'/\tn i s'.heap/\(∀b∈fp,H' b=none)/\W i n σ' H') ?_ m0 ⟨0,σ,H2,I2,st2,fun b hb=>(f2 b hb).1,w0⟩
 rintro n s3 ⟨i,σ3,H3,I3,st3,fr3,w3⟩
 rcases turn i n σ3 H3 w3 with⟨stop,qn⟩|⟨go,N,hN,step⟩
 ·refine DO3 hp (thn (T.done X rfl rfl rfl hc i pins s3 σ3 H3 X.xe I3 (stat fr3) st3 stop) fun r s4 ⟨hr,I4⟩=>?_)
  subst hr
  exact wpAny_execs_nil ⟨σ3,H3,I4,qn⟩
 ·refine DO3 hp (thn (T.item X rfl rfl rfl hc i pins s3 σ3 H3 X.xe I3 (stat fr3) st3 go) fun r s4 ⟨u,hr,h4⟩=>?_)
  subst hr
  refine DO3 hp (thn h4 fun _ s5 ⟨x,H5,I5,r5,y5,st5,fr5⟩=>?_)
  have I5':=I5.pinned (stat fr5) (T.obj _ _ st5)
  refine DO3 hp (thn (hg _ s5 σ3 H5 x u _ I5' r5 (step x H5 y5)) fun _ s6 ⟨σ6,H6,I6,q6⟩=>?_)
  refine DO3 hp (thn (hb _ s6 σ6 H6 _ I6 q6) fun f s7 q7=>?_)
  have again:∀{σ7:St} {H7:Hp},Inv X (pins++JL fp s5.heap) σ7 H7 s7->N σ7 H7->∃m,m<n/\∃i σ' H',Inv X pins σ' H' s7/\tn i s7.heap/\(∀b∈fp,H' b=none)/\W i m σ' H':=fun{σ7 H7} I7 n7=>by
   obtain⟨m',hm,w7⟩:=hN σ7 H7 n7
   refine⟨m',hm,i+1,σ7,H7,I7.unpinned,T.keep _ _ _ st5 fun b hb o e=>(I7.pin (b,o) (CW6 _ (CW6 _ (P9 hb e)))).1,fun b hb=>?_,w7⟩
   obtain⟨o,e,d⟩:=T.obj _ _ st5 b hb
   exact(I7.pin (b,o) (CW6 _ (CW6 _ (P9 hb e)))).2.1
  cases f with
  | next=>obtain⟨σ7,H7,I7,n7⟩:=q7;exact again I7 n7
  | cont=>obtain⟨σ7,H7,I7,n7⟩:=q7;exact again I7 n7
  | brk=>obtain⟨σ7,H7,I7,q7⟩:=q7;exact⟨σ7,H7,I7.unpinned,q7⟩
  | ret v=>obtain⟨x7,σ7,H7,I7,r7,q7⟩:=q7;exact⟨x7,σ7,H7,I7.unpinned,r7,q7⟩
end
abbrev R2:=V->V->Hp->VK->Prop
def OpR (X:Cx)(f:Value->Value->Sem Value)(r:R2):Prop :=
 ∀(pins:List (Addr×Obj)) (s:CV4) (σ:St) (H:Hp) (x y:V) (v u:Value) (Q:VK),Inv X pins σ H s->RelV x v->RelV y u->r x y H Q ->
  wpAny (model X.prog X.w) X.A (f v u) (EP X pins σ Q) X.xe s
def UnR (X:Cx)(f:Value->Sem Value)(r:V->Hp->VK->Prop):Prop :=
 ∀(pins:List (Addr×Obj)) (s:CV4) (σ:St) (H:Hp) (x:V) (v:Value) (Q:VK),Inv X pins σ H s->RelV x v->r x H Q ->
  wpAny (model X.prog X.w) X.A (f v) (EP X pins σ Q) X.xe s
def CallR (X:Cx)(f:Value)(r:List V->Hp->VK->Prop):Prop :=
 ∀(pins:List (Addr×Obj)) (s:CV4) (σ:St) (H:Hp) (xs:List V) (us:List Value) (Q:VK),Inv X pins σ H s->Vals xs us->r xs H Q ->
  wpAny (model X.prog X.w) X.A (call f us) (EP X pins σ Q) X.xe s
def rI (C:Int->Int->Prop)(g:Int->Int->V):R2:=fun x y H Q=>∃i j,x=.int i/\y=.int j/\C i j/\Q (g i j) H
def rI0 (g:Int->Int->V):R2:=fun x y H Q=>∃i j,x=.int i/\y=.int j/\Q (g i j) H
def rU (g:Int->V):V->Hp->VK->Prop:=fun x H Q=>∃i,x=.int i/\Q (g i) H
section
variable {X:Cx}{a b c:Expr}{ta tb tc:TE}{pos:Pos}
theorem opI {C:Int->Int->Prop}{g:Int->Int->Int}
  (rule:∀(i j:Int) (t u:Tok) (s:CV4) (Q:Value->CV4->Prop) (E:Value->CV4->Prop),C i j->Q (.int (g i j) s.toks) {s with toks:=s.toks+1}->wpAny (model X.prog X.w) X.A (f (.int i t) (.int j u)) Q E s) :
  OpR X f (rI C fun i j=>.int (g i j)):=by
 intro pins s σ H x y v u Q I rx ry h
 obtain⟨i,j,rfl,rfl,hc,q⟩:=h
 obtain⟨t,rfl⟩:=rx
 obtain⟨t',rfl⟩:=ry
 exact rule i j t t' s _ _ hc ⟨.int (g i j),H,I.tok _,⟨_,rfl⟩,q⟩
theorem CL0 {g:Int->Int->Int}
  (rule:∀(i j:Int) (t u:Tok) (s:CV4) (Q:Value->CV4->Prop) (E:Value->CV4->Prop),Q (.int (g i j) s.toks) {s with toks:=s.toks+1}->wpAny (model X.prog X.w) X.A (f (.int i t) (.int j u)) Q E s) :
  OpR X f (rI0 fun i j=>.int (g i j)):=by
 intro pins s σ H x y v u Q I rx ry h
 obtain⟨i,j,rfl,rfl,q⟩:=h
 obtain⟨t,rfl⟩:=rx
 obtain⟨t',rfl⟩:=ry
 exact rule i j t t' s _ _ ⟨.int (g i j),H,I.tok _,⟨_,rfl⟩,q⟩
theorem BI9 {g:Int->Int->Bool}
  (rule:∀(i j:Int) (t u:Tok) (s:CV4) (Q:Value->CV4->Prop) (E:Value->CV4->Prop),Q (.bool (g i j)) s->wpAny (model X.prog X.w) X.A (f (.int i t) (.int j u)) Q E s) :
  OpR X f (rI0 fun i j=>.bl (g i j)):=by
 intro pins s σ H x y v u Q I rx ry h
 obtain⟨i,j,rfl,rfl,q⟩:=h
 obtain⟨t,rfl⟩:=rx
 obtain⟨t',rfl⟩:=ry
 exact rule i j t t' s _ _ ⟨.bl (g i j),H,I,rfl,q⟩
def AQ0 (i j:Int):Prop:=0<=j/\j<=1000000/\i.natAbs<2^64
def CMul (i j:Int):Prop:=(-(2^64)<i/\i<2^64)\/(-(2^64)<j/\j<2^64)
theorem CMul.ok {i j:Int}(h:CMul i j):IntMulOk i j:=by
 rcases h with⟨h1,h2⟩|⟨h1,h2⟩
 ·exact .of_left (intBits_le_64 h1 h2)
 ·exact .of_right (intBits_le_64 h1 h2)
theorem BV2:OpR X (DG2 .Add) (rI0 fun i j=>.int (i+j)):=CL0 fun _ _ _ _ _ _ _ q=>add_int q
theorem BV6:OpR X (DG2 .Sub) (rI0 fun i j=>.int (i-j)):=CL0 fun _ _ _ _ _ _ _ q=>sub_int q
theorem BV4:OpR X (DG2 .Mod) (rI (fun _ j=>0<j) fun i j=>.int (i % j)):=opI fun i j _ _ _ _ _ hc q=>by
 have h1:(0:Int)<j:=hc
 exact mod_int' (by lia) (by rw[Int.fmod_eq_emod_of_nonneg i (by lia)];exact q)
theorem BV5:OpR X (DG2 .Pow) (rI AQ0 fun i j=>.int (i^j.toNat)):=opI fun _ _ _ _ _ _ _ hc q=>pow_int_small hc.1 hc.2.1 hc.2.2 q
theorem unI {f:Value->Sem Value}{g:Int->Int}
  (rule:∀(i:Int) (t:Tok) (s:CV4) (Q:Value->CV4->Prop) (E:Value->CV4->Prop),Q (.int (g i) s.toks) {s with toks:=s.toks+1}->wpAny (model X.prog X.w) X.A (f (.int i t)) Q E s) :
  UnR X f (rU fun i=>.int (g i)):=by
 intro pins s σ H x v Q I rx h
 obtain⟨i,rfl,q⟩:=h
 obtain⟨t,rfl⟩:=rx
 exact rule i t s _ _ ⟨.int (g i),H,I.tok _,⟨_,rfl⟩,q⟩
theorem CE2:UnR X (unaryOp .USub) (rU fun i=>.int (-i)):=unI fun _ _ _ _ _ q=>neg_int q
end
def CP1:V->V->Bool
 | .non,.non=>true|.non,.int _=>true|.int _,.non=>true|.non,.bl _=>true|.bl _,.non=>true|.non,.str _=>true|.str _,.non=>true
 | .int _,.int _=>true|.bl _,.bl _=>true|.str _,.str _=>true|.byt _,.byt _=>true
 | .int _,.str _=>true|.str _,.int _=>true|.bl _,.str _=>true|.str _,.bl _=>true
 | _,_=>false
def rEq:R2:=fun x y H Q=>CP1 x y=true/\Q (.bl (decide (x=y))) H
def rNe:R2:=fun x y H Q=>CP1 x y=true/\Q (.bl (!decide (x=y))) H
theorem AE8 {i j:Int}:decide (V.int i=V.int j)=(i==j):=by
 rw[DE5]
 simp
theorem AS0 {i j:Bool}:decide (V.bl i=V.bl j)=(i==j):=by
 rw[DE5]
 simp
theorem LL {i j:Str}:decide (V.str i=V.str j)=(i==j):=by
 rw[DE5]
 simp
theorem AE7 {i j:Array UInt8}:decide (V.byt i=V.byt j)=(i.toList==j.toList):=by
 rw[DE5]
 cases i
 cases j
 simp
section
variable {X:Cx}{a b c:Expr}{ta tb tc:TE}{pos:Pos}
theorem D7 {σ:St}{H:Hp}{Q:VK}{k k':Bool}(I:Inv X pins σ H s)(q:Q (.bl k) H)(e:k=k'):EP X pins σ Q (.bool k') s:=by
 subst e
 exact⟨.bl k,H,I,rfl,q⟩
theorem CL1:OpR X (DB4 .Eq) rEq:=by
 intro pins s σ H x y v u Q I rx ry h
 obtain⟨hs,q⟩:=h
 cases x with
 | non =>
  cases rx
  cases y with
  | non=>cases ry;exact PySem.EqNone.eq_none_none (D7 I q (by simp))
  | bl j=>cases ry;exact PySem.EqNone.eq_none_bool (D7 I q (by simp))
  | int j=>obtain⟨t',rfl⟩:=ry;exact PySem.EqNone.eq_none_int (D7 I q (by simp))
  | str j=>obtain⟨t',rfl⟩:=ry;exact PySem.EqNone.eq_none_str (D7 I q (by simp))
  | _=>exact absurd (show false=true from hs) CV5
 | bl i =>
  cases rx
  cases y with
  | non=>cases ry;exact PySem.EqNone.eq_bool_none (D7 I q (by simp))
  | bl j=>cases ry;exact eq_bool (D7 I q AS0)
  | str j=>obtain⟨t',rfl⟩:=ry;exact PySem.EqMixed.eq_bool_str (D7 I q (by simp))
  | _=>exact absurd (show false=true from hs) CV5
 | int i =>
  obtain⟨t,rfl⟩:=rx
  cases y with
  | non=>cases ry;exact PySem.EqNone.eq_int_none (D7 I q (by simp))
  | int j=>obtain⟨t',rfl⟩:=ry;exact eq_int (D7 I q AE8)
  | str j=>obtain⟨t',rfl⟩:=ry;exact PySem.EqMixed.eq_int_str (D7 I q (by simp))
  | _=>exact absurd (show false=true from hs) CV5
 | str i =>
  obtain⟨t,rfl⟩:=rx
  cases y with
  | non=>cases ry;exact PySem.EqNone.eq_str_none (D7 I q (by simp))
  | bl j=>cases ry;exact PySem.EqMixed.eq_str_bool (D7 I q (by simp))
  | int j=>obtain⟨t',rfl⟩:=ry;exact PySem.EqMixed.eq_str_int (D7 I q (by simp))
  | str j=>obtain⟨t',rfl⟩:=ry;exact eq_str (D7 I q LL)
  | _=>exact absurd (show false=true from hs) CV5
 | byt i =>
  obtain⟨t,rfl⟩:=rx
  cases y with
  | byt j=>obtain⟨t',rfl⟩:=ry;exact PySem.W.eq_bytes (D7 I q AE7)
  | _=>exact absurd (show false=true from hs) CV5
 | _=>cases y<;>exact absurd (show false=true from hs) CV5
theorem CL6:OpR X (DB4 .NotEq) rNe:=by
 intro pins s σ H x y v u Q I rx ry h
 obtain⟨hs,q⟩:=h
 cases x with
 | non =>
  cases rx
  cases y with
  | non=>cases ry;exact PySem.EqNone.ne_none_none (D7 I q (by simp))
  | bl j=>cases ry;exact PySem.EqNone.ne_none_bool (D7 I q (by simp))
  | int j=>obtain⟨t',rfl⟩:=ry;exact PySem.EqNone.ne_none_int (D7 I q (by simp))
  | str j=>obtain⟨t',rfl⟩:=ry;exact PySem.EqNone.ne_none_str (D7 I q (by simp))
  | _=>exact absurd (show false=true from hs) CV5
 | bl i =>
  cases rx
  cases y with
  | non=>cases ry;exact PySem.EqNone.ne_bool_none (D7 I q (by simp))
  | bl j=>cases ry;exact ne_bool (D7 I q (congrArg not AS0))
  | str j=>obtain⟨t',rfl⟩:=ry;exact PySem.EqMixed.ne_bool_str (D7 I q (by simp))
  | _=>exact absurd (show false=true from hs) CV5
 | int i =>
  obtain⟨t,rfl⟩:=rx
  cases y with
  | non=>cases ry;exact PySem.EqNone.ne_int_none (D7 I q (by simp))
  | int j=>obtain⟨t',rfl⟩:=ry;exact ne_int (D7 I q (congrArg not AE8))
  | str j=>obtain⟨t',rfl⟩:=ry;exact PySem.EqMixed.ne_int_str (D7 I q (by simp))
  | _=>exact absurd (show false=true from hs) CV5
 | str i =>
  obtain⟨t,rfl⟩:=rx
  cases y with
  | non=>cases ry;exact PySem.EqNone.ne_str_none (D7 I q (by simp))
  | bl j=>cases ry;exact PySem.EqMixed.ne_str_bool (D7 I q (by simp))
  | int j=>obtain⟨t',rfl⟩:=ry;exact PySem.EqMixed.ne_str_int (D7 I q (by simp))
  | str j=>obtain⟨t',rfl⟩:=ry;exact ne_str (D7 I q (congrArg not LL))
  | _=>exact absurd (show false=true from hs) CV5
 | byt i =>
  obtain⟨t,rfl⟩:=rx
  cases y with
  | byt j=>obtain⟨t',rfl⟩:=ry;exact PySem.W.ne_bytes (D7 I q (congrArg not AE7))
  | _=>exact absurd (show false=true from hs) CV5
 | _=>cases y<;>exact absurd (show false=true from hs) CV5
theorem CL5:OpR X (DB4 .Lt) (rI0 fun i j=>.bl (decide (i<j))):=BI9 fun _ _ _ _ _ _ _ q=>lt_int q
theorem CL4:OpR X (DB4 .LtE) (rI0 fun i j=>.bl (decide (i<=j))):=BI9 fun _ _ _ _ _ _ _ q=>le_int q
theorem CL3:OpR X (DB4 .Gt) (rI0 fun i j=>.bl (decide (j<i))):=BI9 fun _ _ _ _ _ _ _ q=>gt_int q
theorem CL2:OpR X (DB4 .GtE) (rI0 fun i j=>.bl (decide (j<=i))):=BI9 fun _ _ _ _ _ _ _ q=>ge_int q
theorem AM5:OpR X (DB4 .In) (fun x y H Q=>∃i j,x=.str i/\y=.str j/\Q (.bl (!(DN4 j i 0 j.length 1).isEmpty)) H):=by
 intro pins s σ H x y v u Q I rx ry h
 obtain⟨i,j,rfl,rfl,q⟩:=h
 obtain⟨t,rfl⟩:=rx
 obtain⟨t',rfl⟩:=ry
 exact in_str (D7 I q rfl)
theorem BV3:OpR X (DB4 .Is) (fun x y H Q=>y=.non/\Q (.bl (decide (x=.non))) H):=by
 intro pins s σ H x y v u Q I rx ry h
 obtain⟨rfl,q⟩:=h
 cases ry
 refine is_none_gen (D7 I q ?_)
 cases x<;>first
  | (cases rx;rfl)
  | (obtain⟨t,rfl⟩:=rx;rfl)
theorem TK:OpR X (DB4 .NotIn) (fun x y H Q=>∃i j,x=.str i/\y=.str j/\Q (.bl (!(!(DN4 j i 0 j.length 1).isEmpty))) H):=by
 intro pins s σ H x y v u Q I rx ry h
 obtain⟨i,j,rfl,rfl,q⟩:=h
 obtain⟨t,rfl⟩:=rx
 obtain⟨t',rfl⟩:=ry
 exact notIn_str (D7 I q rfl)
theorem B2 (b:Expr)(h:op≠.In:=by decide) (h2:op≠.NotIn:=by decide):behindInMarks op b=false:=by
 have e1:(op==CmpOp.In)=false:=by cases op<;>first|rfl|exact absurd rfl h
 have e2:(op==CmpOp.NotIn)=false:=by cases op<;>first|rfl|exact absurd rfl h2
 cases b<;>simp[behindInMarks,e1,e2]
theorem JE:(CV8:Nat)<2^63:=by rw[CX1];decide
theorem ZU:OpR X (DG2 .Add) (fun x y H Q=>∃i j,x=.str i/\y=.str j/\i.length+j.length<=CV8/\Q (.str (i++j)) H):=by
 intro pins s σ H x y v u Q I rx ry h
 obtain⟨i,j,rfl,rfl,hz,q⟩:=h
 obtain⟨t,rfl⟩:=rx
 obtain⟨t',rfl⟩:=ry
 exact add_str (fun t' tk=>⟨.str (i++j),H,I.tok _,⟨_,rfl⟩,q⟩) hz
theorem vals1 {x:V}(r:Vals [x] us):∃u,us=[u]/\RelV x u:=by
 cases r with
 | cons r1 r2=>cases r2;exact⟨_,rfl,r1⟩
theorem vals2 {x y:V}(r:Vals [x,y] us):∃u w',us=[u,w']/\RelV x u/\RelV y w':=by
 cases r with
 | cons r1 r2 =>
  cases r2 with
  | cons r3 r4=>cases r4;exact⟨_,_,rfl,r1,r3⟩
theorem AQ8:CallR X (.builtin "abs") (fun xs H Q=>∃i,xs=[.int i]/\Q (.int (if i<0 then -i else i)) H):=by
 intro pins s σ H xs us Q I r h
 obtain⟨i,rfl,q⟩:=h
 obtain⟨u,rfl,t,rfl⟩:=vals1 r
 exact call_abs_int fun u tk=>⟨.int (if i<0 then -i else i),H,I.tok _,⟨_,rfl⟩,q⟩
end
section
variable {prog:DA0}{w:World}{A:DD3}{E:Value->CV4->Prop}{s:CV4}{K:CV3}{x dx C f:Addr}{mA:Str->Option Value}{name:Str}{v:Value}
end
theorem RelO.some_of {v:V}{o:Option Value}(r:RelO (some v) o):∃u,o=some u/\RelV v u:=by
 cases o with
 | none=>exact(show False from r).elim
 | some u=>exact⟨u,rfl,r⟩
section
variable {P:DA0}{w:World}{H H':Hp}{h h':Heap}{a C dx:Addr}{fs fs':List (Str×V)}
end
section
variable {X:Cx}{pins:List (Addr×Obj)}{σ:St}{H:Hp}{s:CV4}{a C dx:Addr}{fs:List (Str×V)}{f:Str}{v:V}{A:DD3}{E:Value->CV4->Prop}
end
section
variable {X:Cx}{o e value:Expr}{f:Str}{pos pos' tpos:Pos}{ta tv:TE}
end
section
variable {X:Cx}{pins:List (Addr×Obj)}{σ:St}{H:Hp}{s:CV4}{A:DD3}{E:Value->CV4->Prop}{Q:Value->CV4->Prop}{c:Value}{b:Bool}
end
structure Room (k:Nat)(A:DD3):Prop where
 hd:A.handled=none
 dp:A.depth+3*k+5<recursionLimit
 un:A.units+16*k+200<cLine
 gd:A.guards=some []
theorem Room.mono (r:Room k A)(h:j<=k):Room j A:=⟨r.hd,by have:=r.dp;lia,by have:=r.un;lia,r.gd⟩
theorem Room.deeper (r:Room (k+1) A)(env:Env):Room k (A.deeper env) :=
 ⟨r.hd,by have:=r.dp;show A.depth+1+3*k+5<_;lia,by have:=r.un;show A.units+3+16*k+200<_;lia,r.gd⟩
theorem Room.depth (r:Room k A):A.depth<recursionLimit:=by have:=r.dp;lia
theorem Room.units (r:Room k A):A.units+64<cLine:=by have:=r.un;lia
section
variable {X:Cx}{e:Expr}{es:List Expr}{te:TE}{t:TA}{pos:Pos}
def CU3 (t:TA):TE:=fun σ H Q=>t σ H fun xs H1=>xs.length<=CV8/\∀p,H1 p=none->Q (.ref p) (upd H1 p (.tup xs))
def CU2 (t:TA):TE:=fun σ H Q=>t σ H fun xs H1=>xs.length<=CV8/\∀p,H1 p=none->Q (.ref p) (upd H1 p (.lst xs))
theorem BW7 {x1}(h:PA X es t):PE X (.Tuple es x1 pos) (CU3 t):=by
 intro pins s σ H Q I hq
 refine wpAny_Tuple_spliced (thn (h pos pins s σ H _ I hq) fun us s1 ⟨xs,H1,I1,r,z,q⟩=>⟨by rw[<-r.length];exact z,?_⟩)
 have hf:H1 s1.heap.objs.size=none:=I1.hok.fresh (CW1 _)
 refine⟨.ref s1.heap.objs.size,upd H1 s1.heap.objs.size (.tup xs),I1.laid (t':=s1.toks) (fun b u e=>CU8 _ e) (CW1 _) ?_,rfl,q _ hf⟩
 exact⟨z,us,r,⟨_,CW0 _ rfl,rfl,_,rfl⟩⟩
theorem AY5 (h:PA X es t):PE X (.List es pos) (CU2 t):=by
 intro pins s σ H Q I hq
 refine wpAny_List_spliced (thn (h pos pins s σ H _ I hq) fun us s1 ⟨xs,H1,I1,r,z,q⟩=>⟨by rw[<-r.length];exact z,?_⟩)
 have hf:H1 s1.heap.objs.size=none:=I1.hok.fresh (CW1 _)
 refine⟨.ref s1.heap.objs.size,upd H1 s1.heap.objs.size (.lst xs),I1.laid (t':=s1.toks) (fun b u e=>CU8 _ e) (CW1 _) ?_,rfl,q _ hf⟩
 exact⟨z,us,0,r,CW0 _ rfl⟩
end
abbrev Sp:=List V->Hp->VK->XK->Prop
abbrev CXT:=List Env->Hp->CV4->XK->Value->CV4->Prop
structure BF2 (P:DA0)(w:World)(K:CV3)(mg:Str->Option Value)(base:Heap)(A:DD3)(outer:List Env)(s:CV4)(H:Hp):Prop where
 frames:A.frames=some outer
 mod:Mod K mg base
 bs:∀b o,base.get? b=some o->s.heap.get? b=some o/\H b=none
 bsz:base.objs.size<=s.heap.objs.size
 funs:s.heap.FunFrames base outer
 frf:∀b∈frs outer,H b=none
 hok:HOk P w H s.heap
 bare:AllBare s.gens
def CE (outer:List Env)(P:DA0)(w:World)(H:Hp)(s:CV4)(Q:VK)(u:Value)(s':CV4):Prop :=
 ∃v H',s'.os=s.os/\AllBare s'.gens/\Un (frs outer) [] H H' s.heap s'.heap/\HOk P w H' s'.heap/\RelV v u/\Q v H'
def CR (CX:CXT)(outer:List Env)(P:DA0)(w:World)(H:Hp)(s:CV4)(Q:VK)(E:XK)(r:Result)(s':CV4):Prop :=
 match r with
 | .ok (.ret u)=>CE outer P w H s Q u s'
 | .ok _=>False
 | .error e=>CX outer H s E e s'
structure FnOk (P:DA0)(w:World)(K:CV3)(mg:Str->Option Value)(base:Heap)(CX:CXT)(k:Nat)(f:Addr)(fd:CX7)(ps:List Str)(sp:Sp):Prop where
 len:∀vs H Q E,sp vs H Q E->vs.length=ps.length
 run:∀(A:DD3) (outer:List Env) (s:CV4) (H:Hp) (args:Args) (us:List Value) (vs:List V) (Q:VK) (E:XK),Room k A->BF2 P w K mg base A outer s H->BindsTo s fd args (ps.zip us)->Vals vs us->sp vs H Q E ->
  codeAny (model P w) A (.call (.ref f) args) (CR CX outer P w H s Q E) s
theorem FnOk.imp {CX:CXT}{f:Addr}{sp sp':Sp}(F:FnOk P w K mg base CX k f fd ps sp)
  (h:∀vs H Q E,sp' vs H Q E->sp vs H Q E):FnOk P w K mg base CX k f fd ps sp' :=
 ⟨fun vs H Q E q=>F.len vs H Q E (h _ _ _ _ q),fun A outer s H args us vs Q E hr he hb hv hs=>F.run A outer s H args us vs Q E hr he hb hv (h _ _ _ _ hs)⟩
section
variable {X:Cx}{pins:List (Addr×Obj)}{σ:St}{H:Hp}{s s':CV4}
theorem Inv.env0 (I:Inv X pins σ H s):BF2 X.prog X.w X.K X.mg X.base X.A X.stack s H :=
 ⟨I.ok.frames,I.ok.mod,I.bs,CY4 I.ok.bsz I.sz,I.stack,I.stkFree,I.hok,I.bare⟩
theorem Inv.after {Q:VK}(I:Inv X pins σ H s)(h:CE X.stack X.prog X.w H s Q u s'):EP X pins σ Q u s':=by
 obtain⟨v,H',os,bare,un,hok,r,q⟩:=h
 obtain⟨hh,g,d,t,os'⟩:=s'
 obtain rfl:os'=s.os:=os
 exact⟨v,H',I.call (h':=hh) (g':=g) (d':=d) (t':=t) (ch:=[]) un hok bare (fun b z=>absurd z (by simp)),r,q⟩
end
def CP7 (sp:Sp)(dvs:List V)(E:XK)(t:TA):TE:=fun σ H Q=>t σ H fun vs H1=>sp (vs++dvs) H1 Q E
def Binds (K:CV3)(fd:CX7)(ps:List Str)(ds:List Value):Prop :=
 ∀(s:CV4) (us:List Value),K.In s.heap->(us++ds).length=ps.length->BindsTo s fd ⟨us,[]⟩ (ps.zip (us++ds))
theorem Binds.all (h:∀us:List Value,us.length=ps.length->bindArgs fd ⟨us,[]⟩=pure (ps.zip us)):Binds K fd ps []:=fun s us _ hl=>by
 rw[DF7] at hl ⊢
 exact .of_eq (h us hl)
def YZ (CX:CXT)(X:Cx)(E:XK):Prop:=∀(pins:List (Addr×Obj)) (σ:St) (H:Hp) (s:CV4) (e:Value) (s':CV4),Inv X pins σ H s->CX X.stack H s E e s'->X.xe e s'
section
variable {X:Cx}{CX:CXT}{k:Nat}{f C:Addr}{fd:CX7}{ps:List Str}{sp:Sp}{dvs:List V}{ds:List Value}{E:XK}{x m:Str}{p pos apos:Pos}{e o:Expr}{es:List Expr}{ta:TE}{t:TA}
theorem BC1 {σ:St}{H:Hp}{Q:VK}{vs:List V}(F:FnOk X.prog X.w X.K X.mg X.base CX k f fd ps sp)(hr:Room k X.A)(hb:Binds X.K fd ps ds)(hd:Vals dvs ds)(hx:YZ CX X E)
  (I:Inv X pins σ H s) (r:Vals vs us) (h:sp (vs++dvs) H Q E):wpAny (model X.prog X.w) X.A (call (.ref f) us) (EP X pins σ Q) X.xe s:=by
 have r2:Vals (vs++dvs) (us++ds):=r.append hd
 have hl:(us++ds).length=ps.length:=by rw[<-r2.length];exact F.len _ _ _ _ h
 refine wpAny_call (DM7 (F.run X.A X.stack s H ⟨us,[]⟩ (us++ds) (vs++dvs) Q E hr I.env0 (hb s us I.kIn hl) r2 h) fun r s' hq=>?_)
 cases r with
 | error e=>exact hx pins σ H s e s' I hq
 | ok fl =>
  cases fl with
  | ret u=>exact I.after hq
  | next=>exact False.elim hq
  | brk=>exact False.elim hq
  | cont=>exact False.elim hq
theorem BK2 (F:FnOk X.prog X.w X.K X.mg X.base CX k f fd ps sp)(hr:Room k X.A)(hg:Gl X x)(hm:X.mg x=some (.ref f))(hk:DD8 X.K (.ref f)=true)(hb:Binds X.K fd ps ds)(hd:Vals dvs ds)(hx:YZ CX X E)
  (ha:PA X (e::es) t) (hdb:(x==("__debug__":Str))=false:=by decide) (he:CY3 (e::es) X.env=(false,eval e X.env)::CY3 es X.env:=by rfl) (hpl:(DK1 pos (CY3 es X.env)).any (·.1)=false:=by rfl) :
  PE X (.Call (.Name x p) (e::es) [] pos) (CP7 sp dvs E t):=by
 intro pins s σ H Q I h
 refine DF5 (AG6 I hg hm ?_ hdb)
 refine PySem.W.callWith_K (h₀:=X.base) I.ok.mod.kin hk (thn (ha pos pins s σ H _ I h) fun us s1 ⟨vs,H1,I1,r,q⟩=>⟨I1.kIn,?_⟩) he hpl
 exact BC1 F hr hb hd hx I1 r q
end
section
variable {X:Cx}{CX:CXT}{k:Nat}{f C:Addr}{fd:CX7}{ps ks:List Str}{sp:Sp}{E:XK}{x m:Str}{p pos apos kpos:Pos}{e o:Expr}{es:List Expr}{kws:List Keyword}{te ta:TE}{t tk:TA}{nm:Option Str}
variable {g:List Value->List Value->List Value}{gV:List V->List V->List V}
end
structure B5 (N P:List Str)(sc:Scope):Prop where
 kind:sc.kind=.function
 co:sc.isCoroutine=false
 gen:sc.isGenerator=false
 nd:N.Nodup
 pre:N.take P.length=P
 par:∀x∈P,sc.names.lookup x=some .local\/sc.names.lookup x=some .cell
 nofree:∀y∈sc.names,y.2≠.free
theorem QM {kindOf:Str->Option DI6}{x:Str}:∀{binds:List (Str×Value)} {m:Str->Option Value},(∀v,(x,v)∉binds)->bindL kindOf binds m x=m x
 | [],_,_=>rfl
 | (n,v)::r,m,h=>by
  unfold bindL
  rw[QM fun w hw=>h w (CW5 _ hw)]
  split
  ·have:x≠n:=by rintro rfl;exact h v CW4
   simp[this]
  ·rfl
theorem QK {kindOf:Str->Option DI6}{x:Str}:∀{binds:List (Str×Value)} {m:Str->Option Value},(∀v,(x,v)∉binds)->bindC kindOf binds m x=m x
 | [],_,_=>rfl
 | (n,v)::r,m,h=>by
  unfold bindC
  rw[QK fun w hw=>h w (CW5 _ hw)]
  split
  ·rfl
  ·have:x≠n:=by rintro rfl;exact h v CW4
   simp[this]
theorem QL {kindOf:Str->Option DI6}{x:Str}{v:Value}:∀{P:List Str} {vs:List Value} {i:Nat} {m:Str->Option Value},P.Nodup->P[i]?=some x->vs[i]?=some v->kindOf x=some .local ->
  bindL kindOf (P.zip vs) m x=some v
 | [],_,_,_,_,h,_,_=>by simp at h
 | _::_,[],_,_,_,_,h,_=>by simp at h
 | p::P,w::vs,0,m,nd,h1,h2,hk=>by
  simp at h1 h2;subst h1;subst h2
  show bindL kindOf ((p,w)::P.zip vs) m p=_
  unfold bindL
  rw[QM fun v hv=>(List.nodup_cons.mp nd).1 (List.of_mem_zip hv).1,if_pos hk]
  simp
 | p::P,w::vs,i+1,m,nd,h1,h2,hk=>by
  show bindL kindOf ((p,w)::P.zip vs) m x=_
  unfold bindL
  exact QL (i:=i) (List.nodup_cons.mp nd).2 (by simpa using h1) (by simpa using h2) hk
theorem QJ {kindOf:Str->Option DI6}{x:Str}{v:Value}:∀{P:List Str} {vs:List Value} {i:Nat} {m:Str->Option Value},P.Nodup->P[i]?=some x->vs[i]?=some v->kindOf x≠some .local ->
  bindC kindOf (P.zip vs) m x=some v
 | [],_,_,_,_,h,_,_=>by simp at h
 | _::_,[],_,_,_,_,h,_=>by simp at h
 | p::P,w::vs,0,m,nd,h1,h2,hk=>by
  simp at h1 h2;subst h1;subst h2
  show bindC kindOf ((p,w)::P.zip vs) m p=_
  unfold bindC
  rw[QK fun v hv=>(List.nodup_cons.mp nd).1 (List.of_mem_zip hv).1,if_neg hk]
  simp
 | p::P,w::vs,i+1,m,nd,h1,h2,hk=>by
  show bindC kindOf ((p,w)::P.zip vs) m x=_
  unfold bindC
  exact QJ (i:=i) (List.nodup_cons.mp nd).2 (by simpa using h1) (by simpa using h2) hk
def start (N:List Str)(vs:List V):St:=vs.map some++CV2 (N.length-vs.length) none
def ZG (CX:CXT)(P:DA0)(w:World)(K:CV3)(mg:Str->Option Value)(base:Heap)(N:List Str)(qual:Str)(scope:Scope)(f:Addr)(cd:Value)(A:DD3)(outer:List Env)(s:CV4)(H:Hp)(E:XK):Cx where
 prog:=P
 w:=w
 K:=K
 mg:=mg
 base:=base
 A:=A.deeper (envOfC qual scope s.heap.objs.size f cd)
 N:=N
 s₀:=s
 H₀:=H
 env:=envOfC qual scope s.heap.objs.size f cd
 outer:=outer
 stack:=envOfC qual scope s.heap.objs.size f cd::outer
 ex:=[]
 calm:=true
 fn:=fun _=>true
 pn:=[]
 xe:=fun e s'=>wpAny (model P w) (A.deeper (envOfC qual scope s.heap.objs.size f cd)) (leaving (envOfC qual scope s.heap.objs.size f cd) e) (fun _ s''=>CX outer H s E e s'') (fun e' s''=>CX outer H s E e' s'') s'
theorem VX {sc:Scope}(h:sc.names.lookup x=some .cell):∃c,(cellsFrom n sc.names []).lookup x=some c:=by
 have q:=PySem.W.cellsFrom_some sc.names n [] (.inl h)
 exact Option.isSome_iff_exists.mp q
theorem AL2 {CX:CXT}{f:Addr}{cd:Value}{outer:List Env}{s1:CV4}{H:Hp}{E:XK}{vs:List V}
  (S:B5 N ps scope) (hd:A.handled=none) (e0:BF2 P w K mg base A outer s H) (hl:vs.length=ps.length) (r:Vals vs us)
  (x:InCallC s s.heap.objs.size (bindL (envOfC qual scope s.heap.objs.size f cd).kindOf (ps.zip us) fun _=>none) (cellsFrom (s.heap.objs.size+1) scope.names []) (bindC (envOfC qual scope s.heap.objs.size f cd).kindOf (ps.zip us) fun _=>none) s1) :
  Inv (ZG CX P w K mg base N qual scope f cd A outer s H E) [] (start N vs) H s1:=by
 have hpl:ps.length<=N.length:=by have:=congrArg DJ2 S.pre;rw[DI8] at this;lia
 obtain⟨h1,tk,rfl,hk⟩:=x.done
 have noA:∀b:Addr,b∉(ZG CX P w K mg base N qual scope f cd A outer s H E).ex:=fun b z=>absurd (show b∈([]:List Addr) from z) (by simp)
 refine⟨⟨e0.mod,S.kind,rfl,rfl,CW1 _,fun y z c h1 h2=>?_,fun y hy=>?_,fun y c _ h=>?_,fun _=>hd,Around.frames_deeper e0.frames,.inr ⟨rfl,rfl⟩,fun b z=>absurd z (noA b),e0.bs,e0.bsz,fun b _ _=>noA b,fun b z=>absurd z (noA b),e0.funs,e0.frf⟩,
  rfl,e0.bare,Un.kept hk,⟨_,x.toInCall.ns,fun i y v h1 h2 h3=>?_⟩,fun y c h=>⟨_,x.cell y c h⟩,e0.hok.fresh (CW1 _),fun y c h=>?_,fun p hp=>absurd (show p∈([]:List (Addr×Obj)) from hp) (by simp),e0.hok.kept hk,?_⟩
 ·exact name_of_addr x.apart (DA3 h1) (DA3 h2)
 ·have hy:scope.names.lookup y=some .cell\/scope.names.lookup y=some .free:=hy
  rcases hy with hy|hy
  ·exact VX hy
  ·exact absurd rfl (S.nofree _ (DA3 hy))
 ·exact Nat.le_of_lt (x.above y c (DA3 h))
 ·have hi:i<vs.length:=by
   unfold start at h2
   by_cases hi:i<vs.length
   ·exact hi
   ·rw[CX8 (by simpa using hi)] at h2
    rw[DC0] at h2
    split at h2<;>cases h2
  have ha:vs[i]?=some v:=by
   unfold start at h2
   rw[CZ0 (by simpa using hi),CW8] at h2
   cases e:vs[i]? with
   | none=>rw[e] at h2;cases h2
   | some a=>rw[e] at h2;cases h2;rfl
  obtain⟨u,hu,rv⟩:=r.get ha
  have hp:ps[i]?=some y:=by
   rw[<-S.pre,List.getElem?_take_of_lt (by lia)];exact h1
  have ndP:ps.Nodup:=by rw[<-S.pre];exact S.nd.sublist (List.take_sublist _ _)
  refine⟨u,rv,?_⟩
  rcases S.par y (DA1 hp) with k|k
  ·exact .inl ⟨k,QL ndP hp hu k⟩
  ·obtain⟨c,e⟩:=VX (n:=s.heap.objs.size+1) k
   refine .inr ⟨.inl k,c,e,?_⟩
   have q:=x.cell y c e
   rw[QJ ndP hp hu (by show scope.names.lookup y≠_;rw[k];decide)] at q
   exact q
 ·exact e0.hok.fresh (Nat.le_of_lt (x.above y c (DA3 h)))
 ·unfold start
  show _=N.length
  rw[CW3,CV1,DB8]
  lia
theorem CF9 {CX:CXT}{f:Addr}{name:Str}{params:Arguments}{dV kV:Value}
  {sp:Sp} (lk:K.lookup f=some ⟨oc,od,.func (DD9 name qual params body scope dV kV doc pm an cdv ct),osl⟩) (hcd:DK2 K cdv qual=true) (S:B5 N ps scope)
  (len:∀vs H Q E,sp vs H Q E->vs.length=ps.length)
  (hbody:∀(A:DD3) (outer:List Env) (s:CV4) (H:Hp) (vs:List V) (Q:VK) (E:XK),Room k (A.deeper (envOfC qual scope s.heap.objs.size f cdv))->sp vs H Q E ->
   ∃t,PSs (ZG CX P w K mg base N qual scope f cdv A outer s H E) body t/\t {nx:=fun _ H'=>Q .non H',rt:=Q} (start N vs) H) :
  FnOk P w K mg base CX (k+1) f (DD9 name qual params body scope dV kV doc pm an cdv ct) ps sp:=by
 refine⟨len,fun A outer s H args us vs Q E hr e0 hb r hsp=>?_⟩
 have hl:=len _ _ _ _ hsp
 have KX:K.In s.heap:=e0.mod.kin.keeps fun b o e=>(e0.bs b o e).1
 have lim:s.heap.NoLimit:=e0.mod.nolimit.keeps fun b o e=>(e0.bs b o e).1
 have hkind:∀y∈ps.zip us,scope.names.lookup y.1=some .local\/(scope.names.lookup y.1=some .cell/\((cellsFrom (s.heap.objs.size+1) scope.names []).lookup y.1).isSome=true):=fun⟨n,v⟩ hy=>by
  rcases S.par n (List.of_mem_zip hy).1 with q|q
  ·exact .inl q
  ·exact .inr ⟨q,PySem.W.cellsFrom_some _ _ _ (.inl q)⟩
 refine codeAny_call_function hr.depth (KX _ _ lk) rfl S.co S.gen rfl (PySem.W.codeRec_of KX hcd) (hb _ _ _ _ ?_)
 refine wpAny_newFunctionEnv_cells S.kind hkind fun env he s1 x=>?_
 subst he
 refine⟨lim.keeps x.toInCall.keep,codeAny_func ?_⟩
 obtain⟨t,ht,hq⟩:=hbody A outer s H vs Q E (hr.deeper _) hsp
 have I:Inv (ZG CX P w K mg base N qual scope f cdv A outer s H E) [] (start N vs) H s1:=AL2 S hr.hd e0 hl r x
 refine DB9 (ht [] s1 (start N vs) H _ I hq) (fun fl s' hs=>?_) fun e s' hs=>hs
 have fin:∀{σ':St} {H':Hp} {v:V} {u:Value},Inv (ZG CX P w K mg base N qual scope f cdv A outer s H E) [] σ' H' s'->RelV v u->Q v H'->CE outer P w H s Q u s' :=
  fun{σ' H' v u} J rv q=>⟨v,H',J.os,J.bare,J.base,J.hok,rv,q⟩
 cases fl with
 | ret u =>
  obtain⟨v,σ',H',J,rv,q⟩:=hs
  exact fin J rv q
 | next =>
  obtain⟨σ',H',J,q⟩:=hs
  exact fin (v:=V.non) (u:=Value.none) J rfl q
 | brk =>
  obtain⟨_,_,_,q⟩:=hs
  exact False.elim q
 | cont =>
  obtain⟨_,_,_,q⟩:=hs
  exact False.elim q
section
variable {X:Cx}{x:Str}{p pos:Pos}{e:Expr}{es:List Expr}{t:TA}{id T:String}{r:List V->Hp->VK->Prop}
end
end L2
variable {H:L2.Hp}{v:L2.V}{vs:List L2.V}{kvs:List (L2.Key×L2.V)}{xs:List (List L2.Key×DD5×DC1)}
namespace HT
open PySem PyProof.Rows
section
open PySem.SeqAt
open PySem.AutoSeq1 (wpAny_loadPart')
open PySem.MeetsSeq PySem.MeetsSeq2 PySem.MeetsSeq3
end
section
variable {prog:DA0}{w:World}{A:DD3}{E:Value->CV4->Prop}{s:CV4}
def sIx (n d:Nat):Option Int->Nat
 | none=>d
 | some v=>if v<0 then(v+(n:Int)).toNat else min v.toNat n
theorem BC2 (n d:Nat):sIx n d none=d:=rfl
theorem BN8 (n d k:Nat):sIx n d (some (k:Int))=min k n:=by
 show(if (k:Int)<0 then((k:Int)+(n:Int)).toNat else min (k:Int).toNat n)=min k n
 rw[if_neg (by lia),DA6]
theorem CC7 (n d:Nat)(hd:d<=n)(o:Option Int):sIx n d o<=n:=by
 cases o with
 | none=>exact hd
 | some v =>
  show(if v<0 then(v+(n:Int)).toNat else min v.toNat n)<=n
  by_cases hv:v<0
  ·rw[if_pos hv];lia
  ·rw[if_neg hv];exact Nat.min_le_right _ _
theorem AE5 (v:Int)(n d:Nat):(if v<0 then max (v+(n:Int)) 0 else min v (n:Int))=((sIx n d (some v):Nat):Int):=by
 show(if v<0 then max (v+(n:Int)) 0 else min v (n:Int))=(((if v<0 then(v+(n:Int)).toNat else min v.toNat n):Nat):Int)
 by_cases hv:v<0
 ·simp only[if_pos hv];lia
 ·simp only[if_neg hv];lia
theorem ZC (lo hi:Option Int)(n:Nat):DE4 lo hi 1 (n:Int)=(((sIx n 0 lo:Nat):Int),((sIx n n hi:Nat):Int)):=by
 have h1:¬((1:Int)<0):=by lia
 unfold DE4
 simp only[h1,if_false]
 refine Prod.ext ?_ ?_
 ·cases lo with
  | none=>rfl
  | some v=>exact AE5 v n 0
 ·cases hi with
  | none=>rfl
  | some v=>exact AE5 v n n
theorem AA3 (i j:Nat):DA7 (i:Int) (j:Int) 1=j-i:=by
 unfold DA7
 have h1:(1:Int)>0:=by lia
 simp only[h1,if_true,Int.ediv_one]
 split<;>lia
theorem NS {v:Value}{o:Option Int}{Q:Option Int->CV4->Prop}(p:IsPart v o)(h:Q o s):wpAny (model prog w) A (Builtin.Slice.slicePartIndex v) Q E s:=by
 cases p with
 | none=>exact slicePart_none h
 | int i t=>exact slicePart_int h
theorem AD {vl vu:Value}{Q:Int×Int×Nat->CV4->Prop}(hs:s.heap.IsSliceOf sl vl vu .none)(pl:IsPart vl lo)(pu:IsPart vu hi)
  (h:Q (((sIx n 0 lo:Nat):Int),1,sIx n n hi-sIx n 0 lo) s):wpAny (model prog w) A (DG8 (.ref sl) (pure (n:Int))) Q E s:=by
 obtain⟨os,hos,hcs,hds⟩:=id hs
 unfold DG8 Builtin.Slice.sliceFields
 refine CU6 (CU6 (DC5 hos hds (x:=vl) rfl (CU6 (DC5 hos hds (x:=vu) rfl (CU6 (DC5 hos hds (x:=.none) rfl (CU7 ?_)))))))
 refine CU6 (slicePart_none ?_)
 show wpAny _ _ (if ((1:Int)==0)=true then _ else _) _ _ s
 rw[if_neg (by decide)]
 refine CU6 (NS pl (CU6 (NS pu (CU6 (CU7 ?_)))))
 show wpAny _ _ (match DE4 lo hi 1 (n:Int) with|(lo,hi)=>pure (lo,(1:Int),DA7 lo hi 1)) _ _ s
 rw[ZC lo hi n]
 show wpAny _ _ (pure (((sIx n 0 lo:Nat):Int),(1:Int),DA7 ((sIx n 0 lo:Nat):Int) ((sIx n n hi:Nat):Int) 1)) _ _ s
 rw[AA3]
 exact CU7 h
theorem AZ2 (xs:Array Value)(i k:Nat):((CV7 k).filterMap fun(m:Nat)=>xs[((i:Int)+(m:Int)*1).toNat]?).toArray=((xs.toList.drop i).take k).toArray:=by
 have e:(fun(m:Nat)=>xs[((i:Int)+(m:Int)*1).toNat]?)=fun m=>xs[i+m]?:=by
  funext m
  have:((i:Int)+(m:Int)*1).toNat=i+m:=by lia
  rw[this]
 rw[e]
 have:=pick_run xs i k
 rw[List.filterMap_map] at this
 have e2:((fun x=>xs[x]?) ∘ fun x=>i+x)=fun m=>xs[i+m]?:=rfl
 rw[e2] at this
 rw[this]
theorem HR {t:Addr}{vl vu:Value}(ht:IsTup s.heap t items)(hs:s.heap.IsSliceOf sl vl vu .none)(pl:IsPart vl lo)(pu:IsPart vu hi)
  (hw:¬(sIx items.size 0 lo=0/\sIx items.size items.size hi=items.size))
  (h:Q (.ref s.heap.objs.size) {s with heap:=s.heap.push {cls:=.type "tuple",data:=.seq ((items.toList.drop (sIx items.size 0 lo)).take (sIx items.size items.size hi-sIx items.size 0 lo)).toArray}})
  (hsz:items.size<=CV8):wpAny (model prog w) A (DQ2 (.ref t) (.ref sl)) Q E s:=by
 have htake:sizeOk (.seq ((items.toList.drop (sIx items.size 0 lo)).take (sIx items.size items.size hi-sIx items.size 0 lo)).toArray):=by
  show((items.toList.drop (sIx items.size 0 lo)).take (sIx items.size items.size hi-sIx items.size 0 lo)).toArray.size<=CV8
  rw[CW7,DI8,List.length_drop,CW2]
  lia
 have hj:sIx items.size items.size hi<=items.size:=CC7 _ _ (CW1 _) hi
 obtain⟨os,hos,hcs,hds⟩:=id hs
 have hTs:s.TypeIs (.ref sl) "slice":=⟨os,hos,hcs⟩
 unfold DQ2
 try with_reducible refine DA2 ?_
 first|refine CU6 (CU7 ?_)|skip
 refine CU6 (wpAny_sequenceKey ht.typeIs (by decide) ?_)
 refine CU6 (CZ7 (name:=DJ4 "__getitem__") ht.typeIs DB5
  (DC7 DB5 ht.typeIs entry_tuple_getitem ?_ (args_tuple_getitem _ _)))
 show wpAny _ _ (DL3 (.ref t) >>= _) _ _ s
 refine CU6 (tupleItemsOf_ ht ?_)
 refine CU6 (DM4 hTs ?_)
 rw[if_pos (by decide)]
 refine CU6 (AD hs pl pu ?_)
 have hno:¬((((sIx items.size 0 lo:Nat):Int)==0 && (1:Int)==1 && (sIx items.size items.size hi-sIx items.size 0 lo)==items.size)=true):=by
  intro q
  rw[CX9,CX9] at q
  have q1:((sIx items.size 0 lo:Nat):Int)=0:=eq_of_beq q.1.1
  have q2:sIx items.size items.size hi-sIx items.size 0 lo=items.size:=eq_of_beq q.2
  exact hw ⟨by lia,by lia⟩
 show wpAny _ _ (if (((sIx items.size 0 lo:Nat):Int)==0 && (1:Int)==1 && (sIx items.size items.size hi-sIx items.size 0 lo)==items.size)=true then _ else _) _ _ s
 rw[if_neg hno,AZ2]
 first
  | exact CU6 (m:=DB3 _) (CX5 (CU7 ⟨_,rfl,CU7 h⟩) htake)
  | exact CU6 (m:=DB3 _) (CX5 (CU6 (CU7 (CU7 ⟨_,rfl,CU7 h⟩))) htake)
  | exact CU6 (CU6 (m:=DB3 _) (CX5 (CU7 (CU7 ⟨_,rfl,CU7 h⟩)) htake))
  | exact CU6 (CU6 (m:=DB3 _) (CX5 (CU7 ⟨_,rfl,CU7 h⟩) htake))
end
end HT
namespace L2
open PySem PySem.Spec PyProof.Rows
section
variable {X:Cx}{e:Expr}{te:TE}{lo hi:Option Expr}{tl th:TO}{pos p2:Pos}
def SlR (X:Cx)(r:V->Option Int->Option Int->Hp->VK->Prop):Prop :=
 ∀(pins:List (Addr×Obj)) (s:CV4) (σ:St) (H:Hp) (x:V) (v vl vu:Value) (lo hi:Option Int) (sl:Addr) (Q:VK),Inv X pins σ H s->RelV x v->s.heap.IsSliceOf sl vl vu .none->IsPart vl lo->IsPart vu hi->r x lo hi H Q ->
  ∃T id,typeLookup (.type T) "__getitem__"=pure (some (.builtin id))/\s.TypeIs v T/\wpAny (model X.prog X.w) X.A (DQ2 v (.ref sl)) (EP X pins σ Q) X.xe s
theorem SlR.or {r r':V->Option Int->Option Int->Hp->VK->Prop}(h:SlR X r)(h':SlR X r'):SlR X (fun x lo hi H Q=>r x lo hi H Q\/r' x lo hi H Q):=by
 intro pins s σ H x v vl vu lo hi sl Q I rx hs pl pu q
 rcases q with q|q
 ·exact h pins s σ H x v vl vu lo hi sl Q I rx hs pl pu q
 ·exact h' pins s σ H x v vl vu lo hi sl Q I rx hs pl pu q
def WB (xs:List V)(lo hi:Option Int):List V:=(xs.drop (HT.sIx xs.length 0 lo)).take (HT.sIx xs.length xs.length hi-HT.sIx xs.length 0 lo)
theorem KI (xs:List V)(lo hi:Option Int):(WB xs lo hi).length<=xs.length:=by
 unfold WB
 rw[DI8,List.length_drop]
 lia
def BY4 (K:CV3):V->Option Int->Option Int->Hp->VK->Prop:=fun x lo hi H Q=>∃a xs,x=.ref a/\SqT K H a xs /\
 ¬(HT.sIx xs.length 0 lo=0/\HT.sIx xs.length xs.length hi=xs.length)/\∀p,H p=none->Q (.ref p) (upd H p (.tup (WB xs lo hi)))
theorem BC7:SlR X (BY4 X.K):=by
 intro pins s σ H x v vl vu lo hi sl Q I rx hs pl pu h
 obtain⟨a,xs,rfl,hx,hw,q⟩:=h
 cases rx
 obtain⟨its,r,ht,hz⟩:=I.tuple hx
 have hlen:its.toArray.size=xs.length:=by rw[CW7];exact r.length.symm
 refine⟨"tuple",_,PyProof.Rows.slot_tuple_getitem.lookup,ht.typeIs,?_⟩
 refine HT.HR ht hs pl pu (by rw[hlen];exact hw) ?_ (by rw[hlen];exact hz)
 rw[hlen]
 refine⟨.ref s.heap.objs.size,_,I.laid (t':=s.toks) (o:=.tup (WB xs lo hi)) (fun b ob q=>CU8 _ q) (CW1 _) ?_,rfl,q _ (I.hok.fresh (CW1 _))⟩
 exact⟨CY4 (KI xs lo hi) hz,_,(r.drop (HT.sIx xs.length 0 lo)).take (HT.sIx xs.length xs.length hi-HT.sIx xs.length 0 lo),IsTup.new _ _⟩
end
def ixN (n:Nat)(i:Int):Option Nat:=if 0<=i then(if i<n then some i.toNat else none) else if -(n:Int)<=i then some (i+n).toNat else none
def atI {α:Type}(xs:List α)(i:Int):Option α:=(ixN xs.length i).bind fun j=>xs[j]?
theorem AG5 {i:Int}(h:ixN n i=some j):seqIndex? i n=some j/\j<n/\-(n:Int)<=i/\i<n:=by
 unfold ixN at h
 by_cases h0:0<=i
 ·rw[if_pos h0] at h
  by_cases h1:i<n
  ·rw[if_pos h1] at h
   have e:i.toNat=j:=Option.some.inj h
   exact⟨by rw[seqIndex_of h0 h1,e],by lia,by lia,h1⟩
  ·rw[if_neg h1] at h;cases h
 ·rw[if_neg h0] at h
  by_cases h1:-(n:Int)<=i
  ·rw[if_pos h1] at h
   have e:(i+n).toNat=j:=Option.some.inj h
   exact⟨by rw[seqIndex_neg (by lia) h1,e],by lia,h1,by lia⟩
  ·rw[if_neg h1] at h;cases h
theorem RW {xs:List α}{i:Int}{v:α}(h:atI xs i=some v):∃j,seqIndex? i xs.length=some j/\xs[j]?=some v/\j<xs.length/\-(xs.length:Int)<=i/\i<xs.length:=by
 unfold atI at h
 cases e:ixN xs.length i with
 | none=>rw[e] at h;cases h
 | some j =>
  rw[e] at h
  obtain⟨h1,h2,h3,h4⟩:=AG5 e
  exact⟨j,h1,h,h2,h3,h4⟩
theorem G3 {xs:List α}{v:α}(h:xs[j]?=some v):atI xs (j:Int)=some v:=by
 have hj:j<xs.length:=(List.getElem?_eq_some_iff.mp h).1
 have e:ixN xs.length (j:Int)=some j:=by
  unfold ixN
  rw[if_pos (by lia),if_pos (by lia)];simp
 unfold atI;rw[e];exact h
def AD6 (b:Expr):Prop:=∀o i,subscripted b false o i=operate [o,i] (DQ2 o i)
def IxR (X:Cx)(r:R2):Prop :=
 ∀(value slice:Expr) (pins:List (Addr×Obj)) (s:CV4) (σ:St) (H:Hp) (x y:V) (v u:Value) (Q:VK),Inv X pins σ H s->RelV x v->RelV y u->r x y H Q ->
  subscripted slice false v u=operate [v,u] (DQ2 v u)->wpAny (model X.prog X.w) X.A (subscriptTail value slice v u) (EP X pins σ Q) X.xe s
section
variable {X:Cx}{a b:Expr}{ta tb:TE}{pos:Pos}
theorem IxR.or {r r':R2}(h:IxR X r)(h':IxR X r'):IxR X (fun x y H Q=>r x y H Q\/r' x y H Q):=by
 intro value slice pins s σ H x y v u Q I rx ry q hs
 rcases q with q|q
 ·exact h value slice pins s σ H x y v u Q I rx ry q hs
 ·exact h' value slice pins s σ H x y v u Q I rx ry q hs
def CM4 (K:CV3):R2:=fun x y H Q=>∃p xs i v,x=.ref p/\y=.int i/\SqL K H p xs/\atI xs i=some v/\Q v H
def CM6 (K:CV3):R2:=fun x y H Q=>∃p xs i v,x=.ref p/\y=.int i/\SqT K H p xs/\atI xs i=some v/\Q v H
def CM5:R2:=fun x y H Q=>∃z i c,x=.str z/\y=.int i/\z.length<=CV8/\atI z.cps.toList i=some c/\Q (.str ⟨#[c]⟩) H
theorem ix_list:IxR X (CM4 X.K):=by
 intro value slice pins s σ H x y v u Q I rx ry h hs
 obtain⟨p,xs,i,z,rfl,rfl,hq,he,q⟩:=h
 cases rx
 obtain⟨t,rfl⟩:=ry
 obtain⟨its,r,pl,hz⟩:=I.list hq
 obtain⟨j,h1,h2,h3,h4,h5⟩:=RW he
 obtain⟨w,ew,rw'⟩:=r.get h2
 have hl:=r.length
 have hn:=JE
 have fin:EP X pins σ Q w s:=⟨z,H,I,rw',q⟩
 by_cases h0:0<=i
 ·have hj:i.toNat=j:=by
   rw[seqIndex_of h0 h5] at h1
   exact Option.some.inj h1
  exact item_listR pl.isList h0 (by lia) (by rw[hj];simpa using ew) fin hs
 ·have hj:(i+(its.toArray.size:Int)).toNat=j:=by
   rw[seqIndex_neg (by lia) h4] at h1
   rw[CW7,<-hl]
   exact Option.some.inj h1
  exact subscriptTail_builtinR (x:=w) pl.isList.typeIs slot_list_getitem.lookup
   (wpAny_getItem_list_neg (Q:=fun r s'=>r=w/\EP X pins σ Q r s') pl.isList (by lia) (by rw[CW7]<;>lia) (by lia) (by rw[hj];simpa using ew) ⟨rfl,fin⟩) hs
theorem ix_tup:IxR X (CM6 X.K):=by
 intro value slice pins s σ H x y v u Q I rx ry h hs
 obtain⟨p,xs,i,z,rfl,rfl,hq,he,q⟩:=h
 cases rx
 obtain⟨t,rfl⟩:=ry
 obtain⟨its,r,pl,hz⟩:=I.tuple hq
 obtain⟨j,h1,h2,h3,h4,h5⟩:=RW he
 obtain⟨w,ew,rw'⟩:=r.get h2
 have hl:=r.length
 have hn:=JE
 have fin:EP X pins σ Q w s:=⟨z,H,I,rw',q⟩
 exact subscriptTail_builtinR (x:=w) pl.typeIs slot_tuple_getitem.lookup
  (getItem_tuple (j:=j) (Q:=fun r s'=>r=w/\EP X pins σ Q r s') pl (by lia) (by lia) (by rw[CW7,<-hl];exact h1) (by simpa using ew) ⟨rfl,fin⟩) hs
theorem BT1:IxR X CM5:=by
 intro value slice pins s σ H x y v u Q I rx ry h hs
 obtain⟨z,i,c,rfl,rfl,hz,he,q⟩:=h
 obtain⟨t,rfl⟩:=rx
 obtain⟨t',rfl⟩:=ry
 obtain⟨j,h1,h2,h3,h4,h5⟩:=RW he
 have hl:z.cps.toList.length=z.length:=by simp[Str.length]
 rw[hl] at h1 h4 h5
 have hn:=JE
 exact tail_any (typeIs_str s z t) slot_str_getitem.lookup (getItem_str (c:=c) (by
  have e1:decide (i < -(2^63:Int))=false:=decide_eq_false (by lia)
  have e2:decide (i ≥ 2^63)=false:=decide_eq_false (by lia)
  rw[e1,e2,Bool.or_false]) (by rw[h1];simpa using h2) ⟨.str ⟨#[c]⟩,H,I.tok _,⟨_,rfl⟩,q⟩) hs
def rIx (K:CV3):R2:=fun x y H Q=>CM4 K x y H Q\/CM6 K x y H Q\/CM5 x y H Q
theorem BT0:IxR X (rIx X.K):=ix_list.or (ix_tup.or BT1)
theorem ZQ (its:List Value)(n j:Nat)(u:Value):DH7 (·.setIfInBounds j u) {cls:=.type "list",data:=.seq its.toArray n}={cls:=.type "list",data:=.seq (its.set j u).toArray n}:=by
 simp[DH7]
theorem Inv.lst {pins:List (Addr×Obj)}{σ:St}{H:Hp}{s:CV4}{p:Addr}{xs:List V}(I:Inv X pins σ H s)(h:H p=some (.lst xs)) :
  ∃(its:List Value) (n:Nat),Vals xs its/\s.heap.get? p=some {cls:=.type "list",data:=.seq its.toArray n}/\xs.length<=CV8:=by
 obtain⟨z,its,n,r,e⟩:=I.hok p _ h
 exact⟨its,n,r,e,z⟩
theorem Inv.lstUpd {σ:St}{xs ys:List V}{its':List Value}{n':Nat}{f:Obj->Obj}(I:Inv X pins σ H s)(h:H p=some (.lst xs))
  (ho:s.heap.get? p=some {cls:=.type "list",data:=.seq its.toArray n}) (hf:f {cls:=.type "list",data:=.seq its.toArray n}={cls:=.type "list",data:=.seq its'.toArray n'}) (r:Vals ys its') (hz:ys.length<=CV8) (t:Nat) :
  Inv X pins σ (upd H p (.lst ys)) {s with heap:=s.heap.update p f,toks:=t}:=by
 have e:(s.heap.update p f).get? p=some {cls:=.type "list",data:=.seq its'.toArray n'}:=by
  rw[CZ4 f ho (by rw[hf]<;>rfl),hf]
 refine I.write (x:=p) (e:=p) (by rw[h];trivial) (.inl rfl) (fun b u hb q=>(CY6 _ _ (Ne.symm hb)).trans q) ⟨_,e⟩ ?_
 exact⟨hz,its',n',r,e⟩
def CM8:V->V->V->Hp->(Hp->Prop)->Prop:=fun o i v H Q=>∃p xs k j,o=.ref p/\i=.int k/\H p=some (.lst xs)/\ixN xs.length k=some j/\Q (upd H p (.lst (xs.set j v)))
theorem set_list:CF1 X CM8:=by
 intro pins s σ H o i v ov iv u Q I ro ri rv h
 obtain⟨p,xs,k,j,rfl,rfl,hp,hj,q⟩:=h
 cases ro
 obtain⟨t,rfl⟩:=ri
 obtain⟨its,n,r,ho,hz⟩:=I.lst hp
 obtain⟨h1,h2,h3,h4⟩:=AG5 hj
 have hl:=r.length
 have hn:=JE
 have I':Inv X pins σ (upd H p (.lst (xs.set j v))) {s with heap:=s.heap.update p (DH7 (·.setIfInBounds j u))} :=
  I.lstUpd hp ho (ZQ its n j u) (r.set rv j) (by rw[List.length_set];exact hz) s.toks
 by_cases h0:0<=k
 ·have hk:k.toNat=j:=by
   rw[seqIndex_of h0 h4] at h1
   exact Option.some.inj h1
  exact PySem.W.ki_setAt ho h0 (by lia) (by rw[CW7,<-hl];exact h4) (by rw[hk];exact⟨_,I',q⟩)
 ·have hk:(k+(its.toArray.size:Int)).toNat=j:=by
   rw[seqIndex_neg (by lia) h3] at h1
   rw[CW7,<-hl]
   exact Option.some.inj h1
  exact PySem.W.ki_setBack ho (by lia) (by rw[CW7,<-hl];exact h3) (by lia) (by rw[hk];exact⟨_,I',q⟩)
theorem UZ (lo hi:Option Int)(n:Nat):(DM1 lo hi none n).1=((HT.sIx n 0 lo:Nat):Int)/\(DM1 lo hi none n).2.1=((HT.sIx n n hi:Nat):Int)/\(DM1 lo hi none n).2.2=1:=by
 refine⟨?_,?_,rfl⟩
 ·cases lo with
  | none=>simp[DM1,HT.sIx]
  | some i =>
   simp only[DM1,HT.sIx,Option.getD_none,show(1:Int)>0 by decide,if_true]
   by_cases h:i<0
   ·simp only[h,if_true]<;>lia
   ·simp only[h,if_false]<;>lia
 ·cases hi with
  | none=>simp[DM1,HT.sIx]
  | some i =>
   simp only[DM1,HT.sIx,Option.getD_none,show(1:Int)>0 by decide,if_true]
   by_cases h:i<0
   ·simp only[h,if_true]<;>lia
   ·simp only[h,if_false]<;>lia
theorem PU (its:List Value)(lo hi:Option Int):slicePick its.toArray lo hi none=((its.drop (HT.sIx its.length 0 lo)).take (HT.sIx its.length its.length hi-HT.sIx its.length 0 lo)).toArray:=by
 obtain⟨h1,h2,h3⟩:=UZ lo hi its.toArray.size
 unfold slicePick
 rw[h1,h2,h3]
 simp only[sliceRange_one,pick_run,CW7]<;>rfl
def BY3 (K:CV3):V->Option Int->Option Int->Hp->VK->Prop:=fun x lo hi H Q=>∃a xs,x=.ref a/\SqL K H a xs/\∀p,H p=none->Q (.ref p) (upd H p (.lst (WB xs lo hi)))
theorem sl_list:SlR X (BY3 X.K):=by
 intro pins s σ H x v vl vu lo hi sl Q I rx hs pl pu h
 obtain⟨a,xs,rfl,hx,q⟩:=h
 cases rx
 obtain⟨its,r,ht,hz⟩:=I.list hx
 have hlen:=r.length
 refine⟨"list",_,slot_list_getitem.lookup,ht.isList.typeIs,?_⟩
 refine wpAny_getItem_list_slice ht.isList hs pl pu .none (by simp) ?_ (by rw[CW7]<;>lia)
 rw[PU,<-hlen]
 refine⟨.ref s.heap.objs.size,_,I.laid (t':=s.toks) (o:=.lst (WB xs lo hi)) (fun b ob q=>CU8 _ q) (CW1 _) ?_,rfl,q _ (I.hok.fresh (CW1 _))⟩
 exact⟨CY4 (KI xs lo hi) hz,_,0,(r.drop (HT.sIx xs.length 0 lo)).take (HT.sIx xs.length xs.length hi-HT.sIx xs.length 0 lo),CW0 _ rfl⟩
def HQ:V->Bool
 | .non=>true
 | .bl _=>true
 | .int _=>true
 | .str _=>true
 | _=>false
def eqV:V->V->Bool
 | .non,.non=>true
 | .bl a,.bl b=>a==b
 | .bl a,.int b=>(if a then 1 else 0)==b
 | .int a,.bl b=>a==(if b then 1 else 0)
 | .int a,.int b=>a==b
 | .str a,.str b=>a==b
 | _,_=>false
theorem BS5 {y x:V}{v:Value}(ry:RelV y u)(rx:RelV x v)(fy:HQ y=true)(fx:HQ x=true):SeqAt.EqAt A s u v (eqV y x):=by
 cases y with
 | non =>
  cases ry
  cases x with
  | non=>cases rx;exact SeqAt.EqAt.same _
  | bl b=>cases rx;exact SeqAt.EqAt.none_bool b
  | int b=>obtain⟨t,rfl⟩:=rx;exact SeqAt.EqAt.none_int b t
  | str b=>obtain⟨t,rfl⟩:=rx;exact SeqAt.EqAt.none_str b t
  | _=>exact absurd (show false=true from fx) CV5
 | bl a =>
  cases ry
  cases x with
  | non=>cases rx;exact SeqAt.EqAt.bool_none a
  | bl b=>cases rx;exact SeqAt.EqAt.bool_bool a b
  | int b=>obtain⟨t,rfl⟩:=rx;exact SeqAt.EqAt.bool_int a b t
  | str b=>obtain⟨t,rfl⟩:=rx;exact SeqAt.EqAt.bool_str a b t
  | _=>exact absurd (show false=true from fx) CV5
 | int a =>
  obtain⟨t',rfl⟩:=ry
  cases x with
  | non=>cases rx;exact SeqAt.EqAt.int_none a t'
  | bl b=>cases rx;exact SeqAt.EqAt.int_bool a t' b
  | int b=>obtain⟨t,rfl⟩:=rx;exact SeqAt.EqAt.int_int a t' b t
  | str b=>obtain⟨t,rfl⟩:=rx;exact SeqAt.EqAt.int_str a t' b t
  | _=>exact absurd (show false=true from fx) CV5
 | str a =>
  obtain⟨t',rfl⟩:=ry
  cases x with
  | non=>cases rx;exact SeqAt.EqAt.str_none a t'
  | bl b=>cases rx;exact SeqAt.EqAt.str_bool a t' b
  | int b=>obtain⟨t,rfl⟩:=rx;exact SeqAt.EqAt.str_int a t' b t
  | str b=>obtain⟨t,rfl⟩:=rx;exact SeqAt.EqAt.str_str a t' b t
  | _=>exact absurd (show false=true from fx) CV5
 | _=>exact absurd (show false=true from fy) CV5
def eqU (x:V)(u:Value):Bool:=match u with
 | .none=>eqV .non x
 | .bool b=>eqV (.bl b) x
 | .int i _=>eqV (.int i) x
 | .str z _=>eqV (.str z) x
 | _=>false
theorem AS5 {x y:V}(r:RelV y u)(f:HQ y=true):eqU x u=eqV y x:=by
 cases y with
 | non=>cases r;rfl
 | bl b=>cases r;rfl
 | int i=>obtain⟨t,rfl⟩:=r;rfl
 | str z=>obtain⟨t,rfl⟩:=r;rfl
 | _=>exact absurd (show false=true from f) CV5
theorem HG {x:V}:∀{xs:List V} {us:List Value},Vals xs us->xs.all HQ=true->us.any (eqU x)=xs.any fun y=>eqV y x
 | _,_,.nil,_=>rfl
 | y::xs,u::us,.cons r t,f=>by
  rw[List.all_cons,CX9] at f
  rw[DJ9,DJ9,AS5 r f.1,HG t f.2]
theorem DA {A:DD3}{s:CV4}{x:V}{v:Value}(rx:RelV x v)(fx:HQ x=true):∀{xs:List V} {us:List Value},Vals xs us->xs.all HQ=true->∀u∈us,SeqAt.EqAt A s u v (eqU x u)
 | _,_,.nil,_=>fun u hu=>by cases hu
 | y::xs,u::us,.cons r t,f=>fun u' hu=>by
  rw[List.all_cons,CX9] at f
  rcases CV0.mp hu with rfl|hu
  ·rw[AS5 r f.1];exact BS5 r rx f.1 fx
  ·exact DA rx fx t f.2 u' hu
def inV (x:V)(xs:List V):Bool:=xs.any fun y=>eqV y x
def rIn (K:CV3)(neg:Bool):R2:=fun x y H Q=>∃p xs,y=.ref p/\(SqL K H p xs\/SqT K H p xs)/\HQ x=true/\xs.all HQ=true/\Q (.bl (if neg then !inV x xs else inV x xs)) H
theorem AM4:OpR X (DB4 .In) (rIn X.K false):=by
 intro pins s σ H x y v u Q I rx ry h
 obtain⟨p,xs,rfl,hq,fx,fs,q⟩:=h
 cases ry
 rcases hq with hq|hq
 ·obtain⟨its,r,pl,hz⟩:=I.list hq
  refine SeqAt.in_listAt (eqU x) pl.isList (fun w hw=>DA rx fx r fs w (by simpa using hw)) ⟨.bl _,H,I,rfl,?_⟩
  rw[show its.toArray.any (eqU x)=its.any (eqU x) by simp,HG r fs]
  exact q
 ·obtain⟨its,r,pl,hz⟩:=I.tuple hq
  refine SeqAt.in_tupleAt (eqU x) pl (fun w hw=>DA rx fx r fs w (by simpa using hw)) ⟨.bl _,H,I,rfl,?_⟩
  rw[show its.toArray.any (eqU x)=its.any (eqU x) by simp,HG r fs]
  exact q
theorem TJ:OpR X (DB4 .NotIn) (rIn X.K true):=by
 intro pins s σ H x y v u Q I rx ry h
 obtain⟨p,xs,rfl,hq,fx,fs,q⟩:=h
 cases ry
 rcases hq with hq|hq
 ·obtain⟨its,r,pl,hz⟩:=I.list hq
  refine SeqAt.notIn_listAt (eqU x) pl.isList (fun w hw=>DA rx fx r fs w (by simpa using hw)) ⟨.bl _,H,I,rfl,?_⟩
  rw[show its.toArray.any (eqU x)=its.any (eqU x) by simp,HG r fs]
  exact q
 ·obtain⟨its,r,pl,hz⟩:=I.tuple hq
  refine SeqAt.notIn_tupleAt (eqU x) pl (fun w hw=>DA rx fx r fs w (by simpa using hw)) ⟨.bl _,H,I,rfl,?_⟩
  rw[show its.toArray.any (eqU x)=its.any (eqU x) by simp,HG r fs]
  exact q
theorem call_len_seq:CallR X (.builtin "len") (fun xs H Q=>∃p ys,xs=[.ref p]/\(SqL X.K H p ys\/SqT X.K H p ys)/\Q (.int ys.length) H):=by
 intro pins s σ H xs us Q I r h
 obtain⟨p,ys,rfl,hq,q⟩:=h
 obtain⟨u,rfl,rx⟩:=vals1 r
 cases rx
 have hn:=JE
 rcases hq with hq|hq
 ·obtain⟨its,r',pl,hz⟩:=I.list hq
  have hlen:=r'.length
  exact Calls.call_len_list pl.isList (by simp only[CW7]<;>lia) ⟨.int ys.length,H,I.tok _,⟨s.toks+1,by rw[CW7,hlen]⟩,q⟩
 ·obtain⟨its,r',pl,hz⟩:=I.tuple hq
  have hlen:=r'.length
  exact len_tuple pl (by simp only[CW7]<;>lia) ⟨.int ys.length,H,I.tok _,⟨s.toks+1,by rw[CW7,hlen]⟩,q⟩
theorem RY:CallR X (.builtin "len") (fun xs H Q=>∃z,xs=[.str z]/\z.length<=CV8/\Q (.int z.length) H):=by
 intro pins s σ H xs us Q I r h
 obtain⟨z,rfl,hz,q⟩:=h
 obtain⟨u,rfl,t,rfl⟩:=vals1 r
 have hn:=JE
 exact len_str (by lia) ⟨.int z.length,H,I.tok _,⟨_,rfl⟩,q⟩
theorem CallR.or {f:Value}{r r':List V->Hp->VK->Prop}(h:CallR X f r)(h':CallR X f r'):CallR X f (fun xs H Q=>r xs H Q\/r' xs H Q):=by
 intro pins s σ H xs us Q I rs q
 rcases q with q|q
 ·exact h pins s σ H xs us Q I rs q
 ·exact h' pins s σ H xs us Q I rs q
theorem SA:CallR X (.type "list") (fun xs H Q=>∃p ys,xs=[.ref p]/\(SqL X.K H p ys\/SqT X.K H p ys)/\∀l,H l=none->Q (.ref l) (upd H l (.lst ys))):=by
 intro pins s σ H xs us Q I r h
 obtain⟨p,ys,rfl,hq,q⟩:=h
 obtain⟨u,rfl,rx⟩:=vals1 r
 cases rx
 have fin:∀(its:List Value),Vals ys its->ys.length<=CV8->∀(h':Heap) (c':Nat),(∀b o',s.heap.get? b=some o'->h'.get? b=some o') ->
   h'.get? s.heap.objs.size=some {cls:=.type "list",dict:=none,data:=.seq its.toArray c',slots:=#[]}->EP X pins σ Q (.ref s.heap.objs.size) {s with heap:=h'}:=fun its r' hz h' c' kp e =>
  ⟨.ref s.heap.objs.size,_,I.laid (t':=s.toks) kp (CW1 _) (show ObjOk X.prog X.w _ h' _ (.lst ys) from ⟨hz,its,c',r',e⟩),rfl,q _ (I.hok.fresh (CW1 _))⟩
 rcases hq with hq|hq
 ·obtain⟨its,r',pl,hz⟩:=I.list hq
  have hlen:=r'.length
  obtain⟨o,ho,hc,n,hd⟩:=pl.isList
  exact call_list_seq p (.inl rfl) ho hc hd (fun h' c' kp e=>fin its r' hz h' c' kp e) (by simp only[CW7]<;>lia)
 ·obtain⟨its,r',pl,hz⟩:=I.tuple hq
  have hlen:=r'.length
  obtain⟨o,ho,hc,n,hd⟩:=pl
  exact call_list_seq p (.inr rfl) ho hc hd (fun h' c' kp e=>fin its r' hz h' c' kp e) (by simp only[CW7]<;>lia)
theorem OQ:CallR X (.type "tuple") (fun xs H Q=>∃p ys,xs=[.ref p]/\((SqL X.K H p ys/\∀l,H l=none->Q (.ref l) (upd H l (.tup ys)))\/(SqT X.K H p ys/\Q (.ref p) H))):=by
 intro pins s σ H xs us Q I r h
 obtain⟨p,ys,rfl,h⟩:=h
 obtain⟨u,rfl,rx⟩:=vals1 r
 cases rx
 rcases h with⟨hq,q⟩|⟨hq,q⟩
 ·obtain⟨its,r',pl,hz⟩:=I.list hq
  have hlen:=r'.length
  refine call_tuple_list pl.isList (fun h' kp=>?_) (by simp only[CW7]<;>lia)
  have I1:Inv X pins σ H {s with heap:=h'}:=I.kept (t':=s.toks) kp
  have I2:Inv X pins σ (upd H h'.objs.size (.tup ys)) {s with heap:=h'.push {cls:=.type "tuple",data:=.seq its.toArray}} :=
   I1.laid (t':=s.toks) (fun b o e=>CU8 _ e) (CW1 _) (show ObjOk X.prog X.w _ _ _ (.tup ys) from ⟨hz,its,r',IsTup.new _ _⟩)
  exact⟨.ref h'.objs.size,_,I2,rfl,q _ (I1.hok.fresh (CW1 _))⟩
 ·obtain⟨its,r',pl,hz⟩:=I.tuple hq
  exact call_tuple_same pl ⟨.ref p,H,I,rfl,q⟩
def tyV (K:CV3)(T:String)(x:V)(H:Hp):Prop:=match x with
 | .str _=>T="str"
 | .int _=>T="int"
 | .ref p=>(T="list"/\∃xs,SqL K H p xs)\/(T="tuple"/\∃o,K.lookup p=some o/\o.cls=.type "tuple"/\o.dict=none) \/
   (T="dict"/\((∃kvs,H p=some (.dK kvs))\/∃kvs,H p=some (.dT kvs)))\/(T="set"/\∃S n,H p=some (.set S n))
 | _=>False
theorem CE0 {σ:St}{T:String}{x:V}{v:Value}(I:Inv X pins σ H s)(r:RelV x v)(ty:tyV X.K T x H) :
  s.TypeIs v T/\∀a,v=.ref a->∃ob,s.heap.get? a=some ob/\ob.dict=none:=by
 cases x with
 | str z =>
  obtain⟨t,rfl⟩:=r
  cases(show T="str" from ty)
  exact⟨typeIs_str s z t,fun _ e=>nomatch e⟩
 | int i =>
  obtain⟨t,rfl⟩:=r
  cases(show T="int" from ty)
  exact⟨typeIs_int s i t,fun _ e=>nomatch e⟩
 | ref p =>
  cases r
  rcases ty with⟨rfl,xs,hq⟩|⟨rfl,o,hk,hc,hd⟩|⟨rfl,hk⟩|⟨rfl,S,n,hk⟩
  ·obtain⟨its,_,pl,_⟩:=I.list hq
   refine⟨pl.isList.typeIs,fun a e=>?_⟩
   cases e
   obtain⟨o,n,e,c,hd,_⟩:=pl
   exact⟨o,e,hd⟩
  ·refine⟨⟨o,I.kIn p o hk,hc⟩,fun a e=>?_⟩
   cases e
   exact⟨o,I.kIn _ o hk,hd⟩
  ·have z:∃o,s.heap.get? p=some o/\o.ExactDict:=by
    rcases hk with⟨kvs,hk⟩|⟨kvs,hk⟩
    ·obtain⟨_,_,_,_,o,_,_,e,ex,_⟩:=I.hok p _ hk
     exact⟨o,e,ex⟩
    ·obtain⟨_,_,_,_,o,_,_,e,ex,_⟩:=I.hok p _ hk
     exact⟨o,e,ex⟩
   obtain⟨o,e,ex⟩:=z
   refine⟨⟨o,e,ex.1⟩,fun a e2=>?_⟩
   cases e2
   exact⟨o,e,ex.2.1⟩
  ·obtain⟨o,_,_,_,e,ex,_⟩:=I.hok p _ hk
   refine⟨⟨o,e,ex.1⟩,fun a e2=>?_⟩
   cases e2
   exact⟨o,e,ex.2.1⟩
 | _=>exact False.elim ty
variable {o e:Expr}{es:List Expr}{to:TE}{t:TA}{name:Str}{apos cpos:Pos}{T id:String}{r:V->List V->Hp->VK->Prop}
end
def MtM (X:Cx)(id:String)(r:V->List V->Hp->VK->Prop):Prop :=
 ∀(pins:List (Addr×Obj)) (s:CV4) (σ:St) (H:Hp) (x:V) (xs:List V) (v:Value) (us:List Value) (Q:VK),Inv X pins σ H s->RelV x v->Vals xs us->r x xs H Q ->
  wpAny (model X.prog X.w) X.A (call (.builtin id) (v::us)) (EP X pins σ Q) X.xe s
theorem Vals.one:∀{x:V} {us:List Value},Vals [x] us->∃u,us=[u]/\RelV x u
 | _,_,.cons r .nil=>⟨_,rfl,r⟩
section
variable {X:Cx}{pins:List (Addr×Obj)}{σ:St}{H:Hp}{s:CV4}{l b:Addr}{xs ys zs:List V}
theorem Inv.lset {its':List Value}{f:Array Value->Array Value}{t':Nat}(I:Inv X pins σ H s)(hH:H l=some (.lst xs))
  (e:s.heap.get? l=some {cls:=.type "list",data:=.seq its.toArray n}) (hf:f its.toArray=its'.toArray) (hv:Vals ys its') (hz:ys.length<=CV8) :
  Inv X pins σ (upd H l (.lst ys)) {s with heap:=s.heap.update l (DH7 f),toks:=t'}:=by
 have q:=PySem.IsL.update e f
 rw[hf] at q
 refine I.write (x:=l) (e:=l) (by rw[hH];exact trivial) (.inl rfl) (fun b' u hb hu=>(CY6 s.heap (DH7 f) (Ne.symm hb)).trans hu) ⟨_,q⟩ ?_
 exact⟨hz,its',_,hv,q⟩
theorem Inv.lnew {t':Nat}(I:Inv X pins σ H s)(hv:Vals ys its)(hz:ys.length<=CV8) :
  Inv X pins σ (upd H s.heap.objs.size (.lst ys)) {s with heap:=s.heap.push {cls:=.type "list",data:=.seq its.toArray},toks:=t'} :=
 I.laid (fun _ _ q=>CU8 _ q) (CW1 _) ⟨hz,its,0,hv,CW0 _ rfl⟩
theorem Inv.fresh (I:Inv X pins σ H s):H s.heap.objs.size=none:=I.hok.fresh (CW1 _)
theorem Inv.lstM (I:Inv X pins σ H s)(hH:H l=some (.lst xs)):xs.length<=CV8/\∃(its:List Value) (n:Nat),Vals xs its/\xs.length=its.length/\s.heap.get? l=some {cls:=.type "list",data:=.seq its.toArray n}:=by
 obtain⟨z,its,n,r,e⟩:=I.hok l _ hH
 exact⟨z,its,n,r,r.length,e⟩
theorem AW1 (h:n<=CV8):DE8 n=false:=by
 unfold DE8
 exact decide_eq_false (by lia)
end
section
variable {X:Cx}
def BM4:V->List V->Hp->VK->Prop:=fun x vs H Q=>∃l xs y,x=.ref l/\vs=[y]/\H l=some (.lst xs)/\xs.length<CV8/\Q .non (upd H l (.lst (xs++[y])))
theorem RD:MtM X "list.append" BM4:=by
 intro pins s σ H x vs v us Q I rx rv h
 obtain⟨l,xs,y,rfl,rfl,hH,hz,q⟩:=h
 cases rx
 obtain⟨u,rfl,ru⟩:=rv.one
 obtain⟨z,its,n,r,hl,e⟩:=I.lstM hH
 refine DK0 DP2 ⟨_,e,rfl⟩ F.entry_list_append (F.args_list_append_2 _ _) (PySem.list_append l its.toArray n u (by rw[CW7];lia)) ⟨e,?_⟩
 refine⟨.non,_,I.lset (its':=its++[u]) hH e (by simp) (r.append (.cons ru .nil)) ?_,rfl,q⟩
 rw[CW3,DL8]
 lia
def BM5:V->List V->Hp->VK->Prop:=fun x vs H Q=>∃l b xs zs,x=.ref l/\vs=[.ref b]/\H l=some (.lst xs)/\H b=some (.lst zs)/\xs.length+zs.length<=CV8/\Q .non (upd H l (.lst (xs++zs)))
theorem AM2:MtM X "list.extend" BM5:=by
 intro pins s σ H x vs v us Q I rx rv h
 obtain⟨l,b,xs,zs,rfl,rfl,hH,hB,hz,q⟩:=h
 cases rx
 obtain⟨u,rfl,ru⟩:=rv.one
 cases ru
 obtain⟨z,its,n,r,hl,e⟩:=I.lstM hH
 obtain⟨z2,its2,n2,r2,hl2,e2⟩:=I.lstM hB
 have hsz:its.toArray.size+its2.toArray.size<=CV8:=by rw[CW7,CW7];lia
 have hlong:¬(!its.toArray.isEmpty && DE8 (its.toArray.size+its2.toArray.size))=true:=by
  rw[AW1 hsz,DI2]
  exact CV5
 refine DK0 DK7 ⟨_,e,rfl⟩ F.entry_list_extend (F.args_list_extend_2 _ _)
  (AutoSeq1.list_extend_list_list_0 l its.toArray n b its2.toArray n2 hlong (by rw[CW7];lia) (by lia)) ⟨e,e2,?_⟩
 refine⟨.non,_,I.lset (its':=its++its2) hH e (by simp) (r.append r2) ?_,rfl,q⟩
 rw[CW3]
 lia
end
section
variable {prog:DA0}{w:World}{A:DD3}{E:Value->CV4->Prop}{s:CV4}
end
section
variable {X:Cx}
end
end L2
namespace Att
open PySem PySem.W PySem.Calls PyProof.Rows
theorem LB {P:Params}{h:Heap}:∀(ns:List Int) (vs:List Value),WellAll P h vs (ns.map WData.int)->IntsAre vs ns:=by
 intro ns
 induction ns with
 | nil =>
  intro vs w
  rw[CZ3] at w
  cases w
  exact .nil
 | cons n ns ih =>
  intro vs w
  rw[CW9] at w
  cases w with
  | cons a b =>
   cases a
   exact .cons _ _ (ih _ b)
theorem AO7 {l:OpenLaw}(hn:l.most=some n){P:Params}{h:Heap}{args:List WData}{vals:List Value}
  (hpre:l.row.toRowW.claim.pre args=true) (hwl:WellAll P h vals args) :
  ∃a vs ns,vals=[Value.ref a]/\args=[WData.list (ns.map WData.int)]/\h.get? a=some {cls:=.type "list",data:=.seq vs.toArray}/\IntsAre vs ns/\ns.length<=n:=by
 have hsh:WShape.hasAll [] args [.list .int]=true:=(pre_splitW hpre).1
 have hc:l.pre.holds [] {args:=args}=true:=(pre_splitW hpre).2
 obtain⟨d,r,rfl,h1,h2⟩:=hasAllW_cons hsh
 obtain rfl:=hasAllW_nil h2
 obtain⟨xs,rfl,h3⟩:=hasW_list h1
 obtain⟨ns,rfl⟩:=items_int h3
 have hlen:ns.length<=n:=by
  unfold OpenLaw.pre at hc
  have h4:(WTm.not (.lt (.lit (.int (n:Int))) (.len (.arg 0)))).holds [] {args:=[.list (ns.map .int)]}=true:=by
   have h4:=(holds_andW hc).1
   rw[hn] at h4
   exact h4
  have h5:=condW_of h4 (w_not (w_lt w_lit (w_len_list (w_arg rfl))))
  rw[CV1] at h5
  refine Nat.le_of_not_lt fun q=>?_
  have q':(n:Int)<((ns.length:Nat):Int):=by lia
  first
   | (rw[decide_eq_true q'] at h5;exact absurd h5 (by decide))
   | (simp at h5;lia)
 cases hwl with
 | cons w1 w2 =>
  cases w2
  cases w1 with
  | list ho hall=>exact⟨_,_,ns,rfl,rfl,ho,LB ns _ hall,hlen⟩
theorem AO0 (l:OpenLaw)(args:List WData):l.row.toRowW.claim.post args (.bool true) args=true :=
 postW_of (r:=l.row.toRowW) (X:=(true==true))
  (show WShape.has [] (.bool true) .bool=true by first|rfl|decide|simp[WShape.has,WShape.arms,WShape.armsAll])
  (show(WTm.eq .res (.lit (.bool true))).value [] {args:=args,res:=some (.bool true),after:=args}=some (.bool (true==true)) from w_eq_bool (w_res rfl) w_lit) rfl
theorem attach_call {l:OpenLaw}{q:DA0}{XP:(Str->Option Value)->Heap->Prop}{YP:World->Heap->Prop}{d:DefRec}
  (hn:l.most=some n) (hdf:d.params.defaults=[])
  (call:∀(w:World) (s₀ s₁:CV4) (mg mb:Str->Option Value) (fa:Addr) (o:Obj) (pm cd doc:Value) (a:Addr) (vs:List Value) (ns:List Int),
   Ground q loose [] XP w s₀ mg mb s₁.heap->YP w s₁.heap ->
   s₁.heap.get? fa=some o->o.data=.func (docDef d.name d.params d.body d.scope pm cd doc)->s₁.heap.CodeRec cd d.name->mg d.name=some (.ref fa) ->
   s₁.heap.get? a=some {cls:=.type "list",data:=.seq vs.toArray}->IntsAre vs ns->ns.length<=n->s₁.gens=#[] ->
   codeAny (model l.prog w) callerA (.call (.ref fa) ⟨[.ref a],[]⟩) (fun r s'=>r=.ok (.ret (.bool true))/\OldK s₁.heap s'.heap/\s'.os=s₁.os/\AllBare s'.gens) s₁) :
  WalkO q loose XP YP l.row.toRowW d [] (fun f vs=>PySem.call f vs):=by
 intro w s₀ s₁ mg mb G Y fa o pm cd doc dV kV ho hd hcd hD hmg hg args vals as hpre hlay hrd hwl hlo
 obtain rfl:dV=.none:=Dflts.none hD hdf
 obtain rfl:kV=.none:=Dflts.noKw hD
 obtain⟨a,vs,ns,rfl,rfl,hobj,hints,hlen⟩:=AO7 hn hpre hwl
 refine enter_call (DM7 (call w s₀ s₁ mg mb fa o pm cd doc a vs ns G Y ho (fd_plain hd) hcd hmg hobj hints hlen hg) fun r s' hq=>?_)
 obtain⟨rfl,h2,h3,h4⟩:=hq
 exact⟨.inl ⟨.bool true,.bool true,[],rfl,fun _=>rfl,.bool true,AO0 l _,fun _=>⟨List.Pairwise.nil,fun _ hm=>(nomatch hm)⟩⟩,h2,h3,h4⟩
section
variable {prog:DA0}{w:World}{A:DD3}{E:Value->CV4->Prop}{s:CV4}{K:Frag}
end
end Att
namespace L2
open PySem PySem.Spec PyProof.Rows
theorem RT:∀{vs:List Value} {ns:List Int},IntsAre vs ns->Vals (ns.map V.int) vs
 | _,_,.nil=>.nil
 | _,_,.cons n t h=>.cons ⟨t,rfl⟩ (RT h)
def BQ8 (H:Hp):Prop:=∀b,H b=none\/∃o xs,H b=some (.frz o (.lst xs))
theorem AV0 {mb:Str->Option Value}{CX:CXT}{fa:Addr}{sp:Sp}{s₁:CV4}{vs:List Value}
  (KX:K.In s₁.heap) (hns:s₁.heap.Ns CY1 mg) (hb:s₁.heap.Ns builtinsNs mb) (hbb:∀x:Str,x≠"__name__"->mb x=DB0 x) (hlim:s₁.heap.NoLimit) (hg:s₁.gens=#[])
  (ha:s₁.heap.get? a=some {cls:=.type "list",data:=.seq vs.toArray}) (hi:IntsAre vs ns) (hl:ns.length<=CV8) (hr:Room k callerA)
  (F:∀base:Heap,K.In base->base.Ns CY1 mg->FnOk P w K mg base CX k fa fd [x] sp) (hbind:∀(s:CV4) (u:Value),BindsTo s fd ⟨[u],[]⟩ [(x,u)])
  (hsp:∀H:Hp,BQ8 H->SqL K H a (ns.map V.int)->sp [.ref a] H (fun v _=>v=.bl true) fun _ _ _=>False)
  (hCX:∀H e s',CX [] H s₁ (fun _ _ _=>False) e s'->False) :
  codeAny (model P w) callerA (.call (.ref fa) ⟨[.ref a],[]⟩) (fun r s'=>r=.ok (.ret (.bool true))/\OldK s₁.heap s'.heap/\s'.os=s₁.os/\AllBare s'.gens) s₁:=by
 have rv:=RT hi
 have lenV:=hi.length
 have core:∀H:Hp,BQ8 H->SqL K H a (ns.map V.int)->HOk P w H s₁.heap->(∀b,H b≠none->b=a)->(H a≠none->K.lookup a=none) ->
   codeAny (model P w) callerA (.call (.ref fa) ⟨[.ref a],[]⟩) (fun r s'=>r=.ok (.ret (.bool true))/\OldK s₁.heap s'.heap/\s'.os=s₁.os/\AllBare s'.gens) s₁:=by
  intro H hO hS hok hA hK
  have base_of:∀{b:Addr} {o:Obj},s₁.heap.get? b=some o->H b=none->(SO s₁.heap H).get? b=some o:=fun e n=>AT6 e n
  have noA:∀{b:Addr} {o:Obj} {es:Array DictEntry} {ep:Nat},s₁.heap.get? b=some o->o.data=.dict es ep->H b=none:=fun{b o es ep} e d=>by
   cases q:H b with
   | none=>rfl
   | some u =>
    have e':b=a:=hA b (by rw[q];simp)
    subst e'
    rw[ha] at e;cases e
    have d':Data.seq vs.toArray _=Data.dict es ep:=d
    cases d'
  have nsK:∀{b:Addr} {m:Str->Option Value},s₁.heap.Ns b m->(SO s₁.heap H).Ns b m:=fun{b m} ⟨o,es,ep,e,d,r⟩=>⟨o,es,ep,base_of e (noA e d),d,r⟩
  have hKb:K.In (SO s₁.heap H):=fun b o e=>base_of (KX b o e) (by
   cases q:H b with
   | none=>rfl
   | some u =>
    have e':b=a:=hA b (by rw[q];simp)
    subst e'
    rw[hK (by rw[q];simp)] at e;cases e)
  have hM:Mod K mg (SO s₁.heap H):=⟨hKb,nsK hns,⟨mb,nsK hb,hbb⟩,let ⟨mc,h1,h2⟩:=hlim;⟨mc,nsK h1,h2⟩⟩
  have e0:BF2 P w K mg (SO s₁.heap H) callerA [] s₁ H:=⟨rfl,hM,fun b o e=>BI8 e,Nat.le_of_eq (AL1 _ _),trivial,fun b hb=>absurd (show b∈([]:List Addr) from hb) (by simp),hok,.of_eq hg⟩
  refine DM7 ((F _ hKb (nsK hns)).run callerA [] s₁ H ⟨[.ref a],[]⟩ [.ref a] [.ref a] _ _ hr e0 (hbind s₁ (.ref a)) (.cons rfl .nil) (hsp H hO hS)) fun r s' h=>?_
  cases r with
  | error e=>exact(hCX H e s' h).elim
  | ok fl =>
   cases fl with
   | next=>exact False.elim h
   | brk=>exact False.elim h
   | cont=>exact False.elim h
   | ret u =>
    obtain⟨v,H',os,bare,un,hok',r',q⟩:=h
    have q':v=.bl true:=q
    subst q'
    obtain rfl:u=Value.bool true:=r'
    refine⟨rfl,OldK.of_keep fun b o e=>?_,os,bare⟩
    cases q:H b with
    | none=>exact un.keep b o e q (by intro z;exact absurd (show b∈([]:List Addr) from z) (by simp)) (by simp)
    | some u =>
     rcases hO b with z|⟨ob,xs,z⟩
     ·rw[q] at z;cases z
     ·have z2:=un.frzs b ob _ z
      obtain⟨e1,_⟩:=hok b _ z
      obtain⟨e2,_⟩:=hok' b _ z2
      rw[e] at e1;cases e1
      exact e2
 cases hk:K.lookup a with
 | some o =>
  have e:=KX a o hk
  rw[ha] at e
  cases e
  refine core (fun _=>none) (fun _=>.inl rfl) (.inr ⟨_,vs.toArray,_,hk,rfl,rfl,rfl,by rw[CW7,lenV];exact hl,by simpa using rv⟩) (fun b u z=>by have z':(none:Option HO)=some u:=z;cases z') (fun b z=>absurd rfl z) fun z=>absurd rfl z
 | none =>
  refine core (fun b=>if b=a then some (.frz {cls:=.type "list",data:=.seq vs.toArray} (.lst (ns.map V.int))) else none) (fun b=>?_) (.inl (.inr ⟨{cls:=.type "list",data:=.seq vs.toArray},if_pos rfl⟩)) (fun b u z=>?_) (fun b z=>?_) fun _=>hk
  ·by_cases hb:b=a
   ·exact .inr ⟨_,_,if_pos hb⟩
   ·exact .inl (if_neg hb)
  ·by_cases hb:b=a
   ·have z':=(if_pos hb).symm.trans z
    cases z'
    subst hb
    exact⟨ha,by rw[CV1];exact hl,vs,_,rv,ha⟩
   ·have z':=(if_neg hb).symm.trans z
    cases z'
  ·by_cases hb:b=a
   ·exact hb
   ·exact absurd (if_neg hb) z
theorem BO4 {l:PySem.W.OpenLaw}{q:DA0}{XP:(Str->Option Value)->Heap->Prop}{YP:World->Heap->Prop}{d:DefRec}{K:Params->CV3}{CX:World->CXT}{sp:World->Sp}
  (hn:l.most=some n) (hn2:n<=CV8) (hdf:d.params.defaults=[]) (hr:Room k callerA)
  (hY:∀(w:World) (h:Heap),YP w h->(K w.params).In h)
  (F:∀(w:World) (mg:Str->Option Value) (fa:Addr) (h:Heap),(K w.params).In h->h.Ns CY1 mg->mg d.name=some (.ref fa) ->
   ∃fd:CX7,(∀(s:CV4) (u:Value),BindsTo s fd ⟨[u],[]⟩ [(x,u)]) /\
    ∀base:Heap,(K w.params).In base->base.Ns CY1 mg->FnOk l.prog w (K w.params) mg base (CX w) k fa fd [x] (sp w))
  (hsp:∀(w:World) (H:Hp) (a:Addr) (ns:List Int),ns.length<=n->BQ8 H->SqL (K w.params) H a (ns.map V.int)->sp w [.ref a] H (fun v _=>v=.bl true) fun _ _ _=>False)
  (hCX:∀(w:World) (H:Hp) (s:CV4) (e:Value) (s':CV4),CX w [] H s (fun _ _ _=>False) e s'->False) :
  PySem.W.WalkO q loose XP YP l.row.toRowW d [] (fun f vs=>PySem.call f vs):=by
 refine Att.attach_call hn hdf fun w s₀ s₁ mg mb fa o pm cd doc a vs ns G Y ho hd hcd hmg hobj hints hlen hg=>?_
 have KX:=hY w _ Y
 obtain⟨fd,hb,hF⟩:=F w mg fa _ KX G.T.g hmg
 exact AV0 KX G.T.g G.T.b G.T.builtins G.T.nolimit hg hobj hints (CY4 hlen hn2) hr hF hb (fun H hO hS=>hsp w H a ns hlen hO hS) fun H e s'=>hCX w H s₁ e s'
def Q5 (s:Stmt):Arguments:=match s with
 | .FunctionDef _ a _ _ _ _ _ _ _ _=>a
 | _=>{posonlyargs:=[],args:=[],vararg:=none,kwonlyargs:=[],kw_defaults:=[],kwarg:=none,defaults:=[]}
def L9 (s:Stmt):List Stmt:=match s with
 | .FunctionDef _ _ b _ _ _ _ _ _ _=>b
 | _=>[]
def A7 (s:Stmt):Scope:=match s with
 | .FunctionDef _ _ _ _ _ _ sc _ _ _=>sc
 | _=>{kind:=.function,names:=[],isGenerator:=false,isCoroutine:=false}
abbrev CX0:CXT:=fun _ _ _ _ _ _=>False
abbrev E0:XK:=fun _ _ _=>False
theorem BP8 {X:Cx}:YZ CX0 X E0:=fun _ _ _ _ _ _ _ h=>h.elim
structure Fun (K:CV3)(x qual:Str)(st:Stmt)(f:Addr)(fd:CX7):Prop where
 ex:∃(oc:Value) (od:Option Addr) (kV doc pm:Value) (an:Option Addr) (cdv ct:Value) (osl:Array (Option Value)),
  fd=DD9 x qual (Q5 st) (L9 st) (A7 st) .none kV doc pm an cdv ct/\K.lookup f=some ⟨oc,od,.func fd,osl⟩/\DK2 K cdv qual=true
 kp:DD8 K (.ref f)=true
section
variable {P:DA0}{w:World}{K:CV3}{mg:Str->Option Value}{base:Heap}
theorem Fun.ok {f:Addr}{sp:Sp}(F:Fun K x qual st f fd)(S:B5 N ps (A7 st))(len:∀vs H Q E,sp vs H Q E->vs.length=ps.length)
  (hbody:∀(cdv:Value) (A:DD3) (outer:List Env) (s:CV4) (H:Hp) (vs:List V) (Q:VK) (E:XK),Room k (A.deeper (envOfC qual (A7 st) s.heap.objs.size f cdv))->sp vs H Q E ->
   ∃t,PSs (ZG CX0 P w K mg base N qual (A7 st) f cdv A outer s H E).nox (L9 st) t/\t {nx:=fun _ H'=>Q .non H',rt:=Q} (start N vs) H):FnOk P w K mg base CX0 (k+1) f fd ps sp:=by
 obtain⟨oc,od,kV,doc,pm,an,cdv,ct,osl,rfl,lk,hcd⟩:=F.ex
 refine CF9 lk hcd S len fun A outer s H vs Q E hr hsp=>?_
 obtain⟨t,h,q⟩:=hbody cdv A outer s H vs Q E hr hsp
 exact⟨t,h.nox,q⟩
theorem Fun.binds {f:Addr}(F:Fun K x qual st f fd)
  (h:∀(kV doc pm:Value) (an:Option Addr) (cdv ct:Value) (us:List Value),us.length=ps.length->bindArgs (DD9 x qual (Q5 st) (L9 st) (A7 st) .none kV doc pm an cdv ct) ⟨us,[]⟩=pure (ps.zip us)):Binds K fd ps []:=by
 obtain⟨oc,od,kV,doc,pm,an,cdv,ct,osl,rfl,lk,hcd⟩:=F.ex
 exact .all (h kV doc pm an cdv ct)
theorem AT2 {f:Addr}{kV:Value}(l:K.lookup f=some ⟨oc,od,.func (DD9 x qual (Q5 st) (L9 st) (A7 st) .none kV doc pm an cdv ct),osl⟩)
  (c:DK2 K cdv qual=true) (k:DD8 K (.ref f)=true):Fun K x qual st f (DD9 x qual (Q5 st) (L9 st) (A7 st) .none kV doc pm an cdv ct):=⟨⟨oc,od,kV,doc,pm,an,cdv,ct,osl,rfl,l,c⟩,k⟩
end
section
variable {X:Cx}
end
section
variable {κ:Type}[DecidableEq κ]
def EG (kvs:List (κ×V))(k:κ):Option V:=(kvs.find? fun kv=>decide (kv.1=k)).map (·.2)
def putK (kvs:List (κ×V))(k:κ)(v:V):List (κ×V) :=
 if (kvs.any fun kv=>decide (kv.1=k))=true then kvs.map (fun kv=>if kv.1=k then(kv.1,v) else kv) else kvs++[(k,v)]
theorem OJ {p:κ×V}{r:List (κ×V)}{k:κ}(e:p.1=k):EG (p::r) k=some p.2:=by simp[EG,DH5,e]
theorem OI {p:κ×V}{r:List (κ×V)}{k:κ}(e:¬p.1=k):EG (p::r) k=EG r k:=by simp[EG,DH5,e]
theorem YQ (k:κ):∀kvs:List (κ×V),(kvs.any fun kv=>decide (kv.1=k))=(EG kvs k).isSome
 | []=>rfl
 | p::r=>by
  rw[DJ9]
  by_cases e:p.1=k
  ·simp only[OJ e,decide_eq_true e,Bool.true_or,Option.isSome_some]
  ·rw[OI e,decide_eq_false e,Bool.false_or];exact YQ k r
theorem W5 (kvs:List (κ×V))(k:κ)(v:V):(putK kvs k v).length<=kvs.length+1:=by
 unfold putK
 split
 ·rw[CV1];lia
 ·rw[CW3,CV6,CY0];lia
theorem RelO.isSome_eq {o:Option V}{u:Option Value}(r:RelO o u):o.isSome=u.isSome:=by
 cases o with
 | none=>cases u with
  | none=>rfl
  | some _=>exact(show False from r).elim
 | some _=>cases u with
  | none=>exact(show False from r).elim
  | some _=>rfl
theorem RelO.getD {o:Option V}{u:Option Value}{d:V}{d':Value}(r:RelO o u)(rd:RelV d d'):RelV (o.getD d) (u.getD d'):=by
 cases o with
 | none=>cases u with
  | none=>exact rd
  | some _=>exact(show False from r).elim
 | some _=>cases u with
  | none=>exact(show False from r).elim
  | some _=>exact r
theorem KV.val {kvs:List (κ×V)}{vs:List (κ×Value)}(r:KV kvs vs)(k:κ):RelO (EG kvs k) (DQ0 vs k):=by
 unfold KV at r
 induction r with
 | nil=>exact True.intro
 | @cons p q ps qs h t ih =>
  obtain⟨h1,h2⟩:=h
  by_cases e:p.1=k
  ·have e':q.1=k:=h1.symm.trans e
   have b:DQ0 (q::qs) k=some q.2:=by simp[DQ0,DH5,e']
   rw[OJ e,b];exact h2
  ·have e':¬q.1=k:=fun z=>e (h1.trans z)
   have b:DQ0 (q::qs) k=DQ0 qs k:=by simp[DQ0,DH5,e']
   rw[OI e,b];exact ih
theorem KV.any {kvs:List (κ×V)}{vs:List (κ×Value)}(r:KV kvs vs)(k:κ):(kvs.any fun kv=>decide (kv.1=k))=vs.any fun kv=>decide (kv.1=k):=by
 unfold KV at r
 induction r with
 | nil=>rfl
 | cons h t ih=>rw[DJ9,DJ9,ih,h.1]
theorem KV.repl {kvs:List (κ×V)}{vs:List (κ×Value)}(r:KV kvs vs)(k:κ){y:V}(ry:RelV y u) :
  KV (kvs.map fun kv=>if kv.1=k then(kv.1,y) else kv) (vs.map fun kv=>if kv.1=k then(kv.1,u) else kv):=by
 unfold KV at r ⊢
 induction r with
 | nil=>exact .nil
 | @cons p q ps qs h t ih =>
  rw[CW9,CW9]
  refine .cons ?_ ih
  obtain⟨h1,h2⟩:=h
  by_cases e:p.1=k
  ·rw[if_pos e,if_pos (h1.symm.trans e)];exact⟨h1,ry⟩
  ·rw[if_neg e,if_neg (fun z=>e (h1.trans z))];exact⟨h1,h2⟩
theorem KV.put {kvs:List (κ×V)}{vs:List (κ×Value)}(r:KV kvs vs)(k:κ){y:V}(ry:RelV y u):KV (putK kvs k y) (stored vs k u):=by
 unfold putK stored
 rw[r.any k]
 by_cases e:(vs.any fun kv=>decide (kv.1=k))=true
 ·rw[if_pos e,if_pos e];exact r.repl k ry
 ·rw[if_neg e,if_neg e];exact Paired.snoc r ⟨rfl,ry⟩
theorem KV.length {kvs:List (κ×V)}{vs:List (κ×Value)}(r:KV kvs vs):kvs.length=vs.length:=Paired.length r
end
theorem KJ {k:Key}(r:RelV (kV k) u):(E3 P w).is k u=true:=by
 cases k with
 | inl i=>obtain⟨t,e⟩:=(show∃t,u=Value.int i t from r);subst e;exact WQ P w i t
 | inr x=>obtain⟨t,e⟩:=(show∃t,u=Value.str x t from r);subst e;exact DB P w x t
theorem RA {P:DA0}{w:World}:∀{ks:List Key} {us:List Value},Vals (ks.map kV) us->ItemsAre (E3 P w) ks us
 | [],_,r=>by rw[CZ3] at r;cases r;exact .nil
 | k::ks,_,r=>by
  rw[CW9] at r
  cases r with
  | cons h t=>exact .cons (KJ h) (RA t)
abbrev KT (H:Hp):List (List Key×V)->List (List Key×Addr×Value)->Prop:=Paired fun p q=>p.1=q.1/\H q.2.1=some (.tup (p.1.map kV))/\RelV p.2 q.2.2
theorem KT.val {kvs:List (List Key×V)}(r:KT H kvs xs)(k:List Key):RelO (EG kvs k) ((atKey xs k).map (·.2)):=by
 induction r with
 | nil=>exact True.intro
 | @cons p q ps qs h t ih =>
  obtain⟨h1,_,h2⟩:=h
  by_cases e:p.1=k
  ·have e':q.1=k:=h1.symm.trans e
   have b:atKey (q::qs) k=some q.2:=by simp[atKey,DH5,e']
   rw[OJ e,b];exact h2
  ·have e':¬q.1=k:=fun z=>e (h1.trans z)
   have b:atKey (q::qs) k=atKey qs k:=by simp[atKey,DH5,e']
   rw[OI e,b];exact ih
theorem KT.repl {kvs:List (List Key×V)}(r:KT H kvs xs)(k:List Key){y:V}(ry:RelV y u) :
  KT H (kvs.map fun kv=>if kv.1=k then(kv.1,y) else kv) (xs.map (putAt k u)):=by
 induction r with
 | nil=>exact .nil
 | @cons p q ps qs h t ih =>
  rw[CW9,CW9]
  refine .cons ?_ ih
  obtain⟨h1,h2,h3⟩:=h
  unfold putAt
  by_cases e:p.1=k
  ·rw[if_pos e,if_pos (h1.symm.trans e)];exact⟨h1,h2,ry⟩
  ·rw[if_neg e,if_neg (fun z=>e (h1.trans z))];exact⟨h1,h2,h3⟩
theorem KT.put {kvs:List (List Key×V)}(r:KT H kvs xs)(k:List Key){y:V}(hb:H b=some (.tup (k.map kV)))(ry:RelV y u) :
  KT H (putK kvs k y) (storedH xs k b u):=by
 have e:(kvs.any fun kv=>decide (kv.1=k))=(atKey xs k).isSome:=by
  rw[YQ,(r.val k).isSome_eq,Option.isSome_map]
 unfold putK storedH
 rw[e]
 by_cases q:(atKey xs k).isSome=true
 ·rw[if_pos q,if_pos q];exact r.repl k ry
 ·rw[if_neg q,if_neg q];exact Paired.snoc r ⟨rfl,hb,ry⟩
theorem KT.keeps {H':Hp}{kvs:List (List Key×V)}(r:KT H kvs xs)(ht:∀b ys,H b=some (.tup ys)->H' b=some (.tup ys)):KT H' kvs xs :=
 Paired.mapP r fun _ _ z=>⟨z.1,ht _ _ z.2.1,z.2.2⟩
section
variable {P:DA0}{w:World}{H:Hp}{h:Heap}{a:Addr}
theorem BQ1 {u:HO}(ok:HOk P w H h)(e:Rd H a u):ObjOk P w H h a u:=e.ok ok
theorem QR (ok:HOk P w H h)(e:Rd H a (.dK kvs)):kvs.length<=CV8/\(a==DG6)=false/\∃vs,KV kvs vs/\h.DictOf (E3 P w) a vs :=
 show ObjOk P w H h a (.dK kvs) from BQ1 ok e
theorem AE9 (ok:HOk P w H h)(e:H a=some (.dK kvs)):kvs.length<=CV8/\(a==DG6)=false/\∃vs,KV kvs vs/\h.DictOf (E3 P w) a vs:=QR ok (.inl e)
theorem SR {ks:List Key}(ok:HOk P w H h)(e:H a=some (.tup (ks.map kV))):(tupleKind (E3 P w)).is h ks a:=by
 obtain⟨_,its,r,o,h1,h2,n,h3⟩:=(show ObjOk P w H h a (.tup (ks.map kV)) from ok a _ e)
 exact⟨o,its.toArray,n,h1,h2,h3,by simpa using RA r⟩
theorem AF1 {kvs:List (List Key×V)}(ok:HOk P w H h)(e:Rd H a (.dT kvs)):kvs.length<=CV8/\(a==DG6)=false /\
  ∃xs,KT H kvs xs/\h.DictOfH (tupleKind (E3 P w)) a xs:=by
 obtain⟨z,y,xs,r,o,es,ep,h1,h2,h3,h4,h5⟩:=(show ObjOk P w H h a (.dT kvs) from BQ1 ok e)
 refine⟨z,y,xs,r,o,es,ep,h1,h2,h3,h4,fun x hx=>?_,h5⟩
 have all:∀{l:List (List Key×V)} {m:List (List Key×Addr×Value)},KT H l m->∀x∈m,(tupleKind (E3 P w)).is h x.1 x.2.1:=by
  intro l m q
  induction q with
  | nil=>intro x hx;exact nomatch hx
  | @cons p q ps qs hq t ih =>
   intro x hx
   rcases CV0.mp hx with e|hx
   ·subst e
    exact SR ok (by rw[<-hq.1];exact hq.2.1)
   ·exact ih x hx
 exact all r x hx
theorem CF5 {kvs:List (List Key×V)}(ok:HOk P w H h)(e:H a=some (.dT kvs)):kvs.length<=CV8/\(a==DG6)=false /\
  ∃xs,KT H kvs xs/\h.DictOfH (tupleKind (E3 P w)) a xs:=AF1 ok (.inl e)
end
def BF1 (H:Hp)(a:Addr)(y:V)(r:Option V):Prop :=
 (∃kvs k,Rd H a (.dK kvs)/\y=kV k/\r=EG kvs k)\/∃kvs k b,Rd H a (.dT kvs)/\y=.ref b/\H b=some (.tup (k.map kV))/\r=EG kvs k
def CE9 (H:Hp)(a:Addr)(y v:V)(H':Hp):Prop :=
 (∃kvs k,H a=some (.dK kvs)/\y=kV k/\kvs.length<CV8/\H'=upd H a (.dK (putK kvs k v))) \/
 ∃kvs k b,H a=some (.dT kvs)/\y=.ref b/\H b=some (.tup (k.map kV))/\kvs.length<CV8/\H'=upd H a (.dT (putK kvs k v))
section
variable {X:Cx}{pins:List (Addr×Obj)}{σ:St}{H:Hp}{s:CV4}{a:Addr}{y v:V}{u r:Value}{o:Option V}{A:DD3}{E:Value->CV4->Prop}
theorem Inv.big (I:Inv X pins σ H s):DG6<s.heap.objs.size:=by
 have h:CY1<s.heap.objs.size:=(I.mod.glob.keeps I.bk).lt
 exact Nat.lt_trans (by decide) h
theorem AK6 (hu:A.units+1<cLine)(I:Inv X pins σ H s)(g:BF1 H a y (some v))(ry:RelV y u)(h:∀w' s',Inv X pins σ H s'->RelV v w'->Q w' s') :
  wpAny (model X.prog X.w) A (DQ2 (.ref a) u) Q E s:=by
 rcases g with⟨kvs,k,e,ey,l⟩|⟨kvs,k,b,e,ey,eb,l⟩
 ·subst ey
  obtain⟨z,hd,vs,rel,dd⟩:=QR I.hok e
  obtain⟨w',hw,rw'⟩:=RelO.some_of (v:=v) (o:=DQ0 vs k) (by rw[l];exact rel.val k)
  exact wpAny_getItem_of (KJ ry) dd.mapOf hw (h w' _ (I.tok _) rw')
 ·subst ey
  cases(show u=Value.ref b from ry)
  obtain⟨z,hd,xs,rel,dd⟩:=AF1 I.hok e
  obtain⟨w',hw,rw'⟩:=RelO.some_of (v:=v) (o:=(atKey xs k).map (·.2)) (by rw[l];exact rel.val k)
  obtain⟨p,hp,hp2⟩:=Option.map_eq_some_iff.mp hw
  refine wpAny_getItem_heap (tupleKind_room_in1 hu) (SR I.hok eb) dd hp ?_
  rw[hp2]
  exact h w' _ (I.tok _) rw'
theorem LK {t':Nat}{ob:HO}(I:Inv X pins σ H s)(mu:Mut (H a))(hs:DD0 a s.heap h')(he:∃q,h'.get? a=some q)(new:ObjOk X.prog X.w (upd H a ob) h' a ob) :
  Inv X pins σ (upd H a ob) {s with heap:=h',toks:=t'} :=
 I.write (x:=a) (e:=a) mu (.inl rfl) (fun b q hb z=>(hs.2 b hb).trans z) he new
theorem ZJ {H':Hp}{vs:List (Key×Value)}(z:kvs.length<=CV8)(hd:(a==DG6)=false)(rel:KV kvs vs)(dd:h'.DictOf (E3 P w) a vs) :
  ObjOk P w H' h' a (.dK kvs):=⟨z,hd,vs,rel,dd⟩
theorem AK7 {H':Hp}{Q:Unit->CV4->Prop}(hu:A.units+1<cLine)(I:Inv X pins σ H s)(g:CE9 H a y v H')(ry:RelV y u)(rv:RelV v r)(h:∀s',Inv X pins σ H' s'->Q () s') :
  wpAny (model X.prog X.w) A (setItem (.ref a) u r) Q E s:=by
 rcases g with⟨kvs,k,e,ey,l,eH⟩|⟨kvs,k,b,e,ey,eb,l,eH⟩
 ·subst ey eH
  obtain⟨z,hd,vs,rel,dd⟩:=AE9 I.hok e
  have hz:vs.length<=CV8:=by rw[<-rel.length];exact z
  have hl:(putK kvs k v).length<=CV8:=by have:=W5 kvs k v;lia
  refine wpAny_setItem_pairs (hsz:=hz) (KJ ry) dd fun h' dd' hs=>h _ ?_
  have he:∃q,h'.get? a=some q:=let ⟨q,_,_,hq,_⟩:=dd';⟨q,hq⟩
  exact LK I (by rw[e];exact True.intro) hs he (ZJ hl hd (rel.put k rv) dd')
 ·subst ey eH
  cases(show u=Value.ref b from ry)
  obtain⟨z,hd,xs,rel,dd⟩:=CF5 I.hok e
  have hz:xs.length<=CV8:=by rw[<-Paired.length rel];exact z
  have hl:(putK kvs k v).length<=CV8:=by have:=W5 kvs k v;lia
  refine wpAny_setItem_heap (hsz:=hz) (tupleKind_room_in1 hu) (SR I.hok eb) dd fun h' dd' hs=>h _ ?_
  obtain⟨q,es,ep,hq,h2,h3,h4,_,h5⟩:=dd'
  refine LK I (by rw[e];exact True.intro) hs ⟨q,hq⟩ ⟨hl,hd,_,(rel.put k eb rv).keeps fun c ys ec=>?_,q,es,ep,hq,h2,h3,h4,h5⟩
  rw[D5 (CG3 ec e (fun z=>nomatch z))]
  exact ec
end
section
variable {X:Cx}{pins:List (Addr×Obj)}{σ:St}{H:Hp}{s:CV4}{a:Addr}{kvs:List (Key×V)}{k:Key}{u:Value}{A:DD3}{E:Value->CV4->Prop}
end
def BF3 (i:Expr):Prop:=∀ov iv,subscripted i false ov iv=operate [ov,iv] (DQ2 ov iv)
theorem AJ3 {value slice:Expr}{T id:String}
  (hl:typeLookup (.type T) "__getitem__"=pure (some (.builtin id))) (hs:BF3 slice)
  (h:wpAny (model prog w) A (eval value env) (fun o s₁=>wpAny (model prog w) A (eval slice env) (fun i s₂=>s₂.TypeIs o T/\wpAny (model prog w) A (DQ2 o i) Q E s₂) E s₁) E s) :
  wpAny (model prog w) A (eval (.Subscript value slice pos) env) Q E s:=by
 refine Subscript_ (DB9 h (fun o s₁ h₁=>DB9 h₁ (fun i s₂ h₂=>?_) fun _ _ x=>x) fun _ _ x=>x)
 obtain⟨hT,h₂⟩:=h₂
 unfold subscriptTail
 refine CU6 ?_
 rw[getitemInPython_of_ne hT.not_modules]
 refine CU6 (wpAny_specialOf hT hl ?_)
 have fin:wpAny (model prog w) A (subscripted slice false o i) (fun r s₃=>wpAny (model prog w) A (letTemporaryGo value o r >>= fun _=>pure r) Q E s₃) E s₂:=by
  rw[hs o i]
  exact wpAny_operating (DB9 h₂ (fun r s₃ h₃=>CU6 (wpAny_letTemporaryGo (CU7 h₃))) fun _ _ x=>x)
 first
  | exact CU7 (CU6 fin)
  | exact CU6 (CU7 (CU6 fin))
  | exact CU6 fin
theorem WD {X:Cx}{σ:St}{y:V}{o:Option V}(I:Inv X pins σ H s)(g:BF1 H a y o):s.TypeIs (.ref a) "dict":=by
 rcases g with⟨kvs,k,e,_,_⟩|⟨kvs,k,b,e,_,_,_⟩
 ·obtain⟨_,_,vs,_,dd⟩:=QR I.hok e
  exact dd.typeIs
 ·obtain⟨_,_,xs,_,dd⟩:=AF1 I.hok e
  exact dd.typeIs
def CP8 (td ty:TE):TE:=fun σ H Q=>td σ H fun x H1=>ty σ H1 fun y H2=>∃a v,x=.ref a/\BF1 H2 a y (some v)/\Q v H2
def CN4 (td ty tv:TE):TS:=fun D σ H=>tv σ H fun v H1=>td σ H1 fun x H2=>ty σ H2 fun y H3=>∃a H4,x=.ref a/\CE9 H3 a y v H4/\D.nx σ H4
section
variable {X:Cx}{o i e value:Expr}{pos pos' tpos:Pos}{td ty tv:TE}
theorem BK3 (hu:X.A.units+1<cLine)(ho:PE X o td)(hi:PE X i ty)(hs:BF3 i):PE X (.Subscript o i pos) (CP8 td ty):=by
 intro pins s σ H Q I h
 refine AJ3 PySem.F.slot_dict_getitem.lookup hs (thn (ho pins s σ H _ I h) fun u s1 ⟨x,H1,I1,rx,q1⟩=>thn (hi pins s1 σ H1 _ I1 q1) fun iv s2 ⟨y,H2,I2,ry,a,v,ex,g,q2⟩=>?_)
 subst ex
 obtain rfl:u=Value.ref a:=rx
 exact⟨WD I2 g,AK6 hu I2 g ry fun w' s3 I3 rw'=>⟨v,H2,I3,rw',q2⟩⟩
theorem BL6 (hu:X.A.units+1<cLine)(ho:PE X o td)(hi:PE X i ty)(hv:PE X value tv)(hs:DM5 value (some (.Subscript o i pos')) pos.line X.env=pure false) :
  PS X (.Assign [.Subscript o i pos'] value pos) (CN4 td ty tv):=by
 intro pins s σ H D I h
 refine wpAny_Assign_Subscript (thn (hv pins s σ H _ I h) fun r s1 ⟨v,H1,I1,rv,q1⟩=>thn (ho pins s1 σ H1 _ I1 q1) fun u s2 ⟨x,H2,I2,rx,q2⟩=>thn (hi pins s2 σ H2 _ I2 q2) fun iv s3 ⟨y,H3,I3,ry,a,H4,ex,g,q3⟩=>?_) hs
 subst ex
 obtain rfl:u=Value.ref a:=rx
 exact AK7 hu I3 g ry rv fun s4 I4=>⟨σ,H4,I4,q3⟩
end
theorem WE (h:Heap)(hb:DG6<h.objs.size):ObjOk P w H (h.push {cls:=.type "dict",data:=.dict #[]}) h.objs.size (.dK []) :=
 ⟨DC3 _,beq_eq_false_iff_ne.mpr (Ne.symm (CX3 hb)),[],.nil,Heap.DictOf.new h⟩
section
variable {X:Cx}{pos:Pos}
end
def VF:List (TE×TE)->St->Hp->(List (V×V)->Hp->Prop)->Prop
 | [],_,H,Q=>Q [] H
 | (tk,tv)::r,σ,H,Q=>tk σ H fun x H1=>tv σ H1 fun y H2=>VF r σ H2 fun ps H3=>Q ((x,y)::ps) H3
abbrev VV:List (V×V)->List (Value×Value)->Prop:=Paired fun p q=>RelV p.1 q.1/\RelV p.2 q.2
def PPs (X:Cx)(pos:Pos)(keys:List (Option Expr))(values:List Expr)(trs:List (TE×TE)):Prop :=
 ∀(pins:List (Addr×Obj)) (s:CV4) (σ:St) (H:Hp) (Q:List (V×V)->Hp->Prop),Inv X pins σ H s->VF trs σ H Q ->
  wpAny (model X.prog X.w) X.A (evalPairs (pairTrees keys values X.env pos)) (fun vs s'=>∃ps H',Inv X pins σ H' s'/\VV ps vs/\Q ps H') X.xe s
theorem BL1 {X:Cx}:PPs X pos [] [] []:=fun pins s σ H Q I h=>pairTrees_nil_walk ⟨[],H,I,.nil,h⟩
theorem AZ8 {X:Cx}{k v:Expr}{ks:List (Option Expr)}{vs:List Expr}{tk tv:TE}{trs:List (TE×TE)}(hk:PE X k tk)(hv:PE X v tv)(hr:PPs X pos ks vs trs) :
  PPs X pos (some k::ks) (v::vs) ((tk,tv)::trs):=fun pins s σ H Q I h =>
 pairTrees_cons_walk (thn (hk pins s σ H _ I h) fun u s1 ⟨x,H1,I1,rx,q1⟩=>thn (hv pins s1 σ H1 _ I1 q1) fun w2 s2 ⟨y,H2,I2,ry,q2⟩ =>
  thn (hr pins s2 σ H2 _ I2 q2) fun ws s3 ⟨ps,H3,I3,rel,q3⟩=>⟨(x,y)::ps,H3,I3,.cons ⟨rx,ry⟩ rel,q3⟩)
def JG (kvs more:List (Key×V)):List (Key×V):=more.foldl (fun acc kv=>putK acc kv.1 kv.2) kvs
theorem KV.merge:∀{more:List (Key×V)} {rs:List (Key×Value)} {kvs:List (Key×V)} {vs:List (Key×Value)},KV more rs->KV kvs vs->KV (JG kvs more) (merged vs rs):=by
 intro more rs kvs vs r
 unfold KV at r
 induction r generalizing kvs vs with
 | nil=>intro q;exact q
 | @cons p q ps qs h t ih =>
  intro r0
  have e:KV (putK kvs p.1 p.2) (stored vs q.1 q.2):=by
   have:=r0.put p.1 h.2
   rw[<-h.1];exact this
  exact ih e
theorem FN:∀(more kvs:List (Key×V)),(JG kvs more).length<=kvs.length+more.length
 | [],kvs=>by show kvs.length<=kvs.length+0;lia
 | p::r,kvs=>by
  have h1:=FN r (putK kvs p.1 p.2)
  have h2:=W5 kvs p.1 p.2
  show(JG (putK kvs p.1 p.2) r).length<=_
  rw[CV6];lia
theorem MD {P:DA0}{w:World}:∀{kvs:List (Key×V)} {ws:List (Value×Value)},VV (kvs.map fun kv=>(kV kv.1,kv.2)) ws->∃rs,Carries (E3 P w) ws rs/\KV kvs rs
 | [],_,r=>by rw[CZ3] at r;cases r;exact⟨[],True.intro,.nil⟩
 | p::kvs,_,r=>by
  rw[CW9] at r
  cases r with
  | @cons a b as bs h t =>
   obtain⟨rs,c,q⟩:=MD (P:=P) (w:=w) t
   obtain⟨b1,b2⟩:=b
   exact⟨(p.1,b2)::rs,⟨KJ h.1,rfl,c⟩,.cons ⟨rfl,h.2⟩ q⟩
def CP9 (trs:List (TE×TE)):TE:=fun σ H Q=>∀p,H p=none->VF trs σ (upd H p (.dK [])) fun ps H2=>H2 p=some (.dK [])/\∃kvs:List (Key×V),ps=kvs.map (fun kv=>(kV kv.1,kv.2))/\kvs.length<=15/\Q (.ref p) (upd H2 p (.dK (JG [] kvs)))
theorem BK4 {X:Cx}{keys:List (Option Expr)}{values:List Expr}{trs:List (TE×TE)}(h:PPs X pos keys values trs)(hall:keys.all (·.isSome)=true)(hl:keys.length=values.length)(h0:keys≠[])
  (h15:keys.length<=15):PE X (.Dict keys values pos) (CP9 trs):=by
 intro pins s σ H Q I q
 have hn:=I.hok.fresh (CW1 s.heap.objs.size)
 have I1:=I.laid (a:=s.heap.objs.size) (o:=.dK []) (h':=s.heap.push {cls:=.type "dict",data:=.dict #[]}) (t':=s.toks) (fun _ _ q=>CU8 _ q) (CW1 _) (WE s.heap I.big)
 refine wpAny_Dict_walk (knd:=E3 X.prog X.w) hall hl h0 h15 (thn (h pins _ σ _ _ I1 (q _ hn)) fun ws s2 ⟨ps,H2,I2,rel,e,kvs,ep,lk,q2⟩=>?_)
 subst ep
 obtain⟨rs,c,rk⟩:=MD (P:=X.prog) (w:=X.w) rel
 obtain⟨z,hd,vs0,r0,dd⟩:=AE9 I2.hok e
 cases r0
 refine⟨rs,c,dd,fun h' dd' hs=>⟨.ref s.heap.objs.size,_,?_,rfl,q2⟩⟩
 have hz:(JG [] kvs).length<=CV8:=by
  have h1:=FN kvs []
  rw[CY0] at h1
  rw[CX1];lia
 have he:∃q,h'.get? s.heap.objs.size=some q:=let ⟨q,_,_,hq,_⟩:=dd';⟨q,hq⟩
 exact LK I2 (by rw[e];exact True.intro) hs he (ZJ hz hd (rk.merge .nil) dd')
section
variable {X:Cx}{pins:List (Addr×Obj)}{σ:St}{H:Hp}{s:CV4}{a:Addr}{y d:V}{u r:Value}{o:Option V}{A:DD3}{E:Value->CV4->Prop}
theorem BS2 (hu:A.units+1<cLine)(I:Inv X pins σ H s)(g:BF1 H a y o)(ry:RelV y u)(h:∀w' s',Inv X pins σ H s'->RelV (o.getD .non) w'->Q w' s') :
  wpAny (model X.prog X.w) A (call (.builtin "dict.get") [.ref a,u]) Q E s:=by
 rcases g with⟨kvs,k,e,ey,l⟩|⟨kvs,k,b,e,ey,eb,l⟩
 ·subst ey
  obtain⟨z,hd,vs,rel,dd⟩:=QR I.hok e
  refine call_meetsIn DK4 dd.typeIs DP4 (DO7 _ _) (meets_dict_get (E3 X.prog X.w) a (KJ ry) hd) ⟨_,dd.mapOf,h _ _ (I.tok _) ?_⟩
  rw[l]
  exact(rel.val k).getD rfl
 ·subst ey
  cases(show u=Value.ref b from ry)
  obtain⟨z,hd,xs,rel,dd⟩:=AF1 I.hok e
  refine call_meetsIn DK4 dd.typeIs DP4 (DO7 _ _) (meetsH_dict_get (tupleKind (E3 X.prog X.w)) a b hd) ⟨tupleKind_room_in1 hu,k,xs,SR I.hok eb,dd,h _ _ (I.tok _) ?_⟩
  rw[l]
  exact(rel.val k).getD rfl
end
section
variable {X:Cx}{o e f:Expr}{apos cpos:Pos}{td ty tx:TE}
end
section
variable {X:Cx}{pins:List (Addr×Obj)}{σ:St}{H:Hp}{s:CV4}{a:Addr}{kvs:List (Key×V)}{A:DD3}{E:Value->CV4->Prop}
end
section
variable {X:Cx}{pins:List (Addr×Obj)}{σ:St}{H:Hp}{s:CV4}{a:Addr}{y:V}{u:Value}{A:DD3}{E:Value->CV4->Prop}
end
section
variable {X:Cx}
end
section
variable {κ:Type}[DecidableEq κ]
end
end L2
namespace L3
open PySem PySem.Spec PyProof.Rows L2
inductive D where
 | non|bl (b:Bool)|int (i:Int)|str (x:Str)|ty (n:String)|ref (a:Addr)
 | tup (xs:List D)|lst (xs:List D)|dct (kvs:List (Key×D))
inductive MO where
 | lst (xs:List D)|dct (kvs:List (Key×D))|dt (kvs:List (List Int×D))
abbrev Mem:=Addr->Option MO
def D3 (M:Mem)(a:Addr)(o:MO):Mem:=fun b=>if b=a then some o else M b
def Z0 (M:Mem)(a:Addr):Mem:=fun b=>if b=a then none else M b
theorem B4 {M:Mem}{o:MO}:D3 M a o a=some o:=by unfold D3;rw[if_pos rfl]
theorem D0 {M:Mem}{o:MO}(h:b≠a):D3 M a o b=M b:=by unfold D3;rw[if_neg h]
theorem RC {M:Mem}{o u:MO}:D3 (D3 M a o) a u=D3 M a u:=by
 funext b;unfold D3;split<;>rfl
def CF0 (K:CV3)(a:Addr)(xs:List V):Prop :=
 ∃(o:Obj) (its:Array Value) (n:Nat),K.lookup a=some o/\o.cls=.type "list"/\o.dict=none/\o.data=.seq its n/\its.size<=CV8/\Vals xs its.toList
def YY (K:CV3)(a:Addr)(xs:List V):Prop :=
 ∃(o:Obj) (its:Array Value) (n:Nat),K.lookup a=some o/\o.cls=.type "tuple"/\o.data=.seq its n/\its.size<=CV8/\Vals xs its.toList
def Fix (M:Mem)(H:Hp)(a:Addr)(o:HO):Prop:=Rd H a o/\M a=none
mutual
inductive Rep (K:CV3)(M:Mem)(H:Hp):D->V->Prop
 | non:Rep K M H .non .non
 | bl {b:Bool}:Rep K M H (.bl b) (.bl b)
 | int {i:Int}:Rep K M H (.int i) (.int i)
 | str {x:Str}:Rep K M H (.str x) (.str x)
 | ty {n:String}:Rep K M H (.ty n) (.ty n)
 | ref {a:Addr}:Rep K M H (.ref a) (.ref a)
 | tup {a:Addr} {ds:List D} {vs:List V}:(Fix M H a (.tup vs)\/YY K a vs)->Reps K M H ds vs->Rep K M H (.tup ds) (.ref a)
 | lst {a:Addr} {ds:List D} {vs:List V}:(Fix M H a (.lst vs)\/CF0 K a vs)->Reps K M H ds vs->Rep K M H (.lst ds) (.ref a)
 | dct {a:Addr} {ds:List (Key×D)} {vs:List (Key×V)}:Fix M H a (.dK vs)->RepK K M H ds vs->Rep K M H (.dct ds) (.ref a)
inductive Reps (K:CV3)(M:Mem)(H:Hp):List D->List V->Prop
 | nil:Reps K M H [] []
 | cons {d:D} {v:V} {ds:List D} {vs:List V}:Rep K M H d v->Reps K M H ds vs->Reps K M H (d::ds) (v::vs)
inductive RepK (K:CV3)(M:Mem)(H:Hp):List (Key×D)->List (Key×V)->Prop
 | nil:RepK K M H [] []
 | cons {k:Key} {d:D} {v:V} {ds:List (Key×D)} {vs:List (Key×V)}:Rep K M H d v->RepK K M H ds vs->RepK K M H ((k,d)::ds) ((k,v)::vs)
end
def CR2 (x:List Int×Addr×Value):DictEntry:=⟨reduceHash (Builtin.Tuple.tupleHashOf (x.1.map hashInt)),.ref x.2.1,x.2.2⟩
def dtφ (a:Addr)(xs:List (List Int×Addr×Value)):Heap->Prop:=fun h=>(a==DG6)=false/\∃o es ep,h.get? a=some o/\o.ExactDict/\o.data=.dict es ep/\es.toList=xs.map CR2/\(xs.map (·.1)).Nodup
inductive RepT (K:CV3)(M:Mem)(H:Hp):List (List Int×D)->List (List Int×Addr×Value)->Prop
 | nil:RepT K M H [] []
 | cons {k:List Int} {b:Addr} {d:D} {v:V} {u:Value} {ds:List (List Int×D)} {xs:List (List Int×Addr×Value)}:Rep K M H (.tup (k.map D.int)) (.ref b)->Rep K M H d v->RelV v u->RepT K M H ds xs->RepT K M H ((k,d)::ds) ((k,b,u)::xs)
def RepO (K:CV3)(M:Mem)(H:Hp)(a:Addr):MO->HO->Prop
 | .lst ds,.lst vs=>Reps K M H ds vs
 | .dct ds,.dK vs=>RepK K M H ds vs
 | .dt ds,.ext φ=>∃xs,φ=dtφ a xs/\RepT K M H ds xs
 | _,_=>False
def MRel (K:CV3)(M:Mem)(H:Hp):Prop:=∀a o,M a=some o->∃ho,H a=some ho/\RepO K M H a o ho
structure Step (M:Mem)(H:Hp)(M':Mem)(H':Hp):Prop where
 keep:∀a o,H a=some o->M a=none->H' a=some o
 dom:∀a,M' a≠none->M a≠none\/H a=none
theorem Step.refl {M:Mem}:Step M H M H:=⟨fun _ _ h _=>h,fun _ h=>.inl h⟩
theorem Step.gone {M M':Mem}{H':Hp}(s:Step M H M' H'){o:HO}(h:H a=some o)(hm:M a=none):M' a=none:=by
 cases e:M' a with
 | none=>rfl
 | some u =>
  rcases s.dom a (by rw[e];intro z;cases z) with z|z
  ·exact absurd hm z
  ·rw[h] at z;cases z
theorem Step.trans {M M1 M2:Mem}{H1 H2:Hp}(a:Step M H M1 H1)(b:Step M1 H1 M2 H2):Step M H M2 H2 where
 keep:=fun c o h hm=>b.keep c o (a.keep c o h hm) (a.gone h hm)
 dom:=fun c h=>by
  rcases b.dom c h with z|z
  ·exact a.dom c z
  ·cases e:H c with
   | none=>exact .inr rfl
   | some o =>
    refine .inl fun hm=>?_
    rw[a.keep c o e hm] at z;cases z
theorem Fix.mono {M M':Mem}{H':Hp}{o:HO}(s:Step M H M' H')(f:Fix M H a o):Fix M' H' a o:=by
 obtain⟨r,hm⟩:=f
 rcases r with r|⟨ob,r⟩
 ·exact⟨.inl (s.keep _ _ r hm),s.gone r hm⟩
 ·exact⟨.inr ⟨ob,s.keep _ _ r hm⟩,s.gone r hm⟩
section
variable {K:CV3}{M M':Mem}{H H':Hp}
theorem Rep.mono {d:D}(s:Step M H M' H')(r:Rep K M H d v):Rep K M' H' d v :=
 Rep.rec (motive_1:=fun d v _=>Rep K M' H' d v) (motive_2:=fun ds vs _=>Reps K M' H' ds vs) (motive_3:=fun ds vs _=>RepK K M' H' ds vs)
  .non .bl .int .str .ty .ref (fun h _ ih=>.tup (h.imp (Fix.mono s) id) ih) (fun h _ ih=>.lst (h.imp (Fix.mono s) id) ih) (fun h _ ih=>.dct (h.mono s) ih)
  .nil (fun _ _ a b=>.cons a b) .nil (fun _ _ a b=>.cons a b) r
theorem Reps.mono {ds:List D}(s:Step M H M' H')(r:Reps K M H ds vs):Reps K M' H' ds vs:=by
 induction ds generalizing vs with
 | nil=>cases r;exact .nil
 | cons d ds ih=>cases r with|cons a b=>exact .cons (a.mono s) (ih b)
theorem RepK.mono {ds:List (Key×D)}{vs:List (Key×V)}(s:Step M H M' H')(r:RepK K M H ds vs):RepK K M' H' ds vs:=by
 induction ds generalizing vs with
 | nil=>cases r;exact .nil
 | cons d ds ih=>cases r with|cons a b=>exact .cons (a.mono s) (ih b)
theorem RepT.mono {ds:List (List Int×D)}{xs:List (List Int×Addr×Value)}(s:Step M H M' H')(r:RepT K M H ds xs):RepT K M' H' ds xs:=by
 induction r with
 | nil=>exact .nil
 | cons a b c _ ih=>exact .cons (a.mono s) (b.mono s) c ih
theorem Reps.length {ds:List D}(r:Reps K M H ds vs):ds.length=vs.length:=by
 induction ds generalizing vs with
 | nil=>cases r;rfl
 | cons d ds ih=>cases r with|cons a b=>rw[CV6,CV6,ih b]
theorem Reps.get {ds:List D}(r:Reps K M H ds vs){d:D}(h:ds[i]?=some d):∃v,vs[i]?=some v/\Rep K M H d v:=by
 induction ds generalizing vs i with
 | nil=>simp at h
 | cons d' ds ih =>
  cases r with
  | cons a b =>
   cases i with
   | zero=>simp at h;subst h;exact⟨_,rfl,a⟩
   | succ i=>simpa using ih b (by simpa using h)
theorem Reps.append {ds es:List D}{us:List V}(r:Reps K M H ds vs)(q:Reps K M H es us):Reps K M H (ds++es) (vs++us):=by
 induction ds generalizing vs with
 | nil=>cases r;exact q
 | cons d ds ih=>cases r with|cons a b=>exact .cons a (ih b)
theorem Reps.take {ds:List D}(r:Reps K M H ds vs)(n:Nat):Reps K M H (ds.take n) (vs.take n):=by
 induction ds generalizing vs n with
 | nil=>cases r;simp;exact .nil
 | cons d ds ih=>cases r with|cons a b=>cases n with
  | zero=>simp;exact .nil
  | succ n=>simpa using Reps.cons a (ih b n)
theorem Reps.drop {ds:List D}(r:Reps K M H ds vs)(n:Nat):Reps K M H (ds.drop n) (vs.drop n):=by
 induction ds generalizing vs n with
 | nil=>cases r;simp;exact .nil
 | cons d ds ih=>cases r with|cons a b=>cases n with
  | zero=>exact .cons a b
  | succ n=>simpa using ih b n
theorem Reps.set {ds:List D}{d:D}(r:Reps K M H ds vs)(q:Rep K M H d v)(i:Nat):Reps K M H (ds.set i d) (vs.set i v):=by
 induction ds generalizing vs i with
 | nil=>cases r;exact .nil
 | cons d ds ih=>cases r with|cons a b=>cases i with
  | zero=>exact .cons q b
  | succ i=>exact .cons a (ih b i)
theorem Reps.ints:Reps K M H (ns.map D.int) (ns.map V.int):=by
 induction ns with
 | nil=>exact .nil
 | cons n ns ih=>exact .cons .int ih
theorem MRel.free (m:MRel K M H)(h:H a=none):M a=none:=by
 cases e:M a with
 | none=>rfl
 | some o=>obtain⟨ho,z,_⟩:=m a o e;rw[h] at z;cases z
end
abbrev Lo:=List (Option D)
structure SRel (K:CV3)(M:Mem)(H:Hp)(σ:Lo)(σv:L2.St):Prop where
 len:σ.length=σv.length
 get:∀(i:Nat) (d:D),σ[i]?=some (some d)->∃v,σv[i]?=some (some v)/\Rep K M H d v
theorem SRel.mono {M M':Mem}{H':Hp}{σ:Lo}{σv:L2.St}(s:Step M H M' H')(r:SRel K M H σ σv):SRel K M' H' σ σv :=
 ⟨r.len,fun i d h=>let ⟨v,e,q⟩:=r.get i d h;⟨v,e,q.mono s⟩⟩
theorem SRel.set {M:Mem}{σ:Lo}{σv:L2.St}(r:SRel K M H σ σv){d:D}(q:Rep K M H d v)(i:Nat):SRel K M H (σ.set i (some d)) (σv.set i (some v)):=by
 refine⟨by simp[r.len],fun j e h=>?_⟩
 rw[List.getElem?_set] at h
 rw[List.getElem?_set,<-r.len]
 by_cases hij:i=j
 ·rw[if_pos hij] at h ⊢
  by_cases hl:j<σ.length
  ·rw[hij,if_pos hl] at h
   rw[hij,if_pos hl]
   cases h
   exact⟨v,rfl,q⟩
  ·rw[hij,if_neg hl] at h;cases h
 ·rw[if_neg hij] at h ⊢
  exact r.get j e h
abbrev DK:=D->Mem->Prop
abbrev TE3:=Lo->Mem->DK->Prop
abbrev TT3:=Lo->Mem->(Bool->Mem->Prop)->Prop
abbrev TA3:=Lo->Mem->(List D->Mem->Prop)->Prop
structure Z3 where
 nx:Lo->Mem->Prop
 rt:DK
 bk:Lo->Mem->Prop:=fun _ _=>False
 ct:Lo->Mem->Prop:=fun _ _=>False
abbrev TS3:=Z3->Lo->Mem->Prop
def EP3 (X:Cx)(pins:List (Addr×Obj))(σv:L2.St)(M:Mem)(H:Hp)(Q:DK)(u:Value)(s':CV4):Prop :=
 ∃d v M' H',Inv X pins σv H' s'/\Step M H M' H'/\MRel X.K M' H'/\RelV v u/\Rep X.K M' H' d v/\Q d M'
def TP3 (X:Cx)(pins:List (Addr×Obj))(σv:L2.St)(M:Mem)(H:Hp)(Q:Bool->Mem->Prop)(b:Bool)(s':CV4):Prop :=
 ∃M' H',Inv X pins σv H' s'/\Step M H M' H'/\MRel X.K M' H'/\Q b M'
def AP3 (X:Cx)(pins:List (Addr×Obj))(σv:L2.St)(M:Mem)(H:Hp)(Q:List D->Mem->Prop)(us:List Value)(s':CV4):Prop :=
 ∃ds vs M' H',Inv X pins σv H' s'/\Step M H M' H'/\MRel X.K M' H'/\Vals vs us/\Reps X.K M' H' ds vs/\Q ds M'
def SP3 (X:Cx)(pins:List (Addr×Obj))(M:Mem)(H:Hp)(T:Z3)(f:Flow)(s':CV4):Prop :=
 match f with
 | .next=>∃σ' σv' M' H',Inv X pins σv' H' s'/\Step M H M' H'/\MRel X.K M' H'/\SRel X.K M' H' σ' σv'/\T.nx σ' M'
 | .brk=>∃σ' σv' M' H',Inv X pins σv' H' s'/\Step M H M' H'/\MRel X.K M' H'/\SRel X.K M' H' σ' σv'/\T.bk σ' M'
 | .cont=>∃σ' σv' M' H',Inv X pins σv' H' s'/\Step M H M' H'/\MRel X.K M' H'/\SRel X.K M' H' σ' σv'/\T.ct σ' M'
 | .ret u=>∃d v σv' M' H',Inv X pins σv' H' s'/\Step M H M' H'/\MRel X.K M' H'/\RelV v u/\Rep X.K M' H' d v/\T.rt d M'
def PE3 (X:Cx)(e:Expr)(t:TE3):Prop :=
 ∀(pins:List (Addr×Obj)) (s:CV4) (σv:L2.St) (H:Hp) (σ:Lo) (M:Mem) (Q:DK),Inv X pins σv H s->SRel X.K M H σ σv->MRel X.K M H->t σ M Q ->
  wpAny (model X.prog X.w) X.A (eval e X.env) (EP3 X pins σv M H Q) X.xe s
def PT3 (X:Cx)(e:Expr)(t:TT3):Prop :=
 ∀(pins:List (Addr×Obj)) (s:CV4) (σv:L2.St) (H:Hp) (σ:Lo) (M:Mem) (Q:Bool->Mem->Prop),Inv X pins σv H s->SRel X.K M H σ σv->MRel X.K M H->t σ M Q ->
  wpAny (model X.prog X.w) X.A (isTrue e X.env (eval e X.env)) (TP3 X pins σv M H Q) X.xe s
def PA3 (X:Cx)(es:List Expr)(t:TA3):Prop :=
 ∀(pos:Pos) (pins:List (Addr×Obj)) (s:CV4) (σv:L2.St) (H:Hp) (σ:Lo) (M:Mem) (Q:List D->Mem->Prop),Inv X pins σv H s->SRel X.K M H σ σv->MRel X.K M H->t σ M Q ->
  wpAny (model X.prog X.w) X.A (spliced (DK1 pos (CY3 es X.env))) (AP3 X pins σv M H Q) X.xe s
def PS3 (X:Cx)(st:Stmt)(t:TS3):Prop :=
 ∀(pins:List (Addr×Obj)) (s:CV4) (σv:L2.St) (H:Hp) (σ:Lo) (M:Mem) (T:Z3),Inv X pins σv H s->SRel X.K M H σ σv->MRel X.K M H->t T σ M ->
  wpAny (model X.prog X.w) X.A (exec st X.env) (SP3 X pins M H T) X.xe s
def PSs3 (X:Cx)(st:List Stmt)(t:TS3):Prop :=
 ∀(pins:List (Addr×Obj)) (s:CV4) (σv:L2.St) (H:Hp) (σ:Lo) (M:Mem) (T:Z3),Inv X pins σv H s->SRel X.K M H σ σv->MRel X.K M H->t T σ M ->
  wpAny (model X.prog X.w) X.A (execs st X.env) (SP3 X pins M H T) X.xe s
def dnE (K:CV3)(t:TE3):TE:=fun σv H Q2=>∃σ M Q,SRel K M H σ σv/\MRel K M H/\t σ M Q/\∀d v M' H',Step M H M' H'->MRel K M' H'->Rep K M' H' d v->Q d M'->Q2 v H'
def dnA (K:CV3)(t:TA3):TA:=fun σv H Q2=>∃σ M Q,SRel K M H σ σv/\MRel K M H/\t σ M Q/\∀ds vs M' H',Step M H M' H'->MRel K M' H'->Reps K M' H' ds vs->Q ds M'->Q2 vs H'
structure AQ3 (K:CV3)(M:Mem)(H:Hp)(T:Z3)(D2:Ends):Prop where
 nx:∀σ' σv' M' H',Step M H M' H'->MRel K M' H'->SRel K M' H' σ' σv'->T.nx σ' M'->D2.nx σv' H'
 bk:∀σ' σv' M' H',Step M H M' H'->MRel K M' H'->SRel K M' H' σ' σv'->T.bk σ' M'->D2.bk σv' H'
 ct:∀σ' σv' M' H',Step M H M' H'->MRel K M' H'->SRel K M' H' σ' σv'->T.ct σ' M'->D2.ct σv' H'
 rt:∀d v M' H',Step M H M' H'->MRel K M' H'->Rep K M' H' d v->T.rt d M'->D2.rt v H'
def dnS (K:CV3)(t:TS3):TS:=fun D2 σv H=>∃σ M T,SRel K M H σ σv/\MRel K M H/\t T σ M/\AQ3 K M H T D2
section
variable {X:Cx}{e:Expr}{es:List Expr}{st:Stmt}{sts:List Stmt}
theorem PE3.dn {t:TE3}(h:PE3 X e t):PE X e (dnE X.K t):=by
 rintro pins s σv H Q2 I ⟨σ,M,Q,hS,hM,ht,hq⟩
 exact thn (h pins s σv H σ M Q I hS hM ht) fun u s' ⟨d,v,M',H',I',st,m',r,rep,q⟩=>⟨v,H',I',r,hq d v M' H' st m' rep q⟩
theorem PA3.dn {t:TA3}(h:PA3 X es t):PA X es (dnA X.K t):=by
 rintro pos pins s σv H Q2 I ⟨σ,M,Q,hS,hM,ht,hq⟩
 exact thn (h pos pins s σv H σ M Q I hS hM ht) fun u s' ⟨d,v,M',H',I',st,m',r,rep,q⟩=>⟨v,H',I',r,hq d v M' H' st m' rep q⟩
theorem CP4 {M:Mem}{T:Z3}{D2:Ends}(h:AQ3 X.K M H T D2){f:Flow}(q:SP3 X pins M H T f s'):SP X pins D2 f s':=by
 cases f with
 | next=>obtain⟨σ',σv',M',H',I,st,m,r,q⟩:=q;exact⟨σv',H',I,h.nx _ _ _ _ st m r q⟩
 | brk=>obtain⟨σ',σv',M',H',I,st,m,r,q⟩:=q;exact⟨σv',H',I,h.bk _ _ _ _ st m r q⟩
 | cont=>obtain⟨σ',σv',M',H',I,st,m,r,q⟩:=q;exact⟨σv',H',I,h.ct _ _ _ _ st m r q⟩
 | ret u=>obtain⟨d,v,σv',M',H',I,st,m,rv,r,q⟩:=q;exact⟨v,σv',H',I,rv,h.rt _ _ _ _ st m r q⟩
theorem PSs3.dn {t:TS3}(h:PSs3 X sts t):PSs X sts (dnS X.K t):=by
 rintro pins s σv H D2 I ⟨σ,M,T,hS,hM,ht,hq⟩
 exact thn (h pins s σv H σ M T I hS hM ht) fun f s' q=>CP4 hq q
abbrev Up (K:CV3)(M:Mem)(H:Hp)(Q:DK):VK:=fun v H'=>∃d M',Step M H M' H'/\MRel K M' H'/\Rep K M' H' d v/\Q d M'
theorem PE3.of {t:TE3}{t2:TE}(h:PE X e t2)(hr:∀pins s σv H σ M Q,Inv X pins σv H s->SRel X.K M H σ σv->MRel X.K M H->t σ M Q->t2 σv H (Up X.K M H Q)):PE3 X e t:=by
 intro pins s σv H σ M Q I hS hM ht
 exact thn (h pins s σv H _ I (hr pins s σv H σ M Q I hS hM ht)) fun u s' ⟨v,H',I',r,d,M',st,m',rep,q⟩=>⟨d,v,M',H',I',st,m',r,rep,q⟩
abbrev UpE (K:CV3)(M:Mem)(H:Hp)(T:Z3):Ends where
 nx:=fun σv' H'=>∃σ' M',Step M H M' H'/\MRel K M' H'/\SRel K M' H' σ' σv'/\T.nx σ' M'
 rt:=fun v H'=>∃d M',Step M H M' H'/\MRel K M' H'/\Rep K M' H' d v/\T.rt d M'
 bk:=fun σv' H'=>∃σ' M',Step M H M' H'/\MRel K M' H'/\SRel K M' H' σ' σv'/\T.bk σ' M'
 ct:=fun σv' H'=>∃σ' M',Step M H M' H'/\MRel K M' H'/\SRel K M' H' σ' σv'/\T.ct σ' M'
theorem PS3.of {t:TS3}{t2:TS}(h:PS X st t2)(hr:∀pins s σv H σ M T,Inv X pins σv H s->SRel X.K M H σ σv->MRel X.K M H->t T σ M->t2 (UpE X.K M H T) σv H):PS3 X st t:=by
 intro pins s σv H σ M T I hS hM ht
 refine thn (h pins s σv H _ I (hr pins s σv H σ M T I hS hM ht)) fun f s' q=>?_
 cases f with
 | next=>obtain⟨σv',H',I,σ',M',st,m,r,q⟩:=q;exact⟨σ',σv',M',H',I,st,m,r,q⟩
 | brk=>obtain⟨σv',H',I,σ',M',st,m,r,q⟩:=q;exact⟨σ',σv',M',H',I,st,m,r,q⟩
 | cont=>obtain⟨σv',H',I,σ',M',st,m,r,q⟩:=q;exact⟨σ',σv',M',H',I,st,m,r,q⟩
 | ret u=>obtain⟨v,σv',H',I,rv,d,M',st,m,r,q⟩:=q;exact⟨d,v,σv',M',H',I,st,m,rv,r,q⟩
end
section
variable {K:CV3}{M:Mem}{H:Hp}{p:Addr}{ho:HO}{o:MO}
theorem Step.lay (hp:H p=none):Step M H M (upd H p ho) :=
 ⟨fun a u h _=>by rw[D5 (F3 h hp)];exact h,fun _ h=>.inl h⟩
theorem MRel.lay (m:MRel K M H)(hp:H p=none):MRel K M (upd H p ho):=fun a u e=>by
 obtain⟨hu,e1,r⟩:=m a u e
 refine⟨hu,by rw[D5 (F3 e1 hp)];exact e1,?_⟩
 cases u<;>cases hu<;>first|exact r.elim|exact Reps.mono (Step.lay hp) r|exact RepK.mono (Step.lay hp) r|(obtain⟨xs,e,r⟩:=r;exact⟨xs,e,r.mono (Step.lay hp)⟩)
theorem Step.put (h:H p=none\/M p≠none):Step M H (D3 M p o) (upd H p ho):=by
 refine⟨fun a u e hm=>?_,fun a e=>?_⟩
 ·have:a≠p:=by
   rintro rfl
   rcases h with h|h
   ·rw[h] at e;cases e
   ·exact h hm
  rw[D5 this];exact e
 ·by_cases ha:a=p
  ·subst ha;exact h.elim .inr .inl
  ·rw[D0 ha] at e;exact .inl e
theorem RepO.mono {M':Mem}{H':Hp}(s:Step M H M' H')(r:RepO K M H p o ho):RepO K M' H' p o ho:=by
 cases o<;>cases ho<;>first|exact r.elim|exact Reps.mono s r|exact RepK.mono s r|(obtain⟨xs,e,r⟩:=r;exact⟨xs,e,r.mono s⟩)
theorem MRel.put (m:MRel K M H)(h:H p=none\/M p≠none)(r:RepO K M H p o ho):MRel K (D3 M p o) (upd H p ho):=fun a u e=>by
 by_cases ha:a=p
 ·subst ha
  rw[B4] at e;cases e
  exact⟨ho,D4,r.mono (Step.put h)⟩
 ·rw[D0 ha] at e
  obtain⟨hu,e1,r1⟩:=m a u e
  exact⟨hu,by rw[D5 ha];exact e1,r1.mono (Step.put h)⟩
end
mutual
def pyD:D->PyData
 | .non=>.none|.bl b=>.bool b|.int i=>.int i|.str x=>.str x
 | .tup xs=>.tuple (V1 xs)|.lst xs=>.list (V1 xs)
 | .dct _=>.none|.ty _=>.none|.ref _=>.none
def V1:List D->List PyData
 | []=>[]|d::ds=>pyD d::V1 ds
end
mutual
def plain:D->Bool
 | .non|.bl _|.int _|.str _=>true
 | .tup xs|.lst xs=>V0 xs
 | .dct _|.ty _|.ref _=>false
def V0:List D->Bool
 | []=>true|d::ds=>plain d && V0 ds
end
section
variable {X:Cx}{pins:List (Addr×Obj)}{σv:L2.St}{M:Mem}{H:Hp}{s:CV4}
theorem SqT.of3 (h:Fix M H a (.tup vs)\/YY K a vs):SqT K H a vs:=h.imp (·.1) id
theorem SqL.of3 (h:Fix M H a (.lst vs)\/CF0 K a vs):SqL K H a vs:=h.imp (·.1) id
mutual
theorem NN (I:Inv X pins σv H s)(d:D){v:V}{u:Value}(hp:plain d=true)(p:Rep X.K M H d v)(r:RelV v u):∃as,Reads s.heap u (pyD d) as:=by
 cases d with
 | non=>cases p;cases r;exact⟨[],.none⟩
 | bl b=>cases p;cases r;exact⟨[],.bool b⟩
 | int i=>cases p;obtain⟨t,rfl⟩:=r;exact⟨[],.int i t⟩
 | str x=>cases p;obtain⟨t,rfl⟩:=r;exact⟨[],.str x t⟩
 | tup xs =>
  cases p with
  | tup h q =>
  cases r
  obtain⟨its,rv,⟨o,e1,e2,n,e3⟩,_⟩:=I.tuple (SqT.of3 h)
  obtain⟨as,ra⟩:=BF I xs (by simpa[plain] using hp) q rv
  exact⟨as,by rw[pyD];exact .tuple e1 e2 e3 (by simpa using ra)⟩
 | lst xs =>
  cases p with
  | @lst a _ _ h q =>
  cases r
  obtain⟨its,rv,⟨o,n,e1,e2,_,e3⟩,_⟩:=I.list (SqL.of3 h)
  obtain⟨as,ra⟩:=BF I xs (by simpa[plain] using hp) q rv
  exact⟨a::as,by rw[pyD];exact .list e1 e2 e3 (by simpa using ra)⟩
 | dct _=>cases hp
 | ty _=>cases hp
 | ref _=>cases hp
theorem BF (I:Inv X pins σv H s)(ds:List D){vs:List V}{us:List Value}(hp:V0 ds=true)(p:Reps X.K M H ds vs)(r:Vals vs us):∃as,ReadsAll s.heap us (V1 ds) as:=by
 cases ds with
 | nil=>cases p;cases r;exact⟨[],.nil⟩
 | cons d ds =>
  cases p with
  | cons q qs =>
  cases r with
  | cons r rs =>
   have hp':plain d=true/\V0 ds=true:=by simpa[V0] using hp
   obtain⟨as,h1⟩:=NN I d hp'.1 q r
   obtain⟨bs,h2⟩:=BF I ds hp'.2 qs rs
   exact⟨as++bs,by rw[V1];exact .cons h1 h2⟩
end
end
theorem Q0 {X:Cx}{σv:L2.St}{M:Mem}(I:Inv X pins σv H s){d:D}(hp:plain d=true)(p:Rep X.K M H d v)(r:RelV v u):∃as,Reads s.heap u (pyD d) as:=NN I d hp p r
abbrev R3:=D->D->Mem->DK->Prop
abbrev U3:=D->Mem->DK->Prop
abbrev C3:=List D->Mem->DK->Prop
def OpR3 (X:Cx)(f:Value->Value->Sem Value)(r:R3):Prop :=
 ∀(pins:List (Addr×Obj)) (s:CV4) (σv:L2.St) (H:Hp) (M:Mem) (x y:D) (xv yv:V) (v u:Value) (Q:DK),Inv X pins σv H s->MRel X.K M H->RelV xv v->RelV yv u->Rep X.K M H x xv->Rep X.K M H y yv->r x y M Q ->
  wpAny (model X.prog X.w) X.A (f v u) (EP3 X pins σv M H Q) X.xe s
def UnR3 (X:Cx)(f:Value->Sem Value)(r:U3):Prop :=
 ∀(pins:List (Addr×Obj)) (s:CV4) (σv:L2.St) (H:Hp) (M:Mem) (x:D) (xv:V) (v:Value) (Q:DK),Inv X pins σv H s->MRel X.K M H->RelV xv v->Rep X.K M H x xv->r x M Q ->
  wpAny (model X.prog X.w) X.A (f v) (EP3 X pins σv M H Q) X.xe s
def CallR3 (X:Cx)(f:Value)(r:C3):Prop :=
 ∀(pins:List (Addr×Obj)) (s:CV4) (σv:L2.St) (H:Hp) (M:Mem) (xs:List D) (xvs:List V) (us:List Value) (Q:DK),Inv X pins σv H s->MRel X.K M H->Vals xvs us->Reps X.K M H xs xvs->r xs M Q ->
  wpAny (model X.prog X.w) X.A (call f us) (EP3 X pins σv M H Q) X.xe s
section
variable {X:Cx}
theorem U6 {σv:L2.St}{M:Mem}{Q:DK}(h:EP X pins σv (Up X.K M H Q) u s'):EP3 X pins σv M H Q u s':=by
 obtain⟨v,H',I',r,d,M',st,m',rep,q⟩:=h
 exact⟨d,v,M',H',I',st,m',r,rep,q⟩
theorem OpR3.of {r:R2}{r3:R3}(h:OpR X f r)
  (hr:∀(H:Hp) (M:Mem) (x y:D) (xv yv:V) (Q:DK),MRel X.K M H->Rep X.K M H x xv->Rep X.K M H y yv->r3 x y M Q->r xv yv H (Up X.K M H Q)):OpR3 X f r3 :=
 fun pins s σv H M x y xv yv v u Q I m rx ry px py q=>thn (h pins s σv H xv yv v u _ I rx ry (hr H M x y xv yv Q m px py q)) fun _ _ z=>U6 z
theorem UnR3.of {f:Value->Sem Value}{r:V->Hp->VK->Prop}{r3:U3}(h:UnR X f r)
  (hr:∀(H:Hp) (M:Mem) (x:D) (xv:V) (Q:DK),MRel X.K M H->Rep X.K M H x xv->r3 x M Q->r xv H (Up X.K M H Q)):UnR3 X f r3 :=
 fun pins s σv H M x xv v Q I m rx px q=>thn (h pins s σv H xv v _ I rx (hr H M x xv Q m px q)) fun _ _ z=>U6 z
theorem CallR3.of {f:Value}{r:List V->Hp->VK->Prop}{r3:C3}(h:CallR X f r)
  (hr:∀(H:Hp) (M:Mem) (xs:List D) (xvs:List V) (Q:DK),MRel X.K M H->Reps X.K M H xs xvs->r3 xs M Q->r xvs H (Up X.K M H Q)):CallR3 X f r3 :=
 fun pins s σv H M xs xvs us Q I m rv px q=>thn (h pins s σv H xvs us _ I rv (hr H M xs xvs Q m px q)) fun _ _ z=>U6 z
theorem up0 {M:Mem}{Q:DK}{d:D}(m:MRel K M H)(r:Rep K M H d v)(q:Q d M):Up K M H Q v H:=⟨d,M,.refl,m,r,q⟩
def A3 (r:R3)(ta tb:TE3):TE3:=fun σ M Q=>ta σ M fun x M1=>tb σ M1 fun y M2=>r x y M2 Q
def CD7 (r:U3)(ta:TE3):TE3:=fun σ M Q=>ta σ M fun x M1=>r x M1 Q
variable {a b c e:Expr}{es:List Expr}{ta tb tc te:TE3}{t:TA3}{pos:Pos}
theorem EP3.trans {σv:L2.St}{M M1:Mem}{H1:Hp}{Q:DK}(st:Step M H M1 H1)(h:EP3 X pins σv M1 H1 Q u s'):EP3 X pins σv M H Q u s':=by
 obtain⟨d,v,M',H',I',st',m',r,rep,q⟩:=h
 exact⟨d,v,M',H',I',st.trans st',m',r,rep,q⟩
theorem BR3 (ha:PE3 X a ta)(hb:PE3 X b tb){r:R3}(ho:OpR3 X f r){σv:L2.St}{σ:Lo}{M:Mem}{Q:DK}
  (I:Inv X pins σv H s) (hS:SRel X.K M H σ σv) (hM:MRel X.K M H) (h:A3 r ta tb σ M Q) :
  wpAny (model X.prog X.w) X.A (eval a X.env) (fun v s₁=>wpAny (model X.prog X.w) X.A (eval b X.env) (fun u s₂=>wpAny (model X.prog X.w) X.A (f v u) (EP3 X pins σv M H Q) X.xe s₂) X.xe s₁) X.xe s:=by
 refine thn (ha pins s σv H σ M _ I hS hM h) fun v s1 hx0=>?_
 obtain⟨x,xv,M1,H1,I1,st1,m1,rv1,p1,q1⟩:=hx0
 refine thn (hb pins s1 σv H1 σ M1 _ I1 (hS.mono st1) m1 q1) fun u s2 hx0=>?_
 obtain⟨y,yv,M2,H2,I2,st2,m2,rv2,p2,q2⟩:=hx0
 exact thn (ho pins s2 σv H2 M2 x y xv yv v u Q I2 m2 rv1 rv2 (p1.mono st2) p2 q2) fun _ _ z=>z.trans (st1.trans st2)
theorem BW1 {op:Operator}{r:R3}(ho:OpR3 X (DG2 op) r)(ha:PE3 X a ta)(hb:PE3 X b tb):PE3 X (.BinOp a op b pos) (A3 r ta tb) :=
 fun pins s σv H σ M Q I hS hM h=>wpAny_BinOp (BR3 ha hb ho I hS hM h)
theorem BW3 {op:UnaryOp}{r:U3}(ho:UnR3 X (unaryOp op) r)(ha:PE3 X a ta):PE3 X (.UnaryOp op a pos) (CD7 r ta) :=
 fun pins s σv H σ M Q I hS hM h=>UnaryOp_ (thn (ha pins s σv H σ M _ I hS hM h) fun v s1 ⟨x,xv,M1,H1,I1,st1,m1,rv1,p1,q1⟩ =>
  thn (ho pins s1 σv H1 M1 x xv v Q I1 m1 rv1 p1 q1) fun _ _ z=>z.trans st1)
theorem BJ3 {r:R3}(ho:OpR3 X (DB4 op) r)(ha:PE3 X a ta)(hb:PE3 X b tb)(hm:behindInMarks op b=false):PE3 X (.Compare a [op] [b] pos) (A3 r ta tb) :=
 fun pins s σv H σ M Q I hS hM h=>wpAny_Compare1 (BR3 ha hb ho I hS hM h) hm
def A9 (t:TE3):TT3:=fun σ M Q=>t σ M fun x M'=>∃k,x=.bl k/\Q k M'
theorem BL7 {r:R3}(ho:OpR3 X (DB4 op) r)(ha:PE3 X a ta)(hb:PE3 X b tb)(hm:behindInMarks op b=false):PT3 X (.Compare a [op] [b] pos) (A9 (A3 r ta tb)):=by
 intro pins s σv H σ M Q I hS hM h
 refine wpAny_isTrue_Compare1 (thn (BR3 (Q:=fun x M'=>∃k,x=.bl k/\Q k M') ha hb ho I hS hM h) fun v s1 h1=>thn h1 fun u s2 h2=>thn h2 fun d s3 ⟨x,xv,M1,H1,I1,st1,m1,rv1,p1,k,e,q1⟩=>?_) hm
 subst e
 cases p1
 cases rv1
 exact DD4 ⟨M1,H1,I1,st1,m1,q1⟩
theorem BL9 (h:PE3 X e te)(he:∀whole,isTrue e X.env whole=(do let v <-whole;standAt e.pos;holding [v] (truthy v)):=by intro _;rfl):PT3 X e (A9 te):=by
 intro pins s σv H σ M Q I hS hM hw
 refine isTrue_plain (thn (h pins s σv H σ M _ I hS hM hw) fun v s1 ⟨x,xv,M1,H1,I1,st1,m1,rv1,p1,k,e,q1⟩=>?_) (he _)
 subst e
 cases p1
 cases rv1
 exact DD4 ⟨M1,H1,I1,st1,m1,q1⟩
def X8 (r r':R3)(ta tb tc:TE3):TE3:=fun σ M Q=>ta σ M fun x M1=>tb σ M1 fun y M2=>r x y M2 fun z M3=>∃k,z=.bl k/\if k=true then tc σ M3 fun w M4=>r' y w M4 Q else Q (.bl false) M3
theorem AN0 {op':CmpOp}{r r':R3}(ho:OpR3 X (DB4 op) r)(ho':OpR3 X (DB4 op') r')(ha:PE3 X a ta)(hb:PE3 X b tb)(hc:PE3 X c tc)
  (hm:lastMarks [op,op'] [b,c]=false:=by with_unfolding_all rfl):PE3 X (.Compare a [op,op'] [b,c] pos) (X8 r r' ta tb tc):=by
 intro pins s σv H σ M Q I hS hM h
 refine Compare_chain (thn (ha pins s σv H σ M _ I hS hM h) fun v s1 ⟨x,xv,M1,H1,I1,st1,m1,rv1,p1,q1⟩=>chain_link (thn (hb pins s1 σv H1 σ M1 _ I1 (hS.mono st1) m1 q1) fun u s2 ⟨y,yv,M2,H2,I2,st2,m2,rv2,p2,q2⟩ =>
  thn (ho pins s2 σv H2 M2 x y xv yv v u _ I2 m2 rv1 rv2 (p1.mono st2) p2 q2) fun d s3 ⟨z,zv,M3,H3,I3,st3,m3,rv3,p3,k,e,q3⟩=>?_)) hm
 subst e
 cases p3
 cases rv3
 refine DD4 ?_
 have st:=(st1.trans st2).trans st3
 cases k with
 | false=>exact ite_ff ⟨.bl false,.bl false,M3,H3,I3,st,m3,rfl,.bl,q3⟩
 | true=>exact ite_tt (chain_last (thn (hc pins s3 σv H3 σ M3 _ I3 (hS.mono st) m3 q3) fun w' s4 ⟨z',zv',M4,H4,I4,st4,m4,rv4,p4,q4⟩ =>
   thn (ho' pins s4 σv H4 M4 y z' yv zv' u w' Q I4 m4 rv2 rv4 (p2.mono (st3.trans st4)) p4 q4) fun _ _ z=>z.trans (st.trans st4)))
theorem AO4 {op':CmpOp}{r r':R3}(ho:OpR3 X (DB4 op) r)(ho':OpR3 X (DB4 op') r')(ha:PE3 X a ta)(hb:PE3 X b tb)(hc:PE3 X c tc)
  (hm:lastMarks [op,op'] [b,c]=false:=by with_unfolding_all rfl):PT3 X (.Compare a [op,op'] [b,c] pos) (A9 (X8 r r' ta tb tc)):=by
 intro pins s σv H σ M Q I hS hM h
 refine isTrue_chain (thn (ha pins s σv H σ M _ I hS hM h) fun v s1 ⟨x,xv,M1,H1,I1,st1,m1,rv1,p1,q1⟩=>test_link (thn (hb pins s1 σv H1 σ M1 _ I1 (hS.mono st1) m1 q1) fun u s2 ⟨y,yv,M2,H2,I2,st2,m2,rv2,p2,q2⟩ =>
  thn (ho pins s2 σv H2 M2 x y xv yv v u _ I2 m2 rv1 rv2 (p1.mono st2) p2 q2) fun d s3 ⟨z,zv,M3,H3,I3,st3,m3,rv3,p3,k,e,q3⟩=>?_)) hm
 subst e
 cases p3
 cases rv3
 refine DD4 ?_
 have st:=(st1.trans st2).trans st3
 cases k with
 | false =>
  obtain⟨k',e',q'⟩:=q3
  cases e'
  exact ite_ff ⟨M3,H3,I3,st,m3,q'⟩
 | true =>
  refine ite_tt (test_last (thn (hc pins s3 σv H3 σ M3 _ I3 (hS.mono st) m3 q3) fun w' s4 ⟨z',zv',M4,H4,I4,st4,m4,rv4,p4,q4⟩ =>
   thn (ho' pins s4 σv H4 M4 y z' yv zv' u w' _ I4 m4 rv2 rv4 (p2.mono (st3.trans st4)) p4 q4) fun d' s5 ⟨z2,zv2,M5,H5,I5,st5,m5,rv5,p5,k2,e2,q5⟩=>?_))
  subst e2
  cases p5
  cases rv5
  exact DD4 ⟨M5,H5,I5,(st.trans st4).trans st5,m5,q5⟩
def PW3 (X:Cx)(e:Expr)(t:TT3):Prop :=
 ∀(whole:Sem Value) (pins:List (Addr×Obj)) (s:CV4) (σv:L2.St) (H:Hp) (σ:Lo) (M:Mem) (Q:Bool->Mem->Prop),Inv X pins σv H s->SRel X.K M H σ σv->MRel X.K M H->t σ M Q ->
  wpAny (model X.prog X.w) X.A (isTrue e X.env whole) (TP3 X pins σv M H Q) X.xe s
theorem PW3.pt {t:TT3}(h:PW3 X e t):PT3 X e t:=h _
variable {tA tB':TT3}{rest:List Expr}
def RP (t u:TT3):TT3:=fun σ M Q=>t σ M fun c M1=>if c=true then u σ M1 Q else Q false M1
def Z1 (t u:TT3):TT3:=fun σ M Q=>t σ M fun c M1=>if c=true then Q true M1 else u σ M1 Q
def K4 (t:TT3):TT3:=fun σ M Q=>t σ M fun c M1=>Q (!c) M1
theorem TP3.trans {σv:L2.St}{M M1:Mem}{H1:Hp}{Q:Bool->Mem->Prop}{u:Bool}(st:Step M H M1 H1)(h:TP3 X pins σv M1 H1 Q u s'):TP3 X pins σv M H Q u s':=by
 obtain⟨M',H',I',st',m',q⟩:=h
 exact⟨M',H',I',st.trans st',m',q⟩
theorem XC (ha:PT3 X a tA):PW3 X (.BoolOp .And [a] pos) tA:=by
 intro wh pins s σv H σ M Q I hS hM h
 refine isTrue_and (thn (ha pins s σv H σ M Q I hS hM h) fun c s1 e=>?_)
 cases c with
 | true=>exact isTrue_and_nil e
 | false=>exact e
theorem BM2 (ha:PT3 X a tA):PW3 X (.BoolOp .Or [a] pos) tA:=by
 intro wh pins s σv H σ M Q I hS hM h
 refine isTrue_or (thn (ha pins s σv H σ M Q I hS hM h) fun c s1 e=>?_)
 cases c with
 | false=>exact isTrue_or_nil e
 | true=>exact e
theorem AI3 (ha:PT3 X a tA)(hb:PW3 X (.BoolOp .And (b::rest) pos) tB'):PW3 X (.BoolOp .And (a::b::rest) pos) (RP tA tB'):=by
 intro wh pins s σv H σ M Q I hS hM h
 refine isTrue_and (thn (ha pins s σv H σ M _ I hS hM h) fun c s1 ⟨M1,H1,I1,st1,m1,q1⟩=>?_)
 cases c with
 | true=>exact thn (hb wh pins s1 σv H1 σ M1 Q I1 (hS.mono st1) m1 q1) fun _ _ z=>z.trans st1
 | false=>exact⟨M1,H1,I1,st1,m1,q1⟩
theorem BX8 (ha:PT3 X a tA)(hb:PW3 X (.BoolOp .Or (b::rest) pos) tB'):PW3 X (.BoolOp .Or (a::b::rest) pos) (Z1 tA tB'):=by
 intro wh pins s σv H σ M Q I hS hM h
 refine isTrue_or (thn (ha pins s σv H σ M _ I hS hM h) fun c s1 ⟨M1,H1,I1,st1,m1,q1⟩=>?_)
 cases c with
 | false=>exact thn (hb wh pins s1 σv H1 σ M1 Q I1 (hS.mono st1) m1 q1) fun _ _ z=>z.trans st1
 | true=>exact⟨M1,H1,I1,st1,m1,q1⟩
theorem BL8 (ha:PT3 X a tA):PT3 X (.UnaryOp .Not a pos) (K4 tA):=fun pins s σv H σ M Q I hS hM h =>
 isTrue_not (ha pins s σv H σ M (fun c M1=>Q (!c) M1) I hS hM h)
def G8 (ta tb:TE3):TE3:=fun σ M Q=>ta σ M fun x M1=>∃c,x=.bl c/\if c=true then tb σ M1 Q else Q (.bl false) M1
def YJ (ta tb:TE3):TE3:=fun σ M Q=>ta σ M fun x M1=>∃c,x=.bl c/\if c=true then Q (.bl true) M1 else tb σ M1 Q
def AC7 (ta:TE3):TE3:=fun σ M Q=>ta σ M fun x M1=>∃c,x=.bl c/\Q (.bl (!c)) M1
theorem BJ7 {op}(h:PE3 X a ta):PE3 X (.BoolOp op [a] pos) ta:=fun pins s σv H σ M Q I hS hM hw=>BoolOp_one (h pins s σv H σ M Q I hS hM hw)
theorem BJ2 (ha:PE3 X a ta)(hb:PE3 X (.BoolOp .And (b::rest) pos) tb):PE3 X (.BoolOp .And (a::b::rest) pos) (G8 ta tb):=by
 intro pins s σv H σ M Q I hS hM h
 refine BoolOp_and (thn (ha pins s σv H σ M _ I hS hM h) fun v s1 ⟨x,xv,M1,H1,I1,st1,m1,rv1,p1,c,e,q1⟩=>?_)
 subst e
 cases p1
 cases rv1
 refine DD4 ?_
 cases c with
 | true=>exact thn (hb pins s1 σv H1 σ M1 Q I1 (hS.mono st1) m1 q1) fun _ _ z=>z.trans st1
 | false=>exact⟨.bl false,.bl false,M1,H1,I1,st1,m1,rfl,.bl,q1⟩
theorem AA1 (ha:PE3 X a ta)(hb:PE3 X (.BoolOp .Or (b::rest) pos) tb):PE3 X (.BoolOp .Or (a::b::rest) pos) (YJ ta tb):=by
 intro pins s σv H σ M Q I hS hM h
 refine BoolOp_or (thn (ha pins s σv H σ M _ I hS hM h) fun v s1 ⟨x,xv,M1,H1,I1,st1,m1,rv1,p1,c,e,q1⟩=>?_)
 subst e
 cases p1
 cases rv1
 refine DD4 ?_
 cases c with
 | false=>exact thn (hb pins s1 σv H1 σ M1 Q I1 (hS.mono st1) m1 q1) fun _ _ z=>z.trans st1
 | true=>exact⟨.bl true,.bl true,M1,H1,I1,st1,m1,rfl,.bl,q1⟩
theorem BJ6 (ha:PE3 X a ta):PE3 X (.UnaryOp .Not a pos) (AC7 ta):=by
 intro pins s σv H σ M Q I hS hM h
 refine UnaryOp_ (thn (ha pins s σv H σ M _ I hS hM h) fun v s1 ⟨x,xv,M1,H1,I1,st1,m1,rv1,p1,c,e,q1⟩=>?_)
 subst e
 cases p1
 cases rv1
 exact not_of (DD4 ⟨.bl (!c),.bl (!c),M1,H1,I1,st1,m1,rfl,.bl,q1⟩)
def A1 (i:Nat):TE3:=fun σ M Q=>match σ[i]? with
 | some (some d)=>Q d M
 | _=>False
def tC3 (d:D):TE3:=fun _ M Q=>Q d M
theorem BK0 (h:PE X e (CQ0 i)):PE3 X e (A1 i):=PE3.of h fun pins s σv H σ M Q I hS hM q=>by
 unfold A1 at q
 cases e:σ[i]? with
 | none=>rw[e] at q;exact q.elim
 | some od =>
  rw[e] at q
  cases od with
  | none=>exact q.elim
  | some d =>
   obtain⟨v,hv,r⟩:=hS.get i d e
   exact⟨v,hv,up0 hM r q⟩
theorem pv3 (i:Nat){pos:Pos}(hN:X.N[i]?=some x:=by rfl) (hv:Vis X.env.scope x:=by first|exact Or.inl rfl|exact Or.inr (Or.inl rfl)|exact Or.inr (Or.inr rfl)) (hd:(x==("__debug__":Str))=false:=by decide)
  (hcd:(x==("__classdict__":Str))=false:=by decide):PE3 X (.Name x pos) (A1 i):=BK0 (BW8 hN hv hd hcd)
theorem WW {d:D}(h:PE X e (tC v))(hr:∀K M H,Rep K M H d v):PE3 X e (tC3 d):=PE3.of h fun pins s σv H σ M Q I hS hM q=>up0 hM (hr _ _ _) q
theorem BJ4 {i j pos}:PE3 X (.Constant (.int i) j pos) (tC3 (.int i)):=WW BW4 fun _ _ _=>.int
theorem BV7 {b j pos}:PE3 X (.Constant (.bool b) j pos) (tC3 (.bl b)):=WW CL9 fun _ _ _=>.bl
theorem BJ5 {j pos}:PE3 X (.Constant .none j pos) (tC3 .non):=WW BW5 fun _ _ _=>.non
theorem AI0 {x j pos}:PE3 X (.Constant (.str x) j pos) (tC3 (.str x)):=WW BW6 fun _ _ _=>.str
theorem AA {d:D}{pos:Pos}(hg:Gl X x)(hm:X.mg x=some u)(r:RelV v u)(hr:∀M H,Rep X.K M H d v)(hd:(x==("__debug__":Str))=false:=by decide):PE3 X (.Name x pos) (tC3 d) :=
 PE3.of (BK5 hg hm r hd) fun pins s σv H σ M Q I hS hM q=>up0 hM (hr _ _) q
def A2:TA3:=fun _ M Q=>Q [] M
def A0 (ta:TE3)(tr:TA3):TA3:=fun σ M Q=>ta σ M fun x M1=>tr σ M1 fun xs M2=>Q (x::xs) M2
theorem BJ1:PA3 X [] A2:=fun pos pins s σv H σ M Q I hS hM h=>Calls.spliced_nil ⟨[],[],M,H,I,.refl,hM,.nil,.nil,h⟩
theorem AX4 (ha:PE3 X e te)(hr:PA3 X es t)(hs:CY3 (e::es) X.env=(false,eval e X.env)::CY3 es X.env:=by rfl):PA3 X (e::es) (A0 te t):=by
 intro pos pins s σv H σ M Q I hS hM h
 rw[hs]
 show wpAny _ _ (spliced ((false,eval e X.env)::DK1 pos (CY3 es X.env))) _ _ s
 refine Calls.spliced_cons (thn (ha pins s σv H σ M _ I hS hM h) fun u s1 ⟨x,xv,M1,H1,I1,st1,m1,rv1,p1,q1⟩=>?_)
 exact thn (hr pos pins s1 σv H1 σ M1 _ I1 (hS.mono st1) m1 q1) fun us s2 ⟨xs,xvs,M2,H2,I2,st2,m2,rv2,p2,q2⟩=>⟨x::xs,xv::xvs,M2,H2,I2,st1.trans st2,m2,.cons rv1 rv2,.cons (p1.mono st2) p2,q2⟩
def A5 (t:TA3):TE3:=fun σ M Q=>t σ M fun xs M1=>xs.length<=CV8/\Q (.tup xs) M1
def E9 (t:TA3):TE3:=fun σ M Q=>t σ M fun xs M1=>xs.length<=CV8/\Q (.lst xs) M1
def GU (t:TA3):TE3:=fun σ M Q=>t σ M fun xs M1=>xs.length<=CV8/\∀p,M1 p=none->Q (.ref p) (D3 M1 p (.lst xs))
theorem BJ9 {x1}(h:PA3 X es t):PE3 X (.Tuple es x1 pos) (A5 t):=PE3.of (BW7 h.dn) fun pins s σv H σ M Q I hS hM h=>by
 refine⟨σ,M,_,hS,hM,h,fun ds vs M' H' st m r ⟨hl,q⟩=>⟨by rw[<-r.length];exact hl,fun p hp=>?_⟩⟩
 exact⟨.tup ds,M',st.trans (Step.lay hp),m.lay hp,.tup (.inl ⟨.inl D4,m.free hp⟩) (r.mono (Step.lay hp)),q⟩
theorem AH9 (h:PA3 X es t):PE3 X (.List es pos) (E9 t):=PE3.of (AY5 h.dn) fun pins s σv H σ M Q I hS hM h=>by
 refine⟨σ,M,_,hS,hM,h,fun ds vs M' H' st m r ⟨hl,q⟩=>⟨by rw[<-r.length];exact hl,fun p hp=>?_⟩⟩
 exact⟨.lst ds,M',st.trans (Step.lay hp),m.lay hp,.lst (.inl ⟨.inl D4,m.free hp⟩) (r.mono (Step.lay hp)),q⟩
theorem AY3 (h:PA3 X es t):PE3 X (.List es pos) (GU t):=PE3.of (AY5 h.dn) fun pins s σv H σ M Q I hS hM h=>by
 refine⟨σ,M,_,hS,hM,h,fun ds vs M' H' st m r ⟨hl,q⟩=>⟨by rw[<-r.length];exact hl,fun p hp=>?_⟩⟩
 exact⟨.ref p,D3 M' p (.lst ds),st.trans (Step.put (.inl hp)),m.put (.inl hp) r,.ref,q p (m.free hp)⟩
end
section
variable {X:Cx}
def rI3 (C:Int->Int->Prop)(g:Int->Int->D):R3:=fun x y M Q=>match x,y with
 | .int i,.int j=>C i j/\Q (g i j) M
 | _,_=>False
def JM (g:Int->Int->D):R3:=fun x y M Q=>match x,y with
 | .int i,.int j=>Q (g i j) M
 | _,_=>False
theorem AH8 {C:Int->Int->Prop}{g:Int->Int->Int}(h:OpR X f (rI C fun i j=>.int (g i j))):OpR3 X f (rI3 C fun i j=>.int (g i j)) :=
 OpR3.of h fun H M x y xv yv Q m px py q=>by
  cases x<;>cases y<;>first|exact q.elim|skip
  cases px;cases py
  exact⟨_,_,rfl,rfl,q.1,up0 m .int q.2⟩
theorem BV1 {g:Int->Int->Int}(h:OpR X f (rI0 fun i j=>.int (g i j))):OpR3 X f (JM fun i j=>.int (g i j)) :=
 OpR3.of h fun H M x y xv yv Q m px py q=>by
  cases x<;>cases y<;>first|exact q.elim|skip
  cases px;cases py
  exact⟨_,_,rfl,rfl,up0 m .int q⟩
theorem TH {g:Int->Int->Bool}(h:OpR X f (rI0 fun i j=>.bl (g i j))):OpR3 X f (JM fun i j=>.bl (g i j)) :=
 OpR3.of h fun H M x y xv yv Q m px py q=>by
  cases x<;>cases y<;>first|exact q.elim|skip
  cases px;cases py
  exact⟨_,_,rfl,rfl,up0 m .bl q⟩
def AD5 (i j:Int):Prop:=CMul i j\/(i.natAbs<2^4096/\j.natAbs<2^4096)
theorem bits_le {i:Int}(h:i.natAbs<2^4096):DL4 i<=4096:=by
 unfold DL4
 split
 ·lia
 ·rename_i hi
  have h0:i.natAbs≠0:=by intro z;apply hi;have:i=0:=by lia
                         subst this;rfl
  have:=(Nat.log2_lt h0).mpr h
  lia
theorem BU0 {i j:Int}(h:AD5 i j):IntMulOk i j:=by
 rcases h with h|⟨h1,h2⟩
 ·exact h.ok
 ·have b1:=bits_le h1
  have b2:=bits_le h2
  unfold IntMulOk Builtin.Int.intTooBig
  have:decide (((DL4 i+DL4 j:Nat):Int)>((bitsLine:Nat):Int))=false:=by
   refine decide_eq_false ?_
   have:bitsLine=134217728:=rfl
   lia
  intro z
  simp only[CX9] at z
  have z2:=z.2
  simp only[Int.natCast_add] at this
  rw[this] at z2;cases z2
theorem BJ0:OpR X (DG2 .Mult) (rI AD5 fun i j=>.int (i*j)):=opI fun _ _ _ _ _ _ _ hc q=>mul_int q (BU0 hc)
def VN (i j:Int):Prop:=0<j/\j.natAbs<2^4096
theorem AW7:OpR X (DG2 .FloorDiv) (rI VN fun i j=>.int (i / j)):=opI fun i j _ _ _ _ _ hc q=>by
 have h1:(0:Int)<j:=hc.1
 refine floordiv_int (by lia) (by rw[Int.fdiv_eq_ediv_of_nonneg i (by lia)];exact q) (.inl (PyProof.noPylong_of_log2 ?_))
 have h0:j.natAbs≠0:=by lia
 have:=(Nat.log2_lt h0).mpr hc.2
 lia
theorem BU9:OpR3 X (DG2 .Sub) (JM fun i j=>.int (i-j)):=BV1 BV6
theorem BU7:OpR3 X (DG2 .Mult) (rI3 AD5 fun i j=>.int (i*j)):=AH8 BJ0
theorem BI5:OpR3 X (DG2 .FloorDiv) (rI3 VN fun i j=>.int (i / j)):=AH8 AW7
theorem BU6:OpR3 X (DG2 .Mod) (rI3 (fun _ j=>0<j) fun i j=>.int (i % j)):=AH8 BV4
theorem BU8:OpR3 X (DG2 .Pow) (rI3 AQ0 fun i j=>.int (i^j.toNat)):=AH8 BV5
theorem CG9:OpR3 X (DB4 .Lt) (JM fun i j=>.bl (decide (i<j))):=TH CL5
theorem CG8:OpR3 X (DB4 .LtE) (JM fun i j=>.bl (decide (i<=j))):=TH CL4
theorem CG5:OpR3 X (DB4 .Gt) (JM fun i j=>.bl (decide (j<i))):=TH CL3
theorem CG4:OpR3 X (DB4 .GtE) (JM fun i j=>.bl (decide (j<=i))):=TH CL2
def rU3 (g:Int->Int):U3:=fun x M Q=>match x with
 | .int i=>Q (.int (g i)) M
 | _=>False
theorem CE1:UnR3 X (unaryOp .USub) (rU3 fun i=>-i):=UnR3.of CE2 fun H M x xv Q m px q=>by
 cases x<;>first|exact q.elim|skip
 cases px
 exact⟨_,rfl,up0 m .int q⟩
def C9:R3:=fun x y M Q=>match x,y with
 | .int i,.int j=>Q (.int (i+j)) M
 | .str a,.str b=>a.length+b.length<=CV8/\Q (.str (a++b)) M
 | .lst a,.lst b=>a.length+b.length<=CV8/\Q (.lst (a++b)) M
 | .tup a,.tup b=>a.length+b.length<=CV8/\Q (.tup (a++b)) M
 | _,_=>False
theorem BU4:OpR3 X (DG2 .Add) C9:=by
 intro pins s σv H M x y xv yv v u Q I m rx ry px py q
 cases x<;>cases y<;>first|exact q.elim|skip
 ·cases px;cases py
  exact thn (BV2 pins s σv H _ _ v u _ I rx ry ⟨_,_,rfl,rfl,up0 m .int q⟩) fun _ _ z=>U6 z
 ·cases px;cases py
  exact thn (ZU pins s σv H _ _ v u _ I rx ry ⟨_,_,rfl,rfl,q.1,up0 m .str q.2⟩) fun _ _ z=>U6 z
 ·cases px with|tup h1 r1=>cases py with|tup h2 r2 =>
  cases rx;cases ry
  obtain⟨its,e1,p1,z1⟩:=I.tuple (SqT.of3 h1)
  obtain⟨its2,e2,p2,z2⟩:=I.tuple (SqT.of3 h2)
  obtain⟨⟨cls,dd,data,sl⟩,ho,hc,n,hd⟩:=id p1
  obtain⟨⟨cls2,dd2,data2,sl2⟩,ho2,hc2,n2,hd2⟩:=id p2
  simp only at hc hd hc2 hd2
  subst hc hd hc2 hd2
  have l1:=r1.length
  have l2:=r2.length
  have l3:=e1.length
  have l4:=e2.length
  obtain⟨hz,q⟩:=q
  by_cases hA:its.toArray.isEmpty=true
  ·refine concat_meets ⟨_,ho,rfl⟩ ⟨_,ho2,rfl⟩ noFill_tuple_add seq_tuple_add DP3 DO6 (DN7 _ _) (tuple_addW0 _ _ _ _ n n2 dd dd2 sl sl2 hA) ⟨ho,ho2,?_⟩
   have h0:its=[]:=by simpa using hA
   subst h0
   cases e1
   cases r1
   exact⟨_,.ref _,M,H,I,.refl,m,rfl,.tup h2 r2,q⟩
  ·by_cases hB:its2.toArray.isEmpty=true
   ·refine concat_meets ⟨_,ho,rfl⟩ ⟨_,ho2,rfl⟩ noFill_tuple_add seq_tuple_add DP3 DO6 (DN7 _ _) (tuple_addW1 _ _ _ _ n n2 dd dd2 sl sl2 hA hB) ⟨ho,ho2,?_⟩
    have h0:its2=[]:=by simpa using hB
    subst h0
    cases e2
    cases r2
    rw[DF7] at q
    exact⟨_,.ref _,M,H,I,.refl,m,rfl,.tup h1 r1,q⟩
   ·refine concat_meets ⟨_,ho,rfl⟩ ⟨_,ho2,rfl⟩ noFill_tuple_add seq_tuple_add DP3 DO6 (DN7 _ _) (tuple_addW2 _ _ _ _ n n2 dd dd2 sl sl2 hA hB (by simp;lia)) ⟨ho,ho2,?_⟩
    have ea:its.toArray++its2.toArray=(its++its2).toArray:=by simp
    rw[ea]
    have hf:=I.fresh
    have rr:=r1.append r2
    refine⟨_,.ref s.heap.objs.size,M,_,I.laid (t':=s.toks) (o:=.tup _) (fun b ob q=>CU8 _ q) (CW1 _) ⟨by rw[CW3];lia,_,e1.append e2,IsTup.new _ _⟩,Step.lay hf,m.lay hf,rfl,.tup (.inl ⟨.inl D4,m.free hf⟩) (rr.mono (Step.lay hf)),q⟩
 ·cases px with|lst h1 r1=>cases py with|lst h2 r2 =>
  cases rx;cases ry
  obtain⟨its,e1,p1,z1⟩:=I.list (SqL.of3 h1)
  obtain⟨its2,e2,p2,z2⟩:=I.list (SqL.of3 h2)
  obtain⟨⟨cls,dd,data,sl⟩,ho,hc,n,hd⟩:=p1.isList
  obtain⟨⟨cls2,dd2,data2,sl2⟩,ho2,hc2,n2,hd2⟩:=p2.isList
  simp only at hc hd hc2 hd2
  subst hc hd hc2 hd2
  have l1:=r1.length
  have l2:=r2.length
  have l3:=e1.length
  have l4:=e2.length
  obtain⟨hz,q⟩:=q
  refine concat_meets ⟨_,ho,rfl⟩ ⟨_,ho2,rfl⟩ noFill_list_add seq_list_add PySem.F.slot_list_add PySem.F.entry_list_add (PySem.F.args_list_add_2 _ _) (list_addW _ _ _ _ n n2 dd dd2 sl sl2 (by simp;lia)) ⟨ho,ho2,?_⟩
  have ea:its.toArray++its2.toArray=(its++its2).toArray:=by simp
  rw[ea]
  have hf:=I.fresh
  have rr:=r1.append r2
  exact⟨_,.ref s.heap.objs.size,M,_,I.lnew (t':=s.toks) (e1.append e2) (by rw[CW3];lia),Step.lay hf,m.lay hf,rfl,.lst (.inl ⟨.inl D4,m.free hf⟩) (rr.mono (Step.lay hf)),q⟩
def dOk (d:D):Prop:=plain d=true/\(pyD d).canLay0=true/\(pyD d).depth<=60
def J4:R3:=fun x y M Q=>(dOk x/\dOk y/\Q (.bl (DF4 (pyD x) (pyD y))) M)\/∃a b,x=.str a/\y=.str b/\Q (.bl (a==b)) M
def CG:R3:=fun x y M Q=>(dOk x/\dOk y/\Q (.bl (!PyData.eqv (pyD x) (pyD y))) M)\/∃a b,x=.str a/\y=.str b/\Q (.bl (!(a==b))) M
theorem BP4 (hr:Room k X.A):OpR3 X (DB4 .Eq) J4:=by
 intro pins s σv H M x y xv yv v u Q I m rx ry px py h
 rcases h with⟨dx,dy,q⟩|⟨a,b,rfl,rfl,q⟩
 rotate_left
 ·cases px;cases py
  exact thn (CL1 pins s σv H _ _ v u _ I rx ry ⟨rfl,up0 m .bl (by rw[LL];exact q)⟩) fun _ _ z=>U6 z
 obtain⟨as,r1⟩:=Q0 I dx.1 px rx
 obtain⟨bs,r2⟩:=Q0 I dy.1 py ry
 exact SeqAt.compareEq_reads r1 r2 dx.2.1 dy.2.1 (by have:=hr.units;have:=dx.2.2;lia) ⟨_,.bl _,M,H,I,.refl,m,rfl,.bl,q⟩
theorem CH0 (hr:Room k X.A):OpR3 X (DB4 .NotEq) CG:=by
 intro pins s σv H M x y xv yv v u Q I m rx ry px py h
 rcases h with⟨dx,dy,q⟩|⟨a,b,rfl,rfl,q⟩
 rotate_left
 ·cases px;cases py
  exact thn (CL6 pins s σv H _ _ v u _ I rx ry ⟨rfl,up0 m .bl (by rw[LL];exact q)⟩) fun _ _ z=>U6 z
 obtain⟨as,r1⟩:=Q0 I dx.1 px rx
 obtain⟨bs,r2⟩:=Q0 I dy.1 py ry
 exact SeqAt.compareNe_reads r1 r2 dx.2.1 dy.2.1 (by have:=hr.units;have:=dx.2.2;lia) ⟨_,.bl _,M,H,I,.refl,m,rfl,.bl,q⟩
def BY0:R3:=fun x y M Q=>y=.non/\Q (.bl (match x with|.non=>true|_=>false)) M
theorem CG7:OpR3 X (DB4 .Is) BY0:=OpR3.of BV3 fun H M x y xv yv Q m px py hx0=>by
 obtain⟨e,q⟩:=hx0
 subst e;cases py
 refine⟨rfl,?_⟩
 cases px<;>exact up0 m .bl (by simpa using q)
variable {a b e:Expr}{ta tb te:TE3}{pos:Pos}
def C6:R3:=fun x y M Q=>match x,y with
 | .lst ds,.int i=>∃d,atI ds i=some d/\Q d M
 | .tup ds,.int i=>∃d,atI ds i=some d/\Q d M
 | .ref a,.int i=>∃ds d,M a=some (.lst ds)/\atI ds i=some d/\Q d M
 | .str z,.int i=>z.length<=CV8/\∃c,atI z.cps.toList i=some c/\Q (.str ⟨#[c]⟩) M
 | _,_=>False
theorem Reps.atI {M:Mem}{ds:List D}(r:Reps K M H ds vs){i:Int}{d:D}(h:L2.atI ds i=some d):∃v,L2.atI vs i=some v/\Rep K M H d v:=by
 unfold L2.atI at h ⊢
 rw[<-r.length]
 cases e:ixN ds.length i with
 | none=>rw[e] at h;cases h
 | some j =>
  rw[e] at h
  exact r.get (show ds[j]?=some d from h)
theorem AY1 (ha:PE3 X a ta)(hb:PE3 X b tb)(hs:AD6 b):PE3 X (.Subscript a b pos) (A3 C6 ta tb):=by
 intro pins s σv H σ M Q I hS hM h
 refine Subscript_ (thn (ha pins s σv H σ M _ I hS hM h) fun v s1 ⟨x,xv,M1,H1,I1,st1,m1,rv1,p1,q1⟩ =>
  thn (hb pins s1 σv H1 σ M1 _ I1 (hS.mono st1) m1 q1) fun u s2 ⟨y,yv,M2,H2,I2,st2,m2,rv2,p2,q2⟩=>?_)
 have fin:rIx X.K xv yv H2 (Up X.K M2 H2 Q):=by
  have p1':=p1.mono st2
  cases x<;>cases y<;>first|exact q2.elim|skip
  ·cases p1';cases p2
   obtain⟨hz,c,hc,q⟩:=q2
   exact .inr (.inr ⟨_,_,c,rfl,rfl,hz,hc,up0 m2 .str q⟩)
  ·cases p1';cases p2
   obtain⟨ds,d,hm,hd,q⟩:=q2
   obtain⟨ho,e1,r⟩:=m2 _ _ hm
   cases ho<;>first|exact r.elim|skip
   obtain⟨v',hv,rv⟩:=Reps.atI r hd
   exact .inl ⟨_,_,_,v',rfl,rfl,.inl (.inl e1),hv,up0 m2 rv q⟩
  ·cases p1' with|tup h1 r=>cases p2;obtain⟨d,hd,q⟩:=q2;obtain⟨v',hv,rv⟩:=Reps.atI r hd;exact .inr (.inl ⟨_,_,_,v',rfl,rfl,SqT.of3 h1,hv,up0 m2 rv q⟩)
  ·cases p1' with|lst h1 r=>cases p2;obtain⟨d,hd,q⟩:=q2;obtain⟨v',hv,rv⟩:=Reps.atI r hd;exact .inl ⟨_,_,_,v',rfl,rfl,SqL.of3 h1,hv,up0 m2 rv q⟩
 exact thn (BT0 a b pins s2 σv H2 xv yv v u _ I2 rv1 rv2 fin (hs _ _)) fun _ _ z=>(U6 z).trans (st1.trans st2)
def W1:Lo->Mem->(Option Int->Mem->Prop)->Prop:=fun _ M Q=>Q none M
def EE (t:TE3):Lo->Mem->(Option Int->Mem->Prop)->Prop:=fun σ M Q=>t σ M fun x M1=>match x with
 | .int i=>Q (some i) M1
 | _=>False
abbrev TO3:=Lo->Mem->(Option Int->Mem->Prop)->Prop
def PO3 (X:Cx)(e:Option Expr)(t:TO3):Prop :=
 ∀(pins:List (Addr×Obj)) (s:CV4) (σv:L2.St) (H:Hp) (σ:Lo) (M:Mem) (Q:Option Int->Mem->Prop),Inv X pins σv H s->SRel X.K M H σ σv->MRel X.K M H->t σ M Q ->
  wpAny (model X.prog X.w) X.A (evalPart e X.env) (fun v s'=>∃o M' H',Inv X pins σv H' s'/\Step M H M' H'/\MRel X.K M' H'/\IsPart v o/\Q o M') X.xe s
theorem AZ5:PO3 X none W1:=by
 intro pins s σv H σ M Q I hS hM h
 rw[evalPart_none]
 exact CU7 ⟨none,M,H,I,.refl,hM,.none,h⟩
theorem AZ6 (h:PE3 X e te):PO3 X (some e) (EE te):=by
 intro pins s σv H σ M Q I hS hM hw
 rw[evalPart_some]
 refine thn (h pins s σv H σ M _ I hS hM hw) fun u s1 hx0=>?_
 obtain⟨x,xv,M1,H1,I1,st1,m1,rv1,p1,q1⟩:=hx0
 cases x<;>first|exact q1.elim|skip
 cases p1
 obtain⟨t,rfl⟩:=rv1
 exact⟨some _,M1,H1,I1,st1,m1,.int _ t,q1⟩
def cutD (xs:List D)(lo hi:Option Int):List D:=(xs.drop (HT.sIx xs.length 0 lo)).take (HT.sIx xs.length xs.length hi-HT.sIx xs.length 0 lo)
theorem Reps.cut {M:Mem}{ds:List D}(r:Reps K M H ds vs)(lo hi:Option Int):Reps K M H (cutD ds lo hi) (WB vs lo hi):=by
 unfold cutD WB
 rw[r.length]
 exact(r.drop _).take _
def BM7:D->Option Int->Option Int->Mem->DK->Prop:=fun x lo hi M Q=>match x with
 | .lst ds=>Q (.lst (cutD ds lo hi)) M
 | .tup ds=>¬(HT.sIx ds.length 0 lo=0/\HT.sIx ds.length ds.length hi=ds.length)/\Q (.tup (cutD ds lo hi)) M
 | _=>False
theorem AN6 {lo hi:Option Expr}{tl th:TO3}{p2:Pos}(he:PE3 X e te)(hl:PO3 X lo tl)(hu:PO3 X hi th) :
  PE3 X (.Subscript e (.Slice lo hi none p2) pos) (fun σ M Q=>te σ M fun x M1=>tl σ M1 fun l M2=>th σ M2 fun u M3=>BM7 x l u M3 Q):=by
 intro pins s σv H σ M Q I hS hM h
 refine Subscript_ (thn (he pins s σv H σ M _ I hS hM h) fun v s1 ⟨x,xv,M1,H1,I1,st1,m1,rv1,p1,q1⟩=>?_)
 refine wpAny_Slice (thn (hl pins s1 σv H1 σ M1 _ I1 (hS.mono st1) m1 q1) fun vl s2 ⟨l,M2,H2,I2,st2,m2,pl,q2⟩=>thn (hu pins s2 σv H2 σ M2 _ I2 (hS.mono (st1.trans st2)) m2 q2) fun vu s3 ⟨u,M3,H3,I3,st3,m3,pu,q3⟩=>?_)
 rw[evalPart_none]
 refine CU7 ?_
 have I4:Inv X pins σv H3 {s3 with heap:=s3.heap.push {cls:=.type "slice",data:=.fields #[vl,vu,.none]}}:=I3.kept (t':=s3.toks) fun b ob q=>CU8 _ q
 have p3:=p1.mono (st2.trans st3)
 have fin:BY3 X.K xv l u H3 (Up X.K M3 H3 Q)\/BY4 X.K xv l u H3 (Up X.K M3 H3 Q):=by
  cases x<;>first|exact q3.elim|skip
  ·cases p3 with|tup h1 r =>
   obtain⟨hw,q⟩:=q3
   rw[r.length] at hw
   exact .inr ⟨_,_,rfl,SqT.of3 h1,hw,fun p hp=>⟨_,M3,Step.lay hp,m3.lay hp,.tup (.inl ⟨.inl D4,m3.free hp⟩) ((r.cut l u).mono (Step.lay hp)),q⟩⟩
  ·cases p3 with|lst h1 r =>
   refine .inl ⟨_,_,rfl,SqL.of3 h1,fun p hp=>?_⟩
   exact⟨_,M3,Step.lay hp,m3.lay hp,.lst (.inl ⟨.inl D4,m3.free hp⟩) ((r.cut l u).mono (Step.lay hp)),q3⟩
 obtain⟨T,id,hT,ht,hg⟩:=(sl_list.or BC7) pins {s3 with heap:=s3.heap.push {cls:=.type "slice",data:=.fields #[vl,vu,.none]}} σv H3 xv v vl vu l u s3.heap.objs.size _ I4 rv1 (DP9 ..) pl pu fin
 show wpAny (model X.prog X.w) X.A (subscriptTail e (.Slice lo hi none p2) v (.ref s3.heap.objs.size)) (EP3 X pins σv M H Q) X.xe {s3 with heap:=s3.heap.push {cls:=.type "slice",data:=.fields #[vl,vu,.none]}}
 exact tail_any (ops:=[.ref s3.heap.objs.size,v]) ht hT (thn hg fun _ _ z=>(U6 z).trans ((st1.trans st2).trans st3)) (by with_unfolding_all rfl)
end
section
variable {X:Cx}{a b e o i value:Expr}{es:List Expr}{ta tb te td ty tv:TE3}{t:TA3}{pos p pos':Pos}{x:Str}{id T:String}{r:C3}
def C5 (r:C3)(t:TA3):TE3:=fun σ M Q=>t σ M fun ds M1=>r ds M1 Q
theorem AM8 (hc:CallR3 X (.builtin id) r)(hg:Gl X x)(hm:X.mg x=none)(hv:DB0 x=some (.builtin id))(ha:PA3 X (e::es) t)(hn:x≠"__name__":=by decide) (hdb:(x==("__debug__":Str))=false:=by decide)
  (he:CY3 (e::es) X.env=(false,eval e X.env)::CY3 es X.env:=by rfl) (hpl:(DK1 pos (CY3 es X.env)).any (·.1)=false:=by rfl):PE3 X (.Call (.Name x p) (e::es) [] pos) (C5 r t):=by
 intro pins s σv H σ M Q I hS hM h
 refine DF5 (CW I hg hm hv ?_ hn hdb)
 exact DJ5 (thn (ha pos pins s σv H σ M _ I hS hM h) fun us s1 ⟨ds,vs,M1,H1,I1,st1,m1,rv1,p1,q1⟩=>thn (hc pins s1 σv H1 M1 ds vs us Q I1 m1 rv1 p1 q1) fun _ _ z=>z.trans st1) he hpl
theorem ZW (hc:CallR3 X (.type T) r)(hg:Gl X x)(hm:X.mg x=none)(hv:DB0 x=some (.type T))(ha:PA3 X (e::es) t)(hn:x≠"__name__":=by decide) (hdb:(x==("__debug__":Str))=false:=by decide)
  (he:CY3 (e::es) X.env=(false,eval e X.env)::CY3 es X.env:=by rfl) (hpl:(DK1 pos (CY3 es X.env)).any (·.1)=false:=by rfl):PE3 X (.Call (.Name x p) (e::es) [] pos) (C5 r t):=by
 intro pins s σv H σ M Q I hS hM h
 refine DF5 (CW I hg hm hv ?_ hn hdb)
 exact DG3 (thn (ha pos pins s σv H σ M _ I hS hM h) fun us s1 ⟨ds,vs,M1,H1,I1,st1,m1,rv1,p1,q1⟩=>thn (hc pins s1 σv H1 M1 ds vs us Q I1 m1 rv1 p1 q1) fun _ _ z=>z.trans st1) he hpl
theorem AX5 {d:D}(hg:Gl X x)(hm:X.mg x=none)(hv:DB0 x=some u)(r:RelV v u)(hr:∀K M H,Rep K M H d v)(hn:x≠"__name__":=by decide) (hd:(x==("__debug__":Str))=false:=by decide):PE3 X (.Name x pos) (tC3 d) :=
 WW (BK1 hg hm hv r hn hd) hr
def E6:C3:=fun ds M Q=>match ds with
 | [.lst xs]=>Q (.int xs.length) M
 | [.tup xs]=>Q (.int xs.length) M
 | [.str z]=>z.length<=CV8/\Q (.int z.length) M
 | [.ref a]=>∃xs,M a=some (.lst xs)/\Q (.int xs.length) M
 | _=>False
theorem BR7:CallR3 X (.builtin "len") E6:=CallR3.of (call_len_seq.or RY) fun H M xs xvs Q m px q=>by
 rcases px with _|⟨pd,ps⟩;(exact(q:False).elim);rcases ps with _|⟨p2,ps2⟩;rotate_left;(first|exact(q:False).elim|(cases pd<;>exact(q:False).elim))
 cases pd with
 | lst h r=>exact .inl ⟨_,_,rfl,.inl (SqL.of3 h),by rw[<-r.length];exact up0 m .int q⟩
 | tup h r=>exact .inl ⟨_,_,rfl,.inr (SqT.of3 h),by rw[<-r.length];exact up0 m .int q⟩
 | str=>exact .inr ⟨_,rfl,q.1,up0 m .int q.2⟩
 | ref =>
  obtain⟨ds,hm,q⟩:=q
  obtain⟨ho,e1,r⟩:=m _ _ hm
  cases ho<;>first|exact r.elim|skip
  have r':Reps X.K M H ds _:=r
  exact .inl ⟨_,_,rfl,.inl (.inl (.inl e1)),by rw[<-r'.length];exact up0 m .int q⟩
 | _=>exact(q:False).elim
def CA:C3:=fun ds M Q=>match ds with
 | [.int i]=>Q (.int (if i<0 then -i else i)) M
 | _=>False
theorem BR4:CallR3 X (.builtin "abs") CA:=CallR3.of AQ8 fun H M xs xvs Q m px q=>by
 rcases px with _|⟨pd,ps⟩;(exact(q:False).elim);rcases ps with _|⟨p2,ps2⟩;rotate_left;(first|exact(q:False).elim|(cases pd<;>exact(q:False).elim))
 cases pd with
 | int=>exact⟨_,rfl,up0 m .int q⟩
 | _=>exact(q:False).elim
def JN:C3:=fun ds M Q=>match ds with
 | [.lst xs]=>Q (.lst xs) M
 | [.tup xs]=>Q (.lst xs) M
 | _=>False
theorem AE1:CallR3 X (.type "list") JN:=CallR3.of SA fun H M xs xvs Q m px q=>by
 rcases px with _|⟨pd,ps⟩;(exact(q:False).elim);rcases ps with _|⟨p2,ps2⟩;rotate_left;(first|exact(q:False).elim|(cases pd<;>exact(q:False).elim))
 cases pd with
 | lst h r=>exact⟨_,_,rfl,.inl (SqL.of3 h),fun l hl=>⟨_,M,Step.lay hl,m.lay hl,.lst (.inl ⟨.inl D4,m.free hl⟩) (r.mono (Step.lay hl)),q⟩⟩
 | tup h r=>exact⟨_,_,rfl,.inr (SqT.of3 h),fun l hl=>⟨_,M,Step.lay hl,m.lay hl,.lst (.inl ⟨.inl D4,m.free hl⟩) (r.mono (Step.lay hl)),q⟩⟩
 | _=>exact(q:False).elim
def BC5 (d:D):Prop:=plain d=true/\(pyD d).showable=true/\(pyD d).hasDict=false/\(pyD d).depth<=60/\(pyD d).shown.length<=CV8
def BY2:C3:=fun ds M Q=>match ds with
 | [d]=>BC5 d/\Q (.str (pyD d).shown) M
 | _=>False
theorem W3 (hr:Room k X.A):CallR3 X (.builtin "repr") BY2:=by
 intro pins s σv H M xs xvs us Q I m rv px q
 rcases px with _|⟨pd,ps⟩;(exact(q:False).elim);rcases ps with _|⟨p2,ps2⟩;rotate_left;(first|exact(q:False).elim|(cases pd<;>exact(q:False).elim))
 ·rename_i d _
  obtain⟨⟨h1,h2,h3,h4,h5⟩,q⟩:=q
  obtain⟨u,rfl,ru⟩:=vals1 rv
  have hz:CV8=16777216:=CX1
  cases pd with
  | non=>cases ru;exact PySem.P.repr_of_none ⟨_,.str _,M,H,I.tok _,.refl,m,⟨_,rfl⟩,.str,q⟩
  | bl=>cases ru;exact PySem.P.repr_of_bool ⟨_,.str _,M,H,I.tok _,.refl,m,⟨_,rfl⟩,.str,q⟩
  | @int i =>
   obtain⟨t,rfl⟩:=ru
   exact PySem.P.repr_of_int (by simpa[pyD,DQ3] using h2) ⟨_,.str _,M,H,I.tok _,.refl,m,⟨_,rfl⟩,.str,q⟩
  | @str z =>
   obtain⟨t,rfl⟩:=ru
   exact PySem.P.repr_of_str ⟨_,.str _,M,H,I.tok _,.refl,m,⟨_,rfl⟩,.str,q⟩ (by simpa[pyD,PyData.shown] using h5)
  | @tup a ds vs h r =>
   cases ru
   obtain⟨as,rd⟩:=Q0 I h1 (.tup h r) rfl
   refine PySem.repr_of_reads' rd h2 (PyData.noDict_hsm h3) hr.gd (by have:=hr.units;lia) (fun b o e=>e) (fun h' u tk kp=>?_) h5
   exact⟨_,.str _,M,H,I.kept (t':=tk) kp,.refl,m,⟨_,rfl⟩,.str,q⟩
  | @lst a ds vs h r =>
   cases ru
   obtain⟨as,rd⟩:=Q0 I h1 (.lst h r) rfl
   refine PySem.repr_of_reads' rd h2 (PyData.noDict_hsm h3) hr.gd (by have:=hr.units;lia) (fun b o e=>e) (fun h' u tk kp=>?_) h5
   exact⟨_,.str _,M,H,I.kept (t':=tk) kp,.refl,m,⟨_,rfl⟩,.str,q⟩
  | dct _ _=>exact absurd h1 (by simp[plain])
  | ty=>exact absurd h1 (by simp[plain])
  | ref=>exact absurd h1 (by simp[plain])
def tyN:D->String
 | .non=>"NoneType"|.bl _=>"bool"|.int _=>"int"|.str _=>"str"|.tup _=>"tuple"|.lst _=>"list"|.dct _=>"dict"|.ty _=>"type"|.ref _=>""
def isIn (n T:String):Bool:=n==T || (n=="bool" && T=="int")
def IG:D->Prop
 | .ref _=>False
 | .ty _=>False
 | _=>True
def K3:C3:=fun ds M Q=>match ds with
 | [d,.ty T]=>IG d/\(T="bool"\/T="int"\/T="str"\/T="tuple"\/T="list")/\Q (.bl (isIn (tyN d) T)) M
 | _=>False
theorem BT7 {n T:String}(hn:n="NoneType"\/n="bool"\/n="int"\/n="str"\/n="tuple"\/n="list"\/n="dict")(hT:T="bool"\/T="int"\/T="str"\/T="tuple"\/T="list") :
  PySem.W.kitOne K (.type n) (.type T)=some (isIn n T):=by
 rcases hn with rfl|rfl|rfl|rfl|rfl|rfl|rfl<;>rcases hT with rfl|rfl|rfl|rfl|rfl<;>kernel_rfl
end
section
variable {X:Cx}{a b e o i value:Expr}{es:List Expr}{ta tb te td ty tv:TE3}{t:TA3}{pos p pos':Pos}{x:Str}
theorem BR6:CallR3 X (.builtin "isinstance") K3:=by
 intro pins s σv H M xs xvs us Q I m rv px q
 have fin:∀(d:D) (T:String) (v:V) (u:Value) (n:String) (hn:n="NoneType"\/n="bool"\/n="int"\/n="str"\/n="tuple"\/n="list"\/n="dict") (G:Heap->Prop),tyN d=n ->
   PySem.W.KitX X.K u (.type n) G->G s.heap->u≠.builtin "__main__.__loader__#opaque"->(T="bool"\/T="int"\/T="str"\/T="tuple"\/T="list")/\Q (.bl (isIn (tyN d) T)) M ->
   wpAny (model X.prog X.w) X.A (call (.builtin "isinstance") [u,.type T]) (EP3 X pins σv M H Q) X.xe s:=by
  intro d T v u n hn G e1 kx g hu ⟨hT,q⟩
  subst e1
  exact PySem.W.kia_one kx I.kIn g (BT7 hn hT) hu fun tk=>⟨_,.bl _,M,H,I.tok tk,.refl,m,rfl,.bl,q⟩
 match xs,px,q with
 | [d,.ty T],.cons pd (.cons .ty .nil),q =>
  obtain⟨u,u',rfl,ru,ru'⟩:=vals2 rv
  cases ru'
  obtain⟨hd,q⟩:=q
  cases pd with
  | non=>cases ru;exact fin .non T .non _ _ (.inl rfl) _ rfl PySem.W.kitx_none True.intro (fun z=>nomatch z) q
  | @bl k=>cases ru;exact fin (.bl k) T .non _ _ (.inr (.inl rfl)) _ rfl PySem.W.kitx_bool True.intro (fun z=>nomatch z) q
  | @int k=>obtain⟨t,rfl⟩:=ru;exact fin (.int k) T .non _ _ (.inr (.inr (.inl rfl))) _ rfl PySem.W.kitx_int True.intro (fun z=>nomatch z) q
  | @str k=>obtain⟨t,rfl⟩:=ru;exact fin (.str k) T .non _ _ (.inr (.inr (.inr (.inl rfl)))) _ rfl PySem.W.kitx_str True.intro (fun z=>nomatch z) q
  | @tup a k vs h r =>
   cases ru
   obtain⟨its,_,⟨ob,h1,h2,_⟩,_⟩:=I.tuple (SqT.of3 h)
   exact fin (.tup k) T .non _ _ (.inr (.inr (.inr (.inr (.inl rfl))))) _ rfl PySem.W.kitx_tuple ⟨ob,h1,h2⟩ (fun z=>nomatch z) q
  | @lst a k vs h r =>
   cases ru
   obtain⟨its,_,⟨ob,n,h1,h2,_⟩,_⟩:=I.list (SqL.of3 h)
   exact fin (.lst k) T .non _ _ (.inr (.inr (.inr (.inr (.inr (.inl rfl)))))) _ rfl PySem.W.kitx_list ⟨ob,h1,h2⟩ (fun z=>nomatch z) q
  | @dct a k vs h r =>
   cases ru
   obtain⟨_,_,vs,_,ob,es,ep,h1,h2,_⟩:=QR I.hok h.1
   exact fin (.dct k) T .non _ _ (.inr (.inr (.inr (.inr (.inr (.inr rfl)))))) _ rfl PySem.W.kitx_dict ⟨ob,h1,h2.1⟩ (fun z=>nomatch z) q
  | ty=>exact hd.elim
  | ref=>exact hd.elim
def N7 (kds:List (Key×D))(k:Key):Option D:=(kds.find? fun kv=>decide (kv.1=k)).map (·.2)
def putD (kds:List (Key×D))(k:Key)(d:D):List (Key×D) :=
 if (kds.any fun kv=>decide (kv.1=k))=true then kds.map (fun kv=>if kv.1=k then(kv.1,d) else kv) else kds++[(k,d)]
def MX (kds more:List (Key×D)):List (Key×D):=more.foldl (fun acc kv=>putD acc kv.1 kv.2) kds
def kD:Key->D
 | .inl i=>.int i
 | .inr x=>.str x
def dK?:D->Option Key
 | .int i=>some (.inl i)
 | .str x=>some (.inr x)
 | _=>none
section
variable {K:CV3}{M:Mem}{H:Hp}
theorem RepK.length {kds:List (Key×D)}(r:RepK K M H kds kvs):kds.length=kvs.length:=by
 induction kds generalizing kvs with
 | nil=>cases r;rfl
 | cons d ds ih=>cases r with|cons a b=>rw[CV6,CV6,ih b]
theorem RepK.val {kds:List (Key×D)}(r:RepK K M H kds kvs)(k:Key):(∃d v,N7 kds k=some d/\EG kvs k=some v/\Rep K M H d v)\/(N7 kds k=none/\EG kvs k=none):=by
 induction kds generalizing kvs with
 | nil=>cases r;exact .inr ⟨rfl,rfl⟩
 | cons d ds ih =>
  cases r with
  | @cons k' d v ds vs a b =>
   by_cases e:k'=k
   ·exact .inl ⟨d,v,by simp[N7,e],by simp[EG,e],a⟩
   ·have e1:N7 ((k',d)::ds) k=N7 ds k:=by simp[N7,e]
    have e2:EG ((k',v)::vs) k=EG vs k:=by simp[EG,e]
    rw[e1,e2];exact ih b
theorem RepK.some {kds:List (Key×D)}(r:RepK K M H kds kvs){k:Key}{d:D}(h:N7 kds k=Option.some d):∃v,EG kvs k=Option.some v/\Rep K M H d v:=by
 rcases r.val k with⟨d',v,e1,e2,q⟩|⟨e1,_⟩
 ·rw[h] at e1;cases e1;exact⟨v,e2,q⟩
 ·rw[h] at e1;cases e1
theorem RepK.anyK {kds:List (Key×D)}(r:RepK K M H kds kvs)(k:Key):(kds.any fun kv=>decide (kv.1=k))=kvs.any fun kv=>decide (kv.1=k):=by
 induction kds generalizing kvs with
 | nil=>cases r;rfl
 | cons d ds ih=>cases r with|cons a b=>rw[DJ9,DJ9,ih b]
theorem RepK.repl {kds:List (Key×D)}(r:RepK K M H kds kvs)(k:Key){d:D}(q:Rep K M H d v):RepK K M H (kds.map (fun kv=>if kv.1=k then(kv.1,d) else kv)) (kvs.map (fun kv=>if kv.1=k then(kv.1,v) else kv)):=by
 induction kds generalizing kvs with
 | nil=>cases r;exact .nil
 | cons d' ds ih =>
  cases r with
  | @cons k' d' v' ds vs a b =>
   rw[CW9,CW9]
   by_cases e:k'=k
   ·simp only[e,if_true];exact .cons q (ih b)
   ·simp only[e,if_false];exact .cons a (ih b)
theorem RepK.snoc {kds:List (Key×D)}(r:RepK K M H kds kvs)(k:Key){d:D}(q:Rep K M H d v):RepK K M H (kds++[(k,d)]) (kvs++[(k,v)]):=by
 induction kds generalizing kvs with
 | nil=>cases r;exact .cons q .nil
 | cons d' ds ih=>cases r with|cons a b=>exact .cons a (ih b)
theorem RepK.put {kds:List (Key×D)}(r:RepK K M H kds kvs)(k:Key){d:D}(q:Rep K M H d v):RepK K M H (putD kds k d) (putK kvs k v):=by
 unfold putD putK
 rw[r.anyK]
 split
 ·exact r.repl k q
 ·exact r.snoc k q
theorem RepK.merge {more:List (Key×D)}{mv:List (Key×V)}(q:RepK K M H more mv):∀{kds:List (Key×D)} {kvs:List (Key×V)},RepK K M H kds kvs->RepK K M H (MX kds more) (JG kvs mv):=by
 induction more generalizing mv with
 | nil=>cases q;exact fun r=>r
 | cons d ds ih=>cases q with|cons a b=>exact fun r=>ih b (r.put _ a)
theorem LV {k:Key}(r:Rep K M H (kD k) v):v=kV k:=by
 cases k<;>(cases r;rfl)
theorem AR8 {d:D}{k:Key}(h:dK? d=Option.some k):d=kD k:=by
 cases d<;>first|(cases h;rfl)|cases h
end
def O8:R3:=fun x y M Q=>∃k d,dK? y=some k/\(match x with
 | .dct kds=>N7 kds k=some d
 | .ref a=>∃kds,M a=some (.dct kds)/\N7 kds k=some d
 | _=>False)/\Q d M
theorem AX8 (hu:X.A.units+1<cLine)(ho:PE3 X o td)(hi:PE3 X i ty)(hs:BF3 i):PE3 X (.Subscript o i pos) (A3 O8 td ty):=PE3.of (BK3 hu ho.dn hi.dn hs) fun pins s σv H σ M Q I hS hM h=>by
 refine⟨σ,M,_,hS,hM,h,fun x xv M1 H1 st1 m1 p1 q1=>⟨σ,M1,_,hS.mono st1,m1,q1,fun y yv M2 H2 st2 m2 p2 q2=>?_⟩⟩
 obtain⟨k,d,hk,hx,q⟩:=q2
 have hy:=AR8 hk
 subst hy
 have ey:=LV p2
 subst ey
 have p1':=p1.mono st2
 cases x<;>first|exact hx.elim|skip
 ·cases p1'
  obtain⟨kds,hm,hv⟩:=hx
  obtain⟨ho,e1,r⟩:=m2 _ _ hm
  cases ho<;>first|exact r.elim|skip
  obtain⟨v,hv',rv⟩:=RepK.some r hv
  exact⟨_,v,rfl,.inl ⟨_,k,.inl e1,rfl,hv'.symm⟩,d,M2,st1.trans st2,m2,rv,q⟩
 ·cases p1' with
  | dct hf r =>
   obtain⟨v,hv',rv⟩:=RepK.some r hx
   exact⟨_,v,rfl,.inl ⟨_,k,hf.1,rfl,hv'.symm⟩,d,M2,st1.trans st2,m2,rv,q⟩
def BH (td ty tv:TE3):TS3:=fun T σ M=>tv σ M fun d M1=>td σ M1 fun x M2=>ty σ M2 fun y M3=>∃k a kds,dK? y=some k/\x=.ref a/\M3 a=some (.dct kds)/\kds.length<CV8/\T.nx σ (D3 M3 a (.dct (putD kds k d)))
theorem AZ9 (hu:X.A.units+1<cLine)(ho:PE3 X o td)(hi:PE3 X i ty)(hv:PE3 X value tv)(hs:DM5 value (some (.Subscript o i pos')) pos.line X.env=pure false) :
  PS3 X (.Assign [.Subscript o i pos'] value pos) (BH td ty tv):=PS3.of (BL6 hu ho.dn hi.dn hv.dn hs) fun pins s σv H σ M T I hS hM h=>by
 refine⟨σ,M,_,hS,hM,h,fun d v M1 H1 st1 m1 p1 q1=>⟨σ,M1,_,hS.mono st1,m1,q1,fun x xv M2 H2 st2 m2 p2 q2=>⟨σ,M2,_,hS.mono (st1.trans st2),m2,q2,fun y yv M3 H3 st3 m3 p3 q3=>?_⟩⟩⟩
 obtain⟨k,a,kds,hk,rfl,hm,hl,q⟩:=q3
 have hy:=AR8 hk
 subst hy
 have ey:=LV p3
 subst ey
 cases p2
 obtain⟨ho,e1,r⟩:=m3 _ _ hm
 cases ho<;>first|exact r.elim|skip
 have r':RepK X.K M3 H3 kds _:=r
 have hne:H3 a=none\/M3 a≠none:=.inr (by rw[hm];intro z;cases z)
 have pd:=p1.mono (st2.trans st3)
 refine⟨a,_,rfl,.inl ⟨_,k,e1,rfl,by rw[<-r'.length];exact hl,rfl⟩,σ,D3 M3 a (.dct (putD kds k d)),((st1.trans st2).trans st3).trans (Step.put hne),m3.put hne (r'.put k pd),?_,q⟩
 exact hS.mono (((st1.trans st2).trans st3).trans (Step.put hne))
def BJ:List (TE3×TE3)->Lo->Mem->(List (D×D)->Mem->Prop)->Prop
 | [],_,M,Q=>Q [] M
 | (tk,tv)::r,σ,M,Q=>tk σ M fun x M1=>tv σ M1 fun y M2=>BJ r σ M2 fun ps M3=>Q ((x,y)::ps) M3
def BF4 (X:Cx)(pos:Pos)(keys:List (Option Expr))(values:List Expr)(trs:List (TE3×TE3)):Prop:=PPs X pos keys values (trs.map fun z=>(dnE X.K z.1,dnE X.K z.2))
theorem AZ7:BF4 X pos [] [] []:=BL1
theorem AO1 {k v:Expr}{ks:List (Option Expr)}{vs:List Expr}{tk tv:TE3}{trs:List (TE3×TE3)}(hk:PE3 X k tk)(hv:PE3 X v tv)(hr:BF4 X pos ks vs trs):BF4 X pos (some k::ks) (v::vs) ((tk,tv)::trs):=AZ8 hk.dn hv.dn hr
inductive RepP (K:CV3)(M:Mem)(H:Hp):List (D×D)->List (V×V)->Prop
 | nil:RepP K M H [] []
 | cons {d1 d2:D} {v1 v2:V} {ds:List (D×D)} {vs:List (V×V)}:Rep K M H d1 v1->Rep K M H d2 v2->RepP K M H ds vs->RepP K M H ((d1,d2)::ds) ((v1,v2)::vs)
theorem RR {K:CV3}:∀(trs:List (TE3×TE3)) {σ:Lo} {σv:L2.St} {M:Mem} {H:Hp} {Q:List (D×D)->Mem->Prop} {Q2:List (V×V)->Hp->Prop},SRel K M H σ σv->MRel K M H->BJ trs σ M Q ->
  (∀ps vs M' H',Step M H M' H'->MRel K M' H'->RepP K M' H' ps vs->Q ps M'->Q2 vs H')->VF (trs.map fun z=>(dnE K z.1,dnE K z.2)) σv H Q2
 | [],σ,σv,M,H,Q,Q2,hS,hM,h,hq=>hq [] [] M H .refl hM .nil h
 | (tk,tv)::r,σ,σv,M,H,Q,Q2,hS,hM,h,hq=>by
  refine⟨σ,M,_,hS,hM,h,fun x xv M1 H1 st1 m1 p1 q1=>⟨σ,M1,_,hS.mono st1,m1,q1,fun y yv M2 H2 st2 m2 p2 q2=>?_⟩⟩
  refine RR r (hS.mono (st1.trans st2)) m2 q2 fun ps vs M3 H3 st3 m3 p3 q3=>?_
  exact hq _ _ M3 H3 ((st1.trans st2).trans st3) m3 (.cons (p1.mono (st2.trans st3)) (p2.mono st3) p3) q3
def VE (trs:List (TE3×TE3)):TE3:=fun σ M Q=>∀p,M p=none->BJ trs σ (D3 M p (.dct [])) fun ps M1=>M1 p=some (.dct []) /\
 ∃kds:List (Key×D),ps=kds.map (fun kd=>(kD kd.1,kd.2))/\kds.length<=15/\Q (.ref p) (D3 M1 p (.dct (MX [] kds)))
theorem RK {K:CV3}{M:Mem}{H:Hp}:∀(kds:List (Key×D)) {vs:List (V×V)},RepP K M H (kds.map (fun kd=>(kD kd.1,kd.2))) vs->∃kvs:List (Key×V),vs=kvs.map (fun kv=>(kV kv.1,kv.2))/\RepK K M H kds kvs
 | [],vs,r=>by cases r;exact⟨[],rfl,.nil⟩
 | (k,d)::kds,vs,r=>by
  cases r with
  | cons a b c =>
   obtain⟨kvs,e,q⟩:=RK kds c
   have ek:=LV a
   subst ek e
   exact⟨(k,_)::kvs,rfl,.cons b q⟩
theorem AN3 {keys:List (Option Expr)}{values:List Expr}{trs:List (TE3×TE3)}(h:BF4 X pos keys values trs)(hall:keys.all (·.isSome)=true)(hl:keys.length=values.length)(h0:keys≠[])(h15:keys.length<=15) :
  PE3 X (.Dict keys values pos) (VE trs):=PE3.of (BK4 h hall hl h0 h15) fun pins s σv H σ M Q I hS hM h=>by
 intro p hp
 have st0:Step M H (D3 M p (.dct [])) (upd H p (.dK [])):=Step.put (.inl hp)
 refine RR trs (hS.mono st0) (hM.put (.inl hp) (show RepK _ _ _ _ _ from .nil)) (h p (hM.free hp)) fun ps vs M1 H1 st1 m1 r1 hx0=>?_
 obtain⟨hm,kds,e,hl,q⟩:=hx0
 subst e
 obtain⟨kvs,rfl,rk⟩:=RK kds r1
 obtain⟨ho,e1,r⟩:=m1 _ _ hm
 cases ho<;>first|exact r.elim|skip
 have r':RepK X.K M1 H1 [] _:=r
 cases r'
 have hne:H1 p=none\/M1 p≠none:=.inr (by rw[hm];intro z;cases z)
 exact⟨e1,kvs,rfl,by rw[<-rk.length];exact hl,.ref p,D3 M1 p (.dct (MX [] kds)),(st0.trans st1).trans (Step.put hne),m1.put hne (rk.merge .nil),.ref,q⟩
end
def Vs (M:Mem)(d:D)(M':Mem)(d':D):Prop:=∀(K:CV3) (H:Hp) (v:V),MRel K M H->Rep K M H d v->MRel K M' H/\Rep K M' H d' v/\∀a,M' a≠none->M a≠none
section
variable {K:CV3}{M M':Mem}{H:Hp}
theorem Rep.shrink {d:D}(s:∀a,M a=none->M' a=none)(r:Rep K M H d v):Rep K M' H d v :=
 Rep.rec (motive_1:=fun d v _=>Rep K M' H d v) (motive_2:=fun ds vs _=>Reps K M' H ds vs) (motive_3:=fun ds vs _=>RepK K M' H ds vs)
  .non .bl .int .str .ty .ref (fun h _ ih=>.tup (h.imp (fun z=>⟨z.1,s _ z.2⟩) id) ih) (fun h _ ih=>.lst (h.imp (fun z=>⟨z.1,s _ z.2⟩) id) ih) (fun h _ ih=>.dct ⟨h.1,s _ h.2⟩ ih)
  .nil (fun _ _ a b=>.cons a b) .nil (fun _ _ a b=>.cons a b) r
theorem Reps.shrink {ds:List D}(s:∀a,M a=none->M' a=none)(r:Reps K M H ds vs):Reps K M' H ds vs:=by
 induction ds generalizing vs with
 | nil=>cases r;exact .nil
 | cons d ds ih=>cases r with|cons a b=>exact .cons (a.shrink s) (ih b)
theorem RepK.shrink {ds:List (Key×D)}{vs:List (Key×V)}(s:∀a,M a=none->M' a=none)(r:RepK K M H ds vs):RepK K M' H ds vs:=by
 induction ds generalizing vs with
 | nil=>cases r;exact .nil
 | cons d ds ih=>cases r with|cons a b=>exact .cons (a.shrink s) (ih b)
theorem RepT.shrink {ds:List (List Int×D)}{xs:List (List Int×Addr×Value)}(s:∀a,M a=none->M' a=none)(r:RepT K M H ds xs):RepT K M' H ds xs:=by
 induction r with
 | nil=>exact .nil
 | cons a b c _ ih=>exact .cons (a.shrink s) (b.shrink s) c ih
def Sub (M' M:Mem):Prop:=∀a o,M' a=some o->M a=some o
theorem Sub.refl:Sub M M:=fun _ _ h=>h
theorem Sub.none {a:Addr}(s:Sub M' M)(h:M a=Option.none):M' a=Option.none:=by
 cases e:M' a with
 | none=>rfl
 | some o=>rw[s a o e] at h;cases h
theorem MRel.sub (s:Sub M' M)(m:MRel K M H):MRel K M' H:=fun a o e=>by
 obtain⟨ho,e1,r⟩:=m a o (s a o e)
 refine⟨ho,e1,?_⟩
 cases o<;>cases ho<;>first|exact r.elim|exact Reps.shrink (fun _ z=>s.none z) r|exact RepK.shrink (fun _ z=>s.none z) r|(obtain⟨xs,e,r⟩:=r;exact⟨xs,e,r.shrink fun _ z=>s.none z⟩)
theorem Vs.sub (s:Sub M' M)(d:D):Vs M d M' d:=fun K H v m r=>⟨m.sub s,r.shrink fun _ z=>s.none z,fun a h z=>h (s.none z)⟩
theorem Vs.refl (d:D):Vs M d M d:=Vs.sub .refl d
theorem mdel_sub:Sub (Z0 M a) M:=fun b o h=>by
 unfold Z0 at h
 split at h
 ·cases h
 ·exact h
theorem AM0:Z0 M a a=none:=by unfold Z0;rw[if_pos rfl]
theorem Vs.frzL {ds:List D}(h:M a=some (.lst ds)):Vs M (.ref a) (Z0 M a) (.lst ds):=fun K H v m r=>by
 cases r
 obtain⟨ho,e1,q⟩:=m a _ h
 cases ho<;>first|exact q.elim|skip
 exact⟨m.sub mdel_sub,.lst (.inl ⟨.inl e1,AM0⟩) (Reps.shrink (fun _ z=>mdel_sub.none z) q),fun b hb z=>hb (mdel_sub.none z)⟩
theorem Step.less {M0:Mem}{H0:Hp}(s:Step M0 H0 M H)(h:∀a,M' a≠none->M a≠none):Step M0 H0 M' H:=⟨s.keep,fun a z=>s.dom a (h a z)⟩
end
section
variable {X:Cx}{a b e o i value:Expr}{es:List Expr}{ta tb te td ty tv:TE3}{t:TA3}{pos p pos':Pos}{x:Str}{st:Stmt}{rest:List Stmt}{t1 t2:TS3}
theorem SP3.trans {M M1:Mem}{H1:Hp}{T:Z3}{f:Flow}(s:Step M H M1 H1)(h:SP3 X pins M1 H1 T f s'):SP3 X pins M H T f s':=by
 cases f with
 | next=>obtain⟨σ',σv',M',H',I,st,r⟩:=h;exact⟨σ',σv',M',H',I,s.trans st,r⟩
 | brk=>obtain⟨σ',σv',M',H',I,st,r⟩:=h;exact⟨σ',σv',M',H',I,s.trans st,r⟩
 | cont=>obtain⟨σ',σv',M',H',I,st,r⟩:=h;exact⟨σ',σv',M',H',I,s.trans st,r⟩
 | ret u=>obtain⟨d,v,σv',M',H',I,st,r⟩:=h;exact⟨d,v,σv',M',H',I,s.trans st,r⟩
def B9:TS3:=fun T σ M=>T.nx σ M
def A6 (t u:TS3):TS3:=fun T σ M=>t {T with nx:=u T} σ M
theorem BA4:PSs3 X [] B9:=fun _ _ σv H σ M T I hS hM h=>wpAny_execs_nil ⟨σ,σv,M,H,I,.refl,hM,hS,h⟩
theorem AO3 (h1:PS3 X st t1)(h2:PSs3 X rest t2):PSs3 X (st::rest) (A6 t1 t2):=by
 intro pins s σv H σ M T I hS hM h
 refine wpAny_execs_cons (thn (h1 pins s σv H σ M {T with nx:=t2 T} I hS hM h) fun f s1 q=>?_)
 cases f with
 | next =>
  obtain⟨σ',σv',M',H',I',st,m',r',q⟩:=q
  exact thn (h2 pins s1 σv' H' σ' M' T I' r' m' q) fun _ _ z=>z.trans st
 | ret v=>exact q
 | brk=>exact q
 | cont=>exact q
theorem BA5 (h1:PS3 X st t1):PSs3 X [st] t1:=by
 intro pins s σv H σ M T I hS hM h
 refine wpAny_execs_cons (thn (h1 pins s σv H σ M T I hS hM h) fun f s1 q=>?_)
 cases f with
 | next=>exact wpAny_execs_nil q
 | ret v=>exact q
 | brk=>exact q
 | cont=>exact q
def BI (te:TE3):TS3:=fun T σ M=>te σ M fun _ M1=>T.nx σ M1
theorem BA0 (he:PE3 X e te)(hs:DM5 e none pos.line X.env=pure false:=by rfl):PS3 X (.Expr e pos) (BI te):=by
 intro pins s σv H σ M T I hS hM h
 exact wpAny_Expr_any (thn (he pins s σv H σ M _ I hS hM h) fun v s1 ⟨d,xv,M1,H1,I1,st1,m1,r1,p1,q1⟩=>⟨σ,σv,M1,H1,I1,st1,m1,hS.mono st1,q1⟩) I.quiet hs
def B1 (te:TE3):TS3:=fun T σ M=>te σ M T.rt
theorem BL4 (he:PE3 X e te):PS3 X (.Return (some e) pos) (B1 te):=by
 intro pins s σv H σ M T I hS hM h
 exact wpAny_Return_some (thn (he pins s σv H σ M _ I hS hM h) fun v s1 ⟨d,xv,M1,H1,I1,st1,m1,r1,p1,q1⟩=>⟨d,xv,σv,M1,H1,I1,st1,m1,r1,p1,q1⟩)
def C8 (c:TT3)(t u:TS3):TS3:=fun T σ M=>c σ M fun b M1=>if b=true then t T σ M1 else u T σ M1
theorem BX3 {c:Expr}{a b:List Stmt}{tc:TT3}(hc:PT3 X c tc)(ha:PSs3 X a t1)(hb:PSs3 X b t2):PS3 X (.If c a b pos) (C8 tc t1 t2):=by
 intro pins s σv H σ M T I hS hM h
 refine wpAny_If (thn (hc pins s σv H σ M _ I hS hM h) fun d s1 ⟨M1,H1,I1,st1,m1,q1⟩=>?_)
 cases d with
 | true=>exact thn (ha pins s1 σv H1 σ M1 T I1 (hS.mono st1) m1 q1) fun _ _ z=>z.trans st1
 | false=>exact thn (hb pins s1 σv H1 σ M1 T I1 (hS.mono st1) m1 q1) fun _ _ z=>z.trans st1
def B6 (i:Nat)(te:TE3):TS3:=fun T σ M=>te σ M fun d M1=>T.nx (σ.set i (some d)) M1
theorem BL5 {i:Nat}(hN:X.N.Nodup)(hi:X.N[i]?=some x)(hx:Loc X.env.scope x)(he:PE3 X e te)(hs:DM5 e (some (.Name x pos')) pos.line X.env=pure false:=by rfl) (hf:X.fn x=true\/X.env.scope.names.lookup x=some .local:=by first|exact .inl rfl|exact .inr rfl|assumption) :
  PS3 X (.Assign [.Name x pos'] e pos) (B6 i te):=PS3.of (BX5 hN hi hx he.dn hs hf) fun pins s σv H σ M T I hS hM h =>
 ⟨σ,M,_,hS,hM,h,fun d v M' H' st m r q=>⟨σ.set i (some d),M',st,m,(hS.mono st).set r i,q⟩⟩
def Wk (K:CV3)(J:It)(ds:List D)(M:Mem)(H:Hp):Prop:=∀M' H',Step M H M' H' ->
 (∀i,i<ds.length->J.go i H')/\(∀i d x H'',ds[i]?=some d->J.yld i H' x H''->H''=H'/\Rep K M' H' d x)/\∀i,ds.length<=i->J.stop i H'
abbrev TI3:=Lo->Mem->(List D->Mem->Prop)->Prop
def dnI (K:CV3)(t:TI3):TI:=fun σv H R2=>∃σ M R,SRel K M H σ σv/\MRel K M H/\t σ M R/\∀ds J M' H',Step M H M' H'->MRel K M' H'->Wk K J ds M' H'->R ds M'->R2 J H'
def PI3 (X:Cx)(tg iter:Expr)(t:TI3):Prop:=PI X tg iter (dnI X.K t)
theorem PI.weak {w1 w2:TI}(h:PI X tg iter w1)(hw:∀σ H R,w2 σ H R->w1 σ H R):PI X tg iter w2:=fun pins s σ H R I q=>h pins s σ H R I (hw _ _ _ q)
def X9 (ti:TI3)(i:Nat)(tb:TS3):TS3:=fun T σ M=>ti σ M fun ds M1=>∃Pv:Nat->Lo->Mem->Prop,Pv 0 σ M1 /\
 (∀k d σ M,ds[k]?=some d->Pv k σ M->tb {T with nx:=Pv (k+1),ct:=Pv (k+1),bk:=T.nx} (σ.set i (some d)) M)/\∀σ M,Pv ds.length σ M->T.nx σ M
theorem BL3 {ti:TI3}{tb:TS3}{i:Nat}{px:Pos}(hp:PassesOwn (model X.prog X.w) X.A X.env X.xe)(hc:X.calm=true)(hi:PI3 X (.Name x px) iter ti)
  (hN:X.N.Nodup) (hix:X.N[i]?=some x) (hx:Loc X.env.scope x) (hb:PSs3 X body tb)
  (hs:∀y,CY5 iter X.env y=pure y:=by intro _;rfl) (hf:X.fn x=true\/X.env.scope.names.lookup x=some .local:=by first|exact .inl rfl|exact .inr rfl|assumption) :
  PS3 X (.For (.Name x px) iter body [] pos) (X9 ti i tb):=PS3.of (BX4 hp hc hi (TP hN hix hx hf) hb.dn hs) fun pins s σv H σ M T I hS hM h=>by
 refine⟨σ,M,_,hS,hM,h,fun ds J M1 H1 st1 m1 wk ⟨Pv,p0,turn,done⟩=>?_⟩
 refine⟨fun k m σv' H'=>m=ds.length-k/\k<=ds.length/\∃σ' M',Step M1 H1 M' H'/\MRel X.K M' H'/\SRel X.K M' H' σ' σv'/\Pv k σ' M',⟨_,rfl,DC3 _,σ,M1,.refl,m1,hS.mono st1,p0⟩,?_⟩
 rintro k m σv' H' ⟨rfl,hk,σ',M',st',m',hS',pk⟩
 obtain⟨go,yld,stop⟩:=wk M' H' st'
 by_cases hlt:k<ds.length
 ·refine .inr ⟨go k hlt,fun σ2 H2=>∃σ'' M'',Step M1 H1 M'' H2/\MRel X.K M'' H2/\SRel X.K M'' H2 σ'' σ2/\Pv (k+1) σ'' M'',?_,?_⟩
  ·rintro σ2 H2 ⟨σ'',M'',q⟩
   exact⟨ds.length-(k+1),by lia,rfl,hlt,σ'',M'',q⟩
  ·intro y H'' hy
   obtain⟨rfl,ry⟩:=yld k ds[k] y H'' (by simp[hlt]) hy
   refine⟨σ'.set i (some ds[k]),M',_,hS'.set ry i,m',turn k ds[k] σ' M' (by simp[hlt]) pk,?_⟩
   exact⟨fun σ2 v2 M2 H2 s2 m2 r2 q2=>⟨σ2,M2,st'.trans s2,m2,r2,q2⟩,fun σ2 v2 M2 H2 s2 m2 r2 q2=>⟨σ2,M2,(st1.trans st').trans s2,m2,r2,q2⟩,
    fun σ2 v2 M2 H2 s2 m2 r2 q2=>⟨σ2,M2,st'.trans s2,m2,r2,q2⟩,fun d v2 M2 H2 s2 m2 r2 q2=>⟨d,M2,(st1.trans st').trans s2,m2,r2,q2⟩⟩
 ·have e:k=ds.length:=by lia
  subst e
  exact .inl ⟨stop _ (CW1 _),σ',M',st1.trans st',m',hS',done σ' M' pk⟩
def FL (ta:TA3):TI3:=fun σ M R=>ta σ M fun ds M1=>match ds with
 | [.int j]=>-(2^62)<=j/\j<2^62/\R ((CV7 j.toNat).map fun k=>D.int (k:Nat)) M1
 | _=>False
theorem AA2 (hg:Gl X "range")(hm:X.mg "range"=none)(ha:PA3 X [a] t)(hs:CY3 [a] X.env=[(false,eval a X.env)]:=by rfl):PI3 X tg (.Call (.Name "range" p) [a] [] pos) (FL t) :=
 PI.weak (AN9 hg hm ha.dn hs) fun σv H R2 hx0=>by
  obtain⟨σ,M,R,hS,hM,h,k⟩:=hx0
  refine⟨σ,M,_,hS,hM,h,fun ds vs M' H' st m r q=>?_⟩
  have px:=r
  clear r
  rcases px with _|⟨pd,ps⟩;(exact(q:False).elim);rcases ps with _|⟨p2,ps2⟩;rotate_left;(first|exact(q:False).elim|(cases pd<;>exact(q:False).elim))
  cases pd with
  | @int j =>
   obtain⟨h1,h2,q⟩:=q
   refine⟨j,rfl,h1,h2,k _ _ M' H' st m (fun M2 H2 s2=>⟨fun i hi=>?_,fun i d x H3 hd hy=>?_,fun i hi=>?_⟩) q⟩
   ·show i<j.toNat
    simpa using hi
   ·obtain⟨rfl,rfl⟩:=hy
    refine⟨rfl,?_⟩
    rw[CW8] at hd
    cases e:(CV7 j.toNat)[i]? with
    | none=>rw[e] at hd;cases hd
    | some n =>
     rw[e] at hd
     have en:n=i:=by
      rw[DM9] at e
      ·exact(Option.some.inj e).symm
      ·have:=(List.getElem?_eq_some_iff.mp e).1;simpa using this
     subst en
     cases hd
     have z:(0:Int)+(n:Int)=(n:Int):=by lia
     rw[z];exact .int
   ·show j.toNat<=i
    simpa using hi
  | _=>exact(q:False).elim
theorem AZ1 {te':TE3}(ha:PE3 X a te')(hte:te'=te):PI3 X tg a (fun σ M R=>te σ M fun d M1=>match d with|.lst ds=>R ds M1|_=>False):=by
 subst hte
 refine PI.weak (BL0 ha.dn) fun σv H R2 hx0=>?_
 obtain⟨σ,M,R,hS,hM,h,k⟩:=hx0
 refine⟨σ,M,_,hS,hM,h,fun d v M' H' st m r q=>?_⟩
 cases r<;>first|exact q.elim|skip
 rename_i a' ds vs h1 rs
 refine⟨a',rfl,⟨vs,SqL.of3 h1⟩,k ds _ M' H' st m (fun M2 H2 s2=>?_) q⟩
 have h2:SqL X.K H2 a' vs:=SqL.of3 (h1.imp (Fix.mono s2) id)
 have r2:=rs.mono s2
 refine⟨fun i hi=>?_,fun i d x H3 hd hy=>?_,fun i hi=>?_⟩
 ·obtain⟨v,hv,_⟩:=r2.get (i:=i) (d:=ds[i]) (by simp[hi])
  exact⟨vs,v,h2,hv⟩
 ·obtain⟨rfl,hy⟩:=hy
  obtain⟨v,hv,rv⟩:=r2.get hd
  rw[hy vs h2] at hv
  cases hv
  exact⟨rfl,rv⟩
 ·exact⟨vs,h2,by rw[<-r2.length];exact hi⟩
theorem BK9 (ha:PE3 X a te):PI3 X tg a (fun σ M R=>te σ M fun d M1=>match d with|.tup ds=>R ds M1|_=>False):=by
 refine PI.weak (BX2 ha.dn) fun σv H R2 hx0=>?_
 obtain⟨σ,M,R,hS,hM,h,k⟩:=hx0
 refine⟨σ,M,_,hS,hM,h,fun d v M' H' st m r q=>?_⟩
 cases r<;>first|exact q.elim|skip
 rename_i a' ds vs h1 rs
 refine⟨a',rfl,⟨vs,SqT.of3 h1⟩,k ds _ M' H' st m (fun M2 H2 s2=>?_) q⟩
 have h2:SqT X.K H2 a' vs:=SqT.of3 (h1.imp (Fix.mono s2) id)
 have r2:=rs.mono s2
 refine⟨fun i hi=>?_,fun i d x H3 hd hy=>?_,fun i hi=>?_⟩
 ·obtain⟨v,hv,_⟩:=r2.get (i:=i) (d:=ds[i]) (by simp[hi])
  exact⟨vs,v,h2,hv⟩
 ·obtain⟨rfl,hy⟩:=hy
  obtain⟨v,hv,rv⟩:=r2.get hd
  rw[hy vs h2] at hv
  cases hv
  exact⟨rfl,rv⟩
 ·exact⟨vs,h2,by rw[<-r2.length];exact hi⟩
def Its (z:Str):It:=⟨fun i _=>i<z.cps.size,fun i H x H'=>H'=H/\∃c,z.cps[i]?=some c/\x=.str ⟨#[c]⟩,fun i _=>z.cps.size<=i⟩
theorem BE2 (z:Str)(tk:Tok)(it:Addr)(wide:Bool):Turn P w K tg (Its z) [it] it (fun i h=>h.IsStrIter it (if wide then "str_iterator" else "str_ascii_iterator") z tk i) where
 mem:=by simp
 obj:=fun i h st b hb=>by
  have e:b=it:=by simpa using hb
  subst e
  obtain⟨o,e,c,d⟩:=st
  exact⟨o,e,fun v z=>by rw[d] at z;cases z⟩
 keep:=fun i h h' st k=>let ⟨o,ho,r⟩:=st;⟨o,k it (by simp) o ho,r⟩
 item:=by
  intro X hP hw hK hc i pins s σ H E I hf st hg
  subst hP hw hK
  obtain⟨f0,f1,f2,f3,f4,f5⟩:=hf it (by simp)
  have hg':i<z.cps.size:=hg
  have fin:∀(h':Heap),h'.IsStrIter it (if wide then "str_iterator" else "str_ascii_iterator") z tk (i+1)->DD0 it s.heap h'->∃u,some (Value.str ⟨#[z.cps[i]]⟩ s.toks)=some u /\
    wpAny (model X.prog X.w) X.A (DL1 tg (.ref it) u) (fun _ s2=>∃x H',Inv X pins σ H' s2/\RelV x u/\(Its z).yld i H x H'/\s2.heap.IsStrIter it (if wide then "str_iterator" else "str_ascii_iterator") z tk (i+1)/\∀b∈[it],H' b=none) E {s with heap:=h',toks:=s.toks+1}:=by
   intro h' st' sb
   have I1:Inv X pins σ H {s with heap:=h',toks:=s.toks+1}:=I.turned (t':=s.toks+1) (fun b o hb e=>(sb.2 b hb).trans e) f0 f1 f3 f4 f5
   obtain⟨o,e,c,d⟩:=id st'
   refine⟨_,rfl,AF9 (s:={s with heap:=h',toks:=s.toks+1}) e c d (by cases wide<;>decide) ⟨.str ⟨#[z.cps[i]]⟩,H,I1,⟨_,rfl⟩,⟨rfl,_,by simp[hg'],rfl⟩,st',fun b hb=>(hf b hb).1⟩⟩
  cases wide with
  | false=>exact wpAny_pyNext_ascii_item st (c:=z.cps[i]) (by simp[hg']) fun h' a b=>fin h' a b
  | true=>exact wpAny_pyNext_wide_item st (c:=z.cps[i]) (by simp[hg']) fun h' a b=>fin h' a b
 done:=by
  intro X hP hw hK hc i pins s σ H E I hf st hg
  subst hP hw hK
  obtain⟨f0,f1,f2,f3,f4,f5⟩:=hf it (by simp)
  have hg':z.cps.size<=i:=hg
  cases wide with
  | false=>exact wpAny_pyNext_ascii_end (I.ok.hd hc) st (by simp[hg']) fun h' eb=>⟨rfl,I.turned (t':=s.toks) (fun b o hb e=>eb b o hb e) f0 f1 f3 f4 f5⟩
  | true=>exact wpAny_pyNext_wide_end (I.ok.hd hc) st (by simp[hg']) fun h' eb=>⟨rfl,I.turned (t':=s.toks) (fun b o hb e=>eb b o hb e) f0 f1 f3 f4 f5⟩
 self:=fun A i s Q E st h=>by
  cases wide with
  | false=>exact wpAny_pyIter_striter_ascii st h
  | true=>exact wpAny_pyIter_striter_wide st h
theorem BX1 {l:Expr}{tl:TE}(hl:PE X l tl):PI X tg l (fun σ H R=>tl σ H fun x H1=>∃z,x=.str z/\R (Its z) H1):=by
 intro pins s σ H R I h
 refine thn (hl pins s σ H _ I h) fun v s1 hx0=>?_
 obtain⟨x,H1,I1,r1,q1⟩:=hx0
 obtain⟨z,e,q⟩:=q1
 subst e
 obtain⟨tk,rfl⟩:=r1
 have fin:∀wide:Bool,PIE X pins σ tg R (.ref s1.heap.objs.size) {s1 with heap:=s1.heap.push {cls:=.type (if wide then "str_iterator" else "str_ascii_iterator"),data:=.fields #[.str z tk,.int 0 0]}}:=fun wide=>by
  refine⟨s1.heap.objs.size,[s1.heap.objs.size],_,_,H1,rfl,I1.kept (t':=s1.toks) fun b o e=>CU8 _ e,BE2 z tk _ wide,⟨_,CW0 _ rfl,rfl,rfl⟩,fun b hb=>?_,q⟩
  have e:b=s1.heap.objs.size:=by simpa using hb
  subst e
  exact I1.fpOk (CW1 _) (I1.hok.fresh (CW1 _))
 cases ha:z.cps.all (·<128)
 ·exact wpAny_pyIter_wide ha (fin true)
 ·exact wpAny_pyIter_ascii ha (fin false)
theorem BK8 (ha:PE3 X a te):PI3 X tg a (fun σ M R=>te σ M fun d M1=>match d with|.str z=>R (z.cps.toList.map fun c=>D.str ⟨#[c]⟩) M1|_=>False):=by
 refine PI.weak (BX1 ha.dn) fun σv H R2 hx0=>?_
 obtain⟨σ,M,R,hS,hM,h,k⟩:=hx0
 refine⟨σ,M,_,hS,hM,h,fun d v M' H' st m r q=>?_⟩
 cases r<;>first|exact q.elim|skip
 rename_i z
 refine⟨z,rfl,k _ _ M' H' st m (fun M2 H2 s2=>⟨fun i hi=>?_,fun i d x H3 hd hy=>?_,fun i hi=>?_⟩) q⟩
 ·show i<z.cps.size
  simpa using hi
 ·obtain⟨rfl,c,hc,rfl⟩:=hy
  rw[CW8] at hd
  have:z.cps.toList[i]?=some c:=by simpa using hc
  rw[this] at hd
  cases hd
  exact⟨rfl,.str⟩
 ·show z.cps.size<=i
  simpa using hi
end
abbrev Sp3:=List D->Mem->DK->Prop
def HJ (K:CV3)(sp:Sp3):Sp:=fun vs H Q _=>∃ds M Q3,Reps K M H ds vs/\MRel K M H/\sp ds M Q3/\∀d v M' H',Step M H M' H'->MRel K M' H'->Rep K M' H' d v->Q3 d M'->Q v H'
def View (Q:DK):DK:=fun d M=>∃d' M',Vs M d M' d'/\Q d' M'
theorem View.of {Q:DK}{d:D}{M:Mem}(q:Q d M):View Q d M:=⟨d,M,.refl d,q⟩
theorem View.sub {Q:DK}{d:D}{M M':Mem}(s:Sub M' M)(q:Q d M'):View Q d M:=⟨d,M',.sub s d,q⟩
def B3 (N:List Str)(ds:List D):Lo:=ds.map some++CV2 (N.length-ds.length) none
theorem AP1 {M:Mem}{ds:List D}(r:Reps K M H ds vs):SRel K M H (B3 N ds) (L2.start N vs):=by
 refine⟨by simp[B3,L2.start,r.length],fun i d h=>?_⟩
 unfold B3 at h
 unfold L2.start
 by_cases hi:i<ds.length
 ·rw[CZ0 (by simpa using hi),CW8] at h
  rw[CZ0 (by simpa[<-r.length] using hi),CW8]
  cases e:ds[i]? with
  | none=>rw[e] at h;cases h
  | some d' =>
   rw[e] at h;cases h
   obtain⟨v,hv,rv⟩:=r.get e
   exact⟨v,by rw[hv];rfl,rv⟩
 ·rw[CX8 (by simpa using hi),DC0] at h
  split at h<;>cases h
section
variable {P:DA0}{w:World}{K:CV3}{mg:Str->Option Value}{base:Heap}
theorem Fun.ok3 {f:Addr}{sp:Sp3}(F:Fun K x qual st f fd)(S:B5 N ps (A7 st))(len:∀ds M Q,sp ds M Q->ds.length=ps.length)
  (hbody:∀(cdv:Value) (A:DD3) (outer:List Env) (s:CV4) (H:Hp) (E:XK),Room k (A.deeper (envOfC qual (A7 st) s.heap.objs.size f cdv)) ->
   ∃t,PSs3 (ZG CX0 P w K mg base N qual (A7 st) f cdv A outer s H E).nox (L9 st) t/\∀ds M Q,sp ds M Q->t {nx:=fun _ M'=>View Q .non M',rt:=View Q} (B3 N ds) M) :
  FnOk P w K mg base CX0 (k+1) f fd ps (HJ K sp):=by
 refine F.ok S (fun vs H Q E ⟨ds,M,Q3,r,_,h,_⟩=>by rw[<-r.length];exact len _ _ _ h) fun cdv A outer s H vs Q E hr hx0=>?_
 obtain⟨ds,M,Q3,r,m,h,q⟩:=hx0
 obtain⟨t,ht,hs⟩:=hbody cdv A outer s H E hr
 have fin:∀d v M' H',Step M H M' H'->MRel K M' H'->Rep K M' H' d v->View Q3 d M'->Q v H':=fun d v M' H' st m' r' hx0=>by
  obtain⟨d2,M2,vs2,q2⟩:=hx0
  obtain⟨m2,r2,s2⟩:=vs2 K H' v m' r'
  exact q d2 v M2 H' (st.less s2) m2 r2 q2
 refine⟨_,ht.dn,B3 N ds,M,_,AP1 r,m,hs ds M Q3 h,?_⟩
 exact⟨fun σ' σv' M' H' st m' _ z=>fin .non .non M' H' st m' .non z,fun _ _ _ _ _ _ _ z=>z.elim,fun _ _ _ _ _ _ _ z=>z.elim,fin⟩
end
section
variable {X:Cx}{e:Expr}{es:List Expr}{t:TA3}{x:Str}{p pos:Pos}{k:Nat}{f:Addr}{fd:CX7}{ps:List Str}{sp:Sp3}
def A4 (sp:Sp3)(t:TA3):TE3:=fun σ M Q=>t σ M fun ds M1=>sp ds M1 Q
theorem AX6 (F:FnOk X.prog X.w X.K X.mg X.base CX0 k f fd ps (HJ X.K sp))(hr:Room k X.A)(hg:Gl X x)(hm:X.mg x=some (.ref f))(hk:DD8 X.K (.ref f)=true)(hb:Binds X.K fd ps [])
  (ha:PA3 X (e::es) t) (hdb:(x==("__debug__":Str))=false:=by decide) (he:CY3 (e::es) X.env=(false,eval e X.env)::CY3 es X.env:=by rfl) (hpl:(DK1 pos (CY3 es X.env)).any (·.1)=false:=by rfl) :
  PE3 X (.Call (.Name x p) (e::es) [] pos) (A4 sp t) :=
 PE3.of (BK2 F hr hg hm hk hb .nil BP8 ha.dn hdb he hpl) fun pins s σv H σ M Q I hS hM h=>by
  refine⟨σ,M,_,hS,hM,h,fun ds vs M1 H1 st1 m1 r1 q1=>?_⟩
  show HJ X.K sp (vs++[]) H1 _ _
  rw[DF7]
  exact⟨ds,M1,Q,r1,m1,q1,fun d v M' H' st m r q=>⟨d,M',st1.trans st,m,r,q⟩⟩
end
abbrev R6:R3:=JM fun i j=>.int (i-j)
abbrev DE:R3:=rI3 AD5 fun i j=>.int (i*j)
abbrev AV:R3:=rI3 VN fun i j=>.int (i / j)
abbrev O0:R3:=rI3 (fun _ j=>0<j) fun i j=>.int (i % j)
abbrev FR:R3:=rI3 AQ0 fun i j=>.int (i^j.toNat)
abbrev PL:R3:=JM fun i j=>.bl (decide (i<j))
abbrev FH:R3:=JM fun i j=>.bl (decide (i<=j))
abbrev TU:R3:=JM fun i j=>.bl (decide (j<i))
abbrev BX9:R3:=JM fun i j=>.bl (decide (j<=i))
abbrev CM7:U3:=rU3 fun i=>-i
def BO2 (te:TE3)(tl th:TO3):TE3:=fun σ M Q=>te σ M fun x M1=>tl σ M1 fun l M2=>th σ M2 fun u M3=>BM7 x l u M3 Q
def S3 (te:TE3):TI3:=fun σ M R=>te σ M fun d M1=>match d with|.lst ds=>R ds M1|_=>False
def Z7 (te:TE3):TI3:=fun σ M R=>te σ M fun d M1=>match d with|.tup ds=>R ds M1|_=>False
def AT7 (te:TE3):TI3:=fun σ M R=>te σ M fun d M1=>match d with|.str z=>R (z.cps.toList.map fun c=>D.str ⟨#[c]⟩) M1|_=>False
section
variable {X:Cx}{a e:Expr}{te:TE3}{pos:Pos}{lo hi:Option Expr}{tl th:TO3}{p2:Pos}{tg:Expr}
theorem BW2 (he:PE3 X e te)(hl:PO3 X lo tl)(hu:PO3 X hi th):PE3 X (.Subscript e (.Slice lo hi none p2) pos) (BO2 te tl th):=AN6 he hl hu
theorem CM0 (ha:PE3 X a te):PI3 X tg a (S3 te):=AZ1 ha rfl
theorem CM2 (ha:PE3 X a te):PI3 X tg a (Z7 te):=BK9 ha
theorem CM1 (ha:PE3 X a te):PI3 X tg a (AT7 te):=BK8 ha
theorem AN4 {i:Int}(hg:Gl X x)(hm:∃tk,X.mg x=some (.int i tk))(hd:(x==("__debug__":Str))=false:=by decide):PE3 X (.Name x pos) (tC3 (.int i)):=by
 obtain⟨tk,hm⟩:=hm
 exact AA (v:=.int i) hg hm ⟨tk,rfl⟩ (fun _ _=>.int) hd
theorem AN5 (hg:Gl X x)(hm:∃tk,X.mg x=some (.str z tk))(hd:(x==("__debug__":Str))=false:=by decide):PE3 X (.Name x pos) (tC3 (.str z)):=by
 obtain⟨tk,hm⟩:=hm
 exact AA (v:=.str z) hg hm ⟨tk,rfl⟩ (fun _ _=>.str) hd
theorem hu3 (hr:Room k X.A):X.A.units+1<cLine:=by have:=hr.units;lia
end
theorem D9:DB0 "len"=some (.builtin "len"):=by decide +kernel
theorem RX:DB0 "abs"=some (.builtin "abs"):=by decide +kernel
theorem AD9:DB0 "repr"=some (.builtin "repr"):=by decide +kernel
theorem C1:DB0 "isinstance"=some (.builtin "isinstance"):=by decide +kernel
theorem BR2:DB0 "int"=some (.type "int"):=by decide +kernel
theorem AD7:DB0 "bool"=some (.type "bool"):=by decide +kernel
theorem AQ5:DB0 "str"=some (.type "str"):=by decide +kernel
theorem AD8:DB0 "list"=some (.type "list"):=by decide +kernel
theorem E2:DB0 "tuple"=some (.type "tuple"):=by decide +kernel
structure FnAt (K:CV3)(mg:Str->Option Value)(x:Str)(st:Stmt)(ps:List Str)(f:Addr)(fd:CX7):Prop where
 fn:Fun K x x st f fd
 bd:Binds K fd ps []
 gl:mg x=some (.ref f)
theorem us0 (h:us.length=0):us=[]:=List.length_eq_zero_iff.mp h
theorem us1 (h:us.length=1):∃a,us=[a]:=by
 cases us with
 | nil=>cases h
 | cons a r=>exact⟨a,by rw[us0 (Nat.succ.inj h)]⟩
theorem us2 (h:us.length=2):∃a b,us=[a,b]:=by
 cases us with
 | nil=>cases h
 | cons a r=>obtain⟨b,e⟩:=us1 (Nat.succ.inj h);exact⟨a,b,by rw[e]⟩
theorem us3 (h:us.length=3):∃a b c,us=[a,b,c]:=by
 cases us with
 | nil=>cases h
 | cons a r=>obtain⟨b,c,e⟩:=us2 (Nat.succ.inj h);exact⟨a,b,c,by rw[e]⟩
theorem us4 (h:us.length=4):∃a b c d,us=[a,b,c,d]:=by
 cases us with
 | nil=>cases h
 | cons a r=>obtain⟨b,c,d,e⟩:=us3 (Nat.succ.inj h);exact⟨a,b,c,d,by rw[e]⟩
theorem AF8 {h:Heap}{f:Addr}{kV:Value}(X:K.In h)(G:h.Ns CY1 mg)
  (a:CZ8 K CY1 x=some (some (.ref f))) (l:K.lookup f=some ⟨oc,od,.func (DD9 x x (Q5 st) (L9 st) (A7 st) .none kV doc pm an cdv ct),osl⟩)
  (c:DK2 K cdv x=true) (k:DD8 K (.ref f)=true)
  (hb:∀(kV doc pm:Value) (an:Option Addr) (cdv ct:Value) (us:List Value),us.length=ps.length->bindArgs (DD9 x x (Q5 st) (L9 st) (A7 st) .none kV doc pm an cdv ct) ⟨us,[]⟩=pure (ps.zip us)) :
  FnAt K mg x st ps f (DD9 x x (Q5 st) (L9 st) (A7 st) .none kV doc pm an cdv ct) :=
 ⟨AT2 l c k,(AT2 l c k).binds hb,DJ3 X G a⟩
def GS:Sp3:=fun ds M Q=>∃ns:List Int,ds=[.lst (ns.map D.int)]/\ns.length<=63/\(∀a,M a=none)/\∀M',Q (.bl true) M'
theorem CQ5 {l:PySem.W.OpenLaw}{q:DA0}{XP:(Str->Option Value)->Heap->Prop}{YP:World->Heap->Prop}{d:DefRec}{K:Params->CV3}(hn:l.most=some 63)(hdf:d.params.defaults=[])(hr:Room k callerA)
  (hY:∀(w:World) (h:Heap),YP w h->(K w.params).In h)
  (F:∀(w:World) (mg:Str->Option Value) (fa:Addr) (h:Heap),(K w.params).In h->h.Ns CY1 mg->mg d.name=some (.ref fa) ->
   ∃fd:CX7,(∀(s:CV4) (u:Value),BindsTo s fd ⟨[u],[]⟩ [(x,u)])/\∀base:Heap,(K w.params).In base->base.Ns CY1 mg->FnOk l.prog w (K w.params) mg base CX0 k fa fd [x] (HJ (K w.params) GS)) :
  PySem.W.WalkO q loose XP YP l.row.toRowW d [] (fun f vs=>PySem.call f vs) :=
 L2.BO4 (n:=63) (k:=k) (x:=x) (CX:=fun _=>CX0) (sp:=fun w=>HJ (K w.params) GS) hn (by decide) hdf hr hY F
  (fun w H a ns hl _ hS=>⟨[.lst (ns.map D.int)],fun _=>none,fun d _=>d=.bl true,.cons (.lst (hS.imp (fun z=>⟨z,rfl⟩) id) .ints) .nil,(fun _ _ z=>nomatch z),⟨ns,rfl,hl,fun _=>rfl,fun _=>rfl⟩,
   fun d v M' H' _ _ r e=>by subst e;cases r;rfl⟩) fun _ _ _ _ _ z=>z
def LH (ns:List Int)(a l:Int):MO:=.dct [(.inr "cells",.lst (ns.map D.int)),(.inr "at",.int a),(.inr "left",.int l)]
def Pen (M:Mem)(p:Addr)(b:Nat):Prop:=∃ns a l,M p=some (LH ns a l)/\ns.length<=63/\0<=a/\a<=(b:Int)/\0<=l
def Same3 (p:Addr)(M M':Mem):Prop:=∀q,q≠p->M' q=M q
theorem Same3.refl {M:Mem}:Same3 p M M:=fun _ _=>rfl
theorem Same3.trans {M M1 M2:Mem}(a:Same3 p M M1)(b:Same3 p M1 M2):Same3 p M M2:=fun q h=>(b q h).trans (a q h)
def RM:Sp3:=fun ds M Q=>∃ns:List Int,ds=[.lst (ns.map D.int)]/\ns.length<=63/\∀p M',M p=none->Pen M' p 0->Same3 p M M'->Q (.ref p) M'
def E5:Sp3:=fun ds M Q=>∃p many b,ds=[.ref p,.int many]/\Pen M p b/\b<2^30/\0<many/\many<2^200/\∀n M',0<=n->n<many->Pen M' p (b+1)->Same3 p M M'->Q (.int n) M'
def N8 (c:Str->Addr):List (Str×DI6)->List (Str×Addr)->List (Str×Addr)
 | [],acc=>acc
 | (n,k)::r,acc=>N8 c r (if (k==.free)=true then(n,c n)::acc else acc)
theorem FK (h:∀p∈scope.names,p.2=.free->env.cells.lookup p.1=some (c p.1)):closureFor scope env=pure (N8 c scope.names []):=by
 unfold closureFor
 have key:∀(l:List (Str×DI6)) (acc:List (Str×Addr)),(∀p∈l,p.2=.free->env.cells.lookup p.1=some (c p.1)) ->
   (forIn l acc fun(x:Str×DI6) (r:List (Str×Addr))=>match x with
    | (name,kind)=>if (kind==NameKind.free)=true then do let y <-cellOf env name;pure (ForInStep.yield ((name,y)::r)) else pure (ForInStep.yield r):Sem (List (Str×Addr)))=pure (N8 c l acc):=by
  intro l
  induction l with
  | nil=>intro acc _;rfl
  | cons p l ih =>
   intro acc hp
   obtain⟨n,k⟩:=p
   rw[DF6]
   by_cases hk:(k==NameKind.free)=true
   ·have hkf:k=.free:=by simpa using hk
    have hc:=hp (n,k) CW4 hkf
    have e:cellOf env n=pure (c n):=by unfold cellOf;rw[show env.cells.lookup n=some (c n) from hc]
    simp only[hk,if_true,e]
    have:=ih ((n,c n)::acc) fun q hq=>hp q (CW5 _ hq)
    unfold N8
    rw[if_pos hk,<-this]
    rfl
   ·simp only[hk,if_false]
    have:=ih acc fun q hq=>hp q (CW5 _ hq)
    unfold N8
    rw[if_neg hk,<-this]
    rfl
 have k2:=key scope.names [] h
 first
  | exact k2
  | (refine Eq.trans ?_ k2;rfl)
  | (simp only[bind_pure];exact k2)
theorem JC (c:Str->Addr):∀(l:List (Str×DI6)) (acc:List (Str×Addr)) (p:Str×Addr),p∈N8 c l acc->p∈acc\/(p.2=c p.1/\(p.1,NameKind.free)∈l)
 | [],acc,p,h=>.inl h
 | (n,k)::r,acc,p,h=>by
  unfold N8 at h
  rcases JC c r _ p h with h|⟨h1,h2⟩
  ·by_cases hk:(k==NameKind.free)=true
   ·rw[if_pos hk] at h
    rcases CV0.mp h with rfl|h
    ·have hkf:k=.free:=by simpa using hk
     exact .inr ⟨rfl,by rw[hkf];exact CW4⟩
    ·exact .inl h
   ·rw[if_neg hk] at h;exact .inl h
  ·exact .inr ⟨h1,CW5 _ h2⟩
theorem QP (c:Str->Addr):∀(l:List (Str×DI6)) (acc:List (Str×Addr)) (n:Str),((n,NameKind.free)∈l\/(n,c n)∈acc)->(n,c n)∈N8 c l acc
 | [],acc,n,h=>by
  rcases h with h|h
  ·exact absurd h (by simp)
  ·exact h
 | (m,k)::r,acc,n,h=>by
  unfold N8
  refine QP c r _ n ?_
  rcases h with h|h
  ·rcases CV0.mp h with e|h
   ·cases e
    exact .inr (by rw[if_pos (by decide)];exact CW4)
   ·exact .inl h
  ·by_cases hk:(k==NameKind.free)=true
   ·rw[if_pos hk];exact .inr (CW5 _ h)
   ·rw[if_neg hk];exact .inr h
theorem PD {l:List (Str×Addr)}(h:∀p∈l,p.2=c p.1){n:Str}(hm:(n,c n)∈l):l.lookup n=some (c n):=by
 induction l with
 | nil=>exact absurd hm (by simp)
 | cons p r ih =>
  obtain⟨m,a⟩:=p
  by_cases e:n=m
  ·subst e
   have:a=c n:=h (n,a) CW4
   simp[DI7,this]
  ·have e':(n==m)=false:=by simpa using e
   simp only[DI7,e']
   refine ih (fun q hq=>h q (CW5 _ hq)) ?_
   rcases CV0.mp hm with z|z
   ·cases z;exact absurd rfl e
   ·exact z
theorem AK3 (c:Str->Addr)(l:List (Str×DI6)):∀p∈N8 c l [],p.2=c p.1:=fun p hp=>by
 rcases JC c l [] p hp with h|h
 ·exact absurd h (by simp)
 ·exact h.1
theorem HI {l:List (Str×DI6)}{n:Str}(h:(n,NameKind.free)∈l):(N8 c l []).lookup n=some (c n) :=
 PD (AK3 c l) (QP c l [] n (.inl h))
theorem WV {l:List (Str×DI6)}{n:Str}(h:(N8 c l []).lookup n=some a):a=c n/\(n,NameKind.free)∈l:=by
 have hm:=DA3 h
 rcases JC c l [] (n,a) hm with z|z
 ·exact absurd z (by simp)
 ·exact z
theorem AK4 {R:Result->CV4->Prop}{target:Expr}{it acc:Value}(I:Nat->CV4->Prop)
  (turn:∀n s,I n s->wpAny (model prog w) A (DP8 it) (fun r s₁=>match r with
   | none=>R (.ok .next) s₁
   | some v=>wpAny (model prog w) A (DL1 target it v) (fun _ s₁'=>wpAny (model prog w) A (assign target env v) (fun _ s₂ =>
     wpAny (model prog w) A (forIn ifs true fun c r=>if r=true then do let ok <-isTrue c env (eval c env);pure (ForInStep.yield ok) else pure (ForInStep.yield r)) (fun ok s₃ =>
      if ok=true then wpAny (model prog w) A (eval elt env) (fun x s₄ =>
       wpAny (model prog w) A (call (.builtin "list.append") [acc,x]) (fun _ s₅=>∃m,m<n/\I m s₅) (fun _ _=>False) s₄) (fun _ _=>False) s₃
      else∃m,m<n/\I m s₃) (fun _ _=>False) s₂) (fun _ _=>False) s₁') (fun _ _=>False) s₁) (fun _ _=>False) s)
  (n:Nat) (h:I n s):codeAny (model prog w) A (.compLoop (.ListComp elt [⟨target,iter,ifs,0⟩] scope pos) 0 it acc env) R s:=by
 refine codeAny_loop rfl I (fun n s hI=>?_) n h
 show wpAny _ A ((compTurn (.ListComp elt [⟨target,iter,ifs,0⟩] scope pos) 0 it acc env).onRaise (fun x=>do noteFrame x env;theTreesLotGoes x)) _ _ s
 refine wpAny_noted ?_
 rw[compTurn_list]
 refine CU6 (DN5 (CU6 (DB9 (turn n s hI) (fun r s₁ h₁=>?_) fun _ _ h'=>h'.elim)))
 cases r with
 | none=>exact CU7 h₁
 | some v =>
  refine CU6 (DB9 h₁ (fun _ s₁' h₁'=>?_) fun _ _ h'=>h'.elim)
  refine CU6 (DB9 h₁' (fun _ s₂ h₂=>CU6 (DB9 h₂ (fun ok s₃ h₃=>?_) fun _ _ h'=>h'.elim)) fun _ _ h'=>h'.elim)
  cases ok with
  | false=>exact CU7 ⟨rfl,h₃⟩
  | true =>
   exact CU6 (CU6 (DB9 h₃ (fun x s₄ h₄=>CU6 (DB9 h₄ (fun _ s₅ h₅=>CU7 (CU7 ⟨rfl,h₅⟩)) fun _ _ h'=>h'.elim)) fun _ _ h'=>h'.elim))
def B0 (X:Cx)(scope:Scope)(cl:List (Str×Addr))(s₀:CV4)(H₀:Hp)(ex:List Addr)(N':List Str):Cx :=
 {X with N:=N',s₀:=s₀,H₀:=H₀,env:=compEnvC scope cl s₀.heap.objs.size X.env,outer:=X.stack,stack:=X.stack,ex:=ex,fn:=fun _=>false,pn:=[],xe:=fun _ _=>False}
theorem IL (hcell:∀y∈scope.names,y.2≠.cell)(h:(relabel scope env).names.lookup x=some .cell\/(relabel scope env).names.lookup x=some .free):(x,NameKind.free)∈scope.names:=by
 have key:∀k',(k'=.cell\/k'=.free)->(relabel scope env).names.lookup x=some k'->(x,NameKind.free)∈scope.names:=fun k' hk h=>by
  have hm:=DA3 h
  obtain⟨⟨n,k⟩,hn,e⟩:=DQ6.mp hm
  by_cases hc:(k==NameKind.free && env.scope.kind==.function && env.kindOf n==some .cell)=true
  ·dsimp only at e
   rw[if_pos hc] at e
   cases e
   have:k=.free:=by
    simp only[CX9] at hc
    simpa using hc.1.1
   rw[this] at hn;exact hn
  ·dsimp only at e
   rw[if_neg hc] at e
   cases e
   rcases hk with rfl|rfl
   ·exact absurd rfl (hcell _ hn)
   ·exact hn
 rcases h with h|h
 ·exact key _ (.inl rfl) h
 ·exact key _ (.inr rfl) h
def AN (X:Cx)(ifs:List Expr)(t:TT3):Prop :=
 ∀(pins:List (Addr×Obj)) (s:CV4) (σv:L2.St) (H:Hp) (σ:Lo) (M:Mem) (Q:Bool->Mem->Prop),Inv X pins σv H s->SRel X.K M H σ σv->MRel X.K M H->t σ M Q ->
  wpAny (model X.prog X.w) X.A (forIn ifs true fun c r=>if r=true then do let ok <-isTrue c X.env (eval c X.env);pure (ForInStep.yield ok) else pure (ForInStep.yield r)) (TP3 X pins σv M H Q) X.xe s
def J8:TT3:=fun _ M Q=>Q true M
theorem AZ3 {X:Cx}:AN X [] J8:=fun pins s σv H σ M Q I hS hM h=>by
 rw[List.forIn_nil]
 exact CU7 ⟨M,H,I,.refl,hM,h⟩
theorem AZ4 {X:Cx}{c:Expr}{t:TT3}(hc:PT3 X c t):AN X [c] t:=fun pins s σv H σ M Q I hS hM h=>by
 rw[DF6]
 simp only[if_true]
 refine CU6 (CU6 (thn (hc pins s σv H σ M Q I hS hM h) fun b s1 q=>CU7 ?_))
 show wpAny _ _ (forIn [] b _) _ _ _
 rw[List.forIn_nil]
 exact CU7 q
abbrev TG3:=D->Lo->Mem->(Lo->Mem->Prop)->Prop
def dnG (K:CV3)(g:TG3):TG:=fun v σv H Q2=>∃d σ M Q,Rep K M H d v/\SRel K M H σ σv/\MRel K M H/\g d σ M Q/\∀σ' σv' M' H',Step M H M' H'->MRel K M' H'->SRel K M' H' σ' σv'->Q σ' M'->Q2 σv' H'
def PG3 (X:Cx)(tg:Expr)(g:TG3):Prop:=PG X tg (dnG X.K g)
theorem PG.weak {X:Cx}{g1 g2:TG}(h:PG X tg g1)(hw:∀v σ H Q,g2 v σ H Q->g1 v σ H Q):PG X tg g2:=fun pins s σ H v u Q I r q=>h pins s σ H v u Q I r (hw _ _ _ _ q)
def K2 (i:Nat):TG3:=fun d σ M Q=>Q (σ.set i (some d)) M
theorem AY8 {X:Cx}(hN:X.N.Nodup)(hi:X.N[i]?=some x)(hx:Loc X.env.scope x)(hf:X.fn x=true\/X.env.scope.names.lookup x=some .local:=by first|exact .inl rfl|exact .inr rfl|assumption):PG3 X (.Name x pos) (K2 i) :=
 PG.weak (TP hN hi hx hf) fun v σv H Q2 ⟨d,σ,M,Q,r,hS,hM,h,k⟩=>k (σ.set i (some d)) _ M H .refl hM (hS.set r i) h
def DV {α:Type}:List (Option α)->List Nat->List α->List (Option α)
 | σ,i::is,x::xs=>DV (σ.set i (some x)) is xs
 | σ,_,_=>σ
def BG7 (is:List Nat):TGs:=fun vs σ H Q=>vs.length=is.length/\Q (DV σ is vs) H
theorem PGs.weak {X:Cx}{ts:List Expr}{g1 g2:TGs}(h:PGs X ts g1)(hw:∀v σ H Q,g2 v σ H Q->g1 v σ H Q):PGs X ts g2:=fun pins s σ H v u Q I r q=>h pins s σ H v u Q I r (hw _ _ _ _ q)
theorem AY9 {X:Cx}:PGs X [] (BG7 []):=PGs.weak BK7 fun vs σ H Q hx0=>by
 obtain⟨hl,q⟩:=hx0
 have e:vs=[]:=List.length_eq_zero_iff.mp hl
 subst e
 exact⟨rfl,q⟩
theorem AN8 {X:Cx}(hN:X.N.Nodup)(hi:X.N[i]?=some x)(hx:Loc X.env.scope x)(h2:PGs X es (BG7 is))
  (hf:X.fn x=true\/X.env.scope.names.lookup x=some .local:=by first|exact .inl rfl|exact .inr rfl|assumption)
  (hs:(DH3 (.Name x pos::es) X.env).map (·.2)=assign (.Name x pos) X.env::(DH3 es X.env).map (·.2):=by rfl):PGs X (.Name x pos::es) (BG7 (i::is)) :=
 PGs.weak (AZ0 (TP hN hi hx hf) h2 hs) fun vs σ H Q hx0=>by
  obtain⟨hl,q⟩:=hx0
  cases vs with
  | nil=>cases hl
  | cons v r=>exact⟨v,r,rfl,by simpa using hl,q⟩
theorem NR {K:CV3}{M:Mem}{H:Hp}:∀{is:List Nat} {ds:List D} {vs:List V} {σ:Lo} {σv:L2.St},Reps K M H ds vs->SRel K M H σ σv->SRel K M H (DV σ is ds) (DV σv is vs)
 | [],ds,vs,σ,σv,r,hS=>by cases ds<;>cases vs<;>exact hS
 | i::is,_,_,σ,σv,.nil,hS=>hS
 | i::is,_,_,σ,σv,.cons a b,hS=>NR (is:=is) b (hS.set a i)
def CV (is:List Nat):TG3:=fun d σ M Q=>∃ds,d=.tup ds/\ds.length=is.length/\Q (DV σ is ds) M
theorem BK6 {X:Cx}(hc:X.calm=true)(h:PGs X es (BG7 is))
  (hn:(DH3 es X.env).length=is.length:=by rfl) (hst:(DH3 es X.env).findIdx? (·.1)=none:=by rfl):PG3 X (.Tuple es k pos) (CV is) :=
 PG.weak (BX0 hc h hn hst) fun v σv H Q2 hx0=>by
  obtain⟨d,σ,M,Q,r,hS,hM,⟨ds,e,hl,q⟩,kk⟩:=hx0
  subst e
  cases r with
  | tup h1 rs=>exact⟨_,_,rfl,SqT.of3 h1,by rw[<-rs.length];exact hl,by rw[<-rs.length];exact hl,kk _ _ M H .refl hM (NR rs hS) q⟩
def BD1 (g:TG3)(te:TE3):TS3:=fun T σ M=>te σ M fun d M1=>g d σ M1 T.nx
theorem BL2 {X:Cx}{te:TE3}{g:TG3}(he:PE3 X e te)(hg:PG3 X tg g)(hs:swapsWithSole [tg] e pos.line X.env=pure false:=by rfl) (hw:swappedStores [tg] e X.env=pure none:=by rfl)
  (h1:(DH3 [tg] X.env).map (·.2)=[assign tg X.env]:=by rfl):PS3 X (.Assign [tg] e pos) (BD1 g te):=PS3.of (BA3 he.dn hg hs hw h1) fun pins s σv H σ M T I hS hM h =>
 ⟨σ,M,_,hS,hM,h,fun d v M' H' st m r q=>⟨d,σ,M',_,r,hS.mono st,m,q,fun σ' σv' M2 H2 st2 m2 r2 q2=>⟨σ',M2,st.trans st2,m2,r2,q2⟩⟩⟩
theorem KO {f:Str×DI6->Str×DI6}(hf:∀p,(f p).1=p.1){x:Str}:∀{l:List (Str×DI6)},(l.map f).lookup x=(l.lookup x).map fun k=>(f (x,k)).2
 | []=>rfl
 | (n,k)::r=>by
  have h1:=hf (n,k)
  rw[CW9]
  generalize hq:f (n,k)=q at h1 ⊢
  obtain⟨q1,q2⟩:=q
  cases h1
  rw[DI7,DI7]
  by_cases e:x=n
  ·subst e
   simp[hq]
  ·have e':(x==n)=false:=by simpa using e
   rw[e']
   exact KO hf
theorem NM:(relabel scope env).names.lookup x=(scope.names.lookup x).map fun k=>if (k==NameKind.free && env.scope.kind==.function && env.kindOf x==some .cell)=true then NameKind.cell else k:=by
 have:=KO (f:=fun p=>if (p.2==NameKind.free && env.scope.kind==.function && env.kindOf p.1==some .cell)=true then(p.1,NameKind.cell) else(p.1,p.2)) (fun p=>by split<;>rfl) (x:=x) (l:=scope.names)
 refine this.trans ?_
 congr 1
 funext k
 split<;>rfl
theorem FS (h:scope.names.lookup x=some .free):(relabel scope env).names.lookup x=some .cell\/(relabel scope env).names.lookup x=some .free:=by
 rw[NM,h,DE2]
 split
 ·exact .inl rfl
 ·exact .inr rfl
def F9 (ti:TI3)(n:Nat)(slots:List Nat)(g:TG3)(tt:TT3)(te:TE3):TE3:=fun σ M Q=>ti σ M fun ds M1=>∀p,M1 p=none->∃Pv:Nat->List D->Mem->Prop,Pv 0 [] (D3 M1 p (.lst [])) /\
 (∀k d acc M,ds[k]?=some d->Pv k acc M->g d (CV2 n none++slots.map fun j=>(σ[j]?).getD none) M fun σ' M0=>tt σ' M0 fun b M' =>
  if b=true then te σ' M' fun e M''=>M'' p=some (.lst acc)/\acc.length<CV8/\Pv (k+1) (acc++[e]) (D3 M'' p (.lst (acc++[e]))) else Pv (k+1) acc M') /\
 ∀acc M,Pv ds.length acc M->M p=some (.lst acc)/\Q (.lst acc) (Z0 M p)
def Q8 (ti:TI3)(n:Nat)(slots:List Nat)(g:TG3)(tt:TT3)(te:TE3):TE3:=fun σ M Q=>ti σ M fun ds M1=>∀p,M1 p=none->∃Pv:Nat->List D->Mem->Prop,Pv 0 [] (D3 M1 p (.lst [])) /\
 (∀k d acc M,ds[k]?=some d->Pv k acc M->g d (CV2 n none++slots.map fun j=>(σ[j]?).getD none) M fun σ' M0=>tt σ' M0 fun b M' =>
  if b=true then te σ' M' fun e M''=>M'' p=some (.lst acc)/\acc.length<CV8/\Pv (k+1) (acc++[e]) (D3 M'' p (.lst (acc++[e]))) else Pv (k+1) acc M') /\
 ∀acc M,Pv ds.length acc M->M p=some (.lst acc)/\Q (.ref p) M
def WkE (K:CV3)(J:It)(ds:List D)(M:Mem)(H:Hp):Prop:=∀M' H',Step M H M' H'->MRel K M' H' ->
 (∀i,i<ds.length->J.go i H')/\(∀i d x H'',ds[i]?=some d->J.yld i H' x H''->Step M' H' M' H''/\MRel K M' H''/\Rep K M' H'' d x)/\J.stop ds.length H'
def CR1 (K:CV3)(t:TI3):TI:=fun σv H R2=>∃σ M R,SRel K M H σ σv/\MRel K M H/\t σ M R/\∀ds J M' H',Step M H M' H'->MRel K M' H'->WkE K J ds M' H'->R ds M'->R2 J H'
def HE (X:Cx)(tg iter:Expr)(t:TI3):Prop:=PI X tg iter (CR1 X.K t)
theorem PI3.toE {X:Cx}{t:TI3}(h:PI3 X tg iter t):HE X tg iter t:=PI.weak h fun σv H R2 ⟨σ,M,R,hS,hM,ht,k⟩=>⟨σ,M,R,hS,hM,ht,fun ds J M' H' st m wk=>k ds J M' H' st m fun M2 H2 st2 m2 =>
 let ⟨go,yld,stop⟩:=wk M2 H2 st2
 ⟨go,fun i d x H'' e y=>by obtain⟨rfl,r⟩:=yld i d x H'' e y;exact⟨.refl,m2,r⟩,stop _ (CW1 _)⟩⟩
def CD4 (ti:TI3)(n:Nat)(slots:List Nat)(g:TG3)(tt:TT3)(te:TE3)(F:Addr->List D->Mem->Prop)(σ:Lo)(M:Mem):Prop:=ti σ M fun ds M1=>∀p,M1 p=none->∃Pv:Nat->List D->Mem->Prop,Pv 0 [] (D3 M1 p (.lst [])) /\
 (∀k d acc M,ds[k]?=some d->Pv k acc M->g d (CV2 n none++slots.map fun j=>(σ[j]?).getD none) M fun σ' M0=>tt σ' M0 fun b M' =>
  if b=true then te σ' M' fun e M''=>M'' p=some (.lst acc)/\acc.length<CV8/\Pv (k+1) (acc++[e]) (D3 M'' p (.lst (acc++[e]))) else Pv (k+1) acc M') /\
 ∀acc M,Pv ds.length acc M->M p=some (.lst acc)/\F p acc M
set_option maxHeartbeats 2000000 in
theorem EJ {X:Cx}{ti:TI3}{g:TG3}{tt:TT3}{te:TE3}
  (hc:X.calm=true) (hi:HE X tg iter ti) (hkind:scope.kind=.function) (hcell:∀y∈scope.names,y.2≠.cell)
  (hnames:∀y∈scope.names,y.2=.local->scope.names.lookup y.1=some .local)
  (hfree:∀y∈scope.names,y.2=.free->X.env.kindOf y.1=some .cell\/X.env.kindOf y.1=some .free)
  (hcf:∀y∈caps,scope.names.lookup y=some .free) (hcaps:slots.map (fun j=>X.N[j]?)=caps.map some)
  (hgk:∀d M Q (cs:Lo),g d (CV2 tns.length none++cs) M Q->g d (CV2 tns.length none++cs) M (fun σ' M'=>σ'.drop tns.length=cs/\Q σ' M'))
  (hg:∀cl s₀ H₀ ex,PG3 (B0 X scope cl s₀ H₀ ex (tns++caps)) tg g)
  (ht:∀cl s₀ H₀ ex,AN (B0 X scope cl s₀ H₀ ex (tns++caps)) ifs tt) (he:∀cl s₀ H₀ ex,PE3 (B0 X scope cl s₀ H₀ ex (tns++caps)) elt te)
  (hs:∀y,CY5 iter X.env y=pure y)
  {use:Option (Value->Sem Unit)} {Post:Value->CV4->Prop} {σv:L2.St} {σ:Lo} {M:Mem} {F:Addr->List L3.D->Mem->Prop} (I:Inv X pins σv H s) (hS:SRel X.K M H σ σv) (hM:MRel X.K M H) (h:CD4 ti tns.length slots g tt te F σ M)
  (fin:∀(D C:Addr) (acc:List L3.D) (H5:Hp) (M5:Mem) (s6:CV4) (m:Str->Option Value),s6.heap.Ns C m->Inv X pins σv H5 s6->H5 C=none->C≠X.env.locals->C∉X.fs->X.s₀.heap.objs.size<=C->(∀x c,X.env.cells.lookup x=some c->c≠C)->(∀p∈X.pn++pins,p.1≠C) ->
   Step M H M5 H5->MRel X.K M5 H5->M5 D=some (.lst acc)->F D acc M5->compPost (model X.prog X.w) X.A X.xe use Post (.ref D) C (.ok .next) s6) :
  wpAny (model X.prog X.w) X.A (comprehension (.ListComp elt [⟨tg,iter,ifs,0⟩] scope pos) scope X.env (firstIterPos [⟨tg,iter,ifs,0⟩] pos) (newList []) false (firstIter [⟨tg,iter,ifs,0⟩] X.env) use) Post X.xe s:=by
 have hclos:closureFor scope X.env=pure (N8 (fun n=>(X.env.cells.lookup n).getD 0) scope.names []):=FK fun p hp hk=>by
  obtain⟨a,e⟩:=I.ok.has p.1 (hfree p hp hk)
  rw[e];rfl
 have cellsOf:∀x c,(N8 (fun n=>(X.env.cells.lookup n).getD 0) scope.names []).lookup x=some c->X.env.cells.lookup x=some c:=fun x c e=>by
  obtain⟨e1,e2⟩:=WV e
  obtain⟨a,e3⟩:=I.ok.has x (hfree _ e2 rfl)
  rw[e3] at e1
  rw[e3,e1];rfl
 have clHas:∀n,(n,NameKind.free)∈scope.names->∃c,(N8 (fun n=>(X.env.cells.lookup n).getD 0) scope.names []).lookup n=some c:=fun n hn=>⟨_,HI hn⟩
 generalize N8 (fun n=>(X.env.cells.lookup n).getD 0) scope.names []=cl at hclos cellsOf clHas
 refine wpAny_comprehension_free rfl hs hclos hkind hnames ?_
 refine thn (hi pins s σv H (fun J H2=>∃ds M1,Step M H M1 H2/\MRel X.K M1 H2/\WkE X.K J ds M1 H2/\_) I ⟨σ,M,_,hS,hM,h,fun ds J M1 H1 st m wk q=>⟨ds,M1,st,m,wk,q⟩⟩) fun v s1 h1=>thn h1 fun itv s2 h2=>?_
 obtain⟨it,fp,tn,J,H2,e0,I2,T,st2,f2,ds,M1,stp,m1,wk,cont⟩:=h2
 subst e0
 refine CX5 ?_
 have I3:=I2.lnew (its:=[]) (ys:=[]) (t':=s2.toks) .nil (DC3 _)
 have hget:∀b o,s2.heap.get? b=some o->({s2 with heap:=s2.heap.push {cls:=.type "list",data:=.seq #[]},toks:=s2.toks}:CV4).heap.get? b=some o:=fun b o e=>CU8 _ e
 have hsz:s2.heap.objs.size<({s2 with heap:=s2.heap.push {cls:=.type "list",data:=.seq #[]},toks:=s2.toks}:CV4).heap.objs.size:=CV9 (CW0 _ rfl)
 change wpAny _ _ _ _ _ ({s2 with heap:=s2.heap.push {cls:=.type "list",data:=.seq #[]},toks:=s2.toks}:CV4)
 change Inv X pins σv _ ({s2 with heap:=s2.heap.push {cls:=.type "list",data:=.seq #[]},toks:=s2.toks}:CV4) at I3
 have hos3:({s2 with heap:=s2.heap.push {cls:=.type "list",data:=.seq #[]},toks:=s2.toks}:CV4).os=s2.os:=rfl
 generalize ({s2 with heap:=s2.heap.push {cls:=.type "list",data:=.seq #[]},toks:=s2.toks}:CV4)=s3 at I3 hget hsz hos3 ⊢
 refine wpAny_newFunctionEnv hcell (fun _ hx=>absurd hx (by simp)) (fun h4 hns hsb=>?_) hkind
 have hDn:H2 s2.heap.objs.size=none:=I2.fresh
 have hD:upd H2 s2.heap.objs.size (.lst []) s2.heap.objs.size=some (.lst []):=D4
 have fpne:∀b∈fp,b≠s2.heap.objs.size:=fun b hb=>by
  obtain⟨o,e,_⟩:=T.obj _ _ st2 b hb
  exact CX3 (CV9 e)
 generalize s2.heap.objs.size=D at hDn hD hsz I3 fpne ⊢
 have stD:Step M1 H2 (D3 M1 D (.lst [])) (upd H2 D (.lst [])):=Step.put (.inl hDn)
 have mD:MRel X.K (D3 M1 D (.lst [])) (upd H2 D (.lst [])):=m1.put (.inl hDn) .nil
 have k4:∀b o,s3.heap.get? b=some o->h4.get? b=some o:=fun b o e=>(hsb.2 b (CX3 (CV9 e))).trans (CU8 _ e)
 have fpold:∀b∈fp,b<s3.heap.objs.size:=fun b hb=>by
  obtain⟨o,e,_⟩:=T.obj _ _ st2 b hb
  exact CV9 (hget b o e)
 have fpD:∀b∈fp,upd H2 D (.lst []) b=none:=fun b hb=>by
  rw[D5 (fpne b hb)];exact(f2 b hb).1
 have xok:(B0 X scope cl s3 (upd H2 D (.lst [])) fp (tns++caps)).Ok:={
  mod:=I.ok.mod
  kind:=hkind
  glob:=I.ok.glob
  blt:=I.ok.blt
  above:=CW1 _
  inj:=fun x y c e1 e2=>I.ok.inj x y c (cellsOf x c e1) (cellsOf y c e2)
  has:=fun x hx=>clHas x (IL hcell hx)
  cab:=fun x c hf=>by cases hf
  hd:=I.ok.hd
  frames:=I.ok.frames
  stk:=.inl rfl
  exf:=fun b hb=>⟨CX3 (fpold b hb),fun x c e=>(f2 b hb).2.2.2.2.1 x c (cellsOf x c e)⟩
  bs:=I3.bs
  bsz:=CY4 I3.ok.bsz I3.sz
  noex:=fun b o e hb=>by
   rcases(f2 b hb).2.2.2.1 with z|z
   ·exact I.ok.noex b o e z
   ·exact absurd (CY9 (CV9 e) (CY4 I.ok.bsz z)) (DC9 _)
  exfs:=fun b hb z=>by
   rcases CV0.mp (I2.stkSub b z) with z|z
   ·exact(f2 b hb).2.1 z
   ·exact(f2 b hb).2.2.1 z
  funs:=I3.stack
  frf:=I3.stkFree}
 have I4:Inv (B0 X scope cl s3 (upd H2 D (.lst [])) fp (tns++caps)) [] (CV2 tns.length none++slots.map fun j=>(σv[j]?).getD none) (upd H2 D (.lst [])) {s3 with heap:=h4,toks:=s3.toks+([]:List (Str×Value)).length}:={
  ok:=xok
  os:=rfl
  bare:=I3.bare
  base:=Un.kept k4
  loc:=by
   refine⟨_,hns,fun i x v e1 e2 vis=>?_⟩
   have hlen:caps.length=slots.length:=by
    have:=congrArg DJ2 hcaps
    simpa using this.symm
   have hi:tns.length<=i:=by
    rcases DO2 i tns.length with z|z
    ·rw[CZ0 (by simpa using z),DC0] at e2
     split at e2<;>cases e2
    ·exact z
   change (tns++caps)[i]?=some x at e1
   rw[CX8 hi] at e1
   rw[CX8 (by simpa using hi),DB8,CW8] at e2
   cases e3:slots[i-tns.length]? with
   | none=>rw[e3] at e2;cases e2
   | some j =>
    rw[e3,DE2] at e2
    have e2':(σv[j]?).getD none=some v:=Option.some.inj e2
    have e5:σv[j]?=some (some v):=by
     cases q:σv[j]? with
     | none=>rw[q] at e2';cases e2'
     | some z=>rw[q] at e2';simp only[DL6] at e2';rw[e2']
    have e4:X.N[j]?=some x:=by
     have:=congrArg (fun l=>l[i-tns.length]?) hcaps
     simp only[CW8,e3,e1,DE2] at this
     exact Option.some.inj this
    have hxf:=hcf x (DA1 e1)
    have hk:=hfree (x,.free) (DA3 hxf) rfl
    obtain⟨m,hm,hl⟩:=I3.loc
    obtain⟨u,ru,lk⟩:=hl j x v e4 e5 (hk.elim (fun z=>.inr (.inl z)) fun z=>.inr (.inr z))
    refine⟨u,ru,.inr ⟨FS hxf,?_⟩⟩
    rcases lk with⟨z,_⟩|⟨_,c,ec,ic⟩
    ·rcases hk with y|y<;>(rw[show X.env.kindOf x=_ from z] at y;cases y)
    ·obtain⟨c',ec'⟩:=clHas x (DA3 hxf)
     have:=cellsOf x c' ec'
     rw[ec] at this
     cases this
     obtain⟨o,ho,r⟩:=ic
     exact⟨c,ec',o,k4 _ _ ho,r⟩
  cell:=fun x c e=>by
   obtain⟨v,o,ho,r⟩:=I3.cell x c (cellsOf x c e)
   exact⟨v,o,k4 _ _ ho,r⟩
  free:=I3.fresh
  freeC:=fun x c e=>I3.freeC x c (cellsOf x c e)
  pin:=fun p hp=>absurd hp (by simp[B0])
  hok:=I3.hok.kept k4
  len:=by
   have:=congrArg DJ2 hcaps
   simp at this
   simp[B0,this]}
 have hlen:caps.length=slots.length:=by
  have:=congrArg DJ2 hcaps
  simpa using this.symm
 have stat:∀{H':Hp},(∀b∈fp,H' b=none)->∀b∈fp,ON (B0 X scope cl s3 (upd H2 D (.lst [])) fp (tns++caps)) [] H' b:=fun hn b hb =>
  ⟨hn b hb,(xok.exf b hb).1,xok.exfs b hb,.inl hb,(xok.exf b hb).2,fun p hp=>absurd hp (by simp[B0])⟩
 have hMD:M1 D=none:=m1.free hDn
 obtain⟨Pv,p0,turn,done⟩:=cont D hMD
 have hS0:SRel X.K (D3 M1 D (.lst [])) (upd H2 D (.lst [])) (CV2 tns.length none++slots.map fun j=>(σ[j]?).getD none) (CV2 tns.length none++slots.map fun j=>(σv[j]?).getD none):=by
  refine⟨by simp,fun i d e=>?_⟩
  rcases DO2 i tns.length with z|z
  ·rw[CZ0 (by simpa using z),DC0] at e
   split at e<;>cases e
  ·rw[CX8 (by simpa using z),DB8,CW8] at e ⊢
   cases e3:slots[i-tns.length]? with
   | none=>rw[e3] at e;cases e
   | some j =>
    rw[e3,DE2] at e
    have e2':(σ[j]?).getD none=some d:=Option.some.inj e
    have e5:σ[j]?=some (some d):=by
     cases q:σ[j]? with
     | none=>rw[q] at e2';cases e2'
     | some z=>rw[q] at e2';simp only[DL6] at e2';rw[e2']
    obtain⟨v,ev,rv⟩:=hS.get j d e5
    exact⟨v,by rw[DE2,ev];rfl,rv.mono (stp.trans stD)⟩
 generalize hcs:(slots.map fun j=>(σ[j]?).getD none)=cs at turn hS0
 have hcsl:cs.length=caps.length:=by rw[<-hcs,hlen];simp
 have loop:codeAny (model X.prog X.w) X.A (.compLoop (.ListComp elt [⟨tg,iter,ifs,0⟩] scope pos) 0 (.ref it) (.ref D) (compEnvC scope cl s3.heap.objs.size X.env)) (compPost (model X.prog X.w) X.A X.xe use Post (.ref D) s3.heap.objs.size) {s3 with heap:=h4,toks:=s3.toks+([]:List (Str×Value)).length}:=by
  refine AK4 (fun n s'=>∃k acc σv' H' M',n=ds.length-k/\k<=ds.length/\Inv (B0 X scope cl s3 (upd H2 D (.lst [])) fp (tns++caps)) [] σv' H' s'/\tn k s'.heap/\(∀b∈fp,H' b=none) /\
   Step (D3 M1 D (.lst [])) (upd H2 D (.lst [])) M' H'/\MRel X.K M' H'/\SRel X.K M' H' (CV2 tns.length none++cs) σv'/\Pv k acc M') ?_ _ ⟨0,[],_,_,_,rfl,DC3 _,I4,T.keep _ _ _ st2 fun b hb o e=>k4 _ _ (hget _ _ e),fpD,.refl,mD,hS0,p0⟩
  rintro n s5 ⟨k,acc,σv5,H5,M5,rfl,hk,I5,tn5,fr5,st5,m5,hS5,pk⟩
  obtain⟨go,yld,stop⟩:=wk M5 H5 (stD.trans st5) m5
  by_cases hlt:k<ds.length
  ·refine thn (T.item (B0 X scope cl s3 (upd H2 D (.lst [])) fp (tns++caps)) rfl rfl rfl hc k [] s5 σv5 H5 (fun _ _=>False) I5 (stat fr5) tn5 (go k hlt)) fun r s6 hx0=>?_
   obtain⟨u,hr,h6⟩:=hx0
   subst hr
   refine thn h6 fun _ s7 hx0=>?_
   obtain⟨x,H7,I7,r7,y7,tn7,fr7⟩:=hx0
   obtain⟨sy,my,ry⟩:=yld k ds[k] x H7 (by simp[hlt]) y7
   have I7':=I7.pinned (stat fr7) (T.obj _ _ tn7)
   refine thn (hg cl s3 (upd H2 D (.lst [])) fp _ s7 σv5 _ x u (fun σv' H'=>∃σ' M',Step M5 H7 M' H'/\MRel X.K M' H'/\SRel X.K M' H' σ' σv'/\_) I7' r7 ⟨ds[k],_,M5,_,ry,hS5.mono sy,my,hgk _ _ _ _ (turn k ds[k] acc M5 (by simp[hlt]) pk),fun σ' σv' M' H' st m r q=>⟨σ',M',st,m,r,q⟩⟩) fun _ s8 hx0=>?_
   obtain⟨σ8,H8,I8,σ',M8,st8,m8,hS8,hdr,q8⟩:=hx0
   have again:∀(sF:CV4) (HF:Hp) (MF:Mem) (accF:List L3.D),Inv (B0 X scope cl s3 (upd H2 D (.lst [])) fp (tns++caps)) ([]++JL fp s7.heap) σ8 HF sF->Step M8 H8 MF HF->MRel X.K MF HF->Pv (k+1) accF MF ->
     ∃m,m<ds.length-k/\∃k acc σv' H' M',m=ds.length-k/\k<=ds.length/\Inv (B0 X scope cl s3 (upd H2 D (.lst [])) fp (tns++caps)) [] σv' H' sF/\tn k sF.heap/\(∀b∈fp,H' b=none) /\
      Step (D3 M1 D (.lst [])) (upd H2 D (.lst [])) M' H'/\MRel X.K M' H'/\SRel X.K M' H' (CV2 tns.length none++cs) σv'/\Pv k acc M':=by
    intro sF HF MF accF IF stF mF pF
    refine⟨ds.length-(k+1),by lia,k+1,accF,σ8,HF,MF,rfl,hlt,IF.unpinned,T.keep _ _ _ tn7 fun b hb o e=>(IF.pin (b,o) (CW6 _ (CW6 _ (P9 hb e)))).1,fun b hb=>?_,((st5.trans sy).trans st8).trans stF,mF,?_,pF⟩
    ·obtain⟨o,e,d⟩:=T.obj _ _ tn7 b hb
     exact(IF.pin (b,o) (CW6 _ (CW6 _ (P9 hb e)))).2.1
    ·refine SRel.mono stF ⟨?_,fun i d e=>?_⟩
     ·have:=I8.len
      rw[this,CW3,DB8,hcsl]
      simp[B0]
     ·rcases DO2 i tns.length with z|z
      ·rw[CZ0 (by simpa using z),DC0] at e
       split at e<;>cases e
      ·rw[CX8 (by simpa using z),DB8,<-hdr,List.getElem?_drop] at e
       have:tns.length+(i-tns.length)=i:=by lia
       rw[this] at e
       exact hS8.get i d e
   refine thn (ht cl s3 (upd H2 D (.lst [])) fp _ s8 σ8 H8 σ' M8 _ I8 hS8 m8 q8) fun ok s9 hx0=>?_
   obtain⟨M9,H9,I9,st9,m9,q9⟩:=hx0
   cases ok with
   | false=>exact again s9 H9 M9 acc I9 st9 m9 q9
   | true =>
    refine thn (he cl s3 (upd H2 D (.lst [])) fp _ s9 σ8 H9 σ' M9 _ I9 (hS8.mono st9) m9 q9) fun xv s10 hx0=>?_
    obtain⟨e,v,M10,H10,I10,st10,m10,r10,rep10,hMp,hlt2,q10⟩:=hx0
    obtain⟨ho,hHo,rO⟩:=m10 D _ hMp
    cases ho<;>first|exact(rO:False).elim|skip
    rename_i vs
    have rO':Reps X.K M10 H10 acc vs:=rO
    refine thn (RD _ s10 σ8 H10 (.ref D) [v] (.ref D) [xv] (fun w H'=>H'=upd H10 D (.lst (vs++[v]))) I10 rfl (.cons r10 .nil) ⟨D,vs,v,rfl,rfl,hHo,by rw[<-rO'.length];exact hlt2,rfl⟩) fun _ s11 hx0=>?_
    obtain⟨w,H11,I11,_,e11⟩:=hx0
    subst e11
    exact again s11 _ _ _ I11 (st9.trans (st10.trans (Step.put (.inr (by rw[hMp];simp))))) (m10.put (.inr (by rw[hMp];simp)) (o:=.lst (acc++[e])) (Reps.append rO' (.cons rep10 .nil))) q10
  ·have e:k=ds.length:=by lia
   subst e
   refine thn (T.done (B0 X scope cl s3 (upd H2 D (.lst [])) fp (tns++caps)) rfl rfl rfl hc _ [] s5 σv5 H5 (fun _ _=>False) I5 (stat fr5) tn5 stop) fun r s6 hx0=>?_
   obtain⟨hr,I6⟩:=hx0
   subst hr
   obtain⟨m,hn,_⟩:=I6.loc
   obtain⟨hp,hq⟩:=done acc M5 pk
   refine fin D s3.heap.objs.size acc H5 M5 s6 m hn (I3.call' (ch:=fp) I6.os I6.base I6.hok I6.bare (fun b hb=>⟨(f2 b hb).2.2.2.1,(f2 b hb).2.1,(f2 b hb).2.2.2.2.1,(f2 b hb).2.2.2.2.2⟩)) I6.free (DL9 I3.lt) (I3.nofs (CW1 _)) I3.sz (fun x c e z=>?_) (fun p hp z=>absurd (CV9 (I3.pin p hp).1) (by rw[z];exact DC9 _)) ((stp.trans stD).trans st5) m5 hp hq
   obtain⟨v,q⟩:=I3.cell x c e
   exact absurd q.lt (by rw[z];exact DC9 _)
 exact codeAny_compStart_list loop (T.self _ _ _ _ _ (T.keep _ _ _ st2 fun b hb o e=>k4 _ _ (hget _ _ e)) loop)
theorem ND {X:Cx}{ti:TI3}{g:TG3}{tt:TT3}{te:TE3}
  (hc:X.calm=true) (hi:HE X tg iter ti) (hkind:scope.kind=.function) (hcell:∀y∈scope.names,y.2≠.cell)
  (hnames:∀y∈scope.names,y.2=.local->scope.names.lookup y.1=some .local)
  (hfree:∀y∈scope.names,y.2=.free->X.env.kindOf y.1=some .cell\/X.env.kindOf y.1=some .free)
  (hcf:∀y∈caps,scope.names.lookup y=some .free) (hcaps:slots.map (fun j=>X.N[j]?)=caps.map some)
  (hgk:∀d M Q (cs:Lo),g d (CV2 tns.length none++cs) M Q->g d (CV2 tns.length none++cs) M (fun σ' M'=>σ'.drop tns.length=cs/\Q σ' M'))
  (hg:∀cl s₀ H₀ ex,PG3 (B0 X scope cl s₀ H₀ ex (tns++caps)) tg g)
  (ht:∀cl s₀ H₀ ex,AN (B0 X scope cl s₀ H₀ ex (tns++caps)) ifs tt) (he:∀cl s₀ H₀ ex,PE3 (B0 X scope cl s₀ H₀ ex (tns++caps)) elt te)
  (hs:∀y,CY5 iter X.env y=pure y:=by intro _;rfl) :
  PE3 X (.ListComp elt [⟨tg,iter,ifs,0⟩] scope pos) (Q8 ti tns.length slots g tt te):=by
 intro pins s σv H σ M Q I hS hM h
 rw[eval_ListComp]
 refine EJ hc hi hkind hcell hnames hfree hcf hcaps hgk hg ht he hs (use:=none) (F:=fun p _ M=>Q (.ref p) M) I hS hM h fun D C acc H5 M5 s6 m hn I7 c1 c2 c3 c4 c5 c6 st m5 hp hq=>?_
 exact⟨m,hn,fun h' sb=>⟨.ref D,.ref D,M5,H5,I7.turned (t':=s6.toks) (it:=C) (fun b o hb e=>(sb.2 b hb).trans e) c1 c2 (.inr c4) c5 c6,st,m5,rfl,.ref,hq⟩⟩
theorem ZY {X:Cx}{ti:TI3}{g:TG3}{tt:TT3}{te:TE3}
  (hc:X.calm=true) (hi:PI3 X tg iter ti) (hkind:scope.kind=.function) (hcell:∀y∈scope.names,y.2≠.cell)
  (hnames:∀y∈scope.names,y.2=.local->scope.names.lookup y.1=some .local)
  (hfree:∀y∈scope.names,y.2=.free->X.env.kindOf y.1=some .cell\/X.env.kindOf y.1=some .free)
  (hcf:∀y∈caps,scope.names.lookup y=some .free) (hcaps:slots.map (fun j=>X.N[j]?)=caps.map some)
  (hgk:∀d M Q (cs:Lo),g d (CV2 tns.length none++cs) M Q->g d (CV2 tns.length none++cs) M (fun σ' M'=>σ'.drop tns.length=cs/\Q σ' M'))
  (hg:∀cl s₀ H₀ ex,PG3 (B0 X scope cl s₀ H₀ ex (tns++caps)) tg g)
  (ht:∀cl s₀ H₀ ex,AN (B0 X scope cl s₀ H₀ ex (tns++caps)) ifs tt) (he:∀cl s₀ H₀ ex,PE3 (B0 X scope cl s₀ H₀ ex (tns++caps)) elt te)
  (hs:∀y,CY5 iter X.env y=pure y:=by intro _;rfl) :
  PE3 X (.ListComp elt [⟨tg,iter,ifs,0⟩] scope pos) (Q8 ti tns.length slots g tt te):=ND hc hi.toE hkind hcell hnames hfree hcf hcaps hgk hg ht he hs
theorem RF {X:Cx}{ti:TI3}{g:TG3}{tt:TT3}{te:TE3}
  (hc:X.calm=true) (hi:HE X tg iter ti) (hkind:scope.kind=.function) (hcell:∀y∈scope.names,y.2≠.cell)
  (hnames:∀y∈scope.names,y.2=.local->scope.names.lookup y.1=some .local)
  (hfree:∀y∈scope.names,y.2=.free->X.env.kindOf y.1=some .cell\/X.env.kindOf y.1=some .free)
  (hcf:∀y∈caps,scope.names.lookup y=some .free) (hcaps:slots.map (fun j=>X.N[j]?)=caps.map some)
  (hgk:∀d M Q (cs:Lo),g d (CV2 tns.length none++cs) M Q->g d (CV2 tns.length none++cs) M (fun σ' M'=>σ'.drop tns.length=cs/\Q σ' M'))
  (hg:∀cl s₀ H₀ ex,PG3 (B0 X scope cl s₀ H₀ ex (tns++caps)) tg g)
  (ht:∀cl s₀ H₀ ex,AN (B0 X scope cl s₀ H₀ ex (tns++caps)) ifs tt) (he:∀cl s₀ H₀ ex,PE3 (B0 X scope cl s₀ H₀ ex (tns++caps)) elt te)
  (hs:∀y,CY5 iter X.env y=pure y:=by intro _;rfl) :
  PE3 X (.ListComp elt [⟨tg,iter,ifs,0⟩] scope pos) (F9 ti tns.length slots g tt te):=by
 intro pins s σv H σ M Q I hS hM h
 rw[eval_ListComp]
 refine EJ hc hi hkind hcell hnames hfree hcf hcaps hgk hg ht he hs (use:=none) (F:=fun p acc M=>Q (.lst acc) (Z0 M p)) I hS hM h fun D C acc H5 M5 s6 m hn I7 c1 c2 c3 c4 c5 c6 st m5 hp hq=>?_
 obtain⟨mF,rF,sF⟩:=Vs.frzL hp X.K H5 (.ref D) m5 .ref
 exact⟨m,hn,fun h' sb=>⟨.lst acc,.ref D,Z0 M5 D,H5,I7.turned (t':=s6.toks) (it:=C) (fun b o hb e=>(sb.2 b hb).trans e) c1 c2 (.inr c4) c5 c6,st.less sF,mF,rfl,rF,hq⟩⟩
theorem AX7 {X:Cx}{ti:TI3}{g:TG3}{tt:TT3}{te:TE3}
  (hc:X.calm=true) (hi:PI3 X tg iter ti) (hkind:scope.kind=.function) (hcell:∀y∈scope.names,y.2≠.cell)
  (hnames:∀y∈scope.names,y.2=.local->scope.names.lookup y.1=some .local)
  (hfree:∀y∈scope.names,y.2=.free->X.env.kindOf y.1=some .cell\/X.env.kindOf y.1=some .free)
  (hcf:∀y∈caps,scope.names.lookup y=some .free) (hcaps:slots.map (fun j=>X.N[j]?)=caps.map some)
  (hgk:∀d M Q (cs:Lo),g d (CV2 tns.length none++cs) M Q->g d (CV2 tns.length none++cs) M (fun σ' M'=>σ'.drop tns.length=cs/\Q σ' M'))
  (hg:∀cl s₀ H₀ ex,PG3 (B0 X scope cl s₀ H₀ ex (tns++caps)) tg g)
  (ht:∀cl s₀ H₀ ex,AN (B0 X scope cl s₀ H₀ ex (tns++caps)) ifs tt) (he:∀cl s₀ H₀ ex,PE3 (B0 X scope cl s₀ H₀ ex (tns++caps)) elt te)
  (hs:∀y,CY5 iter X.env y=pure y:=by intro _;rfl) :
  PE3 X (.ListComp elt [⟨tg,iter,ifs,0⟩] scope pos) (F9 ti tns.length slots g tt te):=RF hc hi.toE hkind hcell hnames hfree hcf hcaps hgk hg ht he hs
theorem LA {α:Type}{n:Nat}:∀{is:List Nat} {σ:List (Option α)} {xs:List α},(∀i∈is,i<n)->(DV σ is xs).drop n=σ.drop n
 | [],σ,xs,_=>by cases xs<;>rfl
 | i::is,σ,[],_=>rfl
 | i::is,σ,x::xs,h=>by
  show(DV (σ.set i (some x)) is xs).drop n=σ.drop n
  rw[LA fun j hj=>h j (CW5 _ hj),List.drop_set_of_lt (h i CW4)]
theorem K5 (hi:i<n)(d:D)(M:Mem)(Q:Lo->Mem->Prop)(cs:Lo)(h:K2 i d (CV2 n none++cs) M Q):K2 i d (CV2 n none++cs) M (fun σ' M'=>σ'.drop n=cs/\Q σ' M'):=by
 refine⟨?_,h⟩
 rw[List.drop_set_of_lt hi,List.drop_left' (by simp)]
theorem JD (hi:∀i∈is,i<n)(d:D)(M:Mem)(Q:Lo->Mem->Prop)(cs:Lo)(h:CV is d (CV2 n none++cs) M Q):CV is d (CV2 n none++cs) M (fun σ' M'=>σ'.drop n=cs/\Q σ' M'):=by
 obtain⟨ds,e,hl,q⟩:=h
 refine⟨ds,e,hl,?_,q⟩
 rw[LA hi,List.drop_left' (by simp)]
abbrev M3:=D->List D->Mem->DK->Prop
def MtR3 (X:Cx)(id:String)(r:M3):Prop :=
 ∀(pins:List (Addr×Obj)) (s:CV4) (σv:L2.St) (H:Hp) (M:Mem) (x:D) (xs:List D) (xv:V) (xvs:List V) (v:Value) (us:List Value) (Q:DK),Inv X pins σv H s->MRel X.K M H->RelV xv v->Vals xvs us->Rep X.K M H x xv->Reps X.K M H xs xvs->r x xs M Q ->
  wpAny (model X.prog X.w) X.A (call (.builtin id) (v::us)) (EP3 X pins σv M H Q) X.xe s
def tyD (T:String)(M:Mem):D->Prop
 | .str _=>T="str"
 | .lst _=>T="list"
 | .ref a=>(T="list"/\∃ds,M a=some (.lst ds))\/(T="dict"/\∃ds,M a=some (.dct ds))
 | _=>False
theorem CQ3 {X:Cx}{T:String}{M:Mem}{d:D}(m:MRel X.K M H)(r:Rep X.K M H d v)(h:tyD T M d):tyV X.K T v H:=by
 cases r with
 | str=>exact h
 | lst h1 _=>exact .inl ⟨h,_,SqL.of3 h1⟩
 | ref =>
  rcases h with⟨rfl,ds,e⟩|⟨rfl,ds,e⟩
  ·obtain⟨ho,e1,r⟩:=m _ _ e
   cases ho<;>first|exact(r:False).elim|skip
   exact .inl ⟨rfl,_,.inl (.inl e1)⟩
  ·obtain⟨ho,e1,r⟩:=m _ _ e
   cases ho<;>first|exact(r:False).elim|skip
   exact .inr (.inr (.inl ⟨rfl,.inl ⟨_,e1⟩⟩))
 | dct h1 _=>exact h.elim
 | _=>exact h.elim
def PY (T:String)(r:M3)(to:TE3)(t:TA3):TE3:=fun σ M Q=>to σ M fun x M1=>tyD T M1 x/\t σ M1 fun xs M2=>r x xs M2 Q
section
variable {X:Cx}{o e:Expr}{es:List Expr}{to:TE3}{t:TA3}{name:Str}{apos cpos:Pos}{T id:String}{r:M3}
theorem BV8 (pa:PlainAttrs T)(slot:Slot T name id)(hty:typeOf (.builtin id)=pure (.type "method_descriptor"))(hm:MtR3 X id r)(ho:PE3 X o to)(ha:PA3 X (e::es) t)
  (hbase:attributeBase o name X.env (eval o X.env)=eval o X.env:=by rfl)
  (hfew:((DK1 cpos (CY3 (e::es) X.env)).all (fun x=>!x.1) && (backToKw cpos (keywordEach [] X.env)).all (fun x=>x.1.isSome)
   && decide ((e::es).length+([]:List Keyword).length+(if ([]:List Keyword).isEmpty then 0 else 1)<30))=true:=by rfl)
  (hline:(apos.endLine==cpos.line)=true:=by rfl) (hs:CY3 (e::es) X.env=(false,eval e X.env)::CY3 es X.env:=by rfl) (hplain:(DK1 cpos (CY3 es X.env)).any (·.1)=false:=by rfl) :
  PE3 X (.Call (.Attribute o name apos) (e::es) [] cpos) (PY T r to t):=by
 intro pins s σv H σ M Q I hS hM h
 refine wpAny_Call_method_late hbase hfew hline rfl (thn (ho pins s σv H σ M _ I hS hM h) fun v s1 ⟨d,xv,M1,H1,I1,st1,m1,r1,p1,ty,q1⟩=>?_)
 obtain⟨h1,h2⟩:=CE0 I1 r1 (CQ3 m1 p1 ty)
 refine⟨T,id,pa,slot,hty,h1,h2,?_⟩
 have hA:=ha cpos pins s1 σv H1 σ M1 _ I1 (hS.mono st1) m1 q1
 rw[hs] at hA ⊢
 refine Calls.callWith_builtin (by show(false || (DK1 cpos (CY3 es X.env)).any (·.1))=false;rw[hplain]<;>rfl) (Calls.evalArgs_plain ?_)
 exact thn hA fun us s2 ⟨ds,vs,M2,H2,I2,st2,m2,rv2,p2,q2⟩=>thn (hm pins s2 σv H2 M2 d ds xv vs v us Q I2 m2 r1 rv2 (p1.mono st2) p2 q2) fun _ _ z=>z.trans (st1.trans st2)
theorem MtR3.of {id:String}{r:M3}{r2:V->List V->Hp->VK->Prop}(h:MtM X id r2)(hr:∀H M x xs xv xvs Q,MRel X.K M H->Rep X.K M H x xv->Reps X.K M H xs xvs->r x xs M Q->r2 xv xvs H (Up X.K M H Q)):MtR3 X id r:=by
 intro pins s σv H M x xs xv xvs v us Q I m rv rvs px pxs q
 exact thn (h pins s σv H xv xvs v us _ I rv rvs (hr H M x xs xv xvs Q m px pxs q)) fun _ _ z=>U6 z
theorem NO {M:Mem}{d:D}(r:Reps K M H [d] vs):∃v,vs=[v]/\Rep K M H d v:=by
 cases r with
 | cons a b=>cases b;exact⟨_,rfl,a⟩
def DD:M3:=fun x xs M Q=>∃a ds y,x=.ref a/\xs=[y]/\M a=some (.lst ds)/\ds.length<CV8/\Q .non (D3 M a (.lst (ds++[y])))
theorem AL8:MtR3 X "list.append" DD:=MtR3.of RD fun H M x xs xv xvs Q m px pxs hx0=>by
 obtain⟨a,ds,y,e1,e2,hm,hl,q⟩:=hx0
 subst e1 e2
 cases px
 obtain⟨yv,rfl,py⟩:=NO pxs
 obtain⟨ho,e3,r⟩:=m _ _ hm
 cases ho<;>first|exact(r:False).elim|skip
 rename_i vs
 have r':Reps X.K M H ds vs:=r
 refine⟨a,vs,_,rfl,rfl,e3,by rw[<-r'.length];exact hl,.non,_,Step.put (.inr (by rw[hm];simp)),m.put (.inr (by rw[hm];simp)) (o:=.lst (ds++[y])) (Reps.append r' (.cons py .nil)),.non,q⟩
end
def N5 (env:Env)(scope:Scope)(caps:List Str):Bool :=
 (scope.names.all fun y=>match y.2 with
  | .free=>(match env.kindOf y.1 with|some .cell=>true|some .free=>true|_=>false)
  | .cell=>false
  | .local=>(match scope.names.lookup y.1 with|some .local=>true|_=>false)
  | _=>true) && caps.all fun y=>match scope.names.lookup y with|some .free=>true|_=>false
theorem AN1 {X:Cx}(tns caps:List Str)(slots:List Nat){ti:TI3}{g:TG3}{tt:TT3}{te:TE3}
  (hc:X.calm=true) (hi:PI3 X tg iter ti) (hkind:scope.kind=.function) (hok:N5 X.env scope caps=true) (hcaps:slots.map (fun j=>X.N[j]?)=caps.map some)
  (hgk:∀d M Q (cs:Lo),g d (CV2 tns.length none++cs) M Q->g d (CV2 tns.length none++cs) M (fun σ' M'=>σ'.drop tns.length=cs/\Q σ' M'))
  (hg:∀cl s₀ H₀ ex,PG3 (B0 X scope cl s₀ H₀ ex (tns++caps)) tg g)
  (ht:∀cl s₀ H₀ ex,AN (B0 X scope cl s₀ H₀ ex (tns++caps)) ifs tt) (he:∀cl s₀ H₀ ex,PE3 (B0 X scope cl s₀ H₀ ex (tns++caps)) elt te)
  (hs:∀y,CY5 iter X.env y=pure y:=by intro _;rfl) :
  PE3 X (.ListComp elt [⟨tg,iter,ifs,0⟩] scope pos) (F9 ti tns.length slots g tt te):=by
 unfold N5 at hok
 rw[CX9,CX4,CX4] at hok
 obtain⟨h1,h2⟩:=hok
 refine AX7 hc hi hkind (fun y hy e=>?_) (fun y hy e=>?_) (fun y hy e=>?_) (fun y hy=>?_) hcaps hgk hg ht he hs
 ·have:=h1 y hy;rw[e] at this;cases this
 ·have:=h1 y hy
  rw[e] at this
  dsimp only at this
  split at this
  ·assumption
  ·cases this
 ·have:=h1 y hy
  rw[e] at this
  dsimp only at this
  split at this
  ·exact .inl (by assumption)
  ·exact .inr (by assumption)
  ·cases this
 ·have:=h2 y hy
  split at this
  ·assumption
  ·cases this
end L3
variable {M:L3.Mem}{g:L3.TG3}{ds:List L3.D}{σ:L3.Lo}{kds:List (L2.Key×L3.D)}{tk:L3.TE3}{tv:L3.TE3}{ti:L3.TI3}{te:L3.TE3}{tt:L3.TT3}{R:List L3.D->L3.Mem->Prop}{r:List L3.D}{rest:List L3.D}
namespace L3
open PySem L2
section
variable {t u:TS3}{T:Z3}{σ:Lo}{M:Mem}{Q:DK}{QB:Bool->Mem->Prop}{QA:List D->Mem->Prop}{c tA tB:TT3}{te ta tb tc:TE3}{tas:TA3}{i:Nat}{d x y:D}{r r':R3}{ru:U3}{rc:C3}{sp:Sp3}
theorem DS (h:t {T with nx:=u T} σ M):A6 t u T σ M:=h
theorem DM (h:c σ M fun b M1=>if b=true then t T σ M1 else u T σ M1):C8 c t u T σ M:=h
theorem X6 (h:te σ M fun x M'=>∃k,x=.bl k/\QB k M'):A9 te σ M QB:=h
theorem KU (h:ta σ M fun x M1=>tb σ M1 fun y M2=>r x y M2 Q):A3 r ta tb σ M Q:=h
theorem KZ (h:ta σ M fun x M1=>ru x M1 Q):CD7 ru ta σ M Q:=h
theorem V8 {i:Nat}(e:σ[i]?=some (some d))(h:Q d M):A1 i σ M Q:=by unfold A1;rw[e];exact h
theorem XG (h:Q d M):tC3 d σ M Q:=h
theorem BC (h:te σ M T.rt):B1 te T σ M:=h
theorem DT (h:te σ M fun d M1=>T.nx (σ.set i (some d)) M1):B6 i te T σ M:=h
theorem W9 (h:te σ M fun _ M1=>T.nx σ M1):BI te T σ M:=h
theorem T4 (h:T.nx σ M):B9 T σ M:=h
theorem W7 (h:tas σ M fun ds M1=>sp ds M1 Q):A4 sp tas σ M Q:=h
theorem KR (h:tas σ M fun ds M1=>rc ds M1 Q):C5 rc tas σ M Q:=h
theorem DO (h:QA [] M):A2 σ M QA:=h
theorem W8 (h:te σ M fun x M1=>tas σ M1 fun xs M2=>QA (x::xs) M2):A0 te tas σ M QA:=h
theorem X7 (h:tas σ M fun xs M1=>xs.length<=CV8/\Q (.tup xs) M1):A5 tas σ M Q:=h
theorem X3 (h:tas σ M fun xs M1=>xs.length<=CV8/\Q (.lst xs) M1):E9 tas σ M Q:=h
theorem DI (h:tA σ M fun c M1=>if c=true then tB σ M1 QB else QB false M1):RP tA tB σ M QB:=h
theorem KW (h:tA σ M fun c M1=>if c=true then QB true M1 else tB σ M1 QB):Z1 tA tB σ M QB:=h
theorem DP (h:tA σ M fun c M1=>QB (!c) M1):K4 tA σ M QB:=h
theorem W6 (h:ta σ M fun x M1=>∃c,x=.bl c/\if c=true then tb σ M1 Q else Q (.bl false) M1):G8 ta tb σ M Q:=h
theorem DQ (h:ta σ M fun x M1=>∃c,x=.bl c/\if c=true then Q (.bl true) M1 else tb σ M1 Q):YJ ta tb σ M Q:=h
theorem X4 (h:ta σ M fun x M1=>∃c,x=.bl c/\Q (.bl (!c)) M1):AC7 ta σ M Q:=h
theorem R7 (h:ta σ M fun x M1=>tb σ M1 fun y M2=>r x y M2 fun z M3=>∃k,z=.bl k/\if k=true then tc σ M3 fun w M4=>r' y w M4 Q else Q (.bl false) M3):X8 r r' ta tb tc σ M Q:=h
theorem KY {tl th:TO3}(h:te σ M fun x M1=>tl σ M1 fun l M2=>th σ M2 fun u M3=>BM7 x l u M3 Q):BO2 te tl th σ M Q:=h
theorem KS {QO:Option Int->Mem->Prop}(h:QO none M):W1 σ M QO:=h
theorem X5 {QO:Option Int->Mem->Prop}(h:te σ M fun x M1=>match x with|.int i=>QO (some i) M1|_=>False):EE te σ M QO:=h
theorem P5 {b:Bool}{P:Bool->Prop}(h:P b):∃k,D.bl b=.bl k/\P k:=⟨b,rfl,h⟩
theorem G6 {P R:Prop}(h:P):if true=true then P else R:=by rw[if_pos rfl];exact h
theorem G9 {P R:Prop}(h:R):if false=true then P else R:=by rw[if_neg CV5];exact h
theorem JR {c P R:Prop}[Decidable c](h1:c->P)(h2:¬c->R):if decide c=true then P else R:=by
 by_cases h:c
 ·rw[decide_eq_true h,if_pos rfl];exact h1 h
 ·rw[decide_eq_false h,if_neg CV5];exact h2 h
theorem KQ {g:Int->Int->D}{i j:Int}(h:Q (g i j) M):JM g (.int i) (.int j) M Q:=h
theorem DF {C:Int->Int->Prop}{g:Int->Int->D}{i j:Int}(hc:C i j)(h:Q (g i j) M):rI3 C g (.int i) (.int j) M Q:=⟨hc,h⟩
theorem XE {g:Int->Int}{i:Int}(h:Q (.int (g i)) M):rU3 g (.int i) M Q:=h
theorem J9 {i j:Int}(h:Q (.int (i+j)) M):C9 (.int i) (.int j) M Q:=h
theorem LS {a b:Str}(hl:a.length+b.length<=CV8)(h:Q (.str (a++b)) M):C9 (.str a) (.str b) M Q:=⟨hl,h⟩
theorem K6 {a b:List D}(hl:a.length+b.length<=CV8)(h:Q (.lst (a++b)) M):C9 (.lst a) (.lst b) M Q:=⟨hl,h⟩
theorem LT {a b:List D}(hl:a.length+b.length<=CV8)(h:Q (.tup (a++b)) M):C9 (.tup a) (.tup b) M Q:=⟨hl,h⟩
theorem DJ {a b:Str}(h:Q (.bl (a==b)) M):J4 (.str a) (.str b) M Q:=.inr ⟨a,b,rfl,rfl,h⟩
theorem GR {a b:Str}(h:Q (.bl (!(a==b))) M):CG (.str a) (.str b) M Q:=.inr ⟨a,b,rfl,rfl,h⟩
theorem CN0 (hx:dOk x)(hy:dOk y)(h:Q (.bl (!PyData.eqv (pyD x) (pyD y))) M):CG x y M Q:=.inl ⟨hx,hy,h⟩
theorem L1 {i:Int}(e:atI ds i=some d)(h:Q d M):C6 (.lst ds) (.int i) M Q:=⟨d,e,h⟩
theorem B8 {i:Int}(e:atI ds i=some d)(h:Q d M):C6 (.tup ds) (.int i) M Q:=⟨d,e,h⟩
theorem AB9 {i:Int}{c:Nat}(hl:z.length<=CV8)(e:atI z.cps.toList i=some c)(h:Q (.str ⟨#[c]⟩) M):C6 (.str z) (.int i) M Q:=⟨hl,c,e,h⟩
theorem X1 (h:Q (.int ds.length) M):E6 [.lst ds] M Q:=h
theorem X2 (h:Q (.int ds.length) M):E6 [.tup ds] M Q:=h
theorem BN2 (hl:z.length<=CV8)(h:Q (.int z.length) M):E6 [.str z] M Q:=⟨hl,h⟩
theorem DH {i:Int}(h:Q (.int (if i<0 then -i else i)) M):CA [.int i] M Q:=h
theorem R8 (h:Q (.lst ds) M):JN [.lst ds] M Q:=h
theorem R9 (h:Q (.lst ds) M):JN [.tup ds] M Q:=h
theorem GO {N:String}(ho:IG d)(hN:N="bool"\/N="int"\/N="str"\/N="tuple"\/N="list")(h:Q (.bl (isIn (tyN d) N)) M):K3 [d,.ty N] M Q:=⟨ho,hN,h⟩
theorem DU {l u:Option Int}(h:Q (.lst (cutD ds l u)) M):BM7 (.lst ds) l u M Q:=h
theorem DN (h:Q (.bl (match x with|.non=>true|_=>false)) M):BY0 x .non M Q:=⟨rfl,h⟩
theorem DL {tb:TS3}(h:ti σ M fun ds M1=>∃Pv:Nat->Lo->Mem->Prop,Pv 0 σ M1 /\
 (∀k d σ M,ds[k]?=some d->Pv k σ M->tb {T with nx:=Pv (k+1),ct:=Pv (k+1),bk:=T.nx} (σ.set i (some d)) M)/\∀σ M,Pv ds.length σ M->T.nx σ M):X9 ti i tb T σ M:=h
theorem DR (h:tas σ M fun ds M1=>match ds with|[.int j]=>-(2^62)<=j/\j<2^62/\R ((CV7 j.toNat).map fun k=>D.int (k:Nat)) M1|_=>False):FL tas σ M R:=h
end
theorem D6 {b c:Nat}(h:Pen M p b)(hc:b<=c):Pen M p c:=by
 obtain⟨ns,a,l,h1,h2,h3,h4,h5⟩:=h
 exact⟨ns,a,l,h1,h2,h3,by lia,h5⟩
theorem draw {many:Int}{b:Nat}{Q:DK}(hP:Pen M p b)(hb:b<2^30)(h0:0<many)(h1:many<2^200)(h:∀n M',0<=n->n<many->Pen M' p (b+1)->Same3 p M M'->Q (.int n) M'):E5 [.ref p,.int many] M Q :=
 ⟨p,many,b,rfl,hP,hb,h0,h1,h⟩
theorem EC (h:DK8 x=true):dOk (.str x):=⟨rfl,by simpa[pyD,DK5] using h,by simp[pyD,DI5]⟩
theorem GF {i:Int}:dOk (.int i):=⟨rfl,rfl,by simp[pyD,DI5]⟩
theorem BO7 {b:Bool}:dOk (.bl b):=⟨rfl,rfl,by simp[pyD,DI5]⟩
def BQ6:TS3 :=
  (B1 (VE [((tC3 (.str "cells")),(C5 JN (A0 (BO2 (A1 0) W1 (EE (tC3 (.int 63)))) A2))),((tC3 (.str "at")),(tC3 (.int 0))),((tC3 (.str "left")),(tC3 (.int 0)))]))
def BD2:TS3 :=
  (A6 (C8 (A9 (A3 TU (A3 O8 (A1 0) (tC3 (.str "left"))) (tC3 (.int 0)))) (A6 (B6 2 (A3 O0 (A3 O8 (A1 0) (tC3 (.str "left"))) (A1 1)))
  (A6 (BH (A1 0) (tC3 (.str "left")) (A3 AV (A3 O8 (A1 0) (tC3 (.str "left"))) (A1 1)))
  (B1 (A1 2)))) B9)
  (A6 (B6 3 (A3 O8 (A1 0) (tC3 (.str "cells"))))
  (A6 (B6 4 (A3 O8 (A1 0) (tC3 (.str "at"))))
  (A6 (BH (A1 0) (tC3 (.str "at")) (A3 C9 (A1 4) (tC3 (.int 1))))
  (A6 (B6 5 (A3 C9 (A3 DE (tC3 (.int 30011)) (A1 4)) (tC3 (.int 77))))
  (A6 (C8 (A9 (A3 CG (A1 3) (E9 A2))) (B6 5 (A3 C6 (A1 3) (A3 O0 (A1 4) (C5 E6 (A0 (A1 3) A2))))) B9)
  (A6 (C8 (RP (A9 (A3 PL (A1 4) (C5 E6 (A0 (A1 3) A2)))) (A9 (A3 BX9 (C5 CA (A0 (A1 5) A2)) (A3 FR (tC3 (.int 10)) (tC3 (.int 18)))))) (A6 (BH (A1 0) (tC3 (.str "left")) (A3 AV (C5 CA (A0 (A1 5) A2)) (A1 1)))
  (B1 (A3 O0 (C5 CA (A0 (A1 5) A2)) (A1 1)))) B9)
  (A6 (B6 6 (A3 O0 (A3 FR (A3 C9 (A3 C9 (A3 O0 (A1 5) (tC3 (.int 2147483587))) (A3 DE (tC3 (.int 50021)) (A1 4))) (tC3 (.int 29))) (tC3 (.int 5))) (tC3 (.int 2147483629))))
  (A6 (B6 6 (A3 O0 (A3 FR (A3 C9 (A3 DE (A1 6) (A3 C9 (A3 DE (tC3 (.int 2)) (A1 4)) (tC3 (.int 5)))) (tC3 (.int 81799))) (tC3 (.int 3))) (tC3 (.int 2147483647))))
  (B1 (A3 O0 (A3 AV (A1 6) (tC3 (.int 16))) (A1 1))))))))))))
local macro_rules | `(tactic| walk_at "rd")=>`(tactic| repeat (first|(with_reducible first|refine DS ?_|refine DM ?_|refine X6 ?_|refine KU ?_|refine KZ ?_|refine XG ?_|refine BC ?_|refine DT ?_|refine W9 ?_|refine T4 ?_|refine W7 ?_|refine KR ?_|refine DO ?_|refine W8 ?_|refine X7 ?_|refine X3 ?_|refine DI ?_|refine KW ?_|refine DP ?_|refine W6 ?_|refine DQ ?_|refine X4 ?_|refine R7 ?_|refine KY ?_|refine KS ?_|refine X5 ?_|refine P5 ?_|refine G6 ?_|refine G9 ?_|refine KQ ?_|refine XE ?_|refine J9 ?_|refine X1 ?_|refine X2 ?_|refine DH ?_|refine R8 ?_|refine R9 ?_|refine DU ?_|refine DN ?_|refine DL ?_|refine DR ?_)|((with_reducible show A1 _ _ _ _);refine V8 rfl ?_)|((with_reducible show _/\_);refine⟨(by first|decide|(simp only[CV6,CY0];decide)),?_⟩)))
theorem BH0:¬(("cells":Str)="at"):=by decide +kernel
theorem BH1:¬(("cells":Str)="left"):=by decide +kernel
theorem BG9:¬(("at":Str)="left"):=by decide +kernel
theorem CR8:¬(("left":Str)="at"):=by decide +kernel
theorem P7 (h:¬x=y):¬(Sum.inr x:Key)=Sum.inr y:=fun z=>h (Sum.inr.inj z)
theorem AM1 (x y z:D):MX [] [(.inr "cells",x),(.inr "at",y),(.inr "left",z)]=([(.inr "cells",x),(.inr "at",y),(.inr "left",z)]:List (Key×D)):=by
 simp[MX,putD,P7 BH0,P7 BH1,P7 BG9]
theorem BA6 (x y z d:D):putD [(.inr "cells",x),(.inr "at",y),(.inr "left",z)] (.inr "left") d=([(.inr "cells",x),(.inr "at",y),(.inr "left",d)]:List (Key×D)):=by
 simp[putD,P7 BH1,P7 BG9]
theorem BX6 (x y z d:D):putD [(.inr "cells",x),(.inr "at",y),(.inr "left",z)] (.inr "at") d=([(.inr "cells",x),(.inr "at",d),(.inr "left",z)]:List (Key×D)):=by
 simp[putD,P7 BH0,P7 CR8]
theorem MJ {a l:Int}{Q:DK}(h:M p=some (LH ns a l)):O8 (.ref p) (.str "left") M Q↔Q (.int l) M:=by
 constructor
 ·rintro⟨k,d,hk,⟨kds,hm,hv⟩,q⟩
  cases hk
  rw[h] at hm
  cases hm
  simp[N7,P7 BH1,P7 BG9] at hv
  subst hv;exact q
 ·intro q
  exact⟨_,.int l,rfl,⟨_,h,by simp[N7,P7 BH1,P7 BG9]⟩,q⟩
theorem BS7 {a l:Int}{Q:DK}(h:M p=some (LH ns a l)):O8 (.ref p) (.str "at") M Q↔Q (.int a) M:=by
 constructor
 ·rintro⟨k,d,hk,⟨kds,hm,hv⟩,q⟩
  cases hk
  rw[h] at hm
  cases hm
  simp[N7,P7 BH0] at hv
  subst hv;exact q
 ·intro q
  exact⟨_,.int a,rfl,⟨_,h,by simp[N7,P7 BH0]⟩,q⟩
theorem AL0 {a l:Int}{Q:DK}(h:M p=some (LH ns a l)):O8 (.ref p) (.str "cells") M Q↔Q (.lst (ns.map D.int)) M:=by
 constructor
 ·rintro⟨k,d,hk,⟨kds,hm,hv⟩,q⟩
  cases hk
  rw[h] at hm
  cases hm
  simp[N7] at hv
  subst hv;exact q
 ·intro q
  exact⟨_,.lst (ns.map D.int),rfl,⟨_,h,by simp[N7]⟩,q⟩
theorem QS {a l l':Int}{T:Lo->Mem->Prop}(h:M p=some (LH ns a l))(q:T σ (D3 M p (LH ns a l'))) :
  ∃k a' kds,dK? (.str "left")=some k/\D.ref p=.ref a'/\M a'=some (.dct kds)/\kds.length<CV8/\T σ (D3 M a' (.dct (putD kds k (.int l')))) :=
 ⟨_,p,_,rfl,rfl,h,by show 3<CV8;decide,by rw[BA6];exact q⟩
theorem BG2 {a a1 l:Int}{T:Lo->Mem->Prop}(h:M p=some (LH ns a l))(q:T σ (D3 M p (LH ns a1 l))) :
  ∃k a' kds,dK? (.str "at")=some k/\D.ref p=.ref a'/\M a'=some (.dct kds)/\kds.length<CV8/\T σ (D3 M a' (.dct (putD kds k (.int a1)))) :=
 ⟨_,p,_,rfl,rfl,h,by show 3<CV8;decide,by rw[BX6];exact q⟩
theorem AR5 (ns:List Int)(lo hi:Option Int):∃ms:List Int,cutD (ns.map D.int) lo hi=ms.map D.int/\ms.length<=ns.length:=by
 unfold cutD
 refine⟨(ns.drop (HT.sIx (ns.map D.int).length 0 lo)).take (HT.sIx (ns.map D.int).length (ns.map D.int).length hi-HT.sIx (ns.map D.int).length 0 lo),?_,?_⟩
 ·rw[<-List.map_drop,<-List.map_take]
 ·rw[DI8,List.length_drop];lia
theorem AG3:∀ns:List Int,V0 (ns.map D.int)=true/\DH4 (V1 (ns.map D.int))=true/\DJ6 (V1 (ns.map D.int))=0
 | []=>⟨rfl,rfl,rfl⟩
 | n::ns=>by
  obtain⟨h1,h2,h3⟩:=AG3 ns
  simp[CW9,V0,plain,V1,pyD,DH4,DK5,DJ6,DI5,h1,h2,h3]
theorem AR9 (ns:List Int):dOk (.lst (ns.map D.int)):=by
 obtain⟨h1,h2,h3⟩:=AG3 ns
 refine⟨by simpa[plain] using h1,by simpa[pyD,DK5] using h2,?_⟩
 simp[pyD,DI5,h3]
theorem BY7 {Q:DK}(h:RM ds M Q)(d:D)(e:ds=[d])(T:Lo->Mem->Prop):BQ6 {nx:=T,rt:=View Q} [some d] M:=by
 obtain⟨ns,rfl,hl,q⟩:=h
 cases e
 unfold BQ6
 walk_at "rd"
 intro p hp
 unfold BJ
 walk_at "rd"
 unfold BJ
 walk_at "rd"
 unfold BJ
 walk_at "rd"
 unfold BJ
 refine⟨B4,[(.inr "cells",_),(.inr "at",_),(.inr "left",_)],rfl,by simp,View.of ?_⟩
 rw[AM1,RC]
 obtain⟨ms,e,hms⟩:=AR5 ns none (some 63)
 rw[e]
 exact q p _ hp ⟨ms,0,0,B4,by lia,by lia,by simp,by lia⟩ fun b hb=>D0 hb
theorem CS0 {a c:Int}(h0:0<=a)(h1:a<2^31):AQ0 (c % 2147483587+50021*a+29) 5:=by
 have z1:=DH6 c (show(2147483587:Int)≠0 by decide)
 have z2:=DF2 c (show(0:Int)<2147483587 by decide)
 refine⟨by decide,by decide,?_⟩
 lia
theorem CS1 {a n:Int}(h0:0<=a)(h1:a<2^30)(h2:0<=n)(h3:n<2147483629):AQ0 (n*(2*a+5)+81799) 3:=by
 refine⟨by decide,by decide,?_⟩
 have e:n*(2*a+5)<=2147483629*2147483653:=Int.mul_le_mul (by lia) (by lia) (by lia) (by lia)
 have e0:0<=n*(2*a+5):=Int.mul_nonneg h2 (by lia)
 lia
theorem BB1 {td ty:TE3}{T:Z3}(h:tv σ M fun d M1=>td σ M1 fun x M2=>ty σ M2 fun y M3=>∃k a kds,dK? y=some k/\x=.ref a/\M3 a=some (.dct kds)/\kds.length<CV8/\T.nx σ (D3 M3 a (.dct (putD kds k d)))):BH td ty tv T σ M:=h
theorem ZE {x:Int}(h0:0<x)(h:x<2^200):VN 0 x:=by
 refine⟨h0,?_⟩
 have h2:x.natAbs<2^200:=by lia
 exact Nat.lt_trans h2 (Nat.pow_lt_pow_right (by decide) (by decide))
theorem BF7 {a:Int}(h0:0<=a)(h:a<(ns.length:Int)):∃c,atI (ns.map D.int) a=some (D.int c):=by
 obtain⟨k,rfl⟩:∃k:Nat,a=(k:Int):=⟨a.toNat,by lia⟩
 have hk:k<ns.length:=by lia
 exact⟨ns[k],G3 (by simp[hk])⟩
def JY:TS3 :=
  (A6 (B6 6 (A3 O0 (A3 FR (A3 C9 (A3 C9 (A3 O0 (A1 5) (tC3 (.int 2147483587))) (A3 DE (tC3 (.int 50021)) (A1 4))) (tC3 (.int 29))) (tC3 (.int 5))) (tC3 (.int 2147483629))))
  (A6 (B6 6 (A3 O0 (A3 FR (A3 C9 (A3 DE (A1 6) (A3 C9 (A3 DE (tC3 (.int 2)) (A1 4)) (tC3 (.int 5)))) (tC3 (.int 81799))) (tC3 (.int 3))) (tC3 (.int 2147483647))))
  (B1 (A3 O0 (A3 AV (A1 6) (tC3 (.int 16))) (A1 1)))))
def RQ:TS3 :=
  A6 (C8 (RP (A9 (A3 PL (A1 4) (C5 E6 (A0 (A1 3) A2)))) (A9 (A3 BX9 (C5 CA (A0 (A1 5) A2)) (A3 FR (tC3 (.int 10)) (tC3 (.int 18)))))) (A6 (BH (A1 0) (tC3 (.str "left")) (A3 AV (C5 CA (A0 (A1 5) A2)) (A1 1)))
  (B1 (A3 O0 (C5 CA (A0 (A1 5) A2)) (A1 1)))) B9)
  JY
theorem BM9 {Q:DK}(h:E5 ds M Q)(d0 d1:D)(e:ds=[d0,d1])(T:Lo->Mem->Prop):BD2 {nx:=T,rt:=View Q} [some d0,some d1,none,none,none,none,none] M:=by
 obtain⟨p,many,b,rfl,⟨ns,a,l,hM,hl,ha0,hab,hl0⟩,hb,hm0,hm1,q⟩:=h
 cases e
 have hdv:∀i,VN i many:=fun i=>⟨hm0,(ZE hm0 hm1).2⟩
 have hb':(b:Int)<2^30:=by
  have:((2^30:Nat):Int)=(2:Int)^30:=by decide
  lia
 unfold BD2
 walk_at "rd"
 refine(MJ hM).mpr ?_
 walk_at "rd"
 refine JR (fun hpos=>?_) (fun hneg=>?_)
 ·walk_at "rd"
  refine(MJ hM).mpr ?_
  walk_at "rd"
  refine DF hm0 ?_
  walk_at "rd"
  refine BB1 ?_
  walk_at "rd"
  refine(MJ hM).mpr ?_
  walk_at "rd"
  refine DF (hdv _) ?_
  walk_at "rd"
  refine QS hM ?_
  walk_at "rd"
  exact View.of (q _ _ (DH6 _ (by lia)) (DF2 _ hm0) ⟨ns,a,_,B4,hl,ha0,by lia,Int.ediv_nonneg hl0 (by lia)⟩ fun _ h=>D0 h)
 ·walk_at "rd"
  refine(AL0 hM).mpr ?_
  walk_at "rd"
  refine(BS7 hM).mpr ?_
  walk_at "rd"
  refine BB1 ?_
  walk_at "rd"
  refine BG2 hM ?_
  have hM1:D3 M p (LH ns (a+1) l) p=some (LH ns (a+1) l):=B4
  walk_at "rd"
  refine DF (.inl (.inl ⟨by decide,by decide⟩)) ?_
  walk_at "rd"
  refine CN0 (AR9 ns) ⟨rfl,rfl,by decide⟩ ?_
  have rest:∀c:Int,RQ {nx:=T,rt:=View Q} [some (.ref p),some (.int many),none,some (.lst (ns.map D.int)),some (.int a),some (.int c),none] (D3 M p (LH ns (a+1) l)):=by
   intro c
   have abs0:0<=(if c<0 then -c else c):=by split<;>lia
   have tail:JY {nx:=T,rt:=View Q} [some (.ref p),some (.int many),none,some (.lst (ns.map D.int)),some (.int a),some (.int c),none] (D3 M p (LH ns (a+1) l)):=by
    unfold JY
    walk_at "rd"
    refine DF (by decide) ?_
    walk_at "rd"
    refine DF (.inl (.inl ⟨by decide,by decide⟩)) ?_
    walk_at "rd"
    refine DF (CS0 ha0 (by lia)) ?_
    walk_at "rd"
    refine DF (by decide) ?_
    walk_at "rd"
    refine DF (.inl (.inl ⟨by decide,by decide⟩)) ?_
    walk_at "rd"
    have z1:=DH6 ((c % 2147483587+50021*a+29)^Int.toNat 5) (show(2147483629:Int)≠0 by decide)
    have z2:=DF2 ((c % 2147483587+50021*a+29)^Int.toNat 5) (show(0:Int)<2147483629 by decide)
    refine DF (.inl (.inl ⟨by lia,by lia⟩)) ?_
    walk_at "rd"
    refine DF (CS1 ha0 (by lia) z1 z2) ?_
    walk_at "rd"
    refine DF (by decide) ?_
    walk_at "rd"
    refine DF ⟨by decide,by decide +kernel⟩ ?_
    walk_at "rd"
    refine DF hm0 ?_
    walk_at "rd"
    exact View.of (q _ _ (DH6 _ (by lia)) (DF2 _ hm0) ⟨ns,a+1,_,B4,hl,by lia,by lia,hl0⟩ fun _ h=>D0 h)
   unfold RQ
   walk_at "rd"
   refine JR (fun hlt=>?_) (fun hge=>?_)
   ·walk_at "rd"
    refine DF ⟨by decide,by decide,by decide⟩ ?_
    walk_at "rd"
    refine JR (fun h18=>?_) (fun h18=>?_)
    ·walk_at "rd"
     refine BB1 ?_
     walk_at "rd"
     refine DF (hdv _) ?_
     walk_at "rd"
     refine QS hM1 ?_
     walk_at "rd"
     refine DF hm0 ?_
     walk_at "rd"
     rw[RC]
     exact View.of (q _ _ (DH6 _ (by lia)) (DF2 _ hm0) ⟨ns,a+1,_,B4,hl,by lia,by lia,Int.ediv_nonneg abs0 (by lia)⟩ fun _ h=>D0 h)
    ·exact tail
   ·exact tail
  cases ns with
  | nil =>
   refine P5 (show if (!true)=true then _ else _ from ?_)
   exact G9 (rest _)
  | cons n ns =>
   refine P5 (show if (!false)=true then _ else _ from ?_)
   refine G6 ?_
   walk_at "rd"
   have hlen:(0:Int)<((List.map D.int (n::ns)).length:Int):=by rw[CV1,CV6];lia
   refine DF hlen ?_
   obtain⟨c,hc⟩:=BF7 (ns:=n::ns) (a:=a % ((List.map D.int (n::ns)).length:Int)) (DH6 _ (by lia)) (by have:=DF2 a hlen;simpa using this)
   refine L1 hc ?_
   exact rest c
section
variable {t u:TS3}{T:Z3}{σ:Lo}{M:Mem}{Q:DK}{QB:Bool->Mem->Prop}{QA:List D->Mem->Prop}{c tA tB:TT3}{te ta tb tc to:TE3}{tas:TA3}{i:Nat}{d x y:D}{r r':R3}{g:TG3}{ti:TI3}{tt:TT3}{slots:List Nat}{n:Nat}
theorem GN (h:te σ M fun d M1=>g d σ M1 T.nx):BD1 g te T σ M:=h
theorem V2 {QG:Lo->Mem->Prop}(h:QG (σ.set i (some d)) M):K2 i d σ M QG:=h
theorem AZ {QG:Lo->Mem->Prop}(hl:ds.length=is.length)(h:QG (DV σ is ds) M):CV is (.tup ds) σ M QG:=⟨ds,rfl,hl,h⟩
theorem BD (h:QB true M):J8 σ M QB:=h
theorem NH {ty:String}{rm:M3}(h:to σ M fun x M1=>tyD ty M1 x/\tas σ M1 fun xs M2=>rm x xs M2 Q):PY ty rm to tas σ M Q:=h
theorem EO (hm:M a=some (.lst ds))(hl:ds.length<CV8)(h:Q .non (D3 M a (.lst (ds++[y])))):DD (.ref a) [y] M Q:=⟨a,ds,y,rfl,rfl,hm,hl,h⟩
def AQ1 (g:TG3)(tt:TT3)(te:TE3)(σ0:Lo)(ds:List D)(M1:Mem)(Q:DK):Prop:=∀p,M1 p=none->∃Pv:Nat->List D->Mem->Prop,Pv 0 [] (D3 M1 p (.lst [])) /\
 (∀k d acc M,ds[k]?=some d->Pv k acc M->g d σ0 M fun σ' M0=>tt σ' M0 fun b M' =>
  if b=true then te σ' M' fun e M''=>M'' p=some (.lst acc)/\acc.length<CV8/\Pv (k+1) (acc++[e]) (D3 M'' p (.lst (acc++[e]))) else Pv (k+1) acc M') /\
 ∀acc M,Pv ds.length acc M->M p=some (.lst acc)/\Q (.lst acc) (Z0 M p)
theorem AX (h:ti σ M fun ds M1=>AQ1 g tt te (CV2 n none++slots.map fun j=>(σ[j]?).getD none) ds M1 Q):F9 ti n slots g tt te σ M Q:=h
def onStr (R:List D->Mem->Prop):DK:=fun d M1=>match d with|.str z=>R (z.cps.toList.map fun c=>D.str ⟨#[c]⟩) M1|_=>False
def BP6 (R:List D->Mem->Prop):DK:=fun d M1=>match d with|.tup ds=>R ds M1|_=>False
def BP5 (R:List D->Mem->Prop):DK:=fun d M1=>match d with|.lst ds=>R ds M1|_=>False
theorem BA (h:te σ M (onStr R)):AT7 te σ M R:=h
theorem X0 (h:te σ M (BP6 R)):Z7 te σ M R:=h
theorem V3 (h:te σ M (BP5 R)):S3 te σ M R:=h
theorem V7 (h:R (z.cps.toList.map fun c=>D.str ⟨#[c]⟩) M):onStr R (.str z) M:=h
theorem S0 (h:R ds M):BP6 R (.tup ds) M:=h
theorem V6 (h:R ds M):BP5 R (.lst ds) M:=h
end
theorem B7 {b:Bool}{P R:Prop}(e:b=true)(h:P):if b=true then P else R:=by rw[if_pos e];exact h
theorem A8 {b:Bool}{P R:Prop}(e:b=false)(h:R):if b=true then P else R:=by rw[if_neg (by rw[e];exact CV5)];exact h
theorem BB2 {x y:D}{b:Bool}{Q:DK}(hx:dOk x)(hy:dOk y)(e:DF4 (pyD x) (pyD y)=b)(h:Q (.bl b) M):J4 x y M Q:=.inl ⟨hx,hy,by rw[e];exact h⟩
theorem UL {x y:D}{b:Bool}{Q:DK}(hx:dOk x)(hy:dOk y)(e:DF4 (pyD x) (pyD y)=b)(h:Q (.bl (!b)) M):CG x y M Q:=.inl ⟨hx,hy,by rw[e];exact h⟩
theorem CF7 (x y:Int):DF4 (pyD (.int x)) (pyD (.int y))=(x==y):=by simp[pyD,DF4]
theorem CR3 (x y:Bool):DF4 (pyD (.bl x)) (pyD (.bl y))=(x==y):=by cases x<;>cases y<;>decide +kernel
theorem AY {x y:Int}{Q:DK}(h:Q (.bl (x==y)) M):J4 (.int x) (.int y) M Q:=BB2 GF GF (CF7 x y) h
theorem GQ {x y:Int}{Q:DK}(h:Q (.bl (!(x==y))) M):CG (.int x) (.int y) M Q:=UL GF GF (CF7 x y) h
theorem GP {x y:Bool}{Q:DK}(h:Q (.bl (!(x==y))) M):CG (.bl x) (.bl y) M Q:=UL BO7 BO7 (CR3 x y) h
theorem AY7 {M':Mem}{q:Addr}{b:Nat}(h:Pen M q b)(s:Same3 p M M')(hn:q≠p):Pen M' q b:=by
 obtain⟨ns,a,l,h1,h2⟩:=h
 exact⟨ns,a,l,by rw[s q hn];exact h1,h2⟩
theorem IH {q:Addr}{b:Nat}{o:MO}(h:Pen M q b)(hn:q≠p):Pen (D3 M p o) q b:=AY7 h (fun a ha=>D0 ha) hn
theorem AY6 {q:Addr}{b:Nat}(h:Pen M q b)(hp:M p=none):q≠p:=by
 rintro rfl
 obtain⟨ns,a,l,h1,_⟩:=h
 rw[hp] at h1;cases h1
theorem LO (h:b≠a):Z0 M a b=M b:=by unfold Z0;rw[if_neg h]
theorem JF:Z0 M a a=none:=by unfold Z0;rw[if_pos rfl]
end L3
namespace L3
open PySem PySem.Spec PyProof.Rows L2
section
variable {X:Cx}{a b e:Expr}{ta tb te:TE3}{pos:Pos}
def rMin3:C3:=fun ds M Q=>match ds with
 | [.int i,.int j]=>Q (.int (if j<i then j else i)) M
 | _=>False
def M7:C3:=fun ds M Q=>match ds with
 | [.lst xs]=>Q (.tup xs) M
 | [.tup xs]=>Q (.tup xs) M
 | [.ref a]=>∃xs,M a=some (.lst xs)/\Q (.tup xs) M
 | _=>False
theorem AQ7:CallR3 X (.type "tuple") M7:=CallR3.of OQ fun H M xs xvs Q m px q=>by
 rcases px with _|⟨pd,ps⟩;(exact(q:False).elim);rcases ps with _|⟨p2,ps2⟩;rotate_left;(first|exact(q:False).elim|(cases pd<;>exact(q:False).elim))
 cases pd with
 | lst h r=>exact⟨_,_,rfl,.inl ⟨SqL.of3 h,fun l hl=>⟨_,M,Step.lay hl,m.lay hl,.tup (.inl ⟨.inl D4,m.free hl⟩) (r.mono (Step.lay hl)),q⟩⟩⟩
 | tup h r=>exact⟨_,_,rfl,.inr ⟨SqT.of3 h,_,M,.refl,m,.tup h r,q⟩⟩
 | ref =>
  obtain⟨ds,hm,q⟩:=q
  obtain⟨ho,e1,r⟩:=m _ _ hm
  cases ho<;>first|exact r.elim|skip
  have r':Reps X.K M H ds _:=r
  exact⟨_,_,rfl,.inl ⟨.inl (.inl e1),fun l hl=>⟨_,M,Step.lay hl,m.lay hl,.tup (.inl ⟨.inl D4,m.free hl⟩) (r'.mono (Step.lay hl)),q⟩⟩⟩
 | _=>exact(q:False).elim
def DC:C3:=fun ds M Q=>∃bs:List Bool,ds=[.lst (bs.map D.bl)]/\Q (.bl (bs.all id)) M
theorem VR {K:CV3}{M:Mem}{H:Hp}:∀{bs:List Bool} {vs:List V} {its:List Value},Reps K M H (bs.map D.bl) vs->Vals vs its->its=bs.map Value.bool
 | [],_,_,r,v=>by cases r;cases v;rfl
 | b::bs,_,_,.cons p1 p2,v=>by
  cases p1
  cases v with
  | cons i1 i2 =>
   cases i1
   rw[VR p2 i2];rfl
theorem range_all (bs:List Bool):(CV7 (bs.map Value.bool).toArray.size).all (fun i=>bs.getD i false)=bs.all id:=by
 rw[CW7,CV1,DE5,CX4,CX4]
 constructor
 ·intro h x hx
  obtain⟨i,hi,rfl⟩:=List.getElem_of_mem hx
  simpa[DN0,hi] using h i (by simpa using hi)
 ·intro h i hi
  have hi':i<bs.length:=by simpa using hi
  simpa[DN0,hi'] using h bs[i] (DB2 hi')
theorem YM (bs:List Bool):TruthOf P w A (fun i v=>(bs.map Value.bool).toArray[i]?=some v) (fun i=>bs.getD i false):=by
 intro i v s Q E hv hq
 simp only[List.getElem?_toArray,CW8] at hv
 cases e:bs[i]? with
 | none=>rw[e] at hv;cases hv
 | some b =>
  rw[e] at hv
  cases hv
  have e2:bs.getD i false=b:=by simp[DN0,e]
  have hq':Q (bs.getD i false) s:=hq
  rw[e2] at hq'
  exact DD4 hq'
theorem BR5 (hc:X.calm=true):CallR3 X (.builtin "all") DC:=by
 rintro pins s σv H M xs xvs us Q I m rv px ⟨bs,rfl,q⟩
 obtain⟨xv,rfl,p1⟩:=NO px
 obtain⟨u,rfl,ru⟩:=vals1 rv
 cases p1 with
 | lst h1 r1 =>
  cases ru
  obtain⟨its,ri,pl,hz⟩:=I.list (SqL.of3 h1)
  have key:=VR r1 ri
  subst key
  obtain⟨o,ho,hcl,n,hd⟩:=id pl.isList
  have hlt:=CV9 ho
  refine call_all_walk (wpAny_pyIter_list pl.isList ?_)
  refine⟨s.heap.objs.size,_,_,_,_,_,_,rfl,Walks.list (A:=X.A.in1) (by exact I.ok.hd hc) s.heap.objs.size _ (CX3 hlt) _,⟨⟨_,CW0 _ rfl,rfl,rfl⟩,⟨o,CU8 _ ho,hcl,n,hd⟩⟩,YM bs,fun h' tk k=>?_⟩
  rw[range_all]
  exact⟨_,.bl _,M,H,I.kept (t':=tk) fun b ob e=>k b ob (by simp;exact CX3 (CV9 e)) (CU8 _ e),.refl,m,rfl,.bl,q⟩
theorem EV {K:CV3}{M:Mem}{H:Hp}:∀{ys:List Str} {vs:List V} {its:List Value},Reps K M H (ys.map D.str) vs->Vals vs its->StrsAre its ys
 | [],_,_,r,v=>by cases r;cases v;exact .nil
 | y::ys,_,_,.cons p1 p2,v=>by
  cases p1
  cases v with
  | cons i1 i2 =>
   obtain⟨t,rfl⟩:=i1
   exact .cons y t (EV p2 i2)
def subIn (z w:Str):Bool:=!(DN4 w z 0 w.length 1).isEmpty
def UV (M:Mem):D->Option (List D)
 | .lst ds=>some ds
 | .tup ds=>some ds
 | .ref a=>match M a with|some (.lst ds)=>some ds|_=>none
 | _=>none
def AO5 (neg:Bool):R3:=fun x y M Q=>(∃z w,x=.str z/\y=.str w/\Q (.bl (neg ^^ subIn z w)) M)\/∃z,∃ys:List Str,x=.str z/\UV M y=some (ys.map D.str)/\Q (.bl (neg ^^ ys.any (·==z))) M
theorem OC {K:CV3}{M:Mem}{H:Hp}:∀{ys:List Str} {vs:List V},Reps K M H (ys.map D.str) vs->vs=ys.map V.str
 | [],_,r=>by cases r;rfl
 | y::ys,_,.cons p1 p2=>by
  cases p1
  rw[OC p2];rfl
theorem UW {y:D}{yv:V}(m:MRel K M H)(r:Rep K M H y yv)(e:UV M y=some ds):∃p vs,yv=.ref p/\(SqL K H p vs\/SqT K H p vs)/\Reps K M H ds vs:=by
 cases r with
 | tup h r=>cases e;exact⟨_,_,rfl,.inr (SqT.of3 h),r⟩
 | lst h r=>cases e;exact⟨_,_,rfl,.inl (SqL.of3 h),r⟩
 | @ref a =>
  unfold UV at e
  dsimp only at e
  cases hm:M a with
  | none=>rw[hm] at e;cases e
  | some o =>
   rw[hm] at e
   cases o with
   | dct _=>cases e
   | dt _=>cases e
   | lst xs =>
    cases e
    obtain⟨ho,e1,r⟩:=m _ _ hm
    cases ho<;>first|exact(r:False).elim|skip
    exact⟨_,_,rfl,.inl (.inl (.inl e1)),r⟩
 | _=>cases e
theorem AG2 {ys:List Str}:inV (.str z) (ys.map V.str)=ys.any (·==z):=by
 unfold inV
 rw[List.any_map]
 rfl
theorem QT (ys:List Str):(ys.map V.str).all HQ=true:=by
 rw[List.all_map,CX4]
 intro _ _;rfl
theorem CG6:OpR3 X (DB4 .In) (AO5 false):=by
 rintro pins s σv H M x y xv yv v u Q I m rx ry px py (⟨z,w,rfl,rfl,q⟩|⟨z,ys,rfl,hy,q⟩)
 ·cases px;cases py
  exact thn (AM5 pins s σv H _ _ v u _ I rx ry ⟨z,w,rfl,rfl,up0 m .bl (by rw[Bool.false_xor] at q;exact q)⟩) fun _ _ h=>U6 h
 ·cases px
  obtain⟨p,vs,rfl,sq,r⟩:=UW m py hy
  have e:=OC r
  subst e
  exact thn (AM4 pins s σv H _ _ v u _ I rx ry ⟨p,_,rfl,sq,rfl,QT ys,up0 m .bl (by rw[AG2];rw[Bool.false_xor] at q;exact q)⟩) fun _ _ h=>U6 h
theorem WT:OpR3 X (DB4 .NotIn) (AO5 true):=by
 rintro pins s σv H M x y xv yv v u Q I m rx ry px py (⟨z,w,rfl,rfl,q⟩|⟨z,ys,rfl,hy,q⟩)
 ·cases px;cases py
  exact thn (TK pins s σv H _ _ v u _ I rx ry ⟨z,w,rfl,rfl,up0 m .bl (by rw[Bool.true_xor] at q;exact q)⟩) fun _ _ h=>U6 h
 ·cases px
  obtain⟨p,vs,rfl,sq,r⟩:=UW m py hy
  have e:=OC r
  subst e
  exact thn (TJ pins s σv H _ _ v u _ I rx ry ⟨p,_,rfl,sq,rfl,QT ys,up0 m .bl (by rw[AG2];rw[Bool.true_xor] at q;exact q)⟩) fun _ _ h=>U6 h
end
section
variable {X:Cx}{e:Expr}{te:TE3}{pos:Pos}
def CM9:V->Option Int->Option Int->Hp->VK->Prop:=fun x lo hi H Q=>∃z,x=.str z/\z.length<=CV8/\Q (.str (Txt.slice z lo hi)) H
theorem CD3:SlR X CM9:=by
 intro pins s σ H x v vl vu lo hi sl Q I rx hs pl pu h
 obtain⟨z,rfl,hz,q⟩:=h
 obtain⟨t,rfl⟩:=rx
 refine⟨"str",_,PyProof.Rows.slot_str_getitem.lookup,typeIs_str _ _ _,?_⟩
 obtain⟨l,rfl,el⟩:∃l:Option (Int×Tok),vl=partValue l/\lo=l.map (·.1):=by
  cases pl with
  | none=>exact⟨none,rfl,rfl⟩
  | int i t=>exact⟨some (i,t),rfl,rfl⟩
 obtain⟨u,rfl,eu⟩:∃u:Option (Int×Tok),vu=partValue u/\hi=u.map (·.1):=by
  cases pu with
  | none=>exact⟨none,rfl,rfl⟩
  | int i t=>exact⟨some (i,t),rfl,rfl⟩
 subst el eu
 refine wpAny_getItem_str_slice (st:=none) (l:=l) (u:=u) hs rfl ?_
 have hle:(Txt.slice z (l.map (·.1)) (u.map (·.1))).length<=CV8:=CY4 (Txt.slice_le _ _ _) hz
 unfold sliceMade slicePicked
 unfold Txt.slice at q hle
 split
 ·rename_i hc
  split at q
  ·exact⟨.str _,H,I,⟨_,rfl⟩,q⟩
  ·rename_i hn
   exact absurd hc hn
 ·rename_i hc
  split at hle
  ·rename_i hn
   exact absurd hn hc
  ·rename_i hn
   rw[if_neg hn] at q
   exact⟨hle,.str _,H,I.tok _,⟨_,rfl⟩,q⟩
end
theorem U4 {f:Addr}{sp:Nat->Sp3}(hl:∀n ds M Q,sp n ds M Q->ds.length=ps.length)(hz:∀ds M Q,¬sp 0 ds M Q) :
  FnOk P w K mg base CX0 k f fd ps (HJ K (sp 0)):=⟨fun vs H Q E ⟨ds,M,Q3,r,_,h,_⟩=>absurd h (hz _ _ _),fun A outer s H args us vs Q E hr he hb hv ⟨ds,M,Q3,r,_,h,_⟩=>absurd h (hz _ _ _)⟩
theorem CM:DB0 "all"=some (.builtin "all"):=by decide +kernel
theorem BH5 (x:Str):x.length=x.cps.toList.length:=by
 show x.cps.size=_
 simp
theorem V5 {P R:Prop}(h:R):if (!true)=true then P else R:=h
theorem V4 {P R:Prop}(h:P):if (!false)=true then P else R:=h
theorem BY5 {w:Str}{neg b:Bool}{Q:DK}(e:subIn z w=b)(h:Q (.bl (neg ^^ b)) M):AO5 neg (.str z) (.str w) M Q:=.inl ⟨z,w,rfl,rfl,by rw[e];exact h⟩
theorem NG {bs:List Bool}{Q:DK}(h:Q (.bl (bs.all id)) M):DC [.lst (bs.map D.bl)] M Q:=⟨bs,rfl,h⟩
theorem BB {tas:TA3}{Q:DK}(h:tas σ M fun xs M1=>xs.length<=CV8/\∀p,M1 p=none->Q (.ref p) (D3 M1 p (.lst xs))):GU tas σ M Q:=h
section
variable {X:Cx}{a b e:Expr}{ta tb te:TE3}{t:TA3}{pos p:Pos}
def RI:M3:=fun x xs M Q=>∃a b ds es,x=.ref a/\xs=[.ref b]/\M a=some (.lst ds)/\M b=some (.lst es)/\ds.length+es.length<=CV8/\Q .non (D3 M a (.lst (ds++es)))
theorem AL9:MtR3 X "list.extend" RI:=MtR3.of AM2 fun H M x xs xv xvs Q m px pxs hx0=>by
 obtain⟨a,b,ds,es,e1,e2,ha,hb,hl,q⟩:=hx0
 subst e1 e2
 cases px
 obtain⟨yv,rfl,py⟩:=NO pxs
 cases py
 obtain⟨ho,h3,r⟩:=m _ _ ha
 cases ho<;>first|exact(r:False).elim|skip
 rename_i vs
 obtain⟨ho2,h4,r2⟩:=m _ _ hb
 cases ho2<;>first|exact(r2:False).elim|skip
 rename_i us
 have r':Reps X.K M H ds vs:=r
 have r2':Reps X.K M H es us:=r2
 exact⟨a,b,vs,us,rfl,rfl,h3,h4,by rw[<-r'.length,<-r2'.length];exact hl,.non,_,Step.put (.inr (by rw[ha];simp)),m.put (.inr (by rw[ha];simp)) (o:=.lst (ds++es)) (Reps.append r' r2'),.non,q⟩
theorem AH {K:CV3}{M:Mem}{H:Hp}:∀l:List Str,Reps K M H (l.map D.str) (l.map V.str)
 | []=>.nil
 | x::l=>.cons .str (AH l)
def BD3 (to ti te:TE3):TS3:=fun T σ M=>te σ M fun d M1=>to σ M1 fun o M2=>ti σ M2 fun i M3=>∃a ds j k,o=.ref a/\i=.int k/\M3 a=some (.lst ds)/\ixN ds.length k=some j/\T.nx σ (D3 M3 a (.lst (ds.set j d)))
end
end L3
namespace PK
open PySem L2 L3
def G7:Int:=1000000000000000000000000000000
def bnd (n:Int):Prop:=-G7<n/\n<G7
def ltr (x:Str):Prop:=∀c∈x.cps.toList,97<=c/\c<=122
def nm (x:Str):Prop:=ltr x/\1<=x.length/\x.length<=8
class Pool where
 ps:List Str
def pn [Pool](x:Str):Prop:=nm x/\x∈Pool.ps
mutual
inductive Ex where
 | none|num (n:Int)|var (x:Str)|op (s:Str) (a b:Ex)|make (r:Str) (as:Exs)
inductive Exs where
 | nil|cons (a:Ex) (r:Exs)
end
mutual
def eD:Ex->D
 | .none=>.tup [.str "none"]
 | .num n=>.tup [.str "number",.int n]
 | .var x=>.tup [.str "var",.str x]
 | .op s a b=>.tup [.str "op",.str s,eD a,eD b]
 | .make r as=>.tup [.str "make",.str r,.tup (eDs as)]
def eDs:Exs->List D
 | .nil=>[]
 | .cons a r=>eD a::eDs r
end
mutual
def nd:Ex->Nat
 | .none=>1
 | .num _=>1
 | .var _=>1
 | .op _ a b=>1+nd a+nd b
 | .make _ as=>1+nds as
def nds:Exs->Nat
 | .nil=>0
 | .cons a r=>nd a+nds r
end
mutual
def dp:Ex->Nat
 | .none=>1
 | .num _=>1
 | .var _=>1
 | .op _ a b=>1+max (dp a) (dp b)
 | .make _ as=>1+dps as
def dps:Exs->Nat
 | .nil=>0
 | .cons a r=>max (dp a) (dps r)
end
def exl:Exs->Nat
 | .nil=>0
 | .cons _ r=>exl r+1
def sgn (s:Str):Prop:=s="+"\/s="-"\/s="*"\/s="<"\/s="="
mutual
def wf [Pool]:Ex->Prop
 | .none=>True
 | .num n=>bnd n
 | .var x=>pn x
 | .op s a b=>sgn s/\wf a/\wf b
 | .make r as=>nm r/\exl as<=3/\wfs as
def wfs [Pool]:Exs->Prop
 | .nil=>True
 | .cons a r=>wf a/\wfs r
end
inductive Head where
 | leaf (h:Str) (rest:List D)|ife (e:D)|whl (e:D)|tr (cs:List (Str×Str))
mutual
inductive Deed where
 | mk (h:Head) (bs:Bls)
inductive Blk where
 | nil|cons (d:Deed) (r:Blk)
inductive Bls where
 | nil|cons (b:Blk) (r:Bls)
end
def J7:List (Str×Str)->List D->List D
 | (w,x)::cs,t::ts=>.tup [.str w,.str x,t]::J7 cs ts
 | _,_=>[]
def QW:Head->List D->D
 | .leaf h r,_=>.tup (.str h::r)
 | .ife e,ts=>.tup (.str "if"::e::ts)
 | .whl e,ts=>.tup (.str "while"::e::ts)
 | .tr cs,ts=>.tup [.str "try",ts.getD 0 (.tup []),.tup (J7 cs ts.tail),ts.getD (cs.length+1) (.tup [])]
mutual
def dD:Deed->D
 | .mk h bs=>QW h (dTs bs)
def dB:Blk->List D
 | .nil=>[]
 | .cons d r=>dD d::dB r
def dTs:Bls->List D
 | .nil=>[]
 | .cons b r=>.tup (dB b)::dTs r
end
mutual
def F2:Deed->Nat
 | .mk _ bs=>1+E8 bs
def C0:Blk->Nat
 | .nil=>0
 | .cons d r=>F2 d+C0 r
def E8:Bls->Nat
 | .nil=>0
 | .cons b r=>C0 b+E8 r
end
mutual
def dpD:Deed->Nat
 | .mk _ bs=>J1 bs
def dpB:Blk->Nat
 | .nil=>0
 | .cons d r=>max (dpD d) (dpB r)
def J1:Bls->Nat
 | .nil=>0
 | .cons b r=>max (1+dpB b) (J1 r)
end
def bsl:Bls->Nat
 | .nil=>0
 | .cons _ r=>bsl r+1
def OS [Pool](d:D):Prop:=∃e,d=eD e/\wf e/\nd e<=9/\dp e<=4
def RU [Pool](h:Str)(r:List D):Prop :=
 ((h="let"\/h="give"\/h="on")/\∃x e,r=[.str x,e]/\pn x/\OS e) \/
 ((h="note"\/h="close"\/h="end")/\∃e,r=[e]/\OS e) \/
 (h="ask"/\∃x y g e,r=[.str x,.str y,g,e]/\pn x/\pn y/\OS g/\OS e) \/
 (h="cast"/\∃x y g w e,r=[.str x,.str y,g,.str w,e]/\pn x/\pn y/\nm w/\OS g/\OS e) \/
 (h="leave"/\r=[]) \/
 (h="fault"/\∃w e,r=[.str w,e]/\nm w/\OS e)
def hOk [Pool]:Head->Nat->Prop
 | .leaf h r,n=>n=0/\RU h r
 | .ife e,n=>n=2/\OS e
 | .whl e,n=>n=1/\OS e
 | .tr cs,n=>n=cs.length+2/\cs.length<=3/\∀c∈cs,nm c.1/\pn c.2
mutual
def okD [Pool]:Deed->Prop
 | .mk h bs=>hOk h (bsl bs)/\AW5 bs
def okB [Pool]:Blk->Prop
 | .nil=>True
 | .cons d r=>okD d/\okB r
def AW5 [Pool]:Bls->Prop
 | .nil=>True
 | .cons b r=>okB b/\AW5 r
end
def ES:Sp3:=fun ds M Q=>∃_:Pool,∃h bs,ds=[dD (.mk h bs)]/\hOk h (bsl bs)/\Q (.lst (dTs bs)) M
structure Rl where
 name:Str
 pars:List Str
 blk:Blk
def rD (r:Rl):D:=.tup [.str r.name,.tup (r.pars.map D.str),.tup (dB r.blk)]
abbrev LY:List Str:=["_law_script"]
def GV:TS3 :=
  (B1 (VE [((tC3 (.str "cells")),(C5 JN (A0 (BO2 (A1 0) W1 (EE (tC3 (.int 63)))) A2))),((tC3 (.str "at")),(tC3 (.int 0))),((tC3 (.str "left")),(tC3 (.int 0)))]))
abbrev KD:List Str:=["_law_pen_here","_law_many","_law_digit","_law_cells","_law_at","_law_cell","_law_number"]
def EF:TS3 :=
  (A6 (C8 (A9 (A3 TU (A3 O8 (A1 0) (tC3 (.str "left"))) (tC3 (.int 0)))) (A6 (B6 2 (A3 O0 (A3 O8 (A1 0) (tC3 (.str "left"))) (A1 1)))
  (A6 (BH (A1 0) (tC3 (.str "left")) (A3 AV (A3 O8 (A1 0) (tC3 (.str "left"))) (A1 1)))
  (B1 (A1 2)))) B9)
  (A6 (B6 3 (A3 O8 (A1 0) (tC3 (.str "cells"))))
  (A6 (B6 4 (A3 O8 (A1 0) (tC3 (.str "at"))))
  (A6 (BH (A1 0) (tC3 (.str "at")) (A3 C9 (A1 4) (tC3 (.int 1))))
  (A6 (B6 5 (A3 C9 (A3 DE (tC3 (.int 30011)) (A1 4)) (tC3 (.int 77))))
  (A6 (C8 (A9 (A3 CG (A1 3) (E9 A2))) (B6 5 (A3 C6 (A1 3) (A3 O0 (A1 4) (C5 E6 (A0 (A1 3) A2))))) B9)
  (A6 (C8 (RP (A9 (A3 PL (A1 4) (C5 E6 (A0 (A1 3) A2)))) (A9 (A3 BX9 (C5 CA (A0 (A1 5) A2)) (A3 FR (tC3 (.int 10)) (tC3 (.int 18)))))) (A6 (BH (A1 0) (tC3 (.str "left")) (A3 AV (C5 CA (A0 (A1 5) A2)) (A1 1)))
  (B1 (A3 O0 (C5 CA (A0 (A1 5) A2)) (A1 1)))) B9)
  (A6 (B6 6 (A3 O0 (A3 FR (A3 C9 (A3 C9 (A3 O0 (A1 5) (tC3 (.int 2147483587))) (A3 DE (tC3 (.int 50021)) (A1 4))) (tC3 (.int 29))) (tC3 (.int 5))) (tC3 (.int 2147483629))))
  (A6 (B6 6 (A3 O0 (A3 FR (A3 C9 (A3 DE (A1 6) (A3 C9 (A3 DE (tC3 (.int 2)) (A1 4)) (tC3 (.int 5)))) (tC3 (.int 81799))) (tC3 (.int 3))) (tC3 (.int 2147483647))))
  (B1 (A3 O0 (A3 AV (A1 6) (tC3 (.int 16))) (A1 1))))))))))))
end PK
variable {d:PK.Deed}{rs:List PK.Rl}{cs:List (DD1×DD1×PK.Blk)}{q:PK.Blk}
namespace L3
open PySem PySem.Spec PyProof.Rows L2
section
variable {T:Z3}{σ:Lo}{M:Mem}{Q:DK}{QB:Bool->Mem->Prop}{d x y:D}
theorem BE (h:Q (.tup ds) M):M7 [.lst ds] M Q:=h
theorem BN6 (hm:M a=some (.lst ds))(h:Q (.tup ds) M):M7 [.ref a] M Q:=⟨ds,hm,h⟩
theorem UJ (hm:M a=some (.lst ds))(h:Q (.int ds.length) M):E6 [.ref a] M Q:=⟨ds,hm,h⟩
end
theorem BC3 (h:M a=some (.lst ds)):UV M (.ref a)=some ds:=by
 unfold UV
 dsimp only
 rw[h]
theorem G4 {gt:TG3}{σ0:Lo}{M1:Mem}{Q:DK}(l:List α)(f g:α->D)(hl:l.length<CV8)
  (turn:∀a∈l,∀M2 (R:D->Mem->Prop) (F:Mem->Prop),(∀x,M1 x≠none->M2 x=M1 x)->R (g a) M2->gt (f a) σ0 M2 fun σ' M3=>tt σ' M3 fun bb M4=>if bb=true then te σ' M4 R else F M4)
  (done:Q (.lst (l.map g)) M1):AQ1 gt tt te σ0 (l.map f) M1 Q:=by
 intro p hp
 refine⟨fun k acc M2=>acc=(l.take k).map g/\M2 p=some (.lst acc)/\∀a,a≠p->M2 a=M1 a,⟨rfl,B4,fun a ha=>D0 ha⟩,?_,?_⟩
 ·rintro k d acc M2 hd ⟨rfl,hacc,hsame⟩
  have hk:k<l.length:=by simpa using(List.getElem?_eq_some_iff.mp hd).1
  have hdk:d=f l[k]:=by
   rw[CW8,CX2 hk] at hd
   exact(Option.some.inj hd).symm
  subst hdk
  refine turn l[k] (DB2 hk) M2 _ _ (fun a ha=>hsame a (by rintro rfl;exact ha hp)) ⟨hacc,by simp;lia,?_,B4,fun a ha=>by rw[D0 ha];exact hsame a ha⟩
  rw[DE1,CX2 hk,CX6]
  rfl
 ·rintro acc M2 ⟨rfl,hacc,hsame⟩
  have hlen:(l.map f).length=l.length:=by simp
  rw[hlen,DB1] at hacc ⊢
  have:Z0 M2 p=M1:=funext fun a=>by
   by_cases ha:a=p
   ·subst ha;rw[JF,hp]
   ·rw[LO ha];exact hsame a ha
  rw[this]
  exact⟨hacc,done⟩
end L3
open L3
local macro_rules | `(tactic| walk_at "rd")=>`(tactic| repeat (first|(with_reducible first|refine DS ?_|refine DM ?_|refine X6 ?_|refine KU ?_|refine KZ ?_|refine XG ?_|refine BC ?_|refine DT ?_|refine W9 ?_|refine T4 ?_|refine W7 ?_|refine KR ?_|refine DO ?_|refine W8 ?_|refine X7 ?_|refine X3 ?_|refine DI ?_|refine KW ?_|refine DP ?_|refine W6 ?_|refine DQ ?_|refine X4 ?_|refine R7 ?_|refine KY ?_|refine KS ?_|refine X5 ?_|refine P5 ?_|refine G6 ?_|refine G9 ?_|refine V5 ?_|refine V4 ?_|refine KQ ?_|refine XE ?_|refine J9 ?_|refine X1 ?_|refine X2 ?_|refine DH ?_|refine R8 ?_|refine R9 ?_|refine DU ?_|refine DN ?_|refine GN ?_|refine V2 ?_|refine BD ?_|refine NH ?_|refine BB ?_|refine BE ?_|refine AX ?_|refine BA ?_|refine X0 ?_|refine V3 ?_|refine V7 ?_|refine S0 ?_|refine V6 ?_|refine AY ?_|refine GQ ?_|refine GP ?_|refine DJ ?_|refine GR ?_|refine DL ?_|refine DR ?_)|((with_reducible show A1 _ _ _ _);refine V8 rfl ?_)|((with_reducible show _/\_);refine⟨(by first|decide|(simp only[CV6,CY0];decide)),?_⟩)))
namespace PK
open PySem L2 L3
theorem SS:∀ds M Q,RM ds M Q->ds.length=1:=by rintro _ _ _ ⟨_,rfl,_⟩;rfl
theorem XF:∀ds M Q,RM ds M Q->GV {nx:=fun _ M'=>View Q .non M',rt:=View Q} (B3 LY ds) M:=by
 intro ds M Q h
 obtain⟨d,rfl⟩:∃d,ds=[d]:=by obtain⟨ns,rfl,_⟩:=h;exact⟨_,rfl⟩
 exact BY7 h d rfl _
theorem OV:∀ds M Q,E5 ds M Q->ds.length=2:=by rintro _ _ _ ⟨_,_,_,rfl,_⟩;rfl
theorem UA:∀ds M Q,E5 ds M Q->EF {nx:=fun _ M'=>View Q .non M',rt:=View Q} (B3 KD ds) M:=by
 intro ds M Q h
 obtain⟨d0,d1,rfl⟩:∃d0 d1,ds=[d0,d1]:=by obtain⟨_,_,_,rfl,_⟩:=h;exact⟨_,_,rfl⟩
 exact BM9 h d0 d1 rfl _
end PK
open L3
namespace PK
open PySem L2 L3
end PK
open L3
namespace PK
open PySem L2 L3
end PK
open L3
namespace PK
open PySem L2 L3
def toL:Blk->List Deed
 | .nil=>[]
 | .cons d r=>d::toL r
def F6:Bls->List Blk
 | .nil=>[]
 | .cons b r=>b::F6 r
def tB (b:Blk):D:=.tup (dB b)
theorem AR6:∀b:Blk,dB b=(toL b).map dD
 | .nil=>rfl
 | .cons d r=>by show dD d::dB r=_;rw[AR6 r];rfl
theorem GB:∀bs:Bls,dTs bs=(F6 bs).map tB
 | .nil=>rfl
 | .cons b r=>by show D.tup (dB b)::dTs r=_;rw[GB r];rfl
theorem IT:∀bs:Bls,(F6 bs).length=bsl bs
 | .nil=>rfl
 | .cons b r=>by show(F6 r).length+1=bsl r+1;rw[IT r]
theorem SH (bs:Bls):(dTs bs).length=bsl bs:=by rw[GB,CV1,IT]
theorem BH4 [Pool](hl:RU h r):(h==("if":Str))=false/\(h==("while":Str))=false/\(h==("try":Str))=false:=by
 rcases hl with⟨h1|h1|h1,_⟩|⟨h1|h1|h1,_⟩|⟨h1,_⟩|⟨h1,_⟩|⟨h1,_⟩|⟨h1,_⟩<;>subst h1<;>exact⟨by decide +kernel,by decide +kernel,by decide +kernel⟩
def AJ5:D->D
 | .tup [_,_,t]=>t
 | _=>.non
theorem QN:∀(cs:List (Str×Str)) (ts:List D),cs.length<=ts.length->(J7 cs ts).map AJ5=ts.take cs.length
 | [],ts,_=>by cases ts<;>rfl
 | (w,x)::cs,[],h=>by simp at h
 | (w,x)::cs,t::ts,h=>by
  show AJ5 (.tup [.str w,.str x,t])::(J7 cs ts).map AJ5=_
  rw[QN cs ts (by simpa using h)]
  rfl
theorem SE:∀(cs:List (Str×Str)) (ts:List D),(J7 cs ts).length<=cs.length
 | [],ts=>by cases ts<;>simp[J7]
 | (w,x)::cs,[]=>by simp[J7]
 | (w,x)::cs,t::ts=>by
  show(J7 cs ts).length+1<=cs.length+1
  have:=SE cs ts
  lia
theorem SF:∀(cs:List (Str×Str)) (ts:List D) (d:D),d∈J7 cs ts->∃w x t,d=.tup [.str w,.str x,t]
 | [],ts,d,h=>by cases ts<;>simp[J7] at h
 | (w,x)::cs,[],d,h=>by simp[J7] at h
 | (w,x)::cs,t::ts,d,h=>by
  rcases CV0.mp h with rfl|h
  ·exact⟨w,x,t,rfl⟩
  ·exact SF cs ts d h
theorem AQ9:∀d:Deed,1<=F2 d
 | .mk h bs=>by show 1<=1+E8 bs;lia
theorem AH1 [Pool]:∀(b:Blk) (d:Deed),d∈toL b->F2 d<=C0 b/\dpD d<=dpB b/\(okB b->okD d)
 | .cons x r,d,h=>by
  rcases CV0.mp h with rfl|h
  ·exact⟨DF0 _ _,Nat.le_max_left _ _,fun z=>z.1⟩
  ·obtain⟨a,b,c⟩:=AH1 r d h
   exact⟨CY4 a (Nat.le_add_left _ _),CY4 b (Nat.le_max_right _ _),fun z=>c z.2⟩
theorem MW [Pool]:∀(bs:Bls) (b:Blk),b∈F6 bs->C0 b<=E8 bs/\dpB b+1<=J1 bs/\(AW5 bs->okB b)
 | .cons x r,b,h=>by
  rcases CV0.mp h with rfl|h
  ·exact⟨DF0 _ _,by show dpB b+1<=max (1+dpB b) (J1 r);lia,fun z=>z.1⟩
  ·obtain⟨a,c,d⟩:=MW r b h
   exact⟨CY4 a (Nat.le_add_left _ _),by show dpB b+1<=max (1+dpB x) (J1 r);lia,fun z=>d z.2⟩
end PK
open L3
namespace PK
open PySem L2 L3
theorem VW:∀(cs:List (Str×Str)) (ts us:List D),cs.length=ts.length->J7 cs (ts++us)=J7 cs ts
 | [],[],us,_=>by cases us<;>rfl
 | (a,b)::cs,u::ts,us,h=>by
  show D.tup [.str a,.str b,u]::J7 cs (ts++us)=_
  rw[VW cs ts us (by simpa using h)];rfl
end PK
open L3
namespace PK
open PySem L2 L3
end PK
open L3
namespace PK
open PySem L2 L3
structure Sm (w n:Nat)(d:D):Prop where
 pl:plain d=true
 sh:(pyD d).showable=true
 nd:(pyD d).hasDict=false
 lf:(pyD d).leavesShort 40=true
 wt:(pyD d).weight<=w
 dp:(pyD d).depth<=n
 cl:(pyD d).canLay0=true
structure SmL (w n:Nat)(ds:List D):Prop where
 pl:V0 ds=true
 sh:DN3 (V1 ds)=true
 nd:DO1 (V1 ds)=false
 lf:DK9 40 (V1 ds)=true
 wt:DP5 (V1 ds)<=w
 dp:DJ6 (V1 ds)<=n
 cl:DH4 (V1 ds)=true
theorem SmL.nil {w:Nat}:SmL w n []:=⟨rfl,rfl,rfl,rfl,DC3 _,DC3 _,rfl⟩
theorem SmL.cons {w v n:Nat}{d:D}{ds:List D}(a:Sm w n d)(b:SmL v n ds){u:Nat}(h:w+1+v<=u:=by lia):SmL u n (d::ds):=by
 refine⟨?_,?_,?_,?_,?_,?_,?_⟩
 ·simp only[V0,a.pl,b.pl];rfl
 ·simp only[V1,DN3,a.sh,b.sh];rfl
 ·simp only[V1,DO1,a.nd,b.nd];rfl
 ·simp only[V1,DK9,a.lf,b.lf];rfl
 ·have:=a.wt;have:=b.wt;simp only[V1,DP5];lia
 ·have:=a.dp;have:=b.dp;simp only[V1,DJ6];lia
 ·simp only[V1,DH4,a.cl,b.cl];rfl
theorem Sm.tup {w n m:Nat}{ds:List D}(a:SmL w n ds)(h:n+1<=m:=by lia):Sm w m (.tup ds):=by
 refine⟨by simpa[L3.plain] using a.pl,by simpa[pyD,DQ3] using a.sh,by simpa[pyD,PyData.hasDict] using a.nd,by simpa[pyD,PyData.leavesShort] using a.lf,by simpa[pyD,PyData.weight] using a.wt,?_,by simpa[pyD,DK5] using a.cl⟩
 have:=a.dp
 simp only[pyD,DI5];lia
theorem Sm.mono {w v m:Nat}{d:D}(a:Sm w n d)(h1:w<=v:=by lia) (h2:n<=m:=by lia):Sm v m d:=⟨a.pl,a.sh,a.nd,a.lf,CY4 a.wt h1,CY4 a.dp h2,a.cl⟩
theorem SmL.mono {w v m:Nat}{d:List D}(a:SmL w n d)(h1:w<=v:=by lia) (h2:n<=m:=by lia):SmL v m d:=⟨a.pl,a.sh,a.nd,a.lf,CY4 a.wt h1,CY4 a.dp h2,a.cl⟩
theorem Sm.show {w:Nat}{d:D}(a:Sm w n d)(hw:w<=399000:=by lia) (hn:n<=60:=by lia):BC5 d:=by
 refine⟨a.pl,a.sh,a.nd,CY4 a.dp hn,?_⟩
 have h1:=PyData.shown_le 40 (by decide) _ a.lf
 have h2:(40+2)*(pyD d).weight<=42*399000:=Nat.mul_le_mul (by decide) (CY4 a.wt hw)
 rw[CX1];lia
theorem Sm.dok {w:Nat}{d:D}(a:Sm w n d)(hn:n<=60:=by lia):dOk d:=⟨a.pl,a.cl,CY4 a.dp hn⟩
theorem Sm.str {x:Str}(h:(x.cps.toList.all fun c=>decide (c<1114112))=true)(w:Nat)(hw:x.length<=w):Sm w 0 (.str x):=by
 have hs:DK8 x=true:=by
  unfold DK8
  rw[CX4] at h
  rw[Array.all_eq_true']
  intro c hc
  exact h c (Array.mem_toList_iff.mpr hc)
 refine⟨rfl,by simpa[pyD,DQ3] using hs,rfl,?_,?_,by simp[pyD,DI5],by simpa[pyD,DK5] using hs⟩
 ·simp only[pyD,PyData.leavesShort]
  rw[CX4] at h ⊢
  intro c hc
  have:=h c hc
  simp at this ⊢
  lia
 ·simp only[pyD,PyData.weight];exact hw
theorem Sm.nm {x:Str}(h:nm x):Sm 8 0 (.str x):=Sm.str (by
 rw[CX4]
 intro c hc
 have:=h.1 c hc
 simp;lia) 8 h.2.2
theorem CC9 {s:Str}(h:sgn s):Sm 1 0 (.str s):=by
 rcases h with rfl|rfl|rfl|rfl|rfl<;>exact Sm.str (by decide +kernel) 1 (by decide +kernel)
end PK
namespace L3
open PySem PySem.Spec PyProof.Rows L2
theorem PF (it t:Addr)(i:Nat)(items:Array Value)(x:Value):Meets (DF3.«tuple_iterator.__next__» {pos:=[.ref it]}) fun A R s =>
  s.heap.IsTupleIter it t i/\s.heap.IsTuple t items/\items[i]?=some x/\∀h',h'.IsTupleIter it t (i+1)->DD0 it s.heap h'->R (.ok (.ret x)) {s with heap:=h'}:=by
 rintro prog w A R s ⟨⟨⟨cls,dct,data,sl⟩,ho,hc,hd⟩,⟨ot,hto,htc,n,htd⟩,hx,k⟩
 simp only at hc hd
 subst hc hd
 refine CU6 (CU7 ?_)
 refine CU6 (DC5 ho rfl rfl ?_)
 rw[if_neg (by simp)]
 refine CU6 (DC5 ho rfl rfl ?_)
 refine CU6 (DE7 hto htd ?_)
 have e:(↑i:Int).toNat=i:=by simp
 simp only[e,hx]
 refine CU6 (DC6 ho rfl (by simp) ?_)
 refine CU7 (k _ ?_ ?_)
 ·exact⟨_,CZ4 _ ho rfl,rfl,rfl⟩
 ·exact⟨by simp[Heap.update],fun b hb=>CY6 _ _ (Ne.symm hb)⟩
theorem TB (it t:Addr)(i:Nat)(items:Array Value):Meets (DF3.«tuple_iterator.__next__» {pos:=[.ref it]}) fun A R s =>
  A.handled=none/\s.heap.IsTupleIter it t i/\s.heap.IsTuple t items/\items[i]?=none/\∀h' e,DN2 it s.heap h'->(∃o,h'.get? e=some o/\o.cls=.type "StopIteration")->R (.error (.ref e)) {s with heap:=h'}:=by
 rintro prog w A R s ⟨hA,⟨⟨cls,dct,data,sl⟩,ho,hc,hd⟩,⟨ot,hto,htc,n,htd⟩,hx,k⟩
 simp only at hc hd
 subst hc hd
 refine CU6 (CU7 ?_)
 refine CU6 (DC5 ho rfl rfl ?_)
 rw[if_neg (by simp)]
 refine CU6 (DC5 ho rfl rfl ?_)
 refine CU6 (DE7 hto htd ?_)
 have e:(↑i:Int).toNat=i:=by simp
 simp only[e,hx]
 refine CU6 (DH2 ?_)
 refine CU6 (DC6 ho rfl (by simp) ?_)
 unfold Builtin.SmallTypes.stopIteration
 refine CU6 (CU6 (CX5 ?_))
 refine CU6 (CU6 (CU7 (CU7 ?_)))
 refine CX5 ?_ (by first|decide|(unfold sizeOk;simp[ownMembersOf,CX1]))
 refine wpAny_raiseNew_none hA (k _ _ (fun b ob hb hob=>?_) ⟨_,CW0 _ rfl,rfl⟩)
 exact CU8 _ (CU8 _ ((CY6 _ _ (Ne.symm hb)).trans hob))
theorem U8 {it t:Addr}{x:Value}(hi:s.heap.IsTupleIter it t i)(ht:s.heap.IsTuple t items)(hx:items[i]?=some x)
  (k:∀h',h'.IsTupleIter it t (i+1)->DD0 it s.heap h'->Q x {s with heap:=h'}):wpAny (model prog w) A (DB6 (.ref it)) Q E s:=by
 obtain⟨o,ho,hc,hd⟩:=id hi
 refine CU6 (CZ7 ⟨o,ho,hc⟩ DO4 ?_)
 refine DK0 DO4 ⟨o,ho,hc⟩ entry_tupleiter_next (F.args_tuple_iterator_next_1 _) (PF it t i items x) ⟨hi,ht,hx,fun h' a b=>?_⟩
 exact CU7 (k h' a b)
theorem FP {it t:Addr}(hA:A.handled=none)(hi:s.heap.IsTupleIter it t i)(ht:s.heap.IsTuple t items)(hx:items[i]?=none)
  (k:∀h' e,DN2 it s.heap h'->(∃o,h'.get? e=some o/\o.cls=.type "StopIteration")->E (.ref e) {s with heap:=h'}):wpAny (model prog w) A (DB6 (.ref it)) Q E s:=by
 obtain⟨o,ho,hc,hd⟩:=id hi
 refine CU6 (CZ7 ⟨o,ho,hc⟩ DO4 ?_)
 exact DK0 DO4 ⟨o,ho,hc⟩ entry_tupleiter_next (F.args_tuple_iterator_next_1 _) (TB it t i items) ⟨hA,hi,ht,hx,fun h' e a b=>k h' e a b⟩
theorem AP9 {E:Value->CV4->Prop}{z TI TO:Addr}{xs:Array Value}{x y a b:Value}
  (ap:ZipApart z TI TO i1 i2 l1 l2) (hz:IsZip s.heap z TI TO .none) (hI:DI0 s.heap TI (.ref i1) (.ref i2)) (hO:DI0 s.heap TO a b)
  (h1:s.heap.IsTupleIter i1 l1 k) (h2:s.heap.IsTupleIter i2 l2 k) (t1:s.heap.IsTuple l1 xs) (t2:s.heap.IsTuple l2 ys) (hx:xs[k]?=some x) (hy:ys[k]?=some y)
  (q:∀h',IsZip h' z TI TO (DM6 ↑s.heap.objs.size)->DI0 h' TO x y->h'.IsTupleIter i1 l1 (k+1)->h'.IsTupleIter i2 l2 (k+1)->DI0 h' s.heap.objs.size x y->h'.objs.size=s.heap.objs.size+1 ->
   (∀c o,c≠z->c≠TO->c≠i1->c≠i2->s.heap.get? c=some o->h'.get? c=some o)->Q (.ref s.heap.objs.size) {s with heap:=h'}) :
  wpAny (model prog w) A (DF3.«zip.__next__» {pos:=[.ref z]}) (fun fin s'=>∃v,fin=.done (.ret v)/\Q v s') E s:=by
 refine CU6 (CU7 ?_)
 try dsimp only
 refine CU6 (DC5 hz rfl rfl ?_)
 try dsimp only
 refine CU6 (DC5 hz rfl rfl ?_)
 refine CU6 (DE7 hI rfl ?_)
 try dsimp only
 rw[if_neg (by simp)]
 refine CU6 (CU6 (DC5 hz rfl rfl ?_))
 refine CU7 ?_
 rw[if_pos rfl]
 refine CU6 (DH2 ?_)
 refine CU6 (DC5 hz rfl rfl ?_)
 try dsimp only
 refine CU6 (DC6 hz rfl (by simp) ?_)
 have zip2:[Value.ref i1,Value.ref i2].zipIdx=[(Value.ref i1,0),(Value.ref i2,1)]:=rfl
 have hz1:=CZ4 (h:=s.heap) (a:=z) (CY8 fun x=>x.setIfInBounds 0 Value.ellipsis) hz rfl
 have o1:∀c,c≠z->(s.heap.update z (CY8 fun x=>x.setIfInBounds 0 Value.ellipsis)).get? c=s.heap.get? c:=fun c hc=>CY6 _ _ (Ne.symm hc)
 have sz1:(s.heap.update z (CY8 fun x=>x.setIfInBounds 0 Value.ellipsis)).objs.size=s.heap.objs.size:=by simp[Heap.update]
 generalize s.heap.update z (CY8 fun x=>x.setIfInBounds 0 Value.ellipsis)=g1 at hz1 o1 sz1
 have kI:∀{g:Heap} {it t n},g.get? it=s.heap.get? it->s.heap.IsTupleIter it t n->g.IsTupleIter it t n:=fun e ⟨o,ho,r⟩=>⟨o,e.trans ho,r⟩
 have kT:∀{g:Heap} {t its},g.get? t=s.heap.get? t->s.heap.IsTuple t its->g.IsTuple t its:=fun e ⟨o,ho,r⟩=>⟨o,e.trans ho,r⟩
 rw[zip2,DF6]
 refine CU6 (CU6 (CU6 (wpAny_onRaise ?_)))
 refine CU6 (m:=DB6 (.ref i1)) (U8 (kI (o1 _ ap.i1z) h1) (kT (o1 _ ap.l1z) t1) hx fun g2 hi2 sb2=>?_)
 refine CU7 ?_
 have hO2:DI0 g2 TO a b:=((sb2.2 _ ap.TOi1).trans (o1 _ ap.TOz)).trans hO
 refine CU6 (DE7 hO2 rfl ?_)
 refine CU6 (wpAny_updateSeq_pair hO2 fun g3 hO3 sb3=>?_)
 refine CU6 (wpAny_letGo ?_)
 refine CU7 ?_
 show wpAny _ _ (forIn [(Value.ref i2,1)] _ _) _ _ _
 rw[DF6]
 have hO3:DI0 g3 TO x b:=hO3
 have e3:∀c,c≠z->c≠i1->c≠TO->g3.get? c=s.heap.get? c:=fun c h1 h2 h3=>(sb3.2 c h3).trans ((sb2.2 c h2).trans (o1 c h1))
 refine CU6 (CU6 (wpAny_onRaise ?_))
 refine CU6 (m:=DB6 (.ref i2)) (U8 (kI (e3 _ ap.i2z (Ne.symm ap.i12) (Ne.symm ap.TOi2)) h2) (kT (e3 _ ap.l2z ap.l2i1 ap.l2TO) t2) hy fun g4 hi4 sb4=>?_)
 refine CU7 ?_
 have hO4:DI0 g4 TO x b:=(sb4.2 _ ap.TOi2).trans hO3
 refine CU6 (DE7 hO4 rfl ?_)
 refine CU6 (wpAny_updateSeq_pair hO4 fun g5 hO5 sb5=>?_)
 refine CU6 (wpAny_letGo ?_)
 refine CU7 ?_
 show wpAny _ _ (forIn [] _ _) _ _ _
 rw[List.forIn_nil]
 refine CU7 ?_
 have hO5:DI0 g5 TO x y:=hO5
 refine CU6 (DE7 hO5 rfl ?_)
 refine CU6 (CX5 (data:=.seq #[x,y]) ?_)
 have hz5:g5.get? z=some {cls:=.type "zip",data:=.fields #[Value.ellipsis,Value.bool false,Value.bool false,Value.ref TI,Value.ref TO]}:=(sb5.2 z (Ne.symm ap.TOz)).trans ((sb4.2 z (Ne.symm ap.i2z)).trans ((sb3.2 z (Ne.symm ap.TOz)).trans ((sb2.2 z (Ne.symm ap.i1z)).trans hz1)))
 have sz5:g5.objs.size=s.heap.objs.size:=sb5.1.trans (sb4.1.trans (sb3.1.trans (sb2.1.trans sz1)))
 have e5:∀c,c≠z->c≠i1->c≠TO->c≠i2->g5.get? c=s.heap.get? c:=fun c h1 h2 h3 h4=>(sb5.2 c h3).trans ((sb4.2 c h4).trans (e3 c h1 h2 h3))
 show wpAny _ _ _ _ _ {s with heap:=g5.push {cls:=.type "tuple",data:=.seq #[x,y]}}
 have hz6:(g5.push {cls:=.type "tuple",data:=.seq #[x,y]}).get? z=_:=CU8 _ hz5
 refine CU6 (CU6 (DC6 hz6 rfl (by simp) ?_))
 have hz7:=CZ4 (h:=g5.push {cls:=.type "tuple",data:=.seq #[x,y]}) (a:=z) (CY8 fun v=>v.setIfInBounds 0 (DM6 (g5.objs.size:Nat))) hz6 rfl
 refine DC6 hz7 rfl (by simp[CY8]) ?_
 have hz8:=CZ4 (h:=(g5.push {cls:=.type "tuple",data:=.seq #[x,y]}).update z (CY8 fun v=>v.setIfInBounds 0 (DM6 (g5.objs.size:Nat)))) (a:=z) (CY8 fun v=>v.setIfInBounds 1 (.bool false)) hz7 rfl
 have e8:∀c,c≠z->(((g5.push {cls:=.type "tuple",data:=.seq #[x,y]}).update z (CY8 fun v=>v.setIfInBounds 0 (DM6 (g5.objs.size:Nat)))).update z (CY8 fun v=>v.setIfInBounds 1 (.bool false))).get? c=(g5.push {cls:=.type "tuple",data:=.seq #[x,y]}).get? c:=fun c hc=>(CY6 _ _ (Ne.symm hc)).trans (CY6 _ _ (Ne.symm hc))
 have sz8:(((g5.push {cls:=.type "tuple",data:=.seq #[x,y]}).update z (CY8 fun v=>v.setIfInBounds 0 (DM6 (g5.objs.size:Nat)))).update z (CY8 fun v=>v.setIfInBounds 1 (.bool false))).objs.size=g5.objs.size+1:=by simp[Heap.update,Heap.push]
 show wpAny _ _ (pure (PySem.Fin.done (.ret (.ref g5.objs.size)))) _ _ {s with heap:=((g5.push {cls:=.type "tuple",data:=.seq #[x,y]}).update z (CY8 fun v=>v.setIfInBounds 0 (DM6 (g5.objs.size:Nat)))).update z (CY8 fun v=>v.setIfInBounds 1 (.bool false))}
 refine CU7 ⟨_,rfl,?_⟩
 generalize ((g5.push {cls:=.type "tuple",data:=.seq #[x,y]}).update z (CY8 fun v=>v.setIfInBounds 0 (DM6 (g5.objs.size:Nat)))).update z (CY8 fun v=>v.setIfInBounds 1 (.bool false))=g8 at hz8 e8 sz8 ⊢
 have zl:=CV9 hz5
 rw[sz5]
 have p8:∀c o,c≠z->g5.get? c=some o->g8.get? c=some o:=fun c o hc e=>(e8 c hc).trans (CU8 _ e)
 have i5:g5.IsTupleIter i1 l1 (k+1):=by
  obtain⟨o,ho,r⟩:=hi2
  exact⟨o,(sb5.2 _ (Ne.symm ap.TOi1)).trans ((sb4.2 _ ap.i12).trans ((sb3.2 _ (Ne.symm ap.TOi1)).trans ho)),r⟩
 have j5:g5.IsTupleIter i2 l2 (k+1):=by
  obtain⟨o,ho,r⟩:=hi4
  exact⟨o,(sb5.2 _ (Ne.symm ap.TOi2)).trans ho,r⟩
 refine q g8 (by rw[sz5] at hz8;exact hz8) (p8 _ _ ap.TOz hO5) ?_ ?_ ?_ (by rw[sz8,sz5]) fun c o h1 h2 h3 h4 e=>p8 c o h1 ((e5 c h1 h3 h2 h4).trans e)
 ·obtain⟨o,ho,r⟩:=i5
  exact⟨o,p8 _ _ ap.i1z ho,r⟩
 ·obtain⟨o,ho,r⟩:=j5
  exact⟨o,p8 _ _ ap.i2z ho,r⟩
 ·show g8.get? s.heap.objs.size=_
  rw[e8 _ (by rw[<-sz5];exact DL9 zl),<-sz5]
  exact CW0 _ rfl
theorem BF0 {z TI TO:Addr}{xs:Array Value}{a b:Value}{Q:PySem.Fin->CV4->Prop}
  (hA:A.handled=none) (ap:ZipApart z TI TO i1 i2 l1 l2) (hz:IsZip s.heap z TI TO .none) (hI:DI0 s.heap TI (.ref i1) (.ref i2)) (hO:DI0 s.heap TO a b)
  (h1:s.heap.IsTupleIter i1 l1 k) (h2:s.heap.IsTupleIter i2 l2 k) (t1:s.heap.IsTuple l1 xs) (t2:s.heap.IsTuple l2 ys) (hx:xs[k]?=none\/ys[k]?=none)
  (q:∀h' e,(∀c o,c≠z->c≠TO->c≠i1->c≠i2->s.heap.get? c=some o->h'.get? c=some o)->(∃o,h'.get? e=some o/\o.cls=.type "StopIteration")->E (.ref e) {s with heap:=h'}) :
  wpAny (model prog w) A (DF3.«zip.__next__» {pos:=[.ref z]}) Q E s:=by
 refine CU6 (CU7 ?_)
 refine CU6 (DC5 hz rfl rfl ?_)
 try dsimp only
 refine CU6 (DC5 hz rfl rfl ?_)
 refine CU6 (DE7 hI rfl ?_)
 try dsimp only
 rw[if_neg (by simp)]
 refine CU6 (CU6 (DC5 hz rfl rfl ?_))
 refine CU7 ?_
 rw[if_pos rfl]
 refine CU6 (DH2 ?_)
 refine CU6 (DC5 hz rfl rfl ?_)
 try dsimp only
 refine CU6 (DC6 hz rfl (by simp) ?_)
 have zip2:[Value.ref i1,Value.ref i2].zipIdx=[(Value.ref i1,0),(Value.ref i2,1)]:=rfl
 have hz1:=CZ4 (h:=s.heap) (a:=z) (CY8 fun x=>x.setIfInBounds 0 Value.ellipsis) hz rfl
 have o1:∀c,c≠z->(s.heap.update z (CY8 fun x=>x.setIfInBounds 0 Value.ellipsis)).get? c=s.heap.get? c:=fun c hc=>CY6 _ _ (Ne.symm hc)
 generalize s.heap.update z (CY8 fun x=>x.setIfInBounds 0 Value.ellipsis)=g1 at hz1 o1
 have kI:∀{g:Heap} {it t n},g.get? it=s.heap.get? it->s.heap.IsTupleIter it t n->g.IsTupleIter it t n:=fun e ⟨o,ho,r⟩=>⟨o,e.trans ho,r⟩
 have kT:∀{g:Heap} {t its},g.get? t=s.heap.get? t->s.heap.IsTuple t its->g.IsTuple t its:=fun e ⟨o,ho,r⟩=>⟨o,e.trans ho,r⟩
 rw[zip2,DF6]
 have fin:∀(g:Heap) (e:Addr) (o:Obj) (vs:Array Value),g.get? z=some o->o.data=.fields vs->0<vs.size->(∀c o,c≠z->c≠TO->c≠i1->c≠i2->s.heap.get? c=some o->g.get? c=some o)->(∃o,g.get? e=some o/\o.cls=.type "StopIteration")->o.cls=.type "zip" ->
   wpAny (model prog w) A (setField (.ref z) 0 .none) (fun x s''=>E (.ref e) s'') E {s with heap:=g}:=by
  rintro g e o vs ho hd hv kk ⟨oe,he,hc⟩ hoc
  have hne:e≠z:=by rintro rfl;rw[he] at ho;cases ho;rw[hc] at hoc;injection hoc with hh;exact absurd hh (by decide)
  refine DC6 ho hd hv (q _ e (fun c o' a1 a2 a3 a4 r=>(CY6 _ _ (Ne.symm a1)).trans (kk c o' a1 a2 a3 a4 r)) ⟨oe,(CY6 _ _ (Ne.symm hne)).trans he,hc⟩)
 by_cases hxx:xs[k]?=none
 ·refine CU6 (CU6 (CU6 (wpAny_onRaise ?_)))
  refine CU6 (m:=DB6 (.ref i1)) (FP hA (kI (o1 _ ap.i1z) h1) (kT (o1 _ ap.l1z) t1) hxx fun g2 e ex hs=>?_)
  exact fin g2 e _ _ (ex z _ (Ne.symm ap.i1z) hz1) rfl (by simp) (fun c o a1 a2 a3 a4 r=>ex c o a3 ((o1 c a1).trans r)) hs rfl
 ·have hyy:ys[k]?=none:=hx.resolve_left hxx
  obtain⟨x,hx⟩:=Option.ne_none_iff_exists'.mp hxx
  refine CU6 (CU6 (CU6 (wpAny_onRaise ?_)))
  refine CU6 (m:=DB6 (.ref i1)) (U8 (kI (o1 _ ap.i1z) h1) (kT (o1 _ ap.l1z) t1) hx fun g2 hi2 sb2=>?_)
  refine CU7 ?_
  have hO2:DI0 g2 TO a b:=((sb2.2 _ ap.TOi1).trans (o1 _ ap.TOz)).trans hO
  refine CU6 (DE7 hO2 rfl ?_)
  refine CU6 (wpAny_updateSeq_pair hO2 fun g3 hO3 sb3=>?_)
  refine CU6 (wpAny_letGo ?_)
  refine CU7 ?_
  show wpAny _ _ (forIn [(Value.ref i2,1)] _ _) _ _ _
  rw[DF6]
  have e3:∀c,c≠z->c≠i1->c≠TO->g3.get? c=s.heap.get? c:=fun c h1 h2 h3=>(sb3.2 c h3).trans ((sb2.2 c h2).trans (o1 c h1))
  refine CU6 (CU6 (wpAny_onRaise ?_))
  refine CU6 (m:=DB6 (.ref i2)) (FP hA (kI (e3 _ ap.i2z (Ne.symm ap.i12) (Ne.symm ap.TOi2)) h2) (kT (e3 _ ap.l2z ap.l2i1 ap.l2TO) t2) hyy fun g4 e ex hs=>?_)
  have hz3:=(sb3.2 z (Ne.symm ap.TOz)).trans ((sb2.2 z (Ne.symm ap.i1z)).trans hz1)
  exact fin g4 e _ _ (ex z _ (Ne.symm ap.i2z) hz3) rfl (by simp) (fun c o a1 a2 a3 a4 r=>ex c o a4 ((e3 c a1 a3 a2).trans r)) hs rfl
theorem MY {z TI TO:Addr}{xs:Array Value}{x y a b:Value}{Q:Option Value->CV4->Prop}
  (ap:ZipApart z TI TO i1 i2 l1 l2) (hz:IsZip s.heap z TI TO .none) (hI:DI0 s.heap TI (.ref i1) (.ref i2)) (hO:DI0 s.heap TO a b)
  (h1:s.heap.IsTupleIter i1 l1 k) (h2:s.heap.IsTupleIter i2 l2 k) (t1:s.heap.IsTuple l1 xs) (t2:s.heap.IsTuple l2 ys) (hx:xs[k]?=some x) (hy:ys[k]?=some y)
  (q:∀h',IsZip h' z TI TO (DM6 ↑s.heap.objs.size)->DI0 h' TO x y->h'.IsTupleIter i1 l1 (k+1)->h'.IsTupleIter i2 l2 (k+1)->DI0 h' s.heap.objs.size x y->h'.objs.size=s.heap.objs.size+1 ->
   (∀c o,c≠z->c≠TO->c≠i1->c≠i2->s.heap.get? c=some o->h'.get? c=some o)->Q (some (.ref s.heap.objs.size)) {s with heap:=h'}) :
  wpAny (model prog w) A (DP8 (.ref z)) Q E s:=by
 refine CU6 (DN6 (CZ7 ⟨_,hz,rfl⟩ F.slot_zip_next ?_))
 refine DK0 F.slot_zip_next ⟨_,hz,rfl⟩ F.entry_zip_next (F.args_zip_next_1 _) (S:=fun A R s'=>s'=s/\∀h',IsZip h' z TI TO (DM6 ↑s.heap.objs.size)->DI0 h' TO x y->h'.IsTupleIter i1 l1 (k+1)->h'.IsTupleIter i2 l2 (k+1)->DI0 h' s.heap.objs.size x y->h'.objs.size=s.heap.objs.size+1 ->
   (∀c o,c≠z->c≠TO->c≠i1->c≠i2->s.heap.get? c=some o->h'.get? c=some o)->R (.ok (.ret (.ref s.heap.objs.size))) {s with heap:=h'}) ?_ ⟨rfl,fun h' a b c d e f g=>CU7 (q h' a b c d e f g)⟩
 rintro prog w A R s' ⟨rfl,k⟩
 refine DB9 (AP9 ap hz hI hO h1 h2 t1 t2 hx hy (Q:=fun v s=>R (.ok (.ret v)) s) k) (fun fin s1 h=>?_) fun _ _ h=>h
 obtain⟨v,rfl,h⟩:=h
 exact h
theorem PH {z TI TO:Addr}{xs:Array Value}{a b:Value}{Q:Option Value->CV4->Prop}
  (hA:A.handled=none) (ap:ZipApart z TI TO i1 i2 l1 l2) (hz:IsZip s.heap z TI TO .none) (hI:DI0 s.heap TI (.ref i1) (.ref i2)) (hO:DI0 s.heap TO a b)
  (h1:s.heap.IsTupleIter i1 l1 k) (h2:s.heap.IsTupleIter i2 l2 k) (t1:s.heap.IsTuple l1 xs) (t2:s.heap.IsTuple l2 ys) (hx:xs[k]?=none\/ys[k]?=none)
  (q:∀h',(∀c o,c≠z->c≠TO->c≠i1->c≠i2->s.heap.get? c=some o->h'.get? c=some o)->Q none {s with heap:=h'}) :
  wpAny (model prog w) A (DP8 (.ref z)) Q E s:=by
 refine CU6 (DN6 (CZ7 ⟨_,hz,rfl⟩ F.slot_zip_next ?_))
 refine DK0 F.slot_zip_next ⟨_,hz,rfl⟩ F.entry_zip_next (F.args_zip_next_1 _) (S:=fun A R s'=>A.handled=none/\s'=s/\∀h' e,(∀c o,c≠z->c≠TO->c≠i1->c≠i2->s.heap.get? c=some o->h'.get? c=some o)->(∃o,h'.get? e=some o/\o.cls=.type "StopIteration")->R (.error (.ref e)) {s with heap:=h'}) ?_ ⟨hA,rfl,fun h' e kk hs=>?_⟩
 ·rintro prog w A R s' ⟨hA,rfl,k⟩
  exact BF0 (A:=A.in1) hA ap hz hI hO h1 h2 t1 t2 hx k
 ·obtain⟨o,ho,hc⟩:=hs
  refine CU6 (DJ7 (T:="StopIteration") (b:=true) ⟨_,ho,hc⟩ isSubtype_stop ?_)
  rw[if_pos rfl]
  exact CU7 (q h' kk)
theorem ZR (l1 l2:Addr)(xs ys:Array Value):Meets (DF3.«zip.__new__» {pos:=[.type "zip",.ref l1,.ref l2]}) fun A R s =>
  s.heap.IsTuple l1 xs/\s.heap.IsTuple l2 ys/\∀h',IsZip h' (s.heap.objs.size+4) (s.heap.objs.size+2) (s.heap.objs.size+3) .none->DI0 h' (s.heap.objs.size+2) (.ref s.heap.objs.size) (.ref (s.heap.objs.size+1))->DI0 h' (s.heap.objs.size+3) .none .none ->
   h'.IsTupleIter s.heap.objs.size l1 0->h'.IsTupleIter (s.heap.objs.size+1) l2 0->(∀c o,s.heap.get? c=some o->h'.get? c=some o)->R (.ok (.ret (.ref (s.heap.objs.size+4)))) {s with heap:=h'}:=by
 rintro prog w A R s ⟨t1,t2,k⟩
 refine CU6 ?_
 refine CU6 (CU7 ?_)
 refine CU6 ?_
 rw[sub_zip]
 refine CU7 (CU7 ?_)
 dsimp only
 rw[if_neg (by simp)]
 refine CU6 ?_
 unfold Builtin.SmallTypes.iterAll
 dsimp only
 rw[DF6]
 refine CU6 (CU6 (CU6 (DA2 (DP7 t1 ?_))))
 refine CU7 ?_
 show wpAny _ _ (forIn [Value.ref l2] _ _) _ _ _
 rw[DF6]
 have t2':(s.heap.push {cls:=.type "tuple_iterator",data:=.fields #[.ref l1,.int 0 0]}).IsTuple l2 ys:=by
  obtain⟨o,ho,r⟩:=t2
  exact⟨o,CU8 _ ho,r⟩
 refine CU6 (CU6 (DA2 (DP7 t2' ?_)))
 refine CU7 ?_
 show wpAny _ _ (forIn [] _ _) _ _ _
 rw[List.forIn_nil]
 refine CU7 (CU7 ?_)
 refine CU6 (CX5 (data:=.seq #[.ref s.heap.objs.size,.ref (s.heap.push {cls:=.type "tuple_iterator",data:=.fields #[.ref l1,.int 0 0]}).objs.size]) ?_)
 refine CU6 (CX5 (data:=.seq #[.none,.none]) ?_)
 refine CU6 (CX5 (data:=.fields #[.none,.bool false,.bool false,.ref ((s.heap.push {cls:=.type "tuple_iterator",data:=.fields #[.ref l1,.int 0 0]}).push {cls:=.type "tuple_iterator",data:=.fields #[.ref l2,.int 0 0]}).objs.size,.ref (((s.heap.push {cls:=.type "tuple_iterator",data:=.fields #[.ref l1,.int 0 0]}).push {cls:=.type "tuple_iterator",data:=.fields #[.ref l2,.int 0 0]}).push {cls:=.type "tuple",data:=.seq #[.ref s.heap.objs.size,.ref (s.heap.push {cls:=.type "tuple_iterator",data:=.fields #[.ref l1,.int 0 0]}).objs.size]}).objs.size]) ?_)
 refine CU7 ?_
 have a1:(s.heap.push {cls:=.type "tuple_iterator",data:=.fields #[.ref l1,.int 0 0]}).objs.size=s.heap.objs.size+1:=by simp[Heap.push]
 have b1:(s.heap.push {cls:=.type "tuple_iterator",data:=.fields #[.ref l1,.int 0 0]}).get? s.heap.objs.size=_:=CW0 _ rfl
 have c1:∀c o,s.heap.get? c=some o->(s.heap.push {cls:=.type "tuple_iterator",data:=.fields #[.ref l1,.int 0 0]}).get? c=some o:=fun c o e=>CU8 _ e
 show R _ {s with heap:=((((s.heap.push {cls:=.type "tuple_iterator",data:=.fields #[.ref l1,.int 0 0]}).push {cls:=.type "tuple_iterator",data:=.fields #[.ref l2,.int 0 0]}).push {cls:=.type "tuple",data:=.seq #[.ref s.heap.objs.size,.ref (s.heap.push {cls:=.type "tuple_iterator",data:=.fields #[.ref l1,.int 0 0]}).objs.size]}).push {cls:=.type "tuple",data:=.seq #[.none,.none]}).push {cls:=.type "zip",data:=.fields #[.none,.bool false,.bool false,.ref ((s.heap.push {cls:=.type "tuple_iterator",data:=.fields #[.ref l1,.int 0 0]}).push {cls:=.type "tuple_iterator",data:=.fields #[.ref l2,.int 0 0]}).objs.size,.ref (((s.heap.push {cls:=.type "tuple_iterator",data:=.fields #[.ref l1,.int 0 0]}).push {cls:=.type "tuple_iterator",data:=.fields #[.ref l2,.int 0 0]}).push {cls:=.type "tuple",data:=.seq #[.ref s.heap.objs.size,.ref (s.heap.push {cls:=.type "tuple_iterator",data:=.fields #[.ref l1,.int 0 0]}).objs.size]}).objs.size]}}
 show R (.ok (.ret (.ref ((((s.heap.push {cls:=.type "tuple_iterator",data:=.fields #[.ref l1,.int 0 0]}).push {cls:=.type "tuple_iterator",data:=.fields #[.ref l2,.int 0 0]}).push {cls:=.type "tuple",data:=.seq #[.ref s.heap.objs.size,.ref (s.heap.push {cls:=.type "tuple_iterator",data:=.fields #[.ref l1,.int 0 0]}).objs.size]}).push {cls:=.type "tuple",data:=.seq #[.none,.none]}).objs.size))) _
 generalize s.heap.push {cls:=.type "tuple_iterator",data:=.fields #[.ref l1,.int 0 0]}=g1 at *
 have a2:(g1.push {cls:=.type "tuple_iterator",data:=.fields #[.ref l2,.int 0 0]}).objs.size=s.heap.objs.size+2:=by simp[Heap.push];exact a1
 have b2:(g1.push {cls:=.type "tuple_iterator",data:=.fields #[.ref l2,.int 0 0]}).get? g1.objs.size=_:=CW0 _ rfl
 have c2:∀c o,g1.get? c=some o->(g1.push {cls:=.type "tuple_iterator",data:=.fields #[.ref l2,.int 0 0]}).get? c=some o:=fun c o e=>CU8 _ e
 generalize g1.push {cls:=.type "tuple_iterator",data:=.fields #[.ref l2,.int 0 0]}=g2 at *
 rw[a1] at b2 ⊢
 have a3:(g2.push {cls:=.type "tuple",data:=.seq #[.ref s.heap.objs.size,.ref (s.heap.objs.size+1)]}).objs.size=s.heap.objs.size+3:=by simp[Heap.push];exact a2
 have b3:(g2.push {cls:=.type "tuple",data:=.seq #[.ref s.heap.objs.size,.ref (s.heap.objs.size+1)]}).get? g2.objs.size=_:=CW0 _ rfl
 have c3:∀c o,g2.get? c=some o->(g2.push {cls:=.type "tuple",data:=.seq #[.ref s.heap.objs.size,.ref (s.heap.objs.size+1)]}).get? c=some o:=fun c o e=>CU8 _ e
 generalize g2.push {cls:=.type "tuple",data:=.seq #[.ref s.heap.objs.size,.ref (s.heap.objs.size+1)]}=g3 at *
 rw[a2] at b3 ⊢
 have a4:(g3.push {cls:=.type "tuple",data:=.seq #[.none,.none]}).objs.size=s.heap.objs.size+4:=by simp[Heap.push];exact a3
 have b4:(g3.push {cls:=.type "tuple",data:=.seq #[.none,.none]}).get? g3.objs.size=_:=CW0 _ rfl
 have c4:∀c o,g3.get? c=some o->(g3.push {cls:=.type "tuple",data:=.seq #[.none,.none]}).get? c=some o:=fun c o e=>CU8 _ e
 generalize g3.push {cls:=.type "tuple",data:=.seq #[.none,.none]}=g4 at *
 rw[a3] at b4 ⊢
 rw[a4]
 refine k _ (by rw[<-a4];exact CW0 _ rfl) (CU8 _ (c4 _ _ b3)) (CU8 _ b4) ⟨_,CU8 _ (c4 _ _ (c3 _ _ (c2 _ _ b1))),rfl,rfl⟩ ⟨_,CU8 _ (c4 _ _ (c3 _ _ b2)),rfl,rfl⟩ fun c o e=>CU8 _ (c4 _ _ (c3 _ _ (c2 _ _ (c1 _ _ e))))
theorem AK2 {xs:Array Value}(t1:s.heap.IsTuple l1 xs)(t2:s.heap.IsTuple l2 ys)
  (k:∀h',IsZip h' (s.heap.objs.size+4) (s.heap.objs.size+2) (s.heap.objs.size+3) .none->DI0 h' (s.heap.objs.size+2) (.ref s.heap.objs.size) (.ref (s.heap.objs.size+1))->DI0 h' (s.heap.objs.size+3) .none .none ->
   h'.IsTupleIter s.heap.objs.size l1 0->h'.IsTupleIter (s.heap.objs.size+1) l2 0->(∀c o,s.heap.get? c=some o->h'.get? c=some o)->Q (.ref (s.heap.objs.size+4)) {s with heap:=h'}) :
  wpAny (model prog w) A (call (.type "zip") [.ref l1,.ref l2]) Q E s :=
 callType_new F.called_zip (by decide) (F.typeCall_zip_2 _ _) (F.newCall_zip_2 _ _) (fun obj=>F.args_object_init_3 _ _ _) F.entry_zip_new (ZR l1 l2 xs ys) ⟨t1,t2,fun h' a b c d e f=>⟨⟨_,a,rfl⟩,k h' a b c d e f⟩⟩
def IzT (K:CV3)(a b:Addr):It :=
 ⟨fun i H=>∃xs ys x y,SqT K H a xs/\SqT K H b ys/\xs[i]?=some x/\ys[i]?=some y,fun i H x H'=>∃T v u,H T=none/\(∀xs,SqT K H a xs->xs[i]?=some v)/\(∀ys,SqT K H b ys->ys[i]?=some u)/\x=.ref T/\H'=upd H T (.tup [v,u]),fun i H=>∃xs ys,SqT K H a xs/\SqT K H b ys/\min xs.length ys.length=i⟩
theorem Inv.pair2 {X:Cx}{σ:L2.St}{v':V}{u':Value}(I:Inv X pins σ H s)(fc:∀b∈ch,ON X pins H b)
  (ru:RelV v u) (ru':RelV v' u') (hnew:h'.get? s.heap.objs.size=some {cls:=.type "tuple",data:=.seq #[u,u']})
  (hk:∀b o,b∉ch->s.heap.get? b=some o->h'.get? b=some o):Inv X pins σ (upd H s.heap.objs.size (.tup [v,v'])) {s with heap:=h'}:=by
 have hf:=I.fresh
 have nT:∀b u,H b=some u->b≠s.heap.objs.size:=fun b u q=>by rintro rfl;rw[hf] at q;cases q
 have ne:∀b u,H b=some u->b∉ch:=fun b u q hb=>by rw[(fc b hb).1] at q;cases q
 refine I.call' (s':={s with heap:=h'}) (ch:=ch) rfl ⟨fun b o q n _ hx=>hk b o hx q,fun b o q n _ hx=>⟨o.slots,hk b o hx q⟩,fun b o q n hx=>?_,fun b o q hx=>⟨o,hk b o hx q⟩,fun b xs q=>?_,fun b o u q=>?_,fun b ps q=>?_⟩ (fun b o q=>?_) I.bare (fun b hb=>⟨(fc b hb).2.2.2.1,(fc b hb).2.1,(fc b hb).2.2.2.2.1,(fc b hb).2.2.2.2.2⟩)
 ·rw[D5 (CX3 (CV9 q))];exact n
 ·rw[D5 (nT b _ q)];exact q
 ·rw[D5 (nT b _ q)];exact q
 ·exact⟨#[],by rw[D5 (nT b _ q),q];simp⟩
 ·by_cases hb:b=s.heap.objs.size
  ·subst hb
   rw[D4] at q
   cases q
   exact⟨by rw[CX1];show 2<=_;lia,[u,u'],.cons ru (.cons ru' .nil),⟨_,hnew,rfl,_,rfl⟩⟩
  ·rw[D5 hb] at q
   refine(I.hok b o q).stay (fun c w hc r=>?_) (fun c r=>by rw[D5 (nT c _ r)];exact r) fun c xs r=>by rw[D5 (nT c _ r)];exact r
   rcases hc with rfl|hc
   ·exact hk c w (ne c o q) r
   ·exact hk c w (ne c _ hc) r
theorem Inv.lost {X:Cx}{σ:L2.St}(I:Inv X pins σ H s)(fc:∀b∈ch,ON X pins H b)
  (hk:∀b o,b∉ch->s.heap.get? b=some o->h'.get? b=some o):Inv X pins σ H {s with heap:=h'}:=by
 have ne:∀b u,H b=some u->b∉ch:=fun b u q hb=>by rw[(fc b hb).1] at q;cases q
 refine I.call' (s':={s with heap:=h'}) (ch:=ch) rfl ⟨fun b o q n _ hx=>hk b o hx q,fun b o q n _ hx=>⟨o.slots,hk b o hx q⟩,fun b o q n hx=>n,fun b o q hx=>⟨o,hk b o hx q⟩,fun b xs q=>q,fun b o u q=>q,fun b ps q=>⟨#[],by rw[q];simp⟩⟩ (fun b o q=>?_) I.bare (fun b hb=>⟨(fc b hb).2.2.2.1,(fc b hb).2.1,(fc b hb).2.2.2.2.1,(fc b hb).2.2.2.2.2⟩)
 refine(I.hok b o q).stay (fun c w hc r=>?_) (fun c r=>r) fun c xs r=>r
 rcases hc with rfl|hc
 ·exact hk c w (ne c o q) r
 ·exact hk c w (ne c _ hc) r
theorem AP5 {elts:List Expr}(a b z TI TO i1 i2:Addr)(ap:ZipApart z TI TO i1 i2 a b) :
  Turn P w K (.Tuple elts k pos) (IzT K a b) [z,TO,i1,i2,TI] z (fun i h=>(∃x y,DI0 h TO x y)/\IsZip h z TI TO .none/\DI0 h TI (.ref i1) (.ref i2)/\h.IsTupleIter i1 a i/\h.IsTupleIter i2 b i) where
 mem:=by simp
 obj:=fun i h st c hc=>by
  obtain⟨⟨x,y,hO⟩,hz,hI,⟨o1,e1,r1,d1⟩,⟨o2,e2,r2,d2⟩⟩:=st
  simp only[CV0,CU9,or_false] at hc
  rcases hc with rfl|rfl|rfl|rfl|rfl
  ·exact⟨_,hz,fun v z=>by cases z⟩
  ·exact⟨_,hO,fun v z=>by cases z⟩
  ·exact⟨_,e1,fun v z=>by rw[d1] at z;cases z⟩
  ·exact⟨_,e2,fun v z=>by rw[d2] at z;cases z⟩
  ·exact⟨_,hI,fun v z=>by cases z⟩
 keep:=fun i h h' st kk=>by
  obtain⟨⟨x,y,hO⟩,hz,hI,⟨o1,e1,r1⟩,⟨o2,e2,r2⟩⟩:=st
  exact⟨⟨x,y,kk TO (by simp) _ hO⟩,kk z (by simp) _ hz,kk TI (by simp) _ hI,⟨o1,kk i1 (by simp) _ e1,r1⟩,⟨o2,kk i2 (by simp) _ e2,r2⟩⟩
 item:=by
  intro X hP hw hK hc i pins s σ H E I hf st hg
  subst hP hw hK
  obtain⟨xs,ys,x,y,hq,hq',hx,hy⟩:=hg
  obtain⟨its,rv,p,hz'⟩:=I.tuple hq
  obtain⟨its',rv',p',_⟩:=I.tuple hq'
  obtain⟨u,hu,ru⟩:=rv.get hx
  obtain⟨u',hu',ru'⟩:=rv'.get hy
  obtain⟨⟨x0,y0,hO⟩,hz,hI,h1,h2⟩:=st
  have lz:=CV9 hz
  refine MY ap hz hI hO h1 h2 p p' (x:=u) (y:=u') (by simpa using hu) (by simpa using hu') fun h' z1 O1 j1 j2 T1 s1 k1=>?_
  refine⟨_,rfl,wpAny_letOwnedTupleGo_zip z1 fun h'' z2 sb=>?_⟩
  have hk2:∀c o,c∉[z,TO,i1,i2]->s.heap.get? c=some o->h''.get? c=some o:=fun c o hc q=>by
   simp only[CV0,CU9,or_false,not_or] at hc
   exact(sb.2 c hc.1).trans (k1 c o hc.1 hc.2.1 hc.2.2.1 hc.2.2.2 q)
  have I2:=Inv.pair2 (s:=s) (h':=h'') (ch:=[z,TO,i1,i2]) I (fun c hc=>hf c (by simp only[CV0,CU9,or_false] at hc ⊢;rcases hc with h|h|h|h<;>simp[h])) ru ru' ((sb.2 _ (DL9 lz)).trans T1) hk2
  refine⟨.ref s.heap.objs.size,_,I2,rfl,⟨s.heap.objs.size,x,y,I.fresh,fun zs hzs=>by rw[I.tuple_inj hzs hq];exact hx,fun zs hzs=>by rw[I.tuple_inj hzs hq'];exact hy,rfl,rfl⟩,⟨⟨u,u',(sb.2 _ ap.TOz).trans O1⟩,z2,hk2 _ _ (by simp[ap.TIz,ap.TITO,ap.TIi1,ap.TIi2]) hI,?_,?_⟩,fun c hc=>?_⟩
  ·obtain⟨o,ho,r⟩:=j1
   exact⟨o,(sb.2 _ ap.i1z).trans ho,r⟩
  ·obtain⟨o,ho,r⟩:=j2
   exact⟨o,(sb.2 _ ap.i2z).trans ho,r⟩
  ·have hH:=(hf c hc).1
   have hl:c<s.heap.objs.size:=by
    simp only[CV0,CU9,or_false] at hc
    obtain⟨o1,e1,_⟩:=h1
    obtain⟨o2,e2,_⟩:=h2
    rcases hc with rfl|rfl|rfl|rfl|rfl
    ·exact lz
    ·exact CV9 hO
    ·exact CV9 e1
    ·exact CV9 e2
    ·exact CV9 hI
   rw[D5 (CX3 hl)];exact hH
 done:=by
  intro X hP hw hK hc i pins s σ H E I hf st hg
  subst hP hw hK
  obtain⟨xs,ys,hq,hq',hm⟩:=hg
  obtain⟨its,rv,p,_⟩:=I.tuple hq
  obtain⟨its',rv',p',_⟩:=I.tuple hq'
  obtain⟨⟨x0,y0,hO⟩,hz,hI,h1,h2⟩:=st
  have l1:=rv.length
  have l2:=rv'.length
  refine PH (by exact I.ok.hd hc) ap hz hI hO h1 h2 p p' ?_ fun h' k1=>⟨rfl,?_⟩
  ·simp only[List.getElem?_toArray,List.getElem?_eq_none_iff];lia
  ·exact Inv.lost (ch:=[z,TO,i1,i2]) I (fun c hc=>hf c (by simp only[CV0,CU9,or_false] at hc ⊢;rcases hc with h|h|h|h<;>simp[h])) fun c o hc q=>by
    simp only[CV0,CU9,or_false,not_or] at hc
    exact k1 c o hc.1 hc.2.1 hc.2.2.1 hc.2.2.2 q
 self:=fun _ _ _ _ _ st h=>wpAny_pyIter_zip st.2.1 h
theorem CN1 {d e:D}(r:Reps K M H [d,e] vs):∃v v',vs=[v,v']/\Rep K M H d v/\Rep K M H e v':=by
 cases r with|cons a r=>cases r with|cons b r=>cases r;exact⟨_,_,rfl,a,b⟩
def AK:List D->List D->List D
 | x::xs,y::ys=>.tup [x,y]::AK xs ys
 | _,_=>[]
theorem YW:∀(xs ys:List D) (i:Nat) (d:D),(AK xs ys)[i]?=some d->∃x y,xs[i]?=some x/\ys[i]?=some y/\d=.tup [x,y]
 | [],_,i,d,h=>by simp[AK] at h
 | _::_,[],i,d,h=>by simp[AK] at h
 | x::xs,y::ys,0,d,h=>by simp[AK] at h;exact⟨x,y,rfl,rfl,h.symm⟩
 | x::xs,y::ys,i+1,d,h=>by
  have h':(AK xs ys)[i]?=some d:=by simpa[AK] using h
  obtain⟨a,b,h1,h2,h3⟩:=YW xs ys i d h'
  exact⟨a,b,by simpa using h1,by simpa using h2,h3⟩
theorem OM:∀(xs ys:List D),(AK xs ys).length=min xs.length ys.length
 | [],ys=>by simp[AK]
 | x::xs,[]=>by simp[AK]
 | x::xs,y::ys=>by
  show(AK xs ys).length+1=min (xs.length+1) (ys.length+1)
  rw[OM xs ys];lia
def AG0 (ta:TA3):TI3:=fun σ M R=>ta σ M fun ds M1=>∃xs ys,ds=[.tup xs,.tup ys]/\R (AK xs ys) M1
theorem UH {ta:TA3}(h:ta σ M fun ds M1=>∃xs ys,ds=[.tup xs,.tup ys]/\R (AK xs ys) M1):AG0 ta σ M R:=h
theorem AI1 {X:Cx}{a b:Expr}{ta:TA3}{elts:List Expr}{tpos p:Pos}(hg:Gl X "zip")(hm:X.mg "zip"=none)(ha:PA3 X [a,b] ta)(he:CY3 [a,b] X.env=(false,eval a X.env)::CY3 [b] X.env:=by rfl) (hpl:(DK1 pos (CY3 [b] X.env)).any (·.1)=false:=by rfl) :
  HE X (.Tuple elts k tpos) (.Call (.Name "zip" p) [a,b] [] pos) (AG0 ta):=by
 rintro pins s σv H R2 I ⟨σ,M,R,hS,hM,h,kk⟩
 refine DF5 (CW I hg hm boot_zip ?_ (by decide) (by decide))
 refine DG3 (thn (ha pos pins s σv H σ M _ I hS hM h) fun us s1 ⟨ds,vs,M1,H1,I1,st1,m1,rv1,p1,q1⟩=>?_) he hpl
 obtain⟨xs,ys,rfl,q⟩:=q1
 obtain⟨xv,yv,rfl,px,py⟩:=CN1 p1
 obtain⟨u,u',rfl,ru,ru'⟩:=vals2 rv1
 cases px with
 | @tup aT _ vx h1 r1 =>
 cases py with
 | @tup bT _ vy h2 r2 =>
 cases ru;cases ru'
 obtain⟨its,ri,pl,hz⟩:=I1.tuple (SqT.of3 h1)
 obtain⟨its',ri',pl',hz'⟩:=I1.tuple (SqT.of3 h2)
 have la:aT<s1.heap.objs.size:=by obtain⟨o,ho,_⟩:=id pl;exact CV9 ho
 have lb:bT<s1.heap.objs.size:=by obtain⟨o,ho,_⟩:=id pl';exact CV9 ho
 refine AK2 (show s1.heap.IsTuple aT its.toArray from pl) (show s1.heap.IsTuple bT its'.toArray from pl') fun h' z1 I3 O3 j1 j2 kp=>?_
 refine wpAny_pyIter_zip z1 ?_
 have ap:ZipApart (s1.heap.objs.size+4) (s1.heap.objs.size+2) (s1.heap.objs.size+3) s1.heap.objs.size (s1.heap.objs.size+1) aT bT:=by
  constructor<;>lia
 refine⟨s1.heap.objs.size+4,[s1.heap.objs.size+4,s1.heap.objs.size+3,s1.heap.objs.size,s1.heap.objs.size+1,s1.heap.objs.size+2],_,IzT X.K aT bT,H1,rfl,I1.kept (t':=s1.toks) kp,AP5 aT bT _ _ _ _ _ ap,⟨⟨_,_,O3⟩,z1,I3,j1,j2⟩,fun c hc=>?_,?_⟩
 ·have hb':s1.heap.objs.size<=c:=by
   simp only[CV0,CU9,or_false] at hc
   rcases hc with rfl|rfl|rfl|rfl|rfl<;>lia
  exact I1.fpOk hb' (I1.hok.fresh hb')
 ·refine kk (AK xs ys) _ M1 H1 st1 m1 (fun M' H' st m'=>?_) q
  have sq:=SqT.of3 (h1.imp (Fix.mono st) id)
  have sq':=SqT.of3 (h2.imp (Fix.mono st) id)
  have rr:=r1.mono st
  have rr':=r2.mono st
  refine⟨fun i hi=>?_,fun i d x H'' hd hyy=>?_,?_⟩
  ·rw[OM] at hi
   have i1:i<xs.length:=by lia
   have i2:i<ys.length:=by lia
   obtain⟨v,hv,_⟩:=rr.get (i:=i) (d:=xs[i]) (by simp[i1])
   obtain⟨v',hv',_⟩:=rr'.get (i:=i) (d:=ys[i]) (by simp[i2])
   exact⟨_,_,v,v',sq,sq',hv,hv'⟩
  ·obtain⟨T,v,v',hT,hv,hv',rfl,rfl⟩:=hyy
   obtain⟨x,y,e1,e2,rfl⟩:=YW xs ys i d hd
   obtain⟨w1,hw1,rw1⟩:=rr.get e1
   obtain⟨w2,hw2,rw2⟩:=rr'.get e2
   rw[hv _ sq] at hw1
   rw[hv' _ sq'] at hw2
   cases hw1;cases hw2
   exact⟨Step.lay hT,m'.lay hT,.tup (.inl ⟨.inl D4,m'.free hT⟩) (.cons (rw1.mono (Step.lay hT)) (.cons (rw2.mono (Step.lay hT)) .nil))⟩
  ·rw[OM]
   exact⟨_,_,sq,sq',by rw[rr.length,rr'.length]⟩
def isStar:Expr->Bool
 | .Starred ..=>true
 | _=>false
theorem AP0 (h:isStar e=false)(es:List Expr)(env:Env):CY3 (e::es) env=(false,eval e env)::CY3 es env:=by
 cases e<;>first|rfl|cases h
theorem BP7 {X:Cx}{t:TA3}(ha:PE3 X e te)(hr:PA3 X es t)(hs:isStar e=false:=by rfl):PA3 X (e::es) (A0 te t):=AX4 ha hr (AP0 hs es _)
theorem CL8 {X:Cx}{t:TA3}(hr:PA3 X es t):PA3 X (.Constant (.str x) j pos::es) (A0 (tC3 (.str x)) t):=BP7 AI0 hr
section
variable {X:Cx}{o i e:Expr}{to ti te:TE3}{pos p:Pos}
theorem BA1 (ho:PE3 X o to)(hi:PE3 X i ti)(he:PE3 X e te)
  (ha:∀v,assign (.Subscript o i p) X.env v=(do
   let ov <-holding [v] (eval o X.env)
   let iv <-holding [v,ov] (eval i X.env)
   standAt p
   holding [v,ov,iv] (setItem ov iv v)
   release [v,ov,iv] []):=by intro _;rfl) (hs:swapsWithSole [.Subscript o i p] e pos.line X.env=pure false:=by rfl) (hw:swappedStores [.Subscript o i p] e X.env=pure none:=by rfl)
  (h1:(DH3 [.Subscript o i p] X.env).map (·.2)=[assign (.Subscript o i p) X.env]:=by rfl):PS3 X (.Assign [.Subscript o i p] e pos) (BD3 to ti te) :=
 PS3.of (BA3 he.dn (BW9 ho.dn hi.dn set_list ha) hs hw h1) fun pins s σv H σ M T I hS hM h=>by
  refine⟨σ,M,_,hS,hM,h,fun d v M1 H1 st1 m1 r1 q1=>?_⟩
  refine⟨σ,M1,_,hS.mono st1,m1,q1,fun x xv M2 H2 st2 m2 r2 q2=>?_⟩
  refine⟨σ,M2,_,(hS.mono st1).mono st2,m2,q2,fun y yv M3 H3 st3 m3 r3 q3=>?_⟩
  obtain⟨a,ds,j,k,rfl,rfl,hm,hj,q⟩:=q3
  cases r3
  have r2':=r2.mono st3
  cases r2'
  obtain⟨ho,e1,r⟩:=m3 _ _ hm
  cases ho<;>first|exact(r:False).elim|skip
  rename_i vs
  have r':Reps X.K M3 H3 ds vs:=r
  refine⟨a,vs,k,j,rfl,rfl,e1,by rw[<-r'.length];exact hj,σ,_,((st1.trans st2).trans st3).trans (Step.put (.inr (by rw[hm];simp))),m3.put (.inr (by rw[hm];simp)) (o:=.lst (ds.set j d)) (Reps.set r' ((r1.mono st2).mono st3) j),?_,q⟩
  exact(((hS.mono st1).mono st2).mono st3).mono (Step.put (.inr (by rw[hm];simp)))
def TX:C3:=fun ds M Q=>match ds with
 | [.ref a]=>∃xs,M a=some (.lst xs)/\BC5 (.lst xs)/\Q (.str (pyD (.lst xs)).shown) M
 | [d]=>BC5 d/\Q (.str (pyD d).shown) M
 | _=>False
theorem VS (hr:Room k X.A):CallR3 X (.builtin "repr") TX:=by
 intro pins s σv H M xs xvs us Q I m rv px q
 match xs,px,q with
 | [.ref a],px,⟨ys,hm,hsh,q⟩ =>
  obtain⟨xv,rfl,p1⟩:=NO px
  cases p1
  obtain⟨m2,r2,sub⟩:=Vs.frzL hm X.K H (.ref a) m .ref
  obtain⟨u,rfl,ru⟩:=vals1 rv
  cases ru
  obtain⟨h1,h2,h3,h4,h5⟩:=hsh
  obtain⟨as,rd⟩:=Q0 I h1 r2 rfl
  refine PySem.repr_of_reads' rd h2 (PyData.noDict_hsm h3) hr.gd (by have:=hr.units;lia) (fun b o e=>e) (fun h' u tk kp=>?_) h5
  exact⟨_,.str _,M,H,I.kept (t':=tk) kp,.refl,m,⟨_,rfl⟩,.str,q⟩
 | [.non],px,q=>exact W3 hr pins s σv H M _ xvs us Q I m rv px q
 | [.bl _],px,q=>exact W3 hr pins s σv H M _ xvs us Q I m rv px q
 | [.int _],px,q=>exact W3 hr pins s σv H M _ xvs us Q I m rv px q
 | [.str _],px,q=>exact W3 hr pins s σv H M _ xvs us Q I m rv px q
 | [.tup _],px,q=>exact W3 hr pins s σv H M _ xvs us Q I m rv px q
 | [.lst _],px,q=>exact W3 hr pins s σv H M _ xvs us Q I m rv px q
 | [.dct _],px,q=>exact W3 hr pins s σv H M _ xvs us Q I m rv px q
 | [.ty _],px,q=>exact W3 hr pins s σv H M _ xvs us Q I m rv px q
end
theorem BA2 {iy:Nat}{X:Cx}
  (hc:X.calm=true) (hi:HE X tg iter ti) (hkind:scope.kind=.function) (hcell:∀y∈scope.names,y.2≠.cell)
  (hnames:∀y∈scope.names,y.2=.local->scope.names.lookup y.1=some .local)
  (hfree:∀y∈scope.names,y.2=.free->X.env.kindOf y.1=some .cell\/X.env.kindOf y.1=some .free)
  (hcf:∀y∈caps,scope.names.lookup y=some .free) (hcaps:slots.map (fun j=>X.N[j]?)=caps.map some)
  (hgk:∀d M Q (cs:Lo),g d (CV2 tns.length none++cs) M Q->g d (CV2 tns.length none++cs) M (fun σ' M'=>σ'.drop tns.length=cs/\Q σ' M'))
  (hg:∀cl s₀ H₀ ex,PG3 (B0 X scope cl s₀ H₀ ex (tns++caps)) tg g)
  (ht:∀cl s₀ H₀ ex,AN (B0 X scope cl s₀ H₀ ex (tns++caps)) ifs tt) (he:∀cl s₀ H₀ ex,PE3 (B0 X scope cl s₀ H₀ ex (tns++caps)) elt te)
  (hN:X.N.Nodup) (hiy:X.N[iy]?=some y) (hy:Loc X.env.scope y) (hsw:DM5 (.ListComp elt [⟨tg,iter,ifs,0⟩] scope pos) (some (.Name y py)) spos.line X.env=pure true) (hf:X.fn y=true\/X.env.scope.names.lookup y=some .local)
  (hs:∀y,CY5 iter X.env y=pure y:=by intro _;rfl) :
  PS3 X (.Assign [.Name y py] (.ListComp elt [⟨tg,iter,ifs,0⟩] scope pos) spos) (B6 iy (F9 ti tns.length slots g tt te)):=by
 intro pins s σv H σ M T0 I hS hM h
 rw[exec_Assign_Name_used _ _ _ _ hsw]
 refine CU6 (DN5 (CU6 ?_))
 rw[arm_evalThenUse_ListComp]
 refine CU6 ?_
 refine EJ hc hi hkind hcell hnames hfree hcf hcaps hgk hg ht he hs (use:=some (assign (.Name y py) X.env)) (F:=fun p acc M=>T0.nx (σ.set iy (some (.lst acc))) (Z0 M p)) I hS hM h fun D C acc H5 M5 s6 m hn I7 c1 c2 c3 c4 c5 c6 st m5 hp hq=>?_
 obtain⟨mF,rF,sF⟩:=Vs.frzL hp X.K H5 (.ref D) m5 .ref
 obtain⟨oC,es,ep,hoC,hdC,rC⟩:=hn
 have pinC:Inv X (pins++[(C,oC)]) σv H5 s6:=I7.pins_of fun p hp=>by
  rcases CZ9.mp hp with z|z
  ·exact I7.pin p (CW6 _ z)
  ·cases DF1.mp z
   exact⟨hoC,c1,c2,c3,fun v z=>by rw[hdC] at z;cases z⟩
 show wpAny (model X.prog X.w) X.A (assign (.Name y py) X.env (.ref D)) _ X.xe s6
 refine wpAny_assign_Name (IS pinC hN hiy hy (v:=.ref D) rfl (fun s7 I8=>?_) hf)
 have hp8:=(I8.pin (C,oC) (CW6 _ (CW6 _ CW4))).1
 refine⟨m,⟨oC,es,ep,hp8,hdC,rC⟩,fun h' sb=>CU7 (CU7 ?_)⟩
 have I9:Inv X pins (σv.set iy (some (.ref D))) H5 {s7 with heap:=h',toks:=s7.toks}:=I8.unpinned.turned (it:=C) (fun b o hb e=>(sb.2 b hb).trans e) c1 c2 (.inr c4) c5 c6
 exact⟨_,_,Z0 M5 D,H5,I9,st.less sF,mF,((hS.mono st).mono ⟨fun _ _ h _=>h,fun b h=>.inl (sF b h)⟩).set rF iy,hq⟩
theorem AA4 {X:Cx}(iy:Nat)(tns caps:List Str)(slots:List Nat)
  (hc:X.calm=true) (hi:HE X tg iter ti) (hkind:scope.kind=.function) (hok:N5 X.env scope caps=true) (hcaps:slots.map (fun j=>X.N[j]?)=caps.map some)
  (hgk:∀d M Q (cs:Lo),g d (CV2 tns.length none++cs) M Q->g d (CV2 tns.length none++cs) M (fun σ' M'=>σ'.drop tns.length=cs/\Q σ' M'))
  (hg:∀cl s₀ H₀ ex,PG3 (B0 X scope cl s₀ H₀ ex (tns++caps)) tg g)
  (ht:∀cl s₀ H₀ ex,AN (B0 X scope cl s₀ H₀ ex (tns++caps)) ifs tt) (he:∀cl s₀ H₀ ex,PE3 (B0 X scope cl s₀ H₀ ex (tns++caps)) elt te)
  (hN:X.N.Nodup) (hiy:X.N[iy]?=some y) (hy:Loc X.env.scope y) (hf:X.fn y=true\/X.env.scope.names.lookup y=some .local)
  (hsw:DM5 (.ListComp elt [⟨tg,iter,ifs,0⟩] scope pos) (some (.Name y py)) spos.line X.env=pure true:=by rfl)
  (hs:∀y,CY5 iter X.env y=pure y:=by intro _;rfl) :
  PS3 X (.Assign [.Name y py] (.ListComp elt [⟨tg,iter,ifs,0⟩] scope pos) spos) (B6 iy (F9 ti tns.length slots g tt te)):=by
 unfold N5 at hok
 rw[CX9,CX4,CX4] at hok
 obtain⟨h1,h2⟩:=hok
 refine BA2 hc hi hkind (fun y hy e=>?_) (fun y hy e=>?_) (fun y hy e=>?_) (fun y hy=>?_) hcaps hgk hg ht he hN hiy hy hsw hf hs
 ·have:=h1 y hy;rw[e] at this;cases this
 ·have:=h1 y hy
  rw[e] at this
  dsimp only at this
  split at this
  ·assumption
  ·cases this
 ·have:=h1 y hy
  rw[e] at this
  dsimp only at this
  split at this
  ·exact .inl (by assumption)
  ·exact .inr (by assumption)
  ·cases this
 ·have:=h2 y hy
  split at this
  ·assumption
  ·cases this
theorem RH {X:Cx}(iy:Nat)(tns caps:List Str)(slots:List Nat)
  (hc:X.calm=true) (hi:PI3 X tg iter ti) (hkind:scope.kind=.function) (hok:N5 X.env scope caps=true) (hcaps:slots.map (fun j=>X.N[j]?)=caps.map some)
  (hgk:∀d M Q (cs:Lo),g d (CV2 tns.length none++cs) M Q->g d (CV2 tns.length none++cs) M (fun σ' M'=>σ'.drop tns.length=cs/\Q σ' M'))
  (hg:∀cl s₀ H₀ ex,PG3 (B0 X scope cl s₀ H₀ ex (tns++caps)) tg g)
  (ht:∀cl s₀ H₀ ex,AN (B0 X scope cl s₀ H₀ ex (tns++caps)) ifs tt) (he:∀cl s₀ H₀ ex,PE3 (B0 X scope cl s₀ H₀ ex (tns++caps)) elt te)
  (hN:X.N.Nodup) (hiy:X.N[iy]?=some y) (hy:Loc X.env.scope y) (hf:X.fn y=true\/X.env.scope.names.lookup y=some .local)
  (hsw:DM5 (.ListComp elt [⟨tg,iter,ifs,0⟩] scope pos) (some (.Name y py)) spos.line X.env=pure true:=by rfl)
  (hs:∀y,CY5 iter X.env y=pure y:=by intro _;rfl) :
  PS3 X (.Assign [.Name y py] (.ListComp elt [⟨tg,iter,ifs,0⟩] scope pos) spos) (B6 iy (F9 ti tns.length slots g tt te)) :=
 AA4 iy tns caps slots hc hi.toE hkind hok hcaps hgk hg ht he hN hiy hy hf hsw hs
end L3
namespace L2
open PySem PySem.Spec PyProof.Rows
section
variable {X:Cx}{tg:Expr}
end
end L2
namespace L3
open PySem PySem.Spec PyProof.Rows L2
section
variable {X:Cx}{a b c e:Expr}{t:TA3}{te:TE3}{p pos:Pos}
def GT (te:TE3):TE3:=fun σ M Q=>te σ M fun d M1=>∃p xs,d=.ref p/\M1 p=some (.lst xs)/\Q (.lst xs) (Z0 M1 p)
theorem AX9 (h:PE3 X e te):PE3 X e (GT te):=by
 intro pins s σv H σ M Q I hS hM hw
 refine thn (h pins s σv H σ M _ I hS hM hw) fun u s1 hx0=>?_
 obtain⟨x,xv,M1,H1,I1,st1,m1,rv1,p1,q1⟩:=hx0
 obtain⟨p,xs,rfl,hp,q⟩:=q1
 obtain⟨mF,rF,sF⟩:=Vs.frzL hp X.K H1 xv m1 p1
 exact⟨.lst xs,xv,Z0 M1 p,H1,I1,st1.less sF,mF,rv1,rF,q⟩
end
section
variable {X:Cx}{e i:Expr}{te ti:TE3}{pos:Pos}
def AA9:R3:=fun x y M Q=>∃z n,x=.str z/\y=.int n/\MulOk z n/\Q (.str (Txt.mul z n)) M
theorem BI7:OpR3 X (DG2 .Mult) AA9:=by
 rintro pins s σv H M x y xv yv v u Q I m rx ry px py ⟨z,n,rfl,rfl,ok,q⟩
 cases px
 cases py
 obtain⟨t,rfl⟩:=rx
 obtain⟨t',rfl⟩:=ry
 exact SB.mul ok fun t' k=>⟨_,.str _,M,H,I.tok _,.refl,m,⟨_,rfl⟩,.str,q⟩
theorem BN4 {n:Int}{Q:DK}(ok:MulOk z n)(h:Q (.str (Txt.mul z n)) M):AA9 (.str z) (.int n) M Q:=⟨z,n,rfl,rfl,ok,h⟩
def WP (M:Mem)(x:D)(ds:List D):Prop:=x=.lst ds\/∃a,x=.ref a/\M a=some (.lst ds)
theorem MU {x:D}(m:MRel K M H)(r:Rep K M H x v)(e:WP M x ds):∃p vs,v=.ref p/\SqL K H p vs/\Reps K M H ds vs:=by
 rcases e with rfl|⟨a,rfl,ha⟩
 ·cases r with|lst h r=>exact⟨_,_,rfl,SqL.of3 h,r⟩
 ·cases r
  obtain⟨ho,e1,r⟩:=m _ _ ha
  cases ho<;>first|exact(r:False).elim|skip
  exact⟨_,_,rfl,.inl (.inl e1),r⟩
def AA6:R3:=fun x y M Q=>∃ds es,WP M x ds/\WP M y es/\ds.length+es.length<=CV8/\∀p,M p=none->Q (.ref p) (D3 M p (.lst (ds++es)))
theorem BI4:OpR3 X (DG2 .Add) AA6:=by
 rintro pins s σv H M x y xv yv v u Q I m rx ry px py ⟨ds,es,hx,hy,hz,q⟩
 obtain⟨p1,vs1,rfl,s1,r1⟩:=MU m px hx
 obtain⟨p2,vs2,rfl,s2,r2⟩:=MU m py hy
 cases rx;cases ry
 obtain⟨its,e1,p1,z1⟩:=I.list s1
 obtain⟨its2,e2,p2,z2⟩:=I.list s2
 obtain⟨⟨cls,dd,data,sl⟩,ho,hc,n,hd⟩:=p1.isList
 obtain⟨⟨cls2,dd2,data2,sl2⟩,ho2,hc2,n2,hd2⟩:=p2.isList
 simp only at hc hd hc2 hd2
 subst hc hd hc2 hd2
 have l1:=r1.length
 have l2:=r2.length
 have l3:=e1.length
 have l4:=e2.length
 refine concat_meets ⟨_,ho,rfl⟩ ⟨_,ho2,rfl⟩ noFill_list_add seq_list_add PySem.F.slot_list_add PySem.F.entry_list_add (PySem.F.args_list_add_2 _ _) (list_addW _ _ _ _ n n2 dd dd2 sl sl2 (by simp;lia)) ⟨ho,ho2,?_⟩
 have ea:its.toArray++its2.toArray=(its++its2).toArray:=by simp
 rw[ea]
 have hf:=I.fresh
 have rr:=r1.append r2
 exact⟨.ref s.heap.objs.size,.ref s.heap.objs.size,D3 M s.heap.objs.size (.lst (ds++es)),_,I.lnew (t':=s.toks) (e1.append e2) (by rw[CW3];lia),Step.put (.inl hf),m.put (.inl hf) rr,rfl,.ref,q _ (m.free hf)⟩
theorem BM8 {x y:D}{es:List D}{Q:DK}(hx:WP M x ds)(hy:WP M y es)(hz:ds.length+es.length<=CV8)(h:∀p,M p=none->Q (.ref p) (D3 M p (.lst (ds++es)))):AA6 x y M Q:=⟨ds,es,hx,hy,hz,h⟩
theorem RG {xs:List Str}(hg:Gl X x)(hm:∃a,X.mg x=some (.ref a)/\YY X.K a (xs.map V.str))(hd:(x==("__debug__":Str))=false:=by decide):PE3 X (.Name x pos) (tC3 (.tup (xs.map D.str))):=by
 obtain⟨a,hm,k⟩:=hm
 exact AA (v:=.ref a) hg hm rfl (fun _ _=>.tup (.inr k) (AH xs)) hd
def BG5 (P:Params)(r:Str×Tok×Addr):DictEntry:=⟨DB7 P r.1,.str r.1 r.2.1,.ref r.2.2⟩
inductive GRows (K:CV3):List (Str×Tok×Addr)->List (Str×List Str)->Prop
 | nil:GRows K [] []
 | cons {s:Str} {t:Tok} {b:Addr} {xs:List Str} {rows:List (Str×Tok×Addr)} {tbl:List (Str×List Str)}:YY K b (xs.map V.str)->GRows K rows tbl->GRows K ((s,t,b)::rows) ((s,xs)::tbl)
def VP (K:CV3)(P:Params)(a:Addr)(tbl:List (Str×List Str)):Prop:=∃(rows:List (Str×Tok×Addr)) (ep:Nat),K.lookup a=some ⟨.type "dict",none,.dict (rows.map (BG5 P)).toArray ep,#[]⟩/\(rows.map (·.1)).Nodup/\GRows K rows tbl
def CB (rows:List (Str×Tok×Addr)):List (Key×Value):=rows.map fun r=>(Sum.inr r.1,.ref r.2.2)
theorem ML (h:GRows K rows tbl){w:Str}{xs:List Str}(e:tbl.lookup w=some xs):∃b,DQ0 (CB rows) (Sum.inr w)=some (.ref b)/\YY K b (xs.map V.str):=by
 induction h with
 | nil=>cases e
 | @cons s t b ys rows tbl k _ ih =>
  rw[DI7] at e
  by_cases hw:w=s
  ·subst hw
   simp only[beq_self_eq_true] at e
   cases e
   exact⟨b,by simp[DQ0,CB],k⟩
  ·have hne:(w==s)=false:=by simpa using hw
   rw[hne] at e
   obtain⟨b',h1,h2⟩:=ih e
   refine⟨b',?_,h2⟩
   have:¬(Sum.inr s:Key)=Sum.inr w:=fun z=>hw (Sum.inr.inj z).symm
   unfold DQ0 CB at h1 ⊢
   rw[CW9,List.find?_cons_of_neg (by simpa using this)]
   exact h1
theorem NP {P:DA0}{w:World}:∀rows:List (Str×Tok×Addr),Pairs (E3 P w) (rows.map (BG5 w.params)) (CB rows)
 | []=>.nil
 | r::rows=>.cons (DB P w r.1 r.2.1) rfl (NP rows)
theorem MI {K:CV3}{h:Heap}{ep:Nat}(hk:h.get? a=some ⟨.type "dict",none,.dict (rows.map (BG5 w.params)).toArray ep,#[]⟩)(hn:(rows.map (·.1)).Nodup):h.DictOf (E3 P w) a (CB rows):=by
 refine⟨_,_,ep,hk,⟨rfl,rfl,rfl⟩,rfl,fun e he=>?_,by simpa using NP rows,?_⟩
 ·obtain⟨s,t,b,_,rfl⟩:∃s t b,(s,t,b)∈rows/\BG5 w.params (s,t,b)=e:=by simpa using he
  exact⟨.inr s,DB P w s t,rfl⟩
 ·have:(CB rows).map (·.1)=(rows.map (·.1)).map Sum.inr:=by unfold CB;rw[DA8,DA8];rfl
  rw[this]
  exact List.Pairwise.map _ (fun a b hab hc=>hab (Sum.inr.inj hc)) hn
def CD5 (tbl:List (Str×List Str))(ti:TE3):TE3:=fun σ M Q=>ti σ M fun d M1=>∃w xs,d=.str w/\tbl.lookup w=some xs/\Q (.tup (xs.map D.str)) M1
theorem BW0 {p1:Pos}(hg:Gl X x)(hm:∃a,X.mg x=some (.ref a)/\VP X.K X.w.params a tbl)(hi:PE3 X i ti)(hs:BF3 i)(hd:(x==("__debug__":Str))=false:=by decide):PE3 X (.Subscript (.Name x p1) i pos) (CD5 tbl ti):=by
 obtain⟨a,hm,rows,ep,hk,hn,gr⟩:=hm
 intro pins s σv H σ M Q I hS hM h
 refine AJ3 PySem.F.slot_dict_getitem.lookup hs (thn (AA (d:=.ref a) (v:=.ref a) hg hm rfl (fun _ _=>.ref) hd pins s σv H σ M (fun d M1=>d=.ref a/\ti σ M1 fun d M1=>∃w xs,d=.str w/\tbl.lookup w=some xs/\Q (.tup (xs.map D.str)) M1) I hS hM ⟨rfl,h⟩) fun u s1 ⟨d,v,M1,H1,I1,st1,m1,r1,p1,e1,q1⟩=>?_)
 subst e1
 cases p1
 obtain rfl:u=Value.ref a:=r1
 refine thn (hi pins s1 σv H1 σ M1 _ I1 (hS.mono st1) m1 q1) fun iv s2 ⟨y,yv,M2,H2,I2,st2,m2,r2,p2,w,xs,e2,hl,q2⟩=>?_
 subst e2
 cases p2
 have dd:s2.heap.DictOf (E3 X.prog X.w) a (CB rows):=MI (K:=X.K) (I2.kIn a _ hk) hn
 obtain⟨b,hv,kt⟩:=ML gr hl
 exact⟨dd.typeIs,wpAny_getItem_of (KJ (k:=.inr w) r2) dd.mapOf hv ⟨_,.ref b,M2,H2,I2.tok _,st1.trans st2,m2,rfl,.tup (.inr kt) (AH xs),q2⟩⟩
theorem BB3 {Q:DK}(h:ti σ M fun d M1=>∃w xs,d=.str w/\tbl.lookup w=some xs/\Q (.tup (xs.map D.str)) M1):CD5 tbl ti σ M Q:=h
end
end L3
namespace HT
open PySem PySem.Spec PyProof.Rows
theorem AF7 {α β:Type}{f:α->Option β}{g:α->β}:∀l:List α,(∀x∈l,f x=some (g x))->l.filterMap f=l.map g
 | [],_=>rfl
 | x::l,h=>by rw[DN1,h x CW4,CW9,AF7 l fun y hy=>h y (CW5 _ hy)]
theorem WZ (its:Array Value)(f:Nat->Nat)(hf:∀k,k<its.size->f k=its.size-1-k):((CV7 its.size).filterMap fun k=>its[f k]?)=its.toList.reverse:=by
 have h1:∀x∈CV7 its.size,its[f x]?=some (its.toList.reverse.getD x .none):=fun x hx=>by
  have hx':x<its.size:=by simpa using hx
  have e2:its.toList.reverse[x]?=its.toList[its.toList.length-1-x]?:=List.getElem?_reverse (by simpa using hx')
  rw[hf x hx',DN0,e2]
  have hlt:its.size-1-x<its.size:=by lia
  simp[hlt]
 rw[AF7 _ h1]
 refine List.ext_getElem (by simp) fun i h2 h3=>?_
 have h4:its.toList.reverse[i]?=some its.toList.reverse[i]:=CX2 h3
 rw[List.getElem_map,List.getElem_range,DN0,h4]
 rfl
section
variable {prog:DA0}{w:World}{A:DD3}{E:Value->CV4->Prop}{s:CV4}
theorem PV (its:Array Value):slicePick its none none (some (-1))=its.toList.reverse.toArray:=by
 have h1:(DM1 none none (some (-1)) its.size)=((its.size:Int)-1,-1,-1):=rfl
 unfold slicePick
 rw[h1]
 show(List.filterMap (fun x=>its[x]?) (sliceRange ((its.size:Int)-1) (-1) (-1))).toArray=_
 have h2:sliceRange ((its.size:Int)-1) (-1) (-1)=(CV7 its.size).map fun k=>its.size-1-k:=by
  unfold sliceRange
  have hc:((if (-1:Int)>0 then if (its.size:Int)-1 < -1 then(-1-((its.size:Int)-1) + -1-1) / -1 else 0 else if (its.size:Int)-1 > -1 then((its.size:Int)-1 - -1 - -1-1) / - -1 else 0)).toNat=its.size:=by
   rw[if_neg (by decide)]
   split
   ·have:((its.size:Int)-1 - -1 - -1-1) / - -1=its.size:=by
     have e:((- -1:Int))=1:=rfl
     rw[e,Int.ediv_one];lia
    rw[this];lia
   ·lia
  simp only[hc]
  refine List.map_congr_left fun k hk=>?_
  have:k<its.size:=by simpa using hk
  lia
 rw[h2,List.filterMap_map]
 congr 1
 exact WZ its _ fun k _=>rfl
theorem JU {t:Tok}{Q:Int×Int×Nat->CV4->Prop}(hs:s.heap.IsSliceOf sl .none .none (.int (-1) t))
  (h:Q ((n:Int)-1,-1,n) s):wpAny (model prog w) A (DG8 (.ref sl) (pure (n:Int))) Q E s:=by
 obtain⟨os,hos,hcs,hds⟩:=id hs
 unfold DG8 Builtin.Slice.sliceFields
 refine CU6 (CU6 (DC5 hos hds (x:=.none) rfl (CU6 (DC5 hos hds (x:=.none) rfl (CU6 (DC5 hos hds (x:=.int (-1) t) rfl (CU7 ?_)))))))
 refine CU6 (slicePart_int ?_)
 show wpAny _ _ (if ((-1:Int)==0)=true then _ else _) _ _ s
 rw[if_neg (by decide)]
 refine CU6 (slicePart_none (CU6 (slicePart_none (CU6 (CU7 ?_)))))
 have e1:DE4 none none (-1) (n:Int)=((n:Int)-1,-1):=rfl
 show wpAny _ _ (match DE4 none none (-1) (n:Int) with|(lo,hi)=>pure (lo,(-1:Int),DA7 lo hi (-1))) _ _ s
 rw[e1]
 show wpAny _ _ (pure ((n:Int)-1,(-1:Int),DA7 ((n:Int)-1) (-1) (-1))) _ _ s
 have e2:DA7 ((n:Int)-1) (-1) (-1)=n:=by
  unfold DA7
  rw[if_neg (by decide)]
  split
  ·have e:((- -1:Int))=1:=rfl
   rw[e,Int.ediv_one];lia
  ·lia
 rw[e2]
 exact CU7 h
theorem HS {t:Addr}{tk:Tok}(ht:IsTup s.heap t items)(hs:s.heap.IsSliceOf sl .none .none (.int (-1) tk))
  (h:Q (.ref s.heap.objs.size) {s with heap:=s.heap.push {cls:=.type "tuple",data:=.seq items.toList.reverse.toArray}})
  (hsz:items.size<=CV8):wpAny (model prog w) A (DQ2 (.ref t) (.ref sl)) Q E s:=by
 have htake:sizeOk (.seq items.toList.reverse.toArray):=by
  show items.toList.reverse.toArray.size<=CV8
  rw[CW7,List.length_reverse,CW2]
  exact hsz
 obtain⟨os,hos,hcs,hds⟩:=id hs
 have hTs:s.TypeIs (.ref sl) "slice":=⟨os,hos,hcs⟩
 unfold DQ2
 try with_reducible refine DA2 ?_
 first|refine CU6 (CU7 ?_)|skip
 refine CU6 (wpAny_sequenceKey ht.typeIs (by decide) ?_)
 refine CU6 (CZ7 (name:=DJ4 "__getitem__") ht.typeIs DB5
  (DC7 DB5 ht.typeIs entry_tuple_getitem ?_ (args_tuple_getitem _ _)))
 show wpAny _ _ (DL3 (.ref t) >>= _) _ _ s
 refine CU6 (tupleItemsOf_ ht ?_)
 refine CU6 (DM4 hTs ?_)
 rw[if_pos (by decide)]
 refine CU6 (JU hs ?_)
 have hno:¬((((items.size:Int)-1==0 && (-1:Int)==1 && items.size==items.size))=true):=by simp
 show wpAny _ _ (if ((items.size:Int)-1==0 && (-1:Int)==1 && items.size==items.size)=true then _ else _) _ _ s
 have hp:((CV7 items.size).filterMap fun(m:Nat)=>items[((items.size:Int)-1+(m:Int) * -1).toNat]?).toArray=items.toList.reverse.toArray:=by
  congr 1
  exact WZ items _ fun k hk=>by lia
 rw[if_neg hno,hp]
 first
  | exact CU6 (m:=DB3 _) (CX5 (CU7 ⟨_,rfl,CU7 h⟩) htake)
  | exact CU6 (m:=DB3 _) (CX5 (CU6 (CU7 (CU7 ⟨_,rfl,CU7 h⟩))) htake)
  | exact CU6 (CU6 (m:=DB3 _) (CX5 (CU7 (CU7 ⟨_,rfl,CU7 h⟩)) htake))
  | exact CU6 (CU6 (m:=DB3 _) (CX5 (CU7 ⟨_,rfl,CU7 h⟩) htake))
end
end HT
namespace L3
open PySem PySem.Spec PyProof.Rows L2
theorem OK:∀{xs:List V} {us:List Value},Vals xs us->Vals xs.reverse us.reverse
 | _,_,.nil=>.nil
 | _,_,.cons h r=>by
  rw[DL0,DL0]
  exact(OK r).append (.cons h .nil)
theorem Reps.rev:∀{ds:List D} {vs:List V},Reps K M H ds vs->Reps K M H ds.reverse vs.reverse
 | _,_,.nil=>.nil
 | _,_,.cons h r=>by
  rw[DL0,DL0]
  exact Reps.append (Reps.rev r) (.cons h .nil)
section
variable {X:Cx}{e st:Expr}{te:TE3}{ts:TO3}{pos p2:Pos}
def BA8:D->Mem->DK->Prop:=fun x M Q=>match x with
 | .lst ds=>Q (.lst ds.reverse) M
 | .tup ds=>Q (.tup ds.reverse) M
 | _=>False
def BD6 (te:TE3)(ts:TO3):TE3:=fun σ M Q=>te σ M fun x M1=>ts σ M1 fun o M2=>o=some (-1)/\BA8 x M2 Q
theorem BJ8 (he:PE3 X e te)(hst:PO3 X (some st) ts):PE3 X (.Subscript e (.Slice none none (some st) p2) pos) (BD6 te ts):=by
 intro pins s σv H σ M Q I hS hM h
 refine Subscript_ (thn (he pins s σv H σ M _ I hS hM h) fun v s1 ⟨x,xv,M1,H1,I1,st1,m1,rv1,p1,q1⟩=>?_)
 refine wpAny_Slice ?_
 rw[evalPart_none]
 refine CU7 ?_
 refine CU7 ?_
 refine thn (hst pins s1 σv H1 σ M1 _ I1 (hS.mono st1) m1 q1) fun vs s2 hx0=>?_
 obtain⟨o,M2,H2,I2,st2,m2,ps,eo,q2⟩:=hx0
 subst eo
 cases ps with
 | int _ tk =>
 have I4:Inv X pins σv H2 {s2 with heap:=s2.heap.push {cls:=.type "slice",data:=.fields #[.none,.none,.int (-1) tk]}}:=I2.kept (t':=s2.toks) fun b ob q=>CU8 _ q
 have hsl:({s2 with heap:=s2.heap.push {cls:=.type "slice",data:=.fields #[.none,.none,.int (-1) tk]}}:CV4).heap.IsSliceOf s2.heap.objs.size .none .none (.int (-1) tk):=DP9 ..
 show wpAny (model X.prog X.w) X.A (subscriptTail e (.Slice none none (some st) p2) v (.ref s2.heap.objs.size)) (EP3 X pins σv M H Q) X.xe {s2 with heap:=s2.heap.push {cls:=.type "slice",data:=.fields #[.none,.none,.int (-1) tk]}}
 have p3:=p1.mono st2
 generalize ({s2 with heap:=s2.heap.push {cls:=.type "slice",data:=.fields #[.none,.none,.int (-1) tk]}}:CV4)=s3 at I4 hsl ⊢
 cases x<;>first|exact(q2:False).elim|skip
 ·cases p3 with
  | tup h1 r =>
  rename_i vs'
  cases rv1
  obtain⟨its,ri,ht,hz⟩:=I4.tuple (SqT.of3 h1)
  refine tail_any (ops:=[_,.ref s2.heap.objs.size]) ht.typeIs PyProof.Rows.slot_tuple_getitem.lookup ?_ (by with_unfolding_all rfl)
  refine HT.HS ht hsl ?_ (by rw[CW7,<-ri.length];exact hz)
  have hp:H2 s3.heap.objs.size=none:=I4.hok.fresh (CW1 _)
  refine⟨_,.ref s3.heap.objs.size,M2,_,I4.laid (t':=s3.toks) (o:=.tup vs'.reverse) (fun b ob q=>CU8 _ q) (CW1 _) ⟨by rw[List.length_reverse];exact hz,_,OK ri,IsTup.new _ _⟩,(st1.trans st2).trans (Step.lay hp),m2.lay hp,rfl,.tup (.inl ⟨.inl D4,m2.free hp⟩) ((Reps.rev r).mono (Step.lay hp)),q2⟩
 ·cases p3 with
  | lst h1 r =>
  rename_i vs'
  cases rv1
  obtain⟨its,ri,ht,hz⟩:=I4.list (SqL.of3 h1)
  refine tail_any (ops:=[_,.ref s2.heap.objs.size]) ht.isList.typeIs slot_list_getitem.lookup ?_ (by with_unfolding_all rfl)
  refine wpAny_getItem_list_slice ht.isList hsl .none .none (.int _ _) (by simp) ?_ (by rw[CW7,<-ri.length];exact hz)
  rw[HT.PV]
  have hp:H2 s3.heap.objs.size=none:=I4.hok.fresh (CW1 _)
  refine⟨_,.ref s3.heap.objs.size,M2,_,I4.laid (t':=s3.toks) (o:=.lst vs'.reverse) (fun b ob q=>CU8 _ q) (CW1 _) ⟨by rw[List.length_reverse];exact hz,_,0,OK ri,CW0 _ rfl⟩,(st1.trans st2).trans (Step.lay hp),m2.lay hp,rfl,.lst (.inl ⟨.inl D4,m2.free hp⟩) ((Reps.rev r).mono (Step.lay hp)),q2⟩
end
theorem ZZ {X:Cx}(tns caps:List Str)(slots:List Nat)
  (hc:X.calm=true) (hi:PI3 X tg iter ti) (hkind:scope.kind=.function) (hok:N5 X.env scope caps=true) (hcaps:slots.map (fun j=>X.N[j]?)=caps.map some)
  (hgk:∀d M Q (cs:Lo),g d (CV2 tns.length none++cs) M Q->g d (CV2 tns.length none++cs) M (fun σ' M'=>σ'.drop tns.length=cs/\Q σ' M'))
  (hg:∀cl s₀ H₀ ex,PG3 (B0 X scope cl s₀ H₀ ex (tns++caps)) tg g)
  (ht:∀cl s₀ H₀ ex,AN (B0 X scope cl s₀ H₀ ex (tns++caps)) ifs tt) (he:∀cl s₀ H₀ ex,PE3 (B0 X scope cl s₀ H₀ ex (tns++caps)) elt te)
  (hs:∀y,CY5 iter X.env y=pure y:=by intro _;rfl) :
  PE3 X (.ListComp elt [⟨tg,iter,ifs,0⟩] scope pos) (Q8 ti tns.length slots g tt te):=by
 unfold N5 at hok
 rw[CX9,CX4,CX4] at hok
 obtain⟨h1,h2⟩:=hok
 refine ZY hc hi hkind (fun y hy e=>?_) (fun y hy e=>?_) (fun y hy e=>?_) (fun y hy=>?_) hcaps hgk hg ht he hs
 ·have:=h1 y hy;rw[e] at this;cases this
 ·have:=h1 y hy
  rw[e] at this
  dsimp only at this
  split at this
  ·assumption
  ·cases this
 ·have:=h1 y hy
  rw[e] at this
  dsimp only at this
  split at this
  ·exact .inl (by assumption)
  ·exact .inr (by assumption)
  ·cases this
 ·have:=h2 y hy
  split at this
  ·assumption
  ·cases this
end L3
namespace PySem.SeqAt
open AutoSeq1 (wpAny_loadPart')
open MeetsSeq
theorem CP (l:Addr)(es:Array DictEntry)(n:Nat)(dd:Option Addr)(sl:Array (Option Value))(b:Str)(u:Tok) :
  Meets (DF3.«dict.__eq__» ⟨[.ref l,.str b u],[]⟩) (fun _ R s=>s.heap.get? l=some {cls:=.type "dict",dict:=dd,data:=.dict es n,slots:=sl}/\R (.ok (.ret .notImplemented)) s) :=
 .of_wp fun prog w A R s h=>by obtain⟨hp,g,d,tk,os⟩:=s;obtain⟨hl,h⟩:=h;have f1:=F.sub_str_dict;wp_walk using wpAny_loadPart' hl,wpAny_load hl;exact⟨_,rfl,h⟩
theorem ED (b:Str)(u:Tok)(l:Addr)(es:Array DictEntry)(n:Nat)(dd:Option Addr)(sl:Array (Option Value)) :
  Meets (DF3.«str.__eq__» ⟨[.str b u,.ref l],[]⟩) (fun _ R s=>s.heap.get? l=some {cls:=.type "dict",dict:=dd,data:=.dict es n,slots:=sl}/\R (.ok (.ret .notImplemented)) s) :=
 .of_wp fun prog w A R s h=>by obtain⟨hp,g,d,tk,os⟩:=s;obtain⟨hl,h⟩:=h;wp_walk using wpAny_loadPart' hl,wpAny_load hl;exact⟨_,rfl,h⟩
theorem RcAt.dict_str {l:Addr}{es:Array DictEntry}(b:Str)(u:Tok)(ho:s.heap.get? l=some o)(hc:o.cls=.type "dict")(hd:o.data=.dict es n)(hu:A.units<cLine):RcAt A s (.ref l) (.str b u) false:=fun prog w E Q h=>by
 obtain⟨cls,dd,data,sl⟩:=o
 simp only at hc hd
 subst hc hd
 exact rc_eq_decline_or (k:=false) ⟨_,ho,rfl⟩ (typeIs_str s b u) (by decide) F.sub_str_dict F.slot_dict_eq F.slot_str_eq_refl
  (fun _ hq=>DK0 F.slot_dict_eq ⟨_,ho,rfl⟩ F.entry_dict_eq (F.args_dict_eq_2 _ _) (CP l es n dd sl b u) ⟨ho,hq⟩)
  (fun _ hq=>DK0 F.slot_str_eq_refl (typeIs_str s b u) F.entry_str_eq (F.args_str_eq_2 _ _) (ED b u l es n dd sl) ⟨ho,hq⟩)
  (fun _ hq=>DF8 (rfl:isSame (.ref l) (.str b u)=pure false) hq) (.inr hu) h
end PySem.SeqAt
namespace HT
open PySem PySem.Spec PyProof.Rows L2
theorem FF {t:Addr}{vl vu:Value}(ht:IsTup s.heap t items)(hs:s.heap.IsSliceOf sl vl vu .none)(pl:IsPart vl lo)(pu:IsPart vu hi)
  (hw:sIx items.size 0 lo=0/\sIx items.size items.size hi=items.size) (h:Q (.ref t) s):wpAny (model prog w) A (DQ2 (.ref t) (.ref sl)) Q E s:=by
 obtain⟨os,hos,hcs,hds⟩:=id hs
 have hTs:s.TypeIs (.ref sl) "slice":=⟨os,hos,hcs⟩
 obtain⟨o,ho,hc,n,hd⟩:=id ht
 unfold DQ2
 try with_reducible refine DA2 ?_
 first|refine CU6 (CU7 ?_)|skip
 refine CU6 (wpAny_sequenceKey ht.typeIs (by decide) ?_)
 refine CU6 (CZ7 (name:=DJ4 "__getitem__") ht.typeIs DB5
  (DC7 DB5 ht.typeIs entry_tuple_getitem ?_ (args_tuple_getitem _ _)))
 show wpAny _ _ (DL3 (.ref t) >>= _) _ _ s
 refine CU6 (tupleItemsOf_ ht ?_)
 refine CU6 (DM4 hTs ?_)
 rw[if_pos (by decide)]
 refine CU6 (AD hs pl pu ?_)
 have hyes:(((sIx items.size 0 lo:Nat):Int)==0 && (1:Int)==1 && (sIx items.size items.size hi-sIx items.size 0 lo)==items.size)=true:=by
  rw[hw.1,hw.2];simp
 show wpAny _ _ (if (((sIx items.size 0 lo:Nat):Int)==0 && (1:Int)==1 && (sIx items.size items.size hi-sIx items.size 0 lo)==items.size)=true then _ else _) _ _ s
 rw[if_pos hyes]
 unfold Builtin.Tuple.tupleIsExact
 refine CU6 ?_
 first
  | exact DM4 ht.typeIs (by rw[if_pos (by decide)];exact CU6 (DH2 (CU7 ⟨_,rfl,CU7 h⟩)))
  | exact CU6 (DM4 ht.typeIs (CU7 (by rw[if_pos (by decide)];exact CU6 (DH2 (CU7 ⟨_,rfl,CU7 h⟩)))))
end HT
namespace L3
open PySem PySem.Spec PyProof.Rows L2
section
variable {X:Cx}{pins:List (Addr×Obj)}{σv:L2.St}{M:Mem}{H:Hp}{s:CV4}
end
section
variable {X:Cx}{e:Expr}{te:TE3}{pos:Pos}
def FQ:R3:=fun x y M Q=>J4 x y M Q\/∃kvs z,x=.dct kvs/\y=.str z/\Q (.bl false) M
theorem BU5 (hr:Room k X.A):OpR3 X (DB4 .Eq) FQ:=by
 intro pins s σv H M x y xv yv v u Q I m rx ry px py h
 rcases h with h|⟨kvs,z,rfl,rfl,q⟩
 ·exact BP4 hr pins s σv H M x y xv yv v u Q I m rx ry px py h
 ·cases py
  obtain⟨t,rfl⟩:=ry
  cases px with
  | dct hx r =>
   cases rx
   obtain⟨_,_,us,_,o,es,ep,h1,h2,h3,_⟩:=QR I.hok hx.1
   exact SeqAt.RcAt.dict_str z t h1 h2.1 h3 (by have:=hr.units;lia) X.prog X.w X.xe _ ⟨_,.bl _,M,H,I,.refl,m,rfl,.bl,q⟩
def BP9 (K:CV3):V->Option Int->Option Int->Hp->VK->Prop:=fun x lo hi H Q=>∃a xs,x=.ref a/\SqT K H a xs /\
 (HT.sIx xs.length 0 lo=0/\HT.sIx xs.length xs.length hi=xs.length)/\Q (.ref a) H
theorem BO0:SlR X (BP9 X.K):=by
 intro pins s σ H x v vl vu lo hi sl Q I rx hs pl pu h
 obtain⟨a,xs,rfl,hx,hw,q⟩:=h
 cases rx
 obtain⟨its,r,ht,hz⟩:=I.tuple hx
 have hlen:its.toArray.size=xs.length:=by rw[CW7];exact r.length.symm
 refine⟨"tuple",_,PyProof.Rows.slot_tuple_getitem.lookup,ht.typeIs,?_⟩
 exact HT.FF ht hs pl pu (by rw[hlen];exact hw) ⟨.ref a,H,I,rfl,q⟩
def RJ:D->Option Int->Option Int->Mem->DK->Prop:=fun x lo hi M Q=>match x with
 | .lst ds=>Q (.lst (cutD ds lo hi)) M
 | .tup ds=>Q (.tup (cutD ds lo hi)) M
 | .str z=>z.length<=CV8/\Q (.str (Txt.slice z lo hi)) M
 | _=>False
def RS (te:TE3)(tl th:TO3):TE3:=fun σ M Q=>te σ M fun x M1=>tl σ M1 fun l M2=>th σ M2 fun u M3=>RJ x l u M3 Q
theorem AK5 (h:HT.sIx ds.length 0 lo=0/\HT.sIx ds.length ds.length hi=ds.length):cutD ds lo hi=ds:=by
 unfold cutD
 rw[h.1,h.2]
 simp
theorem TN {lo hi:Option Expr}{tl th:TO3}{p2:Pos}(he:PE3 X e te)(hl:PO3 X lo tl)(hu:PO3 X hi th) :
  PE3 X (.Subscript e (.Slice lo hi none p2) pos) (RS te tl th):=by
 intro pins s σv H σ M Q I hS hM h
 refine Subscript_ (thn (he pins s σv H σ M _ I hS hM h) fun v s1 ⟨x,xv,M1,H1,I1,st1,m1,rv1,p1,q1⟩=>?_)
 refine wpAny_Slice (thn (hl pins s1 σv H1 σ M1 _ I1 (hS.mono st1) m1 q1) fun vl s2 ⟨l,M2,H2,I2,st2,m2,pl,q2⟩=>thn (hu pins s2 σv H2 σ M2 _ I2 (hS.mono (st1.trans st2)) m2 q2) fun vu s3 ⟨u,M3,H3,I3,st3,m3,pu,q3⟩=>?_)
 rw[evalPart_none]
 refine CU7 ?_
 have I4:Inv X pins σv H3 {s3 with heap:=s3.heap.push {cls:=.type "slice",data:=.fields #[vl,vu,.none]}}:=I3.kept (t':=s3.toks) fun b ob q=>CU8 _ q
 have p3:=p1.mono (st2.trans st3)
 have fin:((BY3 X.K xv l u H3 (Up X.K M3 H3 Q)\/BY4 X.K xv l u H3 (Up X.K M3 H3 Q))\/CM9 xv l u H3 (Up X.K M3 H3 Q))\/BP9 X.K xv l u H3 (Up X.K M3 H3 Q):=by
  cases x with
  | str z =>
   cases p3
   exact .inl (.inr ⟨_,rfl,q3.1,up0 m3 .str q3.2⟩)
  | tup ds =>
   cases p3 with|tup h1 r =>
   by_cases hw:HT.sIx ds.length 0 l=0/\HT.sIx ds.length ds.length u=ds.length
   ·have q3:Q (.tup (cutD ds l u)) M3:=q3
    rw[AK5 hw] at q3
    exact .inr ⟨_,_,rfl,SqT.of3 h1,by rw[<-r.length];exact hw,up0 m3 (.tup h1 r) q3⟩
   ·rw[r.length] at hw
    exact .inl (.inl (.inr ⟨_,_,rfl,SqT.of3 h1,hw,fun p hp=>⟨_,M3,Step.lay hp,m3.lay hp,.tup (.inl ⟨.inl D4,m3.free hp⟩) ((r.cut l u).mono (Step.lay hp)),q3⟩⟩))
  | lst ds =>
   cases p3 with|lst h1 r =>
   refine .inl (.inl (.inl ⟨_,_,rfl,SqL.of3 h1,fun p hp=>?_⟩))
   exact⟨_,M3,Step.lay hp,m3.lay hp,.lst (.inl ⟨.inl D4,m3.free hp⟩) ((r.cut l u).mono (Step.lay hp)),q3⟩
  | _=>exact(q3:False).elim
 obtain⟨T,id,hT,ht,hg⟩:=(((sl_list.or BC7).or CD3).or BO0) pins {s3 with heap:=s3.heap.push {cls:=.type "slice",data:=.fields #[vl,vu,.none]}} σv H3 xv v vl vu l u s3.heap.objs.size _ I4 rv1 (DP9 ..) pl pu fin
 show wpAny (model X.prog X.w) X.A (subscriptTail e (.Slice lo hi none p2) v (.ref s3.heap.objs.size)) (EP3 X pins σv M H Q) X.xe {s3 with heap:=s3.heap.push {cls:=.type "slice",data:=.fields #[vl,vu,.none]}}
 exact tail_any (ops:=[.ref s3.heap.objs.size,v]) ht hT (thn hg fun _ _ z=>(U6 z).trans ((st1.trans st2).trans st3)) (by with_unfolding_all rfl)
end
end L3
namespace L2
open PySem PySem.Spec PyProof.Rows
end L2
namespace L3
open PySem PySem.Spec PyProof.Rows L2
section
variable {X:Cx}{st:Stmt}{rest:List Stmt}{t u:TX3}{pos np cpos:Pos}
end
section
variable {P:DA0}{w:World}{K:CV3}{mg:Str->Option Value}{base:Heap}
end
end L3
namespace L2
open PySem PySem.Spec PyProof.Rows
theorem ObjOk.get {h:Heap}{o:HO}(x:ObjOk P w H h a o):∃u,h.get? a=some u:=by
 cases o with
 | lst xs=>obtain⟨_,_,_,_,e⟩:=x;exact⟨_,e⟩
 | tup xs=>obtain⟨_,_,_,u,e,_⟩:=x;exact⟨u,e⟩
 | dK kvs=>obtain⟨_,_,_,_,o,_,_,e,_⟩:=x;exact⟨_,e⟩
 | dT kvs=>obtain⟨_,_,_,_,o,_,_,e,_⟩:=x;exact⟨_,e⟩
 | set S n=>obtain⟨o,_,_,_,e,_⟩:=x;exact⟨_,e⟩
 | ins C dx fs=>obtain⟨_,_,_,e,_⟩:=x;exact⟨_,e⟩
 | own y=>exact x
 | xd fs=>obtain⟨_,⟨_,_,_,e,_⟩,_⟩:=x;exact⟨_,e⟩
 | rng lo hi=>obtain⟨_,_,_,e⟩:=x;exact⟨_,e⟩
 | frz ob u=>obtain⟨e,_⟩:=x;exact⟨_,e⟩
 | tbl ps=>exact⟨_,(show h.get? a=some _ from x)⟩
 | met f y=>exact⟨_,(show h.get? a=some _ from x)⟩
 | ext φ=>exact x.2.1
section
variable {X:Cx}{pins:List (Addr×Obj)}{σ:St}{H H2:Hp}{s s1:CV4}{ea:Addr}{cls a0:Value}{B h6:Heap}
theorem BG6 (hok:HOk X.prog X.w H2 B)(hn:B.get? ea=none):H2 ea=none:=by
 cases e:H2 ea with
 | none=>rfl
 | some o =>
  obtain⟨u,e'⟩:=(hok ea o e).get
  rw[hn] at e';cases e'
end
end L2
namespace PySem.W
open PySem PySem.Spec PySem.Calls PyProof.Rows
section
variable {prog:DA0}{w:World}{A:DD3}{E:Value->CV4->Prop}{h:Heap}{g:Array GenState}{d:Drawn}{t:Nat}{os:OsState}{a C:Addr}{o:Obj}{K:Frag}
end
end PySem.W
namespace L2
open PySem PySem.Spec PyProof.Rows
section
variable {X:Cx}{pins:List (Addr×Obj)}{σ:St}{H:Hp}{s:CV4}{p:Addr×Obj}
end
end L2
namespace L3
open PySem PySem.Spec PyProof.Rows L2
section
variable {X:Cx}{k:Nat}{f C:Addr}{fd:CX7}{ps:List Str}{sp:SpX3}{fx cx xi xj xl:Str}{i j l:Nat}{e:Expr}{es:List Expr}{ta:TA3}{p cp ap tp np hp pi pj pl ap2:Pos}
end
end L3
namespace PySem.SeqAt
end PySem.SeqAt
namespace L3
open PySem PySem.Spec PyProof.Rows L2
section
variable {X:Cx}{pos:Pos}
theorem ZX (tns caps:List Str)(slots:List Nat)
  (hc:X.calm=true) (hi:HE X tg iter ti) (hkind:scope.kind=.function) (hok:N5 X.env scope caps=true) (hcaps:slots.map (fun j=>X.N[j]?)=caps.map some)
  (hgk:∀d M Q (cs:Lo),g d (CV2 tns.length none++cs) M Q->g d (CV2 tns.length none++cs) M (fun σ' M'=>σ'.drop tns.length=cs/\Q σ' M'))
  (hg:∀cl s₀ H₀ ex,PG3 (B0 X scope cl s₀ H₀ ex (tns++caps)) tg g)
  (ht:∀cl s₀ H₀ ex,AN (B0 X scope cl s₀ H₀ ex (tns++caps)) ifs tt) (he:∀cl s₀ H₀ ex,PE3 (B0 X scope cl s₀ H₀ ex (tns++caps)) elt te)
  (hs:∀y,CY5 iter X.env y=pure y:=by intro _;rfl) :
  PE3 X (.ListComp elt [⟨tg,iter,ifs,0⟩] scope pos) (F9 ti tns.length slots g tt te):=by
 unfold N5 at hok
 rw[CX9,CX4,CX4] at hok
 obtain⟨h1,h2⟩:=hok
 refine RF hc hi hkind (fun y hy e=>?_) (fun y hy e=>?_) (fun y hy e=>?_) (fun y hy=>?_) hcaps hgk hg ht he hs
 ·have:=h1 y hy;rw[e] at this;cases this
 ·have:=h1 y hy
  rw[e] at this
  dsimp only at this
  split at this
  ·assumption
  ·cases this
 ·have:=h1 y hy
  rw[e] at this
  dsimp only at this
  split at this
  ·exact .inl (by assumption)
  ·exact .inr (by assumption)
  ·cases this
 ·have:=h2 y hy
  split at this
  ·assumption
  ·cases this
end
end L3
namespace TSt
open PySem
def tx:Value->Str
 | .str z _=>z
 | _=>⟨#[]⟩
section
variable {P:DA0}{w:World}{A:DD3}{E:Value->CV4->Prop}{s:CV4}{h h':Heap}{a:Addr}{L:List Str}{z:Str}{tk:Tok}
def F5 (w:World):Bool:=!(w.params.followText "set-order")
def TSet (P:DA0)(w:World)(h:Heap)(a:Addr)(L:List Str):Prop :=
 ∃o es ep t,h.get? a=some o/\o.ExactSet/\o.data=.set es ep t/\ElemsOf (strKind P w) es.toList/\es.toList.map (fun e=>tx e.2)=L/\L.Nodup/\es.size<DE3/\t.fits es.size=true/\(t.plain=true->es.size=0)/\t.led=F5 w
theorem AU4 {k:Str}{v:Value}(q:(strKind P w).is k v=true):tx v=k:=by
 obtain⟨t,rfl⟩:=DF9 (x:=k) (v:=v) q
 rfl
theorem YN {e:Int×Value}{l:List (Int×Value)}(q:ElemsOf (strKind P w) l)(m:e∈l):(strKind P w).is (tx e.2) e.2=true/\e.1=(strKind P w).hash (tx e.2):=by
 obtain⟨⟨k,q1,q2⟩,_⟩:=q e m
 rw[AU4 q1]
 exact⟨q1,q2⟩
theorem O6 {l:List (Int×Value)}(q:ElemsOf (strKind P w) l)(k:Str):(∃e∈l,(strKind P w).is k e.2=true)↔k∈l.map fun e=>tx e.2:=by
 constructor
 ·rintro⟨e,m,i⟩
  exact DQ6.mpr ⟨e,m,AU4 i⟩
 ·intro m
  obtain⟨e,m',rfl⟩:=DQ6.mp m
  exact⟨e,m',(YN q m').1⟩
theorem TSet.len (T:TSet P w h a L):L.length<DE3:=by
 obtain⟨o,es,ep,t,_,_,_,_,rfl,_,b,_⟩:=T
 rw[CV1,CW2];exact b
theorem TSet.keep (T:TSet P w h a L)(k:∀o,h.get? a=some o->h'.get? a=some o):TSet P w h' a L:=by
 obtain⟨o,es,ep,t,g,r⟩:=T
 exact⟨o,es,ep,t,k _ g,r⟩
theorem TSet.setOf (T:TSet P w h a L):h.SetOf (strKind P w) a (fun k=>decide (k∈L)) L.length:=by
 obtain⟨o,es,ep,t,g,x,d,el,rfl,nd,b,f,_⟩:=T
 refine⟨o,es,ep,t,g,x,d,el,fun k=>?_,b,f,by rw[CV1,CW2]⟩
 rw[decide_eq_true_eq,O6 el]
theorem XU {es:Array (Int×Value)}(q:t.plain=false):(relayAll t es n).2.1.plain=false:=by
 unfold relayAll SetTable.relaid SetTable.laid
 cases SetTable.layClean (CY2 n-1) (es.map (·.1)) with
 | none=>rfl
 | some ow =>
  simp only[Option.pure_def,Option.bind_eq_bind,Option.bind_some]
  split
  ·exact q
  ·rfl
theorem AO6 {es:Array (Int×Value)}:(relayAll t es n).2.1.led=t.led:=by
 unfold relayAll SetTable.relaid SetTable.laid
 cases SetTable.layClean (CY2 n-1) (es.map (·.1)) with
 | none=>rfl
 | some ow =>
  simp only[Option.pure_def,Option.bind_eq_bind,Option.bind_some]
  split<;>rfl
theorem AO9 (t:DI4)(n:Nat):(t.orStandIn n).led=t.led:=by
 unfold SetTable.orStandIn
 split<;>rfl
theorem BH3 {es:Array (Int×Value)}{h:Int}{x:Value}:(layNew t es h x).2.1.led=t.led:=by
 unfold layNew
 split
 ·exact AO9 _ _
 ·rfl
theorem AU {l m:List Str}(q:DA9 l m)(n:m.Nodup):l.Nodup:=q.nodup_iff.mpr n
set_option maxHeartbeats 1000000 in
theorem VQ {Q:Bool->CV4->Prop}(T:TSet P w s.heap a L)(room:L.length+1<DE3)
  (q:∀h' L',DD0 a s.heap h'->TSet P w h' a L'->DA9 L' (if z∈L then L else L++[z])->Q (!decide (z∈L)) {s with heap:=h'}) :
  wpAny (model P w) A (setAddHashed a (.str z tk) ((strKind P w).hash z)) Q E s:=by
 obtain⟨o,es,ep,t,g,x,d,el,rfl,nd,b,f,pl,ld⟩:=T
 have key:(strKind P w).is z (.str z tk)=true:=by simp[strKind,DM2]
 have sc:(Value.str z tk).scannable=true:=rfl
 unfold setAddHashed setAddHashedIn
 refine DA2 (CU6 (CY7 g d f ?_))
 dsimp only
 rw[if_pos (byScan_of sc b el)]
 unfold setAddByScan
 refine CU6 (CU6 (DH2 (CU6 (wpAny_setScan_of key g d f el ?_))))
 cases fi:es.toList.findIdx? (fun e=>(strKind P w).is z e.2) with
 | some j =>
  dsimp only
  obtain⟨hj,hp,_⟩:=List.findIdx?_eq_some_iff_getElem.mp fi
  have m:z∈es.toList.map fun e=>tx e.2:=(O6 el z).mp ⟨_,DB2 hj,hp⟩
  have r:=q s.heap _ (.refl a _) ⟨o,es,ep,t,g,x,d,el,rfl,nd,b,f,pl,ld⟩ (by rw[if_pos m])
  rw[decide_eq_true m] at r
  exact CU7 (CU7 r)
 | none =>
  dsimp only
  have m:z∉es.toList.map fun e=>tx e.2:=fun m=>by
   obtain⟨e,me,i⟩:=(O6 el z).mpr m
   have:=List.findIdx?_eq_none_iff.mp fi e me
   rw[i] at this;cases this
  have pe:=layNew_perm t es ((strKind P w).hash z) (.str z tk)
  have le:=BH3 (t:=t) (es:=es) (h:=(strKind P w).hash z) (x:=.str z tk)
  have fe:=layNew_fits t es ((strKind P w).hash z) (.str z tk)
  generalize layNew t es ((strKind P w).hash z) (.str z tk)=R at pe fe le ⊢
  obtain⟨es1,t1,dm,gv⟩:=R
  dsimp only at pe fe le ⊢
  rw[Array.toList_push] at pe
  have el1:ElemsOf (strKind P w) es1.toList:=(el.push key sc).perm pe
  have pm:DA9 (es1.toList.map fun e=>tx e.2) ((es.toList.map fun e=>tx e.2)++[z]):=by
   have:=pe.map (fun e:Int×Value=>tx e.2)
   rw[CX6] at this
   exact this
  have nd1:(es1.toList.map fun e=>tx e.2).Nodup:=AU pm (by
   rw[List.nodup_append]
   refine⟨nd,by simp,fun u hu v hv=>?_⟩
   rw[DF1] at hv
   subst hv
   rintro rfl
   exact m hu)
  have sz:es1.size=es.size+1:=by rw[<-CW2,pe.length_eq,CW3,CW2];rfl
  have b1:es1.size<DE3:=by
   rw[CV1,CW2] at room
   rw[sz];exact room
  have rule1:∀(bb:Bool) {s1:CV4} {Q1:Unit->CV4->Prop},Q1 () s1->wpAny (model P w) A (match bb with|true=>rule "set.scan.the-table-gave-way"|false=>pure ()) Q1 E s1:=fun bb s1 Q1 y=>by
   cases bb
   ·exact CU7 y
   ·exact DH2 y
  refine CU6 (rule1 _ ?_)
  have fin:∀h' L',DD0 a s.heap h'->TSet P w h' a L'->DA9 L' (es1.toList.map fun e=>tx e.2)->Q true {s with heap:=h'}:=fun h' L' sb T p=>by
   have r:=q h' L' sb T (by rw[if_neg m];exact p.trans pm)
   rw[decide_eq_false m] at r
   exact r
  have tail:∀(t2:DI4),t2.fits es1.size=true->t2.plain=false->t2.led=F5 w->wpAny (model P w) A (do
    storeSet a es1 t2
    if (!dm && t2.tooFull)=true then do
        (match (relayAll t2 es1 (DD7 es1.size)).2.2 with|true=>rule "set.scan.the-table-gave-way"|false=>pure ())
        storeSet a (relayAll t2 es1 (DD7 es1.size)).1 (relayAll t2 es1 (DD7 es1.size)).2.1
        pure (some true)
     else pure (some true)) (fun r s'=>r=some true/\Q true s') E s:=fun t2 f2 p2 l2=>by
   refine CU6 (DG5 g d ?_ (DG7 b1))
   obtain⟨g1,_⟩:=SetOf_store (knd:=strKind P w) (S':=fun k=>decide (k∈es1.toList.map fun e=>tx e.2)) g x d el1 (fun k=>by rw[decide_eq_true_eq,O6 el1]) b1 f2
   have sb:=DA5 s.heap a (Obj.putSet es1 t2)
   split
   ·have rp:=relayAll_perm t2 es1 (DD7 es1.size)
    have rf:=relayAll_fits t2 es1 (DD7 es1.size)
    have rk:=AO6 (t:=t2) (es:=es1) (n:=DD7 es1.size)
    have rl:=XU (es:=es1) (n:=DD7 es1.size) p2
    generalize relayAll t2 es1 (DD7 es1.size)=R at rp rf rl rk ⊢
    obtain⟨es2,t3,gv2⟩:=R
    dsimp only at rp rf rl rk ⊢
    have s2:es2.size=es1.size:=by rw[<-CW2,rp.length_eq,CW2]
    have b2:es2.size<DE3:=by rw[s2];exact b1
    have el2:=el1.perm rp
    have pm2:=rp.map (fun e:Int×Value=>tx e.2)
    refine CU6 (rule1 _ (CU6 (DG5 g1 rfl ?_ (DG7 b2))))
    obtain⟨g2,_⟩:=SetOf_store (knd:=strKind P w) (S':=fun k=>decide (k∈es2.toList.map fun e=>tx e.2)) g1 x rfl el2 (fun k=>by rw[decide_eq_true_eq,O6 el2]) b2 rf
    exact CU7 ⟨rfl,fin _ _ (sb.trans (DA5 _ a _)) ⟨_,es2,_,t3,g2,x,rfl,el2,rfl,AU pm2 nd1,b2,rf,fun z=>(by rw[rl] at z;cases z),rk.trans l2⟩ pm2⟩
   ·exact CU7 ⟨rfl,fin _ _ sb ⟨_,es1,_,t2,g1,x,rfl,el1,rfl,nd1,b1,f2,fun z=>(by rw[p2] at z;cases z),l2⟩ (.refl _)⟩
  split
  ·refine CU6 ?_
   rw[hashByValue_scannable 8 sc]
   refine CU7 ?_
   refine DB9 (tail {t1 with plain:=false} (SetTable.fits_plain_off fe) rfl (le.trans ld)) (fun r s' y=>?_) fun _ _ y=>y
   obtain⟨rfl,y⟩:=y
   exact CU7 y
  ·rename_i np
   refine CU6 (CU7 ?_)
   refine DB9 (tail t1 fe (by simpa using np) (le.trans ld)) (fun r s' y=>?_) fun _ _ y=>y
   obtain⟨rfl,y⟩:=y
   exact CU7 y
end
end TSt
namespace TSt
open PySem PyProof.Rows
theorem AH2:∀{l m:List Str},l.Nodup->(∀x∈l,x∈m)->l.length<=m.length
 | [],_,_,_=>DC3 _
 | x::l,m,n,q=>by
  rw[List.nodup_cons] at n
  have hx:=q x CW4
  have h1:l.length<=(m.erase x).length:=AH2 n.2 fun y hy=>by
   have ne:y≠x:=fun e=>n.1 (e ▸ hy)
   exact(List.mem_erase_of_ne ne).mpr (q y (CW5 _ hy))
  rw[List.length_erase_of_mem hx] at h1
  have:0<m.length:=List.length_pos_of_mem hx
  rw[CV6];lia
section
variable {P:DA0}{w:World}{A:DD3}{R:Result->CV4->Prop}{I S:Addr}{fp wr:List Addr}{G:Array GenState->Array GenState->Prop}{n:Nat}{Pz:Nat->Value->Prop}{St:Nat->CV4->Prop}
theorem YO (W:WalksS P w A.in1 I fp wr G n Pz St)(hSf:S∉fp)(hn:zs.length=n)(hv:∀i v,i<n->Pz i v->∃t,v=.str (zs.getD i ⟨#[]⟩) t)(hb:n+1<DE3) :
  ∀(k i:Nat) (s:CV4) (L:List Str),n-i=k->i<=n->St i s->TSet P w s.heap S L->(∀z,z∈L↔z∈zs.take i) ->
   (∀s' L',Moved (S::wr) G s s'->TSet P w s'.heap S L'->(∀z,z∈L'↔z∈zs)->R (.ok (.ret .none)) s')->codeAny (model P w) A (.builtin "set.update.loop" ⟨[.ref S,.ref I],[]⟩) R s:=by
 have hSw:S∉wr:=fun q=>hSf (W.sub _ q)
 have wide:∀b∈wr,b∈S::wr:=fun b q=>CW5 _ q
 intro k
 induction k with
 | zero =>
  intro i s L hk hi st T mem fin
  obtain rfl:i=n:=by lia
  refine DL2 DO8 ?_
  rw[DM0 DG9 _]
  show wpAny _ A.in1 (DP8 (.ref I) >>= _) _ _ s
  refine CU6 (W.done s _ _ st fun s' mv=>?_)
  refine CU7 (fin s' L (mv.mono wide) (T.keep fun o e=>mv.heap S o hSw e) fun z=>?_)
  rw[mem z,DK6 (by lia)]
 | succ k ih =>
  intro i s L hk hi st T mem fin
  have hin:i<n:=by lia
  refine DL2 DO8 ?_
  rw[DM0 DG9 _]
  show wpAny _ A.in1 (DP8 (.ref I) >>= _) _ _ s
  refine CU6 (W.item i s _ _ hin st fun v s' pv st' mv=>?_)
  obtain⟨t,rfl⟩:=hv i v hin pv
  generalize hz:zs.getD i ⟨#[]⟩=z
  have hzi:zs[i]?=some z:=by
   rw[List.getD_eq_getElem?_getD] at hz
   cases e:zs[i]? with
   | none=>rw[List.getElem?_eq_none_iff] at e;lia
   | some y=>rw[e] at hz;exact congrArg some hz
  have T':TSet P w s'.heap S L:=T.keep fun o e=>mv.heap S o hSw e
  have hL:L.length<=i:=by
   obtain⟨o,es,ep,tb,_,_,_,_,e,nd,_⟩:=id T
   have:=AH2 nd fun x hx=>(mem x).mp hx
   rw[DI8] at this;lia
  show wpAny _ A.in1 (holding [Value.str z t] (setAdd S (.str z t)) >>= _) _ _ s'
  refine CU6 (DA2 ?_)
  unfold setAdd
  refine DA2 (CU6 ((PySem.strKind P w).pyHash (k:=z) (by simp[PySem.strKind,DM2]) ?_))
  refine VQ (s:={s' with toks:=s'.toks+1}) (L:=L) T' (by lia) fun h' L' sb T2 pm=>?_
  refine CU7 ⟨plainId_quiet DG9 _,ih (i+1) _ L' (by lia) hin (W.frame _ s' _ _ st' (Nat.le_succ _) fun b hb' o e=>?_) T2 (fun y=>?_) fun s'' L'' mv' T3 mem'=>?_⟩
  ·rw[sb.2 b (fun q:b=S=>hSf (q ▸ hb'))];exact e
  ·rw[pm.mem_iff,DE1,hzi]
   simp only[Option.toList_some,CZ9,DF1,<-mem y]
   split
   ·rename_i hm
    exact⟨.inl,fun q=>q.elim id fun e=>e ▸ hm⟩
   ·rw[CZ9,DF1]
  ·refine fin s'' L'' (Moved.trans W.gtrans ((mv.mono wide).then_heap (Nat.le_succ _) fun b o hb' e=>?_) mv') T3 mem'
   rw[sb.2 b (fun q:b=S=>hb' (q ▸ CW4))];exact e
end
section
variable {P:DA0}{w:World}{A:DD3}{E:Value->CV4->Prop}{s:CV4}
abbrev L6 (led:Bool):Obj:={cls:=.type "set",dict:=none,data:=.set #[] 0 (.fresh 0 0 led)}
theorem IE {h:Heap}(g:h.get? a=some (L6 (F5 w))):TSet P w h a [] :=
 ⟨_,#[],0,_,g,⟨rfl,rfl,rfl⟩,rfl,fun e he=>absurd he (by simp),rfl,List.nodup_nil,by decide,(by cases F5 w<;>decide),fun _=>rfl,rfl⟩
theorem WR (v:Value){Q1:Value->CV4->Prop}(q:Q1 (.ref s.heap.objs.size) {s with heap:=s.heap.push (L6 (F5 w))}):codeAny (model P w) A (.call (.builtin "set.__new__") ⟨[.type "set",v],[]⟩) (wants Q1 E) s:=by
 refine codeAny_call_builtin F.plain_set_new F.entry_set_new (DF8 (F.newCall_set_1 v) ?_)
 unfold DF3.«set.__new__» Builtin.Frozenset.newClass
 have y:=sub_set_self
 obtain⟨hp,g,d,tk,os⟩:=s
 dsimp only at q ⊢
 wp_walk
 refine DC8 (CU7 ?_)
 dsimp only
 simp only[newObj]
 exact CU6 (wpAny_alloc (CU7 (CU7 q)))
theorem YI:isSubtype (.type "tuple") (.type "set")=pure false:=by rw[DQ1];kernel_rfl
theorem AC6:isSubtype (.type "tuple") (.type "frozenset")=pure false:=by rw[DQ1];kernel_rfl
set_option maxHeartbeats 3200000 in
theorem XX {l:Addr}{items:List Value}(hh:A.handled=none)(hl:s.heap.IsList l items.toArray)(hi:items.length=zs.length)(hv:∀(i:Nat) (v:Value),items[i]?=some v->∃t,v=Value.str (zs.getD i ⟨#[]⟩) t)(hb:zs.length+1<DE3)
  (q:∀h' tk L,TSet P w h' s.heap.objs.size L->(∀z,z∈L↔z∈zs)->(∀b o,s.heap.get? b=some o->h'.get? b=some o)->Q (.ref s.heap.objs.size) {s with heap:=h',toks:=tk}) :
  wpAny (model P w) A (call (.type "set") [.ref l]) Q E s:=by
 obtain⟨c,tl,m1⟩:=F.called_set.mro
 have m2:=F.called_set.made
 have m3:=F.called_set.sub
 have m4:=F.called_set.notType
 have m5:=F.called_set.canCreate
 have m6:=F.typeCall_set_1 (.ref l)
 refine wpAny_call (codeAny_of_tree ?_)
 show wpAny _ _ (callAny (.type "set") _) _ _ _
 refine CU7 ⟨Code.quiet_builtin _ (by decide +kernel),DL2 F.entry_type_call ?_⟩
 rw[Around.under_plain (weight_type_call_type "set" [.ref l] []) rfl]
 repeat (any_goals (first|assumption|wp_step))
 refine DM7 (WR (.ref l) (E:=E) (Q1:=fun v s1=>v=.ref s.heap.objs.size/\s1={s with heap:=s.heap.push (L6 (F5 w))}) ⟨rfl,rfl⟩) fun r s1 hr=>?_
 cases r with
 | error e=>exact hr
 | ok fl =>
  cases fl with
  | next=>exact hr.elim
  | brk=>exact hr.elim
  | cont=>exact hr.elim
  | ret v =>
   obtain⟨rfl,rfl⟩:=hr
   have gS:(s.heap.push (L6 (F5 w))).get? s.heap.objs.size=some (L6 (F5 w)):=CW0 _ rfl
   have tS:Shared.TypeIs {s with heap:=s.heap.push (L6 (F5 w))} (.ref s.heap.objs.size) "set":=⟨_,gS,rfl⟩
   have m7:=F.called_set.init.lookup
   have m8:=F.called_set.init.bind (.ref s.heap.objs.size)
   repeat (any_goals (first|assumption|wp_step))
   refine DM7 (codeAny_call_builtin (R:=wants (fun r s2=>r=.none/\∃h' tk L,s2={s with heap:=h',toks:=tk}/\TSet P w h' s.heap.objs.size L/\(∀z,z∈L↔z∈zs)/\∀b o,s.heap.get? b=some o->h'.get? b=some o) E) F.called_set.init.plain F.entry_set_init (check_set_init_1 tS ?_)) fun r2 s2 hr2=>?_
   ·obtain⟨⟨oc,od,ot,osl⟩,ho,hc,no,hd⟩:=id hl
    simp only at hc hd
    subst hc hd
    have ho':(s.heap.push (L6 (F5 w))).get? l=some {cls:=.type "list",dict:=od,data:=.seq items.toArray no,slots:=osl}:=CU8 _ ho
    have n1:=F.sub_list_set
    have n2:=F.sub_list_frozenset
    have n3:(Value.type "list"==Value.type "dict")=false:=by decide
    have l1:(s.heap.push (L6 (F5 w))).IsList l items.toArray:=⟨_,ho',rfl,no,rfl⟩
    have lS:l<s.heap.objs.size:=CV9 ho
    unfold DF3.«set.__init__» noKeywords DQ4
    generalize hPI:pyIter=PI
    wp_walk
    subst hPI
    refine wpAny_pyIter_list l1 ?_
    refine CU6 (wpAny_runValue ?_)
    have h3:A.in1.in1.in1.handled=none:=by simp[hh]
    have nI:l≠(s.heap.push (L6 (F5 w))).objs.size:=by rw[DD2];exact CX3 (DP6 lS)
    have nS:s.heap.objs.size∉[(s.heap.push (L6 (F5 w))).objs.size,l]:=by
     rw[DD2]
     simp only[CV0,CU9,or_false,not_or]
     exact⟨CX3 (Nat.lt_succ_self _),DL9 lS⟩
    refine YO ((Walks.list h3 _ l nI items.toArray).toS) nS (zs:=zs) (by simp[hi]) (fun i v _ hx=>hv i v (by simpa using hx)) (by simpa[hi] using hb) _ 0 _ [] rfl (DC3 _) ⟨⟨_,CW0 _ rfl,rfl,rfl⟩,l1.push _⟩ (IE (CU8 _ gS)) (fun z=>by simp) fun s' L mv T mem=>?_
    obtain⟨h',g',d',tk',os'⟩:=s'
    obtain rfl:g'=s.gens:=mv.gens
    obtain rfl:d'=s.drawn:=mv.drawn
    obtain rfl:os'=s.os:=mv.os
    show wpAny _ _ _ _ _ _
    refine CU7 ?_
    show wpAny _ _ (ret Value.none) _ _ _
    refine CU7 ⟨rfl,h',tk',L,rfl,T,mem,fun b o e=>?_⟩
    have hb1:=CV9 e
    refine mv.heap b o ?_ (CU8 _ (CU8 _ e))
    simp only[CV0,CU9,or_false,not_or,DD2]
    exact⟨CX3 hb1,CX3 (DP6 hb1)⟩
   ·cases r2 with
    | error e=>exact hr2
    | ok fl2 =>
     cases fl2 with
     | next=>exact hr2.elim
     | brk=>exact hr2.elim
     | cont=>exact hr2.elim
     | ret v =>
      obtain⟨rfl,h',tk,L,rfl,T,mem,kp⟩:=hr2
      repeat (any_goals (first|assumption|wp_step))
      exact q h' tk L T mem kp
set_option maxHeartbeats 3200000 in
theorem UX {l:Addr}{items:List Value}(hh:A.handled=none)(hl:s.heap.IsTuple l items.toArray)(hi:items.length=zs.length)(hv:∀(i:Nat) (v:Value),items[i]?=some v->∃t,v=Value.str (zs.getD i ⟨#[]⟩) t)(hb:zs.length+1<DE3)
  (q:∀h' tk L,TSet P w h' s.heap.objs.size L->(∀z,z∈L↔z∈zs)->(∀b o,s.heap.get? b=some o->h'.get? b=some o)->Q (.ref s.heap.objs.size) {s with heap:=h',toks:=tk}) :
  wpAny (model P w) A (call (.type "set") [.ref l]) Q E s:=by
 obtain⟨c,tl,m1⟩:=F.called_set.mro
 have m2:=F.called_set.made
 have m3:=F.called_set.sub
 have m4:=F.called_set.notType
 have m5:=F.called_set.canCreate
 have m6:=F.typeCall_set_1 (.ref l)
 refine wpAny_call (codeAny_of_tree ?_)
 show wpAny _ _ (callAny (.type "set") _) _ _ _
 refine CU7 ⟨Code.quiet_builtin _ (by decide +kernel),DL2 F.entry_type_call ?_⟩
 rw[Around.under_plain (weight_type_call_type "set" [.ref l] []) rfl]
 repeat (any_goals (first|assumption|wp_step))
 refine DM7 (WR (.ref l) (E:=E) (Q1:=fun v s1=>v=.ref s.heap.objs.size/\s1={s with heap:=s.heap.push (L6 (F5 w))}) ⟨rfl,rfl⟩) fun r s1 hr=>?_
 cases r with
 | error e=>exact hr
 | ok fl =>
  cases fl with
  | next=>exact hr.elim
  | brk=>exact hr.elim
  | cont=>exact hr.elim
  | ret v =>
   obtain⟨rfl,rfl⟩:=hr
   have gS:(s.heap.push (L6 (F5 w))).get? s.heap.objs.size=some (L6 (F5 w)):=CW0 _ rfl
   have tS:Shared.TypeIs {s with heap:=s.heap.push (L6 (F5 w))} (.ref s.heap.objs.size) "set":=⟨_,gS,rfl⟩
   have m7:=F.called_set.init.lookup
   have m8:=F.called_set.init.bind (.ref s.heap.objs.size)
   repeat (any_goals (first|assumption|wp_step))
   refine DM7 (codeAny_call_builtin (R:=wants (fun r s2=>r=.none/\∃h' tk L,s2={s with heap:=h',toks:=tk}/\TSet P w h' s.heap.objs.size L/\(∀z,z∈L↔z∈zs)/\∀b o,s.heap.get? b=some o->h'.get? b=some o) E) F.called_set.init.plain F.entry_set_init (check_set_init_1 tS ?_)) fun r2 s2 hr2=>?_
   ·obtain⟨⟨oc,od,ot,osl⟩,ho,hc,no,hd⟩:=id hl
    simp only at hc hd
    subst hc hd
    have ho':(s.heap.push (L6 (F5 w))).get? l=some {cls:=.type "tuple",dict:=od,data:=.seq items.toArray no,slots:=osl}:=CU8 _ ho
    have n1:=YI
    have n2:=AC6
    have n3:(Value.type "tuple"==Value.type "dict")=false:=by decide
    have l1:(s.heap.push (L6 (F5 w))).IsTuple l items.toArray:=⟨_,ho',rfl,no,rfl⟩
    have lS:l<s.heap.objs.size:=CV9 ho
    unfold DF3.«set.__init__» noKeywords DQ4
    generalize hPI:pyIter=PI
    wp_walk
    subst hPI
    refine DP7 l1 ?_
    refine CU6 (wpAny_runValue ?_)
    have h3:A.in1.in1.in1.handled=none:=by simp[hh]
    have nI:l≠(s.heap.push (L6 (F5 w))).objs.size:=by rw[DD2];exact CX3 (DP6 lS)
    have nS:s.heap.objs.size∉[(s.heap.push (L6 (F5 w))).objs.size,l]:=by
     rw[DD2]
     simp only[CV0,CU9,or_false,not_or]
     exact⟨CX3 (Nat.lt_succ_self _),DL9 lS⟩
    refine YO ((Walks.tuple h3 _ l nI items.toArray).toS) nS (zs:=zs) (by simp[hi]) (fun i v _ hx=>hv i v (by simpa using hx)) (by simpa[hi] using hb) _ 0 _ [] rfl (DC3 _) ⟨⟨_,CW0 _ rfl,rfl,rfl⟩,l1.push _⟩ (IE (CU8 _ gS)) (fun z=>by simp) fun s' L mv T mem=>?_
    obtain⟨h',g',d',tk',os'⟩:=s'
    obtain rfl:g'=s.gens:=mv.gens
    obtain rfl:d'=s.drawn:=mv.drawn
    obtain rfl:os'=s.os:=mv.os
    show wpAny _ _ _ _ _ _
    refine CU7 ?_
    show wpAny _ _ (ret Value.none) _ _ _
    refine CU7 ⟨rfl,h',tk',L,rfl,T,mem,fun b o e=>?_⟩
    have hb1:=CV9 e
    refine mv.heap b o ?_ (CU8 _ (CU8 _ e))
    simp only[CV0,CU9,or_false,not_or,DD2]
    exact⟨CX3 hb1,CX3 (DP6 hb1)⟩
   ·cases r2 with
    | error e=>exact hr2
    | ok fl2 =>
     cases fl2 with
     | next=>exact hr2.elim
     | brk=>exact hr2.elim
     | cont=>exact hr2.elim
     | ret v =>
      obtain⟨rfl,h',tk,L,rfl,T,mem,kp⟩:=hr2
      repeat (any_goals (first|assumption|wp_step))
      exact q h' tk L T mem kp
end
end TSt
namespace TSt
open PySem
theorem slot_si_next:Slot "set_iterator" "__next__" "set_iterator.__next__" :=
 .of (owner:="set_iterator") (n:="__next__") (by rw[typeLookup_type,builtinLookup_eq_fast];kernel_rfl) (by decide +kernel) (by decide +kernel) (by decide +kernel) (by first|exact .inl (by decide +kernel)|exact .inr (by decide +kernel)) (by rw[DQ1];kernel_rfl)
theorem Q6:entryFor table "set_iterator.__next__"=some DF3.«set_iterator.__next__»:=entryFor_of_fast (by kernel_rfl)
theorem S7 (a:Value):argsOk "set_iterator.__next__" ⟨[a],[]⟩:=by unfold argsOk;kernel_rfl
def SetAt (h:Heap)(a:Addr)(es:Array (Int×Value))(ep:Nat)(t:DI4):Prop:=∃o,h.get? a=some o/\o.data=.set es ep t/\t.fits es.size=true
abbrev O7 (first:Value)(i:Nat)(a:Addr)(n ep:Nat):Obj:={cls:=.type "set_iterator",data:=.fields #[first,.int i 0,.ref a,.int n 0,.int ep 0]}
section
variable {P:DA0}{w:World}{A:DD3}{E:Value->CV4->Prop}{s:CV4}{I a pl:Addr}{es:Array (Int×Value)}{ep i p slot nx:Nat}{t:DI4}{x:Value}{hs:Int}{ps:Array Value}{Q:Option Value->CV4->Prop}
theorem AV5 {first:Value}{h:Heap}(hI:h.get? I=some (O7 first i a es.size ep)):(h.update I (CY8 (·.setIfInBounds 1 (DM6 ((i:Int)+1))))).get? I=some (O7 first (i+1) a es.size ep):=by
 rw[CZ4 _ hI rfl]
 rfl
theorem BU1 (hI:s.heap.get? I=some (O7 (.ref pl) i a es.size ep))(hS:SetAt s.heap a es ep t)(hT:s.heap.IsTuple pl ps)(hp:ps[i]?=some (.int (p:Nat) 0))(hx:es[p]?=some (hs,x))
  (q:∀h',h'.get? I=some (O7 (.ref pl) (i+1) a es.size ep)->DD0 I s.heap h'->Q (some x) {s with heap:=h'}):wpAny (model P w) A (DP8 (.ref I)) Q E s:=by
 have ti:s.TypeIs (.ref I) "set_iterator":=⟨_,hI,rfl⟩
 obtain⟨o,ho,hd,hf⟩:=id hS
 unfold DP8
 refine CU6 (DN6 (CZ7 (name:=DJ4 "__next__") ti slot_si_next (DC7 slot_si_next ti Q6 ?_ (S7 _))))
 unfold DF3.«set_iterator.__next__»
 refine CU6 (DF8 (show slotArgs "__next__" 0 ⟨[.ref I],[]⟩=pure (.ref I,[]) from rfl) ?_)
 dsimp only
 refine CU6 (wpAny_fieldsOf hI rfl ?_)
 dsimp only
 refine CU6 (DE9 ho hd hf ?_)
 rw[if_neg (by simp)]
 simp only[DA6]
 obtain⟨ol,hol,_,nl,hdl⟩:=hT
 refine CU6 (DE7 hol hdl ?_)
 dsimp only
 rw[hp]
 dsimp only
 unfold setNextDrawn
 refine CU6 (CU6 (CY7 ho hd hf ?_))
 dsimp only
 rw[if_neg (by simp),DA6,hx]
 dsimp only
 exact CU7 (CU6 (DC6 hI rfl (by simp) (CU7 ⟨x,rfl,CU7 (q _ (AV5 hI) (DA5 ..))⟩)))
theorem BQ4 {h1:Heap}(hh:A.handled=none)(hk:DN2 I s.heap h1)(q:∀h',DN2 I s.heap h'->Q none {s with heap:=h'}) :
  wpAny (model P w) A.in1 (do
   let e <-newExc (.type "StopIteration") []
   raiseNew e:Sem PySem.Fin) (fun fin s'=>∃v,fin=Fin.done (Flow.ret v)/\wpAny (model P w) A (pure (some v)) Q E s') (fun e s'=>wpAny (model P w) A (do if <-isInstance e (.type "StopIteration") then pure none else throw e) Q E s') {s with heap:=h1}:=by
 refine CU6 ?_
 simp only[newExc,newTuple]
 refine CU6 (CX5 ?_ (by size_fits))
 refine CU6 (m:=firstArgMember _ _) (DF8 (a:=Value.none) (by first|rfl|(simp only[firstArgMember];rfl)) (CX5 ?_ (by size_fits)))
 simp only[raiseNew]
 refine CU6 (wpAny_handled ?_)
 rw[show A.in1.handled=none from hh]
 refine CU6 (CU7 (wpAny_throw ?_))
 refine CU6 (DJ7 (T:="StopIteration") (b:=true) ⟨_,CW0 _ rfl,rfl⟩ isSubtype_stop ?_)
 exact CU7 (q _ ((hk.push _).push _))
theorem CF6 (hh:A.handled=none)(hI:s.heap.get? I=some (O7 (.ref pl) i a es.size ep))(hS:SetAt s.heap a es ep t)(hT:s.heap.IsTuple pl ps)(hp:ps[i]?=none)
  (q:∀h',DN2 I s.heap h'->Q none {s with heap:=h'}):wpAny (model P w) A (DP8 (.ref I)) Q E s:=by
 have ti:s.TypeIs (.ref I) "set_iterator":=⟨_,hI,rfl⟩
 obtain⟨o,ho,hd,hf⟩:=id hS
 unfold DP8
 refine CU6 (DN6 (CZ7 (name:=DJ4 "__next__") ti slot_si_next (DC7 slot_si_next ti Q6 ?_ (S7 _))))
 unfold DF3.«set_iterator.__next__»
 refine CU6 (DF8 (show slotArgs "__next__" 0 ⟨[.ref I],[]⟩=pure (.ref I,[]) from rfl) ?_)
 dsimp only
 refine CU6 (wpAny_fieldsOf hI rfl ?_)
 dsimp only
 refine CU6 (DE9 ho hd hf ?_)
 rw[if_neg (by simp)]
 simp only[DA6]
 obtain⟨ol,hol,_,nl,hdl⟩:=hT
 refine CU6 (DE7 hol hdl ?_)
 dsimp only
 rw[hp]
 dsimp only
 have g1:(s.heap.update I (CY8 (·.setIfInBounds 0 (DM6 0)))).get? I=some (O7 (.int 0 0) i a es.size ep):=by
  rw[CZ4 _ hI rfl];rfl
 refine CU6 (DC6 hI rfl (by simp) ?_)
 refine CU6 (DC6 g1 rfl (by simp) ?_)
 have sb:DD0 I s.heap ((s.heap.update I (CY8 (·.setIfInBounds 0 (DM6 0)))).update I (CY8 (·.setIfInBounds 2 Value.none))):=(DA5 ..).trans (DA5 ..)
 refine BQ4 (s:=s) hh sb.extBut q
theorem AV9 (hI:s.heap.get? I=some (O7 (.int (slot:Nat) 0) i a es.size ep))(hS:SetAt s.heap a es ep t)(hn:∀{A E} {Q:Option (Value×Nat)->CV4->Prop},Q (some (x,nx)) s->wpAny (model P w) A (setNext a slot i ep) Q E s)
  (q:∀h',h'.get? I=some (O7 (.int (nx:Nat) 0) (i+1) a es.size ep)->DD0 I s.heap h'->Q (some x) {s with heap:=h'}):wpAny (model P w) A (DP8 (.ref I)) Q E s:=by
 have ti:s.TypeIs (.ref I) "set_iterator":=⟨_,hI,rfl⟩
 obtain⟨o,ho,hd,hf⟩:=id hS
 unfold DP8
 refine CU6 (DN6 (CZ7 (name:=DJ4 "__next__") ti slot_si_next (DC7 slot_si_next ti Q6 ?_ (S7 _))))
 unfold DF3.«set_iterator.__next__»
 refine CU6 (DF8 (show slotArgs "__next__" 0 ⟨[.ref I],[]⟩=pure (.ref I,[]) from rfl) ?_)
 dsimp only
 refine CU6 (wpAny_fieldsOf hI rfl ?_)
 dsimp only
 refine CU6 (DE9 ho hd hf ?_)
 rw[if_neg (by simp)]
 simp only[DA6]
 refine CU6 (hn ?_)
 dsimp only
 have g1:(s.heap.update I (CY8 (·.setIfInBounds 0 (DM6 nx)))).get? I=some (O7 (.int (nx:Nat) 0) i a es.size ep):=by
  rw[CZ4 _ hI rfl];rfl
 exact CU6 (DC6 hI rfl (by simp) (CU6 (DC6 g1 rfl (by simp) (CU7 ⟨x,rfl,CU7 (q _ (AV5 g1) ((DA5 ..).trans (DA5 ..)))⟩))))
theorem AS4 (hh:A.handled=none)(hI:s.heap.get? I=some (O7 (.int (slot:Nat) 0) i a es.size ep))(hS:SetAt s.heap a es ep t)(hn:∀{A E} {Q:Option (Value×Nat)->CV4->Prop},Q none s->wpAny (model P w) A (setNext a slot i ep) Q E s)
  (q:∀h',DN2 I s.heap h'->Q none {s with heap:=h'}):wpAny (model P w) A (DP8 (.ref I)) Q E s:=by
 have ti:s.TypeIs (.ref I) "set_iterator":=⟨_,hI,rfl⟩
 obtain⟨o,ho,hd,hf⟩:=id hS
 unfold DP8
 refine CU6 (DN6 (CZ7 (name:=DJ4 "__next__") ti slot_si_next (DC7 slot_si_next ti Q6 ?_ (S7 _))))
 unfold DF3.«set_iterator.__next__»
 refine CU6 (DF8 (show slotArgs "__next__" 0 ⟨[.ref I],[]⟩=pure (.ref I,[]) from rfl) ?_)
 dsimp only
 refine CU6 (wpAny_fieldsOf hI rfl ?_)
 dsimp only
 refine CU6 (DE9 ho hd hf ?_)
 rw[if_neg (by simp)]
 simp only[DA6]
 refine CU6 (hn ?_)
 dsimp only
 exact CU6 (DC6 hI rfl (by simp) (BQ4 hh (DA5 ..).extBut q))
end
theorem AQ {α:Type}:∀{l:List α} {i:Nat} {x:α},l[i]?=some x->DA9 (x::l.eraseIdx i) l
 | y::l,0,x,e=>by
  cases e
  exact .refl _
 | y::l,i+1,x,e=>by
  have:=AQ (l:=l) (i:=i) (x:=x) (by simpa using e)
  exact(List.Perm.swap y x _).trans (this.cons y)
theorem AI2 {α:Type}(nxt:Nat->Nat):∀(n k:Nat) (l:List α) (out:Array α),l.length=n->DA9 (pickOrder.go nxt n k l out).toList (out.toList++l)
 | 0,k,l,out,e=>by
  rw[List.length_eq_zero_iff.mp e,DF7]
  exact .refl _
 | n+1,k,l,out,e=>by
  have hi:nxt k % l.length<l.length:=Nat.mod_lt _ (by lia)
  obtain⟨x,hx⟩:∃x,l[nxt k % l.length]?=some x:=⟨_,CX2 hi⟩
  unfold pickOrder.go
  rw[hx]
  dsimp only
  refine(AI2 nxt n (k+1) _ _ (by rw[DH8 hi];lia)).trans ?_
  rw[Array.toList_push,DP0]
  exact(AQ hx).append_left _
theorem JK (nxt:Nat->Nat)(xs:Array α):DA9 (DO5 nxt xs).toList xs.toList:=AI2 nxt xs.size 0 xs.toList #[] (by simp)
section
variable {P:DA0}{w:World}{A:DD3}{E:Value->CV4->Prop}
theorem ZF {M:Model}{src:Source}{Q:Nat->CV4->Prop}(hn:n≠0)(q:∀i d,i<n->Q i {s with drawn:=d}):wpAny M A (choose src n) Q E s:=fun Γ p _=>by
 show Sem.wp M Γ (.choose src n _) _ _ p s
 rw[Sem.wp_choose]
 exact⟨hn,q _ _ (Nat.mod_lt _ (Nat.pos_of_ne_zero hn))⟩
theorem GC {M:Model}{α:Type}:∀{n:Nat} {l:List α} {s:CV4} {Q:List α->CV4->Prop},l.length=n->(∀l' d,DA9 l' l->Q l' {s with drawn:=d})->wpAny M A (drawOrder n l) Q E s
 | 0,l,s,Q,e,q=>by
  have:=q [] s.drawn (by rw[List.length_eq_zero_iff.mp e])
  unfold drawOrder
  exact CU7 this
 | n+1,[],s,Q,e,q=>by cases e
 | n+1,x::l,s,Q,e,q=>by
  unfold drawOrder
  refine CU6 (ZF (by simp) fun i d hi=>?_)
  rw[CX2 hi]
  dsimp only
  refine CU6 (GC (by rw[DH8 hi];lia) fun l' d' hp=>CU7 ?_)
  exact q _ d' ((hp.cons _).trans (AQ (CX2 hi)))
end
theorem MG:entryFor table "set.__iter__"=some DF3.«frozenset.__iter__»:=entryFor_alias (id':="frozenset.__iter__") (by kernel_rfl) rfl (by decide +kernel) (by kernel_rfl)
theorem IO:Slot "set_iterator" "__iter__" "set_iterator.__iter__" :=
 .of (owner:="set_iterator") (n:="__iter__") (by rw[typeLookup_type,builtinLookup_eq_fast];kernel_rfl) (by decide +kernel) (by decide +kernel) (by decide +kernel) (by first|exact .inl (by decide +kernel)|exact .inr (by decide +kernel)) (by rw[DQ1];kernel_rfl)
theorem OR:entryFor table "set_iterator.__iter__"=some DF3.«dict_keyiterator.__iter__»:=entryFor_alias (id':="dict_keyiterator.__iter__") (by kernel_rfl) rfl (by decide +kernel) (by kernel_rfl)
theorem RV (a:Value):argsOk "set_iterator.__iter__" ⟨[a],[]⟩:=by unfold argsOk;kernel_rfl
section
variable {P:DA0}{w:World}{A:DD3}{E:Value->CV4->Prop}{I a pl:Addr}{es:Array (Int×Value)}{ep:Nat}{t:DI4}
def StD (I a pl:Addr)(es:Array (Int×Value))(ep:Nat)(t:DI4)(ps:Array Value)(i:Nat)(s:CV4):Prop:=s.heap.get? I=some (O7 (.ref pl) i a es.size ep)/\SetAt s.heap a es ep t/\s.heap.IsTuple pl ps
theorem SetAt.at' {h:Heap}(x:SetAt h a es ep t)(k:∀o,h.get? a=some o->h'.get? a=some o):SetAt h' a es ep t:=by
 obtain⟨o,g,r⟩:=x
 exact⟨o,k o g,r⟩
theorem UU (g:s.heap.get? I=some o)(c:o.cls=.type "set_iterator")(q:Q (.ref I) s):wpAny (model P w) A (pyIter (.ref I)) Q E s:=by
 have ti:s.TypeIs (.ref I) "set_iterator":=⟨_,g,c⟩
 refine wpAny_pyIter_slot ti IO (DC7 IO ti OR ?_ (RV _))
 exact CU7 ⟨_,rfl,"set_iterator",_,ti,slot_si_next.lookup,q⟩
theorem CQ7 (hh:A.handled=none)(hIa:a≠I)(hIp:pl≠I){ps:List Nat}(hlt:∀p∈ps,p<es.size) :
  WalksS P w A I [I,a,pl] [I] (fun x y=>y=x) ps.length (fun i v=>(ps.map fun p=>(es.getD p (0,.none)).2)[i]?=some v) (StD I a pl es ep t (ps.map fun(p:Nat)=>DM6 p).toArray) where
 sub:=fun b hb=>by simp at hb;simp[hb]
 grefl:=fun _=>rfl
 gtrans:=fun _ _ _ x y=>y.trans x
 frame:=fun i s h' tk st _ k=>⟨k I (by simp) _ st.1,st.2.1.at' fun o e=>k a (by simp) o e,st.2.2.at fun o e=>k pl (by simp) o e⟩
 item:=fun i s Q E hi st q=>by
  obtain⟨p,hp⟩:∃p,ps[i]?=some p:=⟨_,CX2 hi⟩
  have hl:=hlt p (DA1 hp)
  refine BU1 st.1 st.2.1 st.2.2 (p:=p) (hs:=es[p].1) (x:=es[p].2) (by simp[hp,DM6]) (by simp[hl]) fun h' g sb=>?_
  refine q _ _ (by simp[hp,Array.getD,hl]) ⟨g,st.2.1.at' fun o e=>(sb.2 a hIa).trans e,st.2.2.at fun o e=>(sb.2 pl hIp).trans e⟩ ⟨fun b o hb e=>(sb.2 b (by simpa using hb)).trans e,rfl,rfl,rfl,CW1 _⟩
 done:=fun s Q E st q=>by
  refine CF6 hh st.1 st.2.1 st.2.2 (by simp) fun h' x=>?_
  exact q _ ⟨fun b o hb e=>x b o (by simpa using hb) e,rfl,rfl,rfl,CW1 _⟩
 self:=fun i s Q E st q=>UU st.1 rfl q
def StB (I a:Addr)(es:Array (Int×Value))(ep:Nat)(t:DI4)(i:Nat)(s:CV4):Prop:=s.heap.get? I=some (O7 (.int (0:Nat) 0) i a es.size ep)/\SetAt s.heap a es ep t
theorem BP3 {slot:Nat}(hb:w.params.followText "set-order"=true)(hS:SetAt s.heap a es ep t){Q:Option (Value×Nat)->CV4->Prop}
  (q:Q (((DO5 (w.params.setOrder a ep) es)[i]?).map fun e=>(e.2,slot)) s):wpAny (model P w) A (setNext a slot i ep) Q E s:=by
 obtain⟨o,ho,hd,hf⟩:=hS
 unfold setNext
 refine CU6 (CY7 ho hd hf ?_)
 dsimp only
 unfold DO0
 refine CU6 (CU6 (DC8 (CU7 ?_)))
 show wpAny _ _ (if w.params.followText "set-order"=true then _ else _) _ _ _
 rw[if_pos hb,if_neg (by simp)]
 unfold setWalk
 refine CU6 (CU6 (CY7 ho hd hf ?_))
 dsimp only
 unfold DO0
 refine CU6 (CU6 (DC8 (CU7 ?_)))
 show wpAny _ _ (if w.params.followText "set-order"=true then _ else _) _ _ _
 rw[if_pos hb]
 exact CU6 (DC8 (CU7 (CU7 q)))
theorem CQ6 (hh:A.handled=none)(hIa:a≠I)(hb:w.params.followText "set-order"=true) :
  WalksS P w A I [I,a] [I] (fun x y=>y=x) (DO5 (w.params.setOrder a ep) es).size (fun i v=>((DO5 (w.params.setOrder a ep) es).toList.map (·.2))[i]?=some v) (StB I a es ep t) where
 sub:=fun b hb=>by simp at hb;simp[hb]
 grefl:=fun _=>rfl
 gtrans:=fun _ _ _ x y=>y.trans x
 frame:=fun i s h' tk st _ k=>⟨k I (by simp) _ st.1,st.2.at' fun o e=>k a (by simp) o e⟩
 item:=fun i s Q E hi st q=>by
  generalize hW:DO5 (w.params.setOrder a ep) es=W at hi q
  refine AV9 st.1 st.2 (nx:=0) (x:=W[i].2) (fun{A E Q} y=>BP3 hb st.2 (by rw[hW,DI1 hi];exact y)) fun h' g sb=>?_
  exact q _ _ (by simp[hi]) ⟨g,st.2.at' fun o e=>(sb.2 a hIa).trans e⟩ ⟨fun b o hb e=>(sb.2 b (by simpa using hb)).trans e,rfl,rfl,rfl,CW1 _⟩
 done:=fun s Q E st q=>by
  generalize hW:DO5 (w.params.setOrder a ep) es=W at st
  refine AS4 hh st.1 st.2 (fun{A E Q} y=>BP3 hb st.2 (by rw[hW,DK3 (CW1 _)];exact y)) fun h' x=>?_
  exact q _ ⟨fun b o hb e=>x b o (by simpa using hb) e,rfl,rfl,rfl,CW1 _⟩
 self:=fun i s Q E st q=>UU st.1 rfl q
end
theorem NC:∀{x:Array α},x.size=1->∃y,x=#[y]
 | ⟨[y]⟩,_=>⟨y,rfl⟩
section
variable {P:DA0}{w:World}{A:DD3}{E:Value->CV4->Prop}{I a pl:Addr}{es:Array (Int×Value)}{ep:Nat}{t:DI4}
theorem AV8 {slot:Nat}(hb:w.params.followText "set-order"=false)(h1:es.size<=1)(ld:t.led=true)(hS:SetAt s.heap a es ep t){Q:Option (Value×Nat)->CV4->Prop}
  (q:Q (match es[SetTable.below t.place slot]?,t.place[SetTable.below t.place slot]? with|some (_,x),some j=>some (x,j+1)|_,_=>none) s):wpAny (model P w) A (setNext a slot i ep) Q E s:=by
 obtain⟨o,ho,hd,hf⟩:=hS
 unfold setNext
 refine CU6 (CY7 ho hd hf ?_)
 dsimp only
 unfold DO0
 refine CU6 (CU6 (DC8 (CU7 ?_)))
 show wpAny _ _ (if w.params.followText "set-order"=true then _ else _) _ _ _
 rw[if_neg (by rw[hb];exact CV5)]
 show wpAny _ _ (if (!t.plain && decide (es.size>1))=true then _ else _) _ _ _
 rw[if_neg (by rw[decide_eq_false (show¬es.size>1 by lia),DI2];exact CV5)]
 refine CU6 (m:=if (!t.led && !es.isEmpty)=true then _ else _) ?_
 rw[if_neg (by rw[ld];exact CV5)]
 exact CU7 (CU7 q)
def StU (I a:Addr)(es:Array (Int×Value))(ep:Nat)(t:DI4)(i:Nat)(s:CV4):Prop :=
 ((i=0/\s.heap.get? I=some (O7 (.int (0:Nat) 0) 0 a es.size ep))\/(i=1/\es.size=1/\s.heap.get? I=some (O7 (.int ((t.place.getD 0 0+1:Nat):Int) 0) 1 a es.size ep)))/\SetAt s.heap a es ep t
theorem StU.it (x:StU I a es ep t i s):∃o,s.heap.get? I=some o/\o.cls=.type "set_iterator":=by
 rcases x.1 with⟨_,g⟩|⟨_,_,g⟩
 ·exact⟨_,g,rfl⟩
 ·exact⟨_,g,rfl⟩
theorem RE (j:Nat):SetTable.below #[j] 0=0/\SetTable.below #[j] (j+1)=1:=by
 unfold SetTable.below SetTable.below.go
 simp[SetTable.below.go]
theorem CQ8 (hh:A.handled=none)(hIa:a≠I)(hb:w.params.followText "set-order"=false)(h1:es.size<=1)(ld:t.led=true)(hf:t.fits es.size=true) :
  WalksS P w A I [I,a] [I] (fun x y=>y=x) es.size (fun i v=>(es.toList.map (·.2))[i]?=some v) (StU I a es ep t) where
 sub:=fun b hb=>by simp at hb;simp[hb]
 grefl:=fun _=>rfl
 gtrans:=fun _ _ _ x y=>y.trans x
 frame:=fun i s h' tk st _ k=>⟨st.1.imp (fun y=>⟨y.1,k I (by simp) _ y.2⟩) fun y=>⟨y.1,y.2.1,k I (by simp) _ y.2.2⟩,st.2.at' fun o e=>k a (by simp) o e⟩
 item:=fun i s Q E hi st q=>by
  have e1:es.size=1:=by lia
  have pz:t.place.size=1:=by
   unfold DI9 at hf
   simp only[CX9,beq_iff_eq] at hf
   rw[hf.1,e1]
  obtain⟨j,ej⟩:=NC pz
  obtain⟨⟨hs,x⟩,ex⟩:=NC e1
  rcases st.1 with⟨rfl,g⟩|⟨rfl,_,_⟩
  ·refine AV9 g st.2 (nx:=j+1) (x:=x) (fun{A E Q} y=>AV8 hb h1 ld st.2 (by rw[ej,(RE j).1,ex];exact y)) fun h' g' sb=>?_
   refine q _ _ (by rw[ex];rfl) ⟨.inr ⟨rfl,e1,by rw[ej];exact g'⟩,st.2.at' fun o e=>(sb.2 a hIa).trans e⟩ ⟨fun b o hb e=>(sb.2 b (by simpa using hb)).trans e,rfl,rfl,rfl,CW1 _⟩
  ·lia
 done:=fun s Q E st q=>by
  have fin:∀h',DN2 I s.heap h'->Q none {s with heap:=h'}:=fun h' x=>q _ ⟨fun b o hb e=>x b o (by simpa using hb) e,rfl,rfl,rfl,CW1 _⟩
  rcases st.1 with⟨e0,g⟩|⟨_,e1,g⟩
  ·refine AS4 hh g st.2 (fun{A E Q} y=>AV8 hb h1 ld st.2 ?_) fin
   rw[DK3 (by lia)]
   exact y
  ·have pz:t.place.size=1:=by
    unfold DI9 at hf
    simp only[CX9,beq_iff_eq] at hf
    rw[hf.1,e1]
   obtain⟨j,ej⟩:=NC pz
   refine AS4 hh g st.2 (fun{A E Q} y=>AV8 hb h1 ld st.2 ?_) fin
   rw[ej,show((#[j]:Array Nat).getD 0 0+1)=j+1 from rfl,(RE j).2,DK3 (by lia)]
   exact y
 self:=fun i s Q E st q=>by
  obtain⟨o,g,c⟩:=st.it
  exact UU g c q
end
section
variable {P:DA0}{w:World}{A:DD3}{E:Value->CV4->Prop}{I a pl:Addr}{L:List Str}
theorem BR1 (es:Array (Int×Value)):(CV7 es.size).map (fun p=>(es.getD p (0,.none)).2)=es.toList.map (·.2):=by
 apply List.ext_getElem
 ·simp
 ·intro i h1 h2
  simp at h1
  simp[Array.getD,h1]
def Walk (P:DA0)(w:World)(L:List Str)(a:Addr)(s s1:CV4)(I:Addr):Prop:=∃(fp:List Addr) (St:Nat->CV4->Prop) (vs:List Value),
 (∀b o,s.heap.get? b=some o->s1.heap.get? b=some o)/\s1.gens=s.gens/\s1.os=s.os/\s1.toks=s.toks /\
 (∀A:DD3,A.handled=none->WalksS P w A I fp [I] (fun x y=>y=x) vs.length (fun i v=>vs[i]?=some v) St)/\St 0 s1/\(∀b∈fp,b<s1.heap.objs.size/\(b=a\/s.heap.get? b=none))/\I∈fp/\s.heap.get? I=none/\DA9 (vs.map tx) L/\∀v∈vs,∃t,v=.str (tx v) t
set_option maxHeartbeats 1000000 in
theorem AU8 (T:TSet P w s.heap a L)(q:∀s1 I,Walk P w L a s s1 I->Q (.ref I) s1):wpAny (model P w) A (pyIter (.ref a)) Q E s:=by
 obtain⟨o,es,ep,t,g,x,d,el,rfl,nd,b,f,pz,ld⟩:=T
 have tS:s.TypeIs (.ref a) "set":=⟨_,g,x.1⟩
 have la:a<s.heap.objs.size:=CV9 g
 have txs:∀v∈es.toList.map (fun e:Int×Value=>e.2),∃t,v=.str (tx v) t:=fun v hv=>by
  obtain⟨e,he,rfl⟩:=DQ6.mp hv
  obtain⟨t,r⟩:=DF9 (YN el he).1
  exact⟨t,r⟩
 have mm:(es.toList.map (fun e:Int×Value=>e.2)).map tx=es.toList.map fun e=>tx e.2:=by rw[DA8];rfl
 refine wpAny_pyIter_slot tS F.slot_set_iter (DC7 F.slot_set_iter tS MG ?_ (F.args_set_iter_1 _))
 unfold DF3.«frozenset.__iter__»
 refine CU6 (DF8 (show Builtin.Frozenset.slot0 "__iter__" ⟨[.ref a],[]⟩=pure a from rfl) ?_)
 unfold Builtin.Frozenset.sizeOf
 refine CU6 (CU6 (DE9 g d f (CU7 ?_)))
 unfold setDrawn
 refine CU6 (CU6 (CY7 g d f ?_))
 dsimp only
 unfold DO0
 refine CU6 (CU6 (DC8 (CU7 (CU7 ?_))))
 show wpAny _ _ (if (!(w.params.followText "set-order") && (!t.plain && decide (es.size>1)))=true then _ else _) _ _ _
 cases hb:w.params.followText "set-order" with
 | true =>
  rw[if_neg (by simp)]
  refine CU6 (CU7 ?_)
  refine CU6 (DI3 g d f ?_)
  refine CU6 (CX5 ?_ (by size_fits))
  have gI:(s.heap.push (O7 (.int (0:Nat) 0) 0 a es.size ep)).get? s.heap.objs.size=some (O7 (.int (0:Nat) 0) 0 a es.size ep):=CW0 _ rfl
  refine CU7 ⟨_,rfl,"set_iterator",_,⟨_,gI,rfl⟩,slot_si_next.lookup,q _ s.heap.objs.size ⟨[s.heap.objs.size,a],StB s.heap.objs.size a es ep t,(DO5 (w.params.setOrder a ep) es).toList.map (·.2),fun b o e=>CU8 _ e,rfl,rfl,rfl,fun A hh=>?_,⟨gI,⟨o,CU8 _ g,d,f⟩⟩,fun b hb=>?_,by simp,DA4 (CW1 _),?_,fun v hv=>?_⟩⟩
  ·have W:=CQ6 (P:=P) (ep:=ep) (t:=t) (es:=es) (I:=s.heap.objs.size) hh (CX3 la) hb
   rw[show((DO5 (w.params.setOrder a ep) es).toList.map (·.2)).length=(DO5 (w.params.setOrder a ep) es).size by simp]
   exact W
  ·rw[DD2]
   simp only[CV0,CU9,or_false] at hb
   rcases hb with rfl|rfl
   ·exact⟨by lia,.inr (DA4 (CW1 _))⟩
   ·exact⟨by lia,.inl rfl⟩
  ·rw[<-mm]
   exact((JK (w.params.setOrder a ep) es).map _).map _
  ·refine txs v ?_
   obtain⟨e,he,rfl⟩:=DQ6.mp hv
   exact DQ6.mpr ⟨e,(JK _ es).mem_iff.mp he,rfl⟩
 | false =>
  have hl:t.led=true:=by rw[ld];unfold F5;rw[hb];rfl
  by_cases hz:es.size>1
  ·have hp:t.plain=false:=by
    cases e:t.plain with
    | false=>rfl
    | true=>have:=pz e;lia
   rw[if_pos (by rw[hp,decide_eq_true hz];rfl)]
   refine CU6 (GC (CZ1) fun ps dr pm=>?_)
   have pl:ps.length=es.size:=by rw[pm.length_eq,CZ1]
   unfold newTuple
   refine CU6 (CX5 ?_ ?_)
   ·let tp:Obj:={cls:=.type "tuple",data:=.seq (ps.map fun(p:Nat)=>DM6 p).toArray}
    have g1:(s.heap.push tp).get? a=some o:=CU8 _ g
    have gt:(s.heap.push tp).get? s.heap.objs.size=some tp:=CW0 _ rfl
    refine CU6 (DI3 g1 d f ?_)
    refine CU6 (CX5 ?_ (by size_fits))
    let it:Obj:=O7 (.ref s.heap.objs.size) 0 a es.size ep
    have sI:(s.heap.push tp).objs.size=s.heap.objs.size+1:=DD2 ..
    have gI:((s.heap.push tp).push it).get? (s.heap.objs.size+1)=some it:=by
     have y:((s.heap.push tp).push it).get? (s.heap.push tp).objs.size=some it:=CW0 _ rfl
     rwa [sI] at y
    have old:∀b o,s.heap.get? b=some o->((s.heap.push tp).push it).get? b=some o:=fun b o e=>CU8 _ (CU8 _ e)
    have gt2:((s.heap.push tp).push it).get? s.heap.objs.size=some tp:=CU8 _ gt
    show wpAny _ _ (ret (.ref (s.heap.push tp).objs.size)) _ _ _
    rw[sI]
    have vp:(ps.map fun p=>(es.getD p (0,.none)).2).Perm (es.toList.map fun e=>e.2):=by
     have y:=pm.map fun p=>(es.getD p (0,.none)).2
     rwa [BR1 es] at y
    refine CU7 ⟨_,rfl,"set_iterator",_,⟨_,gI,rfl⟩,slot_si_next.lookup,q _ (s.heap.objs.size+1) ⟨[s.heap.objs.size+1,a,s.heap.objs.size],StD (s.heap.objs.size+1) a s.heap.objs.size es ep t (ps.map fun(p:Nat)=>DM6 p).toArray,ps.map fun p=>(es.getD p (0,.none)).2,old,rfl,rfl,rfl,fun A hh=>?_,⟨gI,⟨o,old _ _ g,d,f⟩,⟨tp,gt2,rfl,_,rfl⟩⟩,fun b hb=>?_,by simp,DA4 (Nat.le_succ _),?_,fun v hv=>txs v (vp.mem_iff.mp hv)⟩⟩
    ·have W:=CQ7 (P:=P) (w:=w) (ep:=ep) (t:=t) (es:=es) (I:=s.heap.objs.size+1) (a:=a) (pl:=s.heap.objs.size) hh (by lia) (by lia) (ps:=ps) fun p hp=>List.mem_range.mp (pm.mem_iff.mp hp)
     rw[CV1]
     exact W
    ·rw[DD2,sI]
     simp only[CV0,CU9,or_false] at hb
     rcases hb with rfl|rfl|rfl
     ·exact⟨by lia,.inr (DA4 (Nat.le_succ _))⟩
     ·exact⟨by lia,.inl rfl⟩
     ·exact⟨by lia,.inr (DA4 (CW1 _))⟩
    ·rw[<-mm]
     exact vp.map _
   ·have sz:=DG7 b
    show(ps.map fun(p:Nat)=>DM6 p).toArray.size<=CV8
    rw[CW7,CV1,pl]
    exact sz
  ·rw[if_neg (by rw[decide_eq_false hz];simp)]
   refine CU6 (CU7 ?_)
   refine CU6 (DI3 g d f ?_)
   refine CU6 (CX5 ?_ (by size_fits))
   have gI:(s.heap.push (O7 (.int (0:Nat) 0) 0 a es.size ep)).get? s.heap.objs.size=some (O7 (.int (0:Nat) 0) 0 a es.size ep):=CW0 _ rfl
   refine CU7 ⟨_,rfl,"set_iterator",_,⟨_,gI,rfl⟩,slot_si_next.lookup,q _ s.heap.objs.size ⟨[s.heap.objs.size,a],StU s.heap.objs.size a es ep t,es.toList.map (·.2),fun b o e=>CU8 _ e,rfl,rfl,rfl,fun A hh=>?_,⟨.inl ⟨rfl,gI⟩,⟨o,CU8 _ g,d,f⟩⟩,fun b hb=>?_,by simp,DA4 (CW1 _),by rw[mm],txs⟩⟩
   ·have W:=CQ8 (P:=P) (ep:=ep) (t:=t) (es:=es) (I:=s.heap.objs.size) hh (CX3 la) hb (by lia) hl f
    rw[show(es.toList.map (fun e:Int×Value=>e.2)).length=es.size by simp]
    exact W
   ·rw[DD2]
    simp only[CV0,CU9,or_false] at hb
    rcases hb with rfl|rfl
    ·exact⟨by lia,.inr (DA4 (CW1 _))⟩
    ·exact⟨by lia,.inl rfl⟩
end
theorem BH7:typeLookup (.type "set") "__len__"=pure (some (.builtin "set.__len__")):=by rw[typeLookup_type,builtinLookup_eq_fast];kernel_rfl
theorem set_set:isSubtype (.type "set") (.type "set")=pure true:=by rw[DQ1];kernel_rfl
section
variable {P:DA0}{w:World}{A:DD3}{E:Value->CV4->Prop}{I a pl:Addr}{L:List Str}
theorem WA {Q:List Value->CV4->Prop}(hh:A.handled=none)(T:TSet P w s.heap a L)
  (q:∀s' vs,(∀b o,s.heap.get? b=some o->s'.heap.get? b=some o)->s'.gens=s.gens->s'.os=s.os->DA9 (vs.map tx) L->(∀v∈vs,∃t,v=.str (tx v) t)->Q vs s'):wpAny (model P w) A (collect (.ref a)) Q E s:=by
 have bL:=T.len
 obtain⟨o,es,ep,t,g,x,_⟩:=id T
 have la:a<s.heap.objs.size:=CV9 g
 unfold collect
 refine CU6 (wpAny_runValue (DL2 PySem.F.entry_proto_collect ?_))
 rw[DM0 PySem.F.plain_proto_collect _]
 unfold DF3.«proto.collect»
 dsimp only
 refine CU6 (CX5 ?_)
 refine CU7 ⟨plainId_quiet PySem.F.plain_list_iadd _,DL2 PySem.F.entry_list_iadd ?_⟩
 rw[DM0 PySem.F.plain_list_iadd _]
 let l0:Obj:={cls:=.type "list",data:=.seq ([]:List Value).toArray}
 have gl:(s.heap.push l0).get? s.heap.objs.size=some l0:=CW0 _ rfl
 have T1:TSet P w (s.heap.push l0) a L:=T.keep fun o e=>CU8 _ e
 have tS:Shared.TypeIs {s with heap:=s.heap.push l0} (.ref a) "set":=⟨_,CU8 _ g,x.1⟩
 show wpAny _ A.in1 (Builtin.List.listExtendWith (.ref s.heap.objs.size) (.ref a) (.ref s.heap.objs.size)) _ _ {s with heap:=s.heap.push l0}
 unfold Builtin.List.listExtendWith
 refine CU6 (DM4 tS ?_)
 rw[if_neg (by
  have:Builtin.List.listSameRef (.ref s.heap.objs.size) (.ref a)=false:=by simp[Builtin.List.listSameRef];lia
  rw[this];decide)]
 refine CU6 (AU8 T1 fun s1 I W=>?_)
 obtain⟨fp,St,vs,old,eg,eo,et,wk,st0,hfp,hI,hnI,pm,txs⟩:=W
 have g1:s1.heap.get? a=some o:=old _ _ (CU8 _ g)
 have tS1:s1.TypeIs (.ref a) "set":=⟨_,g1,x.1⟩
 have gl1:=old _ _ gl
 refine CU6 (DA2 ?_)
 unfold Builtin.List.listLengthHint
 refine CU6 (wpAny_specialOf tS1 BH7 ?_)
 dsimp only
 rw[show splitId "set.__len__"=some ("set","__len__") from by decide +kernel]
 dsimp only
 refine CU6 (DJ7 tS1 set_set ?_)
 rw[if_neg (by decide)]
 rw[if_pos (by decide +kernel)]
 refine CU6 (DM4 tS1 ?_)
 dsimp only
 refine CU7 ?_
 rw[if_pos (by decide +kernel)]
 refine CU6 (DH2 ?_)
 unfold Builtin.List.listTouch Builtin.List.listUpdate
 dsimp only
 have nd:∀b∈fp,b≠s.heap.objs.size:=fun b hb e=>by
  rcases(hfp b hb).2 with z|z
  ·subst e;lia
  ·rw[e] at z
   have:=gl.symm.trans z
   cases this
 have u1:=CZ4 (DH7 (·.push .none)) gl1 rfl
 have u2:=CZ4 (DH7 (·.pop)) u1 rfl
 refine CU6 (CU6 (wpAny_updateSeq gl1 rfl ?_))
 refine wpAny_updateSeq u1 rfl ?_
 have oth:∀b,b≠s.heap.objs.size->((s1.heap.update s.heap.objs.size (DH7 (·.push .none))).update s.heap.objs.size (DH7 (·.pop))).get? b=s1.heap.get? b:=fun b hb=>by
  rw[CY6 _ _ (Ne.symm hb),CY6 _ _ (Ne.symm hb)]
 have W:=wk A.in1 (by simp[hh])
 have hn:vs.length<=CV8:=by
  have:=pm.length_eq
  rw[CV1] at this
  have:=DG7 bL
  lia
 have st1:=W.frame 0 s1 ((s1.heap.update s.heap.objs.size (DH7 (·.push .none))).update s.heap.objs.size (DH7 (·.pop))) s1.toks st0 (CW1 _) fun b hb o e=>(oth b (nd b hb)).trans e
 refine CU7 ⟨plainId_quiet PySem.F.plain_extend_loop _,codeAny_extend_loopS W hn _ (fun z=>nd _ z rfl) _ vs.length 0 _ #[] _ rfl (DC3 _) st1 u2 (ItemsOf.nil _) fun s' acc c mv gS it=>?_⟩
 refine CU6 (wpAny_load gS (CU7 ?_))
 have e:acc.toList=vs:=by
  apply List.ext_getElem?
  intro j
  by_cases hj:j<acc.size
  ·rw[DL5,DI1 hj,it.2 j acc[j] (DI1 hj)]
  ·rw[DL5,DK3 (by lia),DQ8 (by have:=it.1;lia)]
 rw[e]
 refine q s' vs (fun b ob hb=>?_) (mv.gens.trans eg) (mv.os.trans eo) pm txs
 have lb:=CV9 hb
 have nb:b≠s.heap.objs.size:=CX3 lb
 have h1:=old b ob (CU8 _ hb)
 refine mv.heap b ob ?_ ((oth b nb).trans h1)
 simp only[CV0,CU9,or_false,not_or]
 refine⟨nb,fun z=>?_⟩
 subst z
 have:=(CU8 l0 hb).symm.trans hnI
 cases this
end
end TSt
namespace TSt
open PySem PyProof.Rows
theorem EV:∀{vs:List Value},(∀v∈vs,∃t,v=.str (tx v) t)->StrsAre vs (vs.map tx)
 | [],_=>.nil
 | v::vs,h=>by
  obtain⟨t,e⟩:=h v CW4
  have r:=EV (vs:=vs) fun u hu=>h u (CW5 _ hu)
  rw[CW9,e]
  exact .cons _ _ r
section
variable {P:DA0}{w:World}{A:DD3}{E:Value->CV4->Prop}{a:Addr}{L:List Str}
theorem AC2 (hh:A.handled=none)(T:TSet P w s.heap a L)(h64:L.length<64)
  (q:∀(s':CV4) (l n:Nat) (vs:List Value) (zs:List Str),(∀b o,s.heap.get? b=some o->s'.heap.get? b=some o)->s'.gens=s.gens->s'.os=s.os->s.heap.get? l=none->s'.heap.get? l=some (seqObj "list" vs.toArray n)->StrsAre vs zs->zs.Perm L->sortedS zs=true->Q (.ref l) s') :
  wpAny (model P w) A (call (.builtin "sorted") [.ref a]) Q E s:=by
 refine Calls.call_function_entry kind_sorted plain_sorted entry_sorted (args_sorted1 _) ?_
 unfold DF3.«sorted»
 refine CU6 (m:=checkCount "sorted" 1 1 _) (CU7 (CU6 (WA (by simp[hh]) T fun s1 vs old eg eo pm txs=>?_)))
 have hS:=EV txs
 have lv:vs.length<64:=by
  have:=pm.length_eq
  rw[CV1] at this;lia
 refine CU6 (wpAny_newList ?_ (by rw[CX1];lia))
 have g0:(s1.heap.push (seqObj "list" vs.toArray 0)).get? s1.heap.objs.size=some (seqObj "list" vs.toArray 0):=CW0 _ rfl
 have lt:∀b o,s.heap.get? b=some o->b<s1.heap.objs.size:=fun b o e=>CV9 (old b o e)
 refine CU6 (DA2 (DC7 slot_list_sort ⟨_,g0,rfl⟩ entry_list_sort (list_sort_treeK strKind_oneLt g0 hS.keysOf (fun v1 v2 r e=>keyKind_strs (by rw[<-e];exact hS)) lv fun st pe so=>⟨_,rfl,?_⟩) (args_list_sort _)))
 obtain⟨zs,z1,z2,z3⟩:=sorted_out_str hS pe so
 obtain⟨n,gn⟩:=sortedHeap_at (out:=(arrOf st).map (·.2)) g0
 refine CU7 ⟨_,rfl,q _ s1.heap.objs.size n ((arrOf st).map (·.2)).toList zs (fun b o e=>?_) eg eo ?_ (by rw[Array.toArray_toList];exact gn) z1 (z2.trans pm) z3⟩
 ·have hl:=lt b o e
  rw[sortedHeap_old (CX3 hl) (by rw[DD2];lia)]
  exact CU8 _ (old b o e)
 ·cases e:s.heap.get? s1.heap.objs.size with
  | none=>rfl
  | some o=>exact absurd (lt _ _ e) (DC9 _)
end
end TSt
namespace TSt
open PySem
section
variable {P:DA0}{w:World}{A:DD3}{E:Value->CV4->Prop}{a b r:Addr}{L M:List Str}{s:CV4}{o:Obj}{es:Array (Int×Value)}{ep:Nat}{t:DI4}
theorem XY {Q:Array (Int×Value)->CV4->Prop}(g:s.heap.get? a=some o)(d:o.data=.set es ep t)(f:t.fits es.size=true)(pz:t.plain=true->es.size=0)(ld:t.led=F5 w)
  (q:∀W dr,DA9 W.toList es.toList->Q W {s with drawn:=dr}):wpAny (model P w) A (setWalk a) Q E s:=by
 unfold setWalk
 refine CU6 (CY7 g d f ?_)
 dsimp only
 unfold DO0
 refine CU6 (CU6 (DC8 (CU7 ?_)))
 show wpAny _ _ (if w.params.followText "set-order"=true then _ else _) _ _ _
 cases hb:w.params.followText "set-order" with
 | true =>
  rw[if_pos rfl]
  exact CU6 (DC8 (CU7 (q _ s.drawn (JK _ es))))
 | false =>
  rw[if_neg CV5]
  show wpAny _ _ (if (!t.plain && decide (es.size>1))=true then _ else _) _ _ _
  by_cases hz:es.size>1
  ·have hp:t.plain=false:=by
    cases e:t.plain with
    | false=>rfl
    | true=>have:=pz e;lia
   rw[if_pos (by rw[hp,decide_eq_true hz];rfl)]
   refine CU6 (GC (by simp) fun l dr pm=>CU7 (q _ dr ?_))
   simpa using pm
  ·rw[if_neg (by rw[decide_eq_false hz,DI2];exact CV5)]
   refine CU6 (m:=if (!t.led && decide (es.size>1))=true then _ else _) ?_
   rw[if_neg (by rw[decide_eq_false hz,DI2];exact CV5)]
   exact CU7 (CU7 (q _ s.drawn (.refl _)))
theorem XD {l:List Addr}{Q:Bool->CV4->Prop}(h:∀x∈l,∃Z,TSet P w s.heap x Z)(q:Q true s):wpAny (model P w) A (setsQuiet l) Q E s:=by
 unfold setsQuiet
 refine CU6 (wpAny_forIn_list _ (fun rest st s'=>st=(none,())/\s'=s/\∀x∈rest,∃Z,TSet P w s.heap x Z) _ ?_ ?_ l _ ⟨rfl,rfl,h⟩)
 ·rintro x rest st s' ⟨rfl,rfl,hx⟩
  obtain⟨Z,o,es,ep,t,g,_,d,el,_,_,_,f,_⟩:=hx x CW4
  refine CU6 (DE9 g d f ?_)
  refine CU6 (wpAny_forIn_array' _ (fun rest st s1=>st=(none,())/\s1=s'/\∀e∈rest,e∈es.toList) _ ?_ ?_ es _ ⟨rfl,rfl,fun e he=>he⟩)
  ·rintro⟨k,v⟩ rest' st s1 ⟨rfl,rfl,he⟩
   obtain⟨tk,e⟩:=DF9 (YN el (he _ CW4)).1
   dsimp only at e ⊢
   rw[e]
   exact CU7 ⟨rfl,rfl,fun y hy=>he y (CW5 _ hy)⟩
  ·rintro st s1 ⟨rfl,rfl,_⟩
   exact CU7 ⟨rfl,rfl,fun y hy=>hx y (CW5 _ hy)⟩
 ·rintro st s' ⟨rfl,rfl,_⟩
  exact CU7 q
theorem AP7 {Q:Array (Int×Value)->CV4->Prop}{T0:List Addr}(g:s.heap.get? a=some o)(x:o.ExactSet)(d:o.data=.set es ep t)(el:ElemsOf (strKind P w) es.toList)(nd:(es.toList.map fun e=>tx e.2).Nodup)(bd:es.size<DE3)(f:t.fits es.size=true)(pz:t.plain=true->es.size=0)(ld:t.led=F5 w)
  (hT:∀y∈T0,∃Z,TSet P w s.heap y Z) (hr:TSet P w s.heap r []) (har:a≠r)
  (q:∀W (s':CV4),DA9 W.toList es.toList->(∀c,c≠r->s'.heap.get? c=s.heap.get? c)->TSet P w s'.heap r []->s'.gens=s.gens->s'.os=s.os->Q W s'):wpAny (model P w) A (setWalkUnseen a T0 (some r)) Q E s:=by
 unfold setWalkUnseen
 refine CU6 (CY7 g d f ?_)
 dsimp only
 unfold DO0
 refine CU6 (CU6 (DC8 (CU7 ?_)))
 split
 ·exact XY g d f pz ld fun W dr pm=>q W _ pm (fun _ _=>rfl) hr rfl rfl
 ·refine CU6 (XD (fun y hy=>?_) ?_)
  ·rcases CV0.mp hy with rfl|hy
   ·exact⟨_,o,es,ep,t,g,x,d,el,rfl,nd,bd,f,pz,ld⟩
   ·exact hT y hy
  ·rw[if_neg (by decide)]
   refine CU6 (DH2 ?_)
   obtain⟨o2,es2,ep2,t2,g2,x2,d2,el2,e2,nd2,b2,f2,pz2,ld2⟩:=id hr
   have z2:es2=#[]:=by
    have:es2.toList=[]:=List.map_eq_nil_iff.mp e2
    exact Array.toList_eq_nil_iff.mp this
   subst z2
   refine CU6 (CY7 g2 d2 f2 ?_)
   dsimp only
   split
   ·refine CU6 (DG5 g2 d2 ?_ (DC3 _))
    have lw:(t2.led && t.led)=F5 w:=by rw[ld2,ld,Bool.and_self]
    obtain⟨g3,_⟩:=SetOf_store (knd:=strKind P w) (S':=fun _=>false) (es':=#[]) (t':={t2 with led:=t2.led && t.led,plain:=t2.plain && t.plain}) g2 x2 d2 el2 (fun k=>by simp) b2 f2
    exact CU7 (q es _ (.refl _) (fun c hc=>CY6 _ _ (Ne.symm hc)) ⟨_,#[],_,_,g3,x2,rfl,el2,rfl,List.nodup_nil,b2,f2,fun _=>rfl,lw⟩ rfl rfl)
   ·exact CU7 (q es _ (.refl _) (fun _ _=>rfl) hr rfl rfl)
end
end TSt
namespace TSt
open PySem PySem.Builtin
section
variable {P:DA0}{w:World}{A:DD3}{E:Value->CV4->Prop}{a b r:Addr}{L M:List Str}{s:CV4}{nm:String}
theorem TSet.ty (T:TSet P w s.heap a L):s.TypeIs (.ref a) "set":=by
 obtain⟨o,es,ep,t,g,x,_⟩:=T
 exact⟨o,g,x.1⟩
theorem HH {Q:Bool->CV4->Prop}(T:TSet P w s.heap a L)(q:Q true s):wpAny (model P w) A (Frozenset.isAnySet (.ref a)) Q E s:=by
 unfold Frozenset.isAnySet
 exact CU6 (DJ7 T.ty set_set (CU7 q))
theorem AC {Q:Nat->CV4->Prop}(T:TSet P w s.heap a L)(q:Q L.length s):wpAny (model P w) A (Frozenset.sizeOf a) Q E s:=by
 obtain⟨o,es,ep,t,g,x,d,el,rfl,nd,bd,f,pz,ld⟩:=T
 rw[CV1,CW2] at q
 unfold Frozenset.sizeOf
 exact CU6 (DE9 g d f (CU7 q))
theorem AT0 {tk:Tok}{Q:Option Nat->CV4->Prop}(T:TSet P w s.heap a L)(q:∀r:Option Nat,r.isSome=decide (z∈L)->Q r s):wpAny (model P w) A (setFind a (.str z tk) ((strKind P w).hash z)) Q E s :=
 wpAny_setFind_of (by simp[strKind,DM2]) rfl T.setOf q
theorem AH4 (q:Q (.ref s.heap.objs.size) {s with heap:=s.heap.push (L6 (F5 w))}):wpAny (model P w) A (newSet (.type "set")) Q E s:=by
 unfold newSet DO0
 refine CU6 (CU6 (DC8 (CU7 ?_)))
 dsimp only
 exact CX5 q
theorem CE3 {es:Array (Int×Value)}{ep:Nat}{Q:Unit->CV4->Prop}(g:s.heap.get? a=some o)(d:o.data=.set es ep t)(f:t.fits es.size=true)(q:Q () s):wpAny (model P w) A (Frozenset.unchanged nm a ep) Q E s:=by
 unfold Frozenset.unchanged
 refine CU6 (DI3 g d f ?_)
 rw[if_neg (by simp)]
 exact CU7 q
set_option maxHeartbeats 1000000 in
theorem CF4 (Ta:TSet P w s.heap a L)(Tb:TSet P w s.heap b M)(hz:¬L.length / 4>M.length)(h64:L.length<64)
  (q:∀(s':CV4) r Z,(∀c o,s.heap.get? c=some o->s'.heap.get? c=some o)->s'.gens=s.gens->s'.os=s.os->s.heap.get? r=none->TSet P w s'.heap r Z->(∀z,z∈Z↔z∈L/\z∉M)->Q (.ref r) s'):wpAny (model P w) A (Frozenset.difference nm a (.ref b)) Q E s:=by
 unfold Frozenset.difference
 dsimp only
 refine CU6 (HH Tb ?_)
 rw[if_neg (by decide)]
 refine CU6 (m:=Frozenset.addrOf (.ref b)) (CU7 ?_)
 rw[if_neg (by simp),if_pos rfl]
 refine CU6 (AC Tb (CU6 (AC Ta ?_)))
 rw[if_neg hz]
 unfold Frozenset.baseOf
 refine CU6 (CU6 (DJ7 Ta.ty set_set (CU7 ?_)))
 rw[if_pos rfl]
 refine CU6 (AH4 ?_)
 refine CU6 (m:=Frozenset.addrOf (.ref s.heap.objs.size)) (CU7 ?_)
 have up:∀c o,s.heap.get? c=some o->(s.heap.push (L6 (F5 w))).get? c=some o:=fun c o e=>CU8 _ e
 have Ta1:TSet P w (s.heap.push (L6 (F5 w))) a L:=Ta.keep fun o e=>up _ _ e
 have Tb1:TSet P w (s.heap.push (L6 (F5 w))) b M:=Tb.keep fun o e=>up _ _ e
 have Tr1:TSet P w (s.heap.push (L6 (F5 w))) s.heap.objs.size []:=IE (CW0 _ rfl)
 have la:a<s.heap.objs.size:=by obtain⟨_,_,_,_,g,_⟩:=Ta;exact CV9 g
 have lb:b<s.heap.objs.size:=by obtain⟨_,_,_,_,g,_⟩:=Tb;exact CV9 g
 obtain⟨o,es,ep,t,g,x,d,el,eL,nd,bd,f,pz,ld⟩:=id Ta1
 refine CU6 (DI3 g d f ?_)
 refine CU6 (DA2 ?_)
 rw[if_pos rfl]
 refine CU6 (AP7 (T0:=[b,s.heap.objs.size]) g x d el (eL ▸ nd) bd f pz ld (fun y hy=>?_) Tr1 (CX3 la) fun W s1 pm oth Tr2 eg eo=>?_)
 ·simp only[CV0,CU9,or_false] at hy
  rcases hy with rfl|rfl
  ·exact⟨_,Tb1⟩
  ·exact⟨_,Tr1⟩
 refine CU6 (wpAny_forIn_array' _ (fun rest _ s'=>∃dn Z,W.toList=dn++rest/\TSet P w s'.heap s.heap.objs.size Z/\(∀z,z∈Z↔z∈dn.map (fun e=>tx e.2)/\z∉M)/\(∀c,c≠s.heap.objs.size->s'.heap.get? c=(s.heap.push (L6 (F5 w))).get? c)/\s'.gens=s.gens/\s'.os=s.os) _ ?_ ?_ W _ ⟨[],[],rfl,Tr2,fun z=>by simp,oth,eg,eo⟩)
 ·rintro⟨k,v⟩ rest _ s' ⟨dn,Z,eW,Tr,mem,oth',eg',eo'⟩
  have hin:(k,v)∈es.toList:=pm.mem_iff.mp (by rw[eW];simp)
  obtain⟨i1,i2⟩:=YN el hin
  obtain⟨tk,ev⟩:=DF9 i1
  dsimp only at ev i2 ⊢
  generalize tx v=z at ev i2
  subst ev i2
  have Tb':TSet P w s'.heap b M:=Tb1.keep fun o e=>(oth' b (CX3 lb)).trans e
  have ga:s'.heap.get? a=some o:=(oth' a (CX3 la)).trans g
  have zL:Z.length<64:=by
   obtain⟨_,_,_,_,_,_,_,_,_,ndZ,_⟩:=id Tr
   have:=AH2 ndZ fun y hy=>by
    have y1:=((mem y).mp hy).1
    have:y∈W.toList.map fun e=>tx e.2:=by rw[eW,CX6];exact DE0 _ y1
    have y2:=(pm.map fun e:Int×Value=>tx e.2).mem_iff.mp this
    rw[eL] at y2
    exact y2
   lia
  refine CU6 (DA2 ?_)
  rw[if_pos rfl]
  refine CU6 (AT0 Tb' fun fr hf=>CU6 (CU7 ?_))
  rw[hf]
  have go:∀(s2:CV4) Z2,s2.heap.get? a=some o->TSet P w s2.heap s.heap.objs.size Z2->(∀y,y∈Z2↔(y∈dn.map (fun e=>tx e.2)\/y=z)/\y∉M)->(∀c,c≠s.heap.objs.size->s2.heap.get? c=(s.heap.push (L6 (F5 w))).get? c)->s2.gens=s.gens->s2.os=s.os ->
    ∃dn' Z',W.toList=dn'++rest/\TSet P w s2.heap s.heap.objs.size Z'/\(∀y,y∈Z'↔y∈dn'.map (fun e=>tx e.2)/\y∉M)/\(∀c,c≠s.heap.objs.size->s2.heap.get? c=(s.heap.push (L6 (F5 w))).get? c)/\s2.gens=s.gens/\s2.os=s.os:=fun s2 Z2 _ h2 h3 h4 h5 h6 =>
   ⟨dn++[((strKind P w).hash z,Value.str z tk)],Z2,by rw[eW,DP0];rfl,h2,fun y=>by rw[h3 y,CX6,CZ9];simp[tx],h4,h5,h6⟩
  by_cases hm:z∈M
  ·rw[decide_eq_true hm,if_neg (by decide)]
   refine CU7 (CU6 (CE3 ga d f (CU7 (go s' Z ga Tr (fun y=>?_) oth' eg' eo'))))
   rw[mem y]
   exact⟨fun q=>⟨.inl q.1,q.2⟩,fun q=>⟨q.1.resolve_right fun e=>q.2 (e ▸ hm),q.2⟩⟩
  ·rw[decide_eq_false hm,if_pos (by decide)]
   refine CU6 (VQ Tr (by have:DE3=4096:=rfl;lia) fun h2 Z2 sb T2 p2=>CU7 (CU6 ?_))
   have g2:h2.get? a=some o:=(sb.2 a (CX3 la)).trans ga
   refine CE3 (s:={s' with heap:=h2}) g2 d f (CU7 (go {s' with heap:=h2} Z2 g2 T2 (fun y=>?_) (fun c hc=>(sb.2 c hc).trans (oth' c hc)) eg' eo'))
   rw[p2.mem_iff]
   split
   ·rename_i hz2
    rw[mem y]
    refine⟨fun q=>⟨.inl q.1,q.2⟩,fun q=>⟨?_,q.2⟩⟩
    rcases q.1 with q1|rfl
    ·exact q1
    ·exact((mem y).mp hz2).1
   ·rw[CZ9,DF1,mem y]
    constructor
    ·rintro(q|rfl)
     ·exact⟨.inl q.1,q.2⟩
     ·exact⟨.inr rfl,hm⟩
    ·rintro⟨q1|rfl,q2⟩
     ·exact .inl ⟨q1,q2⟩
     ·exact .inr rfl
 ·rintro _ s' ⟨dn,Z,eW,Tr,mem,oth',eg',eo'⟩
  rw[DF7] at eW
  refine CU7 (CU7 (q s' s.heap.objs.size Z (fun c oc e=>?_) eg' eo' (DA4 (CW1 _)) Tr fun z=>?_))
  ·rw[oth' c (CX3 (CV9 e))];exact up c oc e
  ·rw[mem z,<-eW,(pm.map fun e:Int×Value=>tx e.2).mem_iff,eL]
end
end TSt
namespace TSt
open PySem SetTable
def lp (mask:Nat):Nat->Nat×Nat->Nat×Nat
 | 0,x=>x
 | n+1,x=>lp mask n (leap mask x.1 x.2)
theorem AV2 (mask:Nat):∀(m n:Nat) (x:Nat×Nat),lp mask (m+n) x=lp mask n (lp mask m x)
 | 0,n,x=>by rw[Nat.zero_add];rfl
 | m+1,n,x=>by
  rw[show m+1+n=(m+n)+1 by lia]
  exact AV2 mask m n _
theorem AV3 (mask:Nat):∀(m:Nat) (x:Nat×Nat),(lp mask m x).2=x.2 / 32^m
 | 0,x=>by simp[lp]
 | m+1,x=>by
  show(lp mask m (leap mask x.1 x.2)).2=_
  rw[AV3 mask m]
  show x.2 / 32 / 32^m=_
  rw[Nat.div_div_eq_div_mul,Nat.pow_succ,Nat.mul_comm]
theorem BP2 (mask:Nat):∀(m:Nat) (x:Nat×Nat),x.1<mask+1->(lp mask m x).1<mask+1
 | 0,x,h=>h
 | m+1,x,h=>BP2 mask m _ (Nat.mod_lt _ (Nat.succ_pos _))
def orb (mask:Nat):Nat->Nat->List Nat
 | 0,i=>[i]
 | n+1,i=>i::orb mask n ((i*5+1) % (mask+1))
theorem AW8 (mask:Nat):∀(n i j:Nat),j∈orb mask n i->∃m,m<=n/\(lp mask m (i,0)).1=j
 | 0,i,j,h=>⟨0,CW1 _,(DF1.mp h).symm⟩
 | n+1,i,j,h=>by
  rcases CV0.mp h with rfl|h
  ·exact⟨0,DC3 _,rfl⟩
  ·obtain⟨m,hm,e⟩:=AW8 mask n _ j h
   refine⟨m+1,by lia,?_⟩
   show(lp mask m ((i*5+1+0 / 32) % (mask+1),0 / 32)).1=j
   rw[Nat.zero_div,Nat.add_zero]
   exact e
def cov (mask:Nat):Bool:=(CV7 (mask+1)).all fun i=>(CV7 (mask+1)).all fun j=>(orb mask mask i).contains j
theorem BO8:cov 7=true:=by decide +kernel
theorem AR2:cov 15=true:=by decide +kernel
theorem AR3:cov 31=true:=by decide +kernel
theorem AR4:cov 63=true:=by decide +kernel
theorem BG1 (c:cov mask=true)(hi:i<mask+1)(hj:j<mask+1):∃m,m<=mask/\(lp mask m (i,0)).1=j:=by
 have h:=CX4.mp (CX4.mp c i (List.mem_range.mpr hi)) j (List.mem_range.mpr hj)
 exact AW8 mask mask i j (by simpa using h)
theorem QU {mask:Nat}{ow:Array (Option Nat)}:∀(n i p:Nat),layClean.free mask ow n i p=none->∀m,m<n->(ow.getD (lp mask m (i,p)).1 (some 0)).isNone=false
 | 0,i,p,h,m,hm=>absurd hm (Nat.not_lt_zero _)
 | n+1,i,p,h,m,hm=>by
  unfold layClean.free at h
  split at h
  ·cases h
  ·rename_i hf
   cases m with
   | zero =>
    have hr:i<=runEnd mask i:=by unfold runEnd;split<;>lia
    have:=List.find?_eq_none.mp hf 0 (List.mem_range.mpr (by lia))
    rw[Nat.add_zero] at this
    exact Bool.eq_false_iff.mpr this
   | succ m=>exact QU n _ _ h m (by lia)
theorem QV {mask:Nat}{ow:Array (Option Nat)}:∀(n i p j:Nat),layClean.free mask ow n i p=some j->(ow.getD j (some 0)).isNone=true
 | 0,i,p,j,h=>by cases h
 | n+1,i,p,j,h=>by
  unfold layClean.free at h
  split at h
  ·rename_i k hf
   cases h
   have y:=List.find?_some hf
   exact y
  ·exact QV n _ _ j h
theorem ZN {p:Nat}{ow:Array (Option Nat)}(c:cov mask=true)(hi:i<mask+1)(hp:p<2^64)(hj:j<mask+1)(hn:(ow.getD j (some 0)).isNone=true):∃j',layClean.free mask ow (turns mask) i p=some j'/\(ow.getD j' (some 0)).isNone=true:=by
 cases e:layClean.free mask ow (turns mask) i p with
 | some j'=>exact⟨j',rfl,QV _ _ _ _ e⟩
 | none =>
  exfalso
  have h13:(lp mask 13 (i,p)).2=0:=by
   rw[AV3]
   exact Nat.div_eq_of_lt (Nat.lt_trans hp (by decide))
  obtain⟨m,hm,em⟩:=BG1 c (BP2 mask 13 (i,p) hi) hj
  have hx:(lp mask (13+m) (i,p)).1=j:=by
   rw[AV2]
   have:lp mask 13 (i,p)=((lp mask 13 (i,p)).1,0):=Prod.ext rfl h13
   rw[this]
   exact em
  have:=QU _ _ _ e (13+m) (by unfold turns;lia)
  rw[hx,hn] at this
  cases this
theorem XB {n:Nat}:∀{l:List (Option Nat)} {j:Nat},l[j]?=some none->DA9 ((l.set j (some n)).filterMap fun x=>x) (n::l.filterMap fun x=>x)
 | x::l,0,h=>by
  cases h
  exact .refl _
 | x::l,j+1,h=>by
  have ih:=XB (n:=n) (l:=l) (j:=j) (by simpa using h)
  rw[List.set_cons_succ]
  cases x with
  | none=>exact ih
  | some y =>
   show DA9 (y::(l.set j (some n)).filterMap fun x=>x) (n::y::l.filterMap fun x=>x)
   exact(ih.cons y).trans (List.Perm.swap n y _)
theorem RL:∀{l:List (Option Nat)},(l.filterMap fun x=>x).length<l.length->∃j:Nat,l[j]?=some none
 | [],h=>absurd h (DC9 _)
 | none::l,_=>⟨0,rfl⟩
 | some y::l,h=>by
  have h:(y::l.filterMap fun x=>x).length<(some y::l).length:=h
  rw[CV6,CV6] at h
  obtain⟨j,e⟩:=RL (l:=l) (by lia)
  exact⟨j+1,by simpa using e⟩
theorem BF9 (h:Int):bits h<2^64:=by
 unfold bits
 have h1:=DF2 h (show(0:Int)<2^64 by decide)
 have h2:=DH6 h (show(2^64:Int)≠0 by decide)
 have e:((2:Int)^64)=((2^64:Nat):Int):=by decide
 rw[e] at h1 h2 ⊢
 lia
abbrev stp (mask:Nat)(acc:Option (Array (Option Nat)×Nat))(h:Int):Option (Array (Option Nat)×Nat):=do
 let (ow,k) <-acc
 let j <-layClean.free mask ow (turns mask) (bits h % (mask+1)) (bits h)
 pure (ow.setIfInBounds j (some k),k+1)
theorem BC8 {ow:Array (Option Nat)}(c:cov mask=true)(hs:ow.size=mask+1)(hp:DA9 (ow.toList.filterMap fun x=>x) (CV7 n))(hn:n<mask+1)(h:Int) :
  ∃ow',stp mask (some (ow,n)) h=some (ow',n+1)/\ow'.size=mask+1/\DA9 (ow'.toList.filterMap fun x=>x) (CV7 (n+1)):=by
 obtain⟨j,hj⟩:=RL (l:=ow.toList) (by rw[hp.length_eq,CZ1,CW2,hs];exact hn)
 have lj:j<mask+1:=by
  rw[<-hs,<-CW2]
  exact(List.getElem?_eq_some_iff.mp hj).1
 rw[DL5] at hj
 obtain⟨j',ef,fn⟩:=ZN (i:=bits h % (mask+1)) (p:=bits h) c (Nat.mod_lt _ (Nat.succ_pos _)) (BF9 h) lj (ow:=ow) (by rw[Array.getD_eq_getD_getElem?,hj];rfl)
 have g':ow[j']?=some none:=by
  rw[Array.getD_eq_getD_getElem?] at fn
  cases e:ow[j']? with
  | none=>rw[e] at fn;cases fn
  | some y =>
   rw[e] at fn
   cases y with
   | none=>rfl
   | some z=>cases fn
 refine⟨ow.setIfInBounds j' (some n),?_,by simp[hs],?_⟩
 ·show(layClean.free mask ow (turns mask) (bits h % (mask+1)) (bits h) >>= _)=_
  rw[ef];rfl
 ·rw[Array.toList_setIfInBounds]
  refine(XB (by rw[DL5];exact g')).trans ?_
  rw[List.range_succ]
  exact(hp.cons n).trans (List.perm_append_singleton n _).symm
theorem fold_all {mask:Nat}(c:cov mask=true):∀(hs:List Int) (n:Nat) (ow:Array (Option Nat)),ow.size=mask+1->DA9 (ow.toList.filterMap fun x=>x) (CV7 n)->n+hs.length<=mask+1 ->
  ∃ow',hs.foldl (stp mask) (some (ow,n))=some (ow',n+hs.length)/\ow'.size=mask+1/\DA9 (ow'.toList.filterMap fun x=>x) (CV7 (n+hs.length))
 | [],n,ow,h1,h2,_=>⟨ow,rfl,h1,h2⟩
 | h::hs,n,ow,h1,h2,h3=>by
  rw[CV6] at h3
  obtain⟨ow1,e1,s1,p1⟩:=BC8 c h1 h2 (by lia) h
  obtain⟨ow2,e2,s2,p2⟩:=fold_all c hs (n+1) ow1 s1 p1 (by lia)
  refine⟨ow2,?_,s2,?_⟩
  ·rw[List.foldl_cons,e1,e2,CV6,show n+1+hs.length=n+(hs.length+1) by lia]
  ·rw[CV6,show n+(hs.length+1)=n+1+hs.length by lia];exact p2
theorem BH8 (ow:Array (Option Nat))(n:Nat)(hs:ow.size=n):((CV7 n).filterMap fun j=>(ow.getD j none).map (j,·)).map (·.2)=ow.toList.filterMap fun x=>x:=by
 have e:ow.toList=(CV7 n).map fun j=>ow.getD j none:=by
  apply List.ext_getElem
  ·simp[hs]
  ·intro i h1 h2
   have:i<ow.size:=by simpa using h1
   simp[Array.getD,this]
 rw[e,List.map_filterMap,List.filterMap_map]
 congr 1
 funext j
 show((ow.getD j none).map (j,·)).map (·.2)=ow.getD j none
 cases ow.getD j none<;>rfl
theorem GG {fg mv:Nat}{led plain:Bool}{hs:Array Int}(c:cov mask=true)(hn:hs.size<=mask) :
  ∃t order,laid mask fg mv led plain hs=some (t,order)/\DA9 order.toList (CV7 hs.size)/\t.mask=mask/\t.place.size=hs.size/\t.dummies=#[]/\t.led=led/\t.plain=plain:=by
 obtain⟨ow,e,sz,pm⟩:=fold_all c hs.toList 0 (Array.replicate (mask+1) none) (by simp) (by simp) (by simp;lia)
 have e2:layClean mask hs=some ow:=by
  unfold layClean
  have:hs.foldl (stp mask) (some (Array.replicate (mask+1) none,0))=some (ow,0+hs.toList.length):=by
   rw[<-Array.foldl_toList];exact e
  exact congrArg (Option.map (·.1)) this
 have lv:=BH8 ow (mask+1) sz
 rw[Nat.zero_add,CW2] at pm
 unfold laid
 rw[e2]
 refine⟨_,_,rfl,?_,rfl,?_,rfl,rfl,rfl⟩
 ·show DA9 ((((CV7 (mask+1)).filterMap fun j=>(ow.getD j none).map (j,·)).map (·.2)).toArray).toList _
  rw[lv];exact pm
 ·show((((CV7 (mask+1)).filterMap fun j=>(ow.getD j none).map (j,·)).map (·.1)).toArray).size=_
  have:=pm.length_eq
  rw[<-lv,CV1,CZ1] at this
  rw[CW7,CV1];exact this
end TSt
namespace TSt
open PySem PySem.Builtin
section
variable {P:DA0}{w:World}{A:DD3}{E:Value->CV4->Prop}{a b r:Addr}{L M:List Str}{s:CV4}{nm:String}{es:Array (Int×Value)}
theorem MT {order:Array Nat}(pm:DA9 order.toList (CV7 es.size)):DA9 (order.filterMap fun i=>es[i]?).toList es.toList/\((order.filterMap fun i=>es[i]?).size != es.size)=false:=by
 have p2:DA9 (order.filterMap fun i=>es[i]?).toList es.toList:=by
  rw[Array.toList_filterMap]
  have y:=pm.filterMap fun i=>es[i]?
  rwa [filterMap_getElem?_range es] at y
 refine⟨p2,?_⟩
 have sz:(order.filterMap fun i=>es[i]?).size=es.size:=by rw[<-CW2,p2.length_eq,CW2]
 rw[sz];simp
structure Bare (w:World)(t:DI4)(n:Nat):Prop where
 pl:t.place=#[]
 dm:t.dummies=#[]
 ld:t.led=F5 w
 cv:cov t.mask=true
 rm:n<=t.mask
theorem Bare.fits (B:Bare w t n):t.fits 0=true:=by
 unfold DI9 DH1
 rw[B.pl,B.dm]
 simp
theorem BB9 {o:Obj}{Q:Unit->CV4->Prop}(h16:n<=16)(g:s.heap.get? r=some (L6 (F5 w)))
  (q:∀(h':Heap) ep t,h'.get? r=some {L6 (F5 w) with data:=.set #[] ep t}->Bare w t n->DD0 r s.heap h'->Q () {s with heap:=h'}):wpAny (model P w) A (setRoomFor r n) Q E s:=by
 have f0:(DG0 0 0 (F5 w)).fits (#[]:Array (Int×Value)).size=true:=by cases F5 w<;>decide
 unfold setRoomFor
 refine CU6 (CY7 g rfl f0 ?_)
 dsimp only
 by_cases h5:n<5
 ·have e:(DG0 0 0 (F5 w)).roomFor n=none:=by
   unfold SetTable.roomFor
   rw[if_neg (by simp[DG0,DH1];lia)]
  rw[e]
  exact CU7 (q s.heap 0 _ g ⟨rfl,rfl,rfl,BO8,by show n<=7;lia⟩ (.refl r _))
 ·have e:(DG0 0 0 (F5 w)).roomFor n=some (n*2):=by
   unfold SetTable.roomFor
   rw[if_pos (by simp[DG0,DH1];lia)]
   simp[DG0]
  rw[e]
  dsimp only
  have mk:∃m,CY2 (n*2)-1=m/\cov m=true/\n<=m/\CY2 (n*2)<=64:=by
   have all:∀k,k<17->5<=k->(CY2 (k*2)-1=15\/CY2 (k*2)-1=31\/CY2 (k*2)-1=63)/\k<=CY2 (k*2)-1/\CY2 (k*2)<=64:=by decide +kernel
   obtain⟨h1,h2,h3⟩:=all n (by lia) (by lia)
   refine⟨_,rfl,?_,h2,h3⟩
   rcases h1 with h|h|h
   ·rw[h];exact AR2
   ·rw[h];exact AR3
   ·rw[h];exact AR4
  obtain⟨m,em,cm,nm,sm⟩:=mk
  unfold setRelay
  refine CU6 (CY7 g rfl f0 ?_)
  dsimp only
  rw[if_neg (by rw[CX1];lia)]
  obtain⟨t,order,e2,pm,k1,k2,k3,k4,k5⟩:=GG (mask:=m) (fg:=0) (mv:=(DG0 0 0 (F5 w)).movedTo m) (led:=F5 w) (plain:=true) (hs:=#[]) cm (DC3 _)
  have e3:(DG0 0 0 (F5 w)).relaid (Array.map (fun y:Int×Value=>y.1) #[]) (n*2)=some (t,order):=by
   show SetTable.laid (CY2 (n*2)-1) _ _ _ _ _=_
   rw[em,Array.map_empty];exact e2
  obtain⟨p',bz⟩:=MT (es:=(#[]:Array (Int×Value))) pm
  refine CU6 (DF8 (a:=(order.filterMap fun i=>(#[]:Array (Int×Value))[i]?,t)) (by rw[e3];exact if_neg (by rw[bz];exact CV5)) ?_)
  generalize (order.filterMap fun i=>(#[]:Array (Int×Value))[i]?)=es' at p'
  obtain rfl:es'=#[]:=by
   have:es'.toList=[]:=p'.eq_nil
   exact Array.toList_eq_nil_iff.mp this
  refine DG5 g rfl ?_ (DC3 _)
  have gn:=CZ4 (Obj.putSet #[] t) g rfl
  refine q _ _ t gn ⟨Array.eq_empty_of_size_eq_zero k2,k3,k4,by rw[k1];exact cm,by rw[k1];exact nm⟩ (DA5 ..)
set_option maxHeartbeats 1000000 in
theorem AR1 (Ta:TSet P w s.heap a L)(h16:L.length<=16)
  (q:∀(s':CV4) r Z,(∀c o,s.heap.get? c=some o->s'.heap.get? c=some o)->s'.gens=s.gens->s'.os=s.os->s.heap.get? r=none->TSet P w s'.heap r Z->DA9 Z L->Q (.ref r) s'):wpAny (model P w) A (Frozenset.copyOf a) Q E s:=by
 unfold Frozenset.copyOf Frozenset.baseOf
 refine CU6 (CU6 (DJ7 Ta.ty set_set (CU7 ?_)))
 rw[if_pos rfl]
 refine CU6 (AH4 ?_)
 refine CU6 (m:=Frozenset.addrOf (.ref s.heap.objs.size)) (CU7 ?_)
 have up:∀c o,s.heap.get? c=some o->(s.heap.push (L6 (F5 w))).get? c=some o:=fun c o e=>CU8 _ e
 have gr:(s.heap.push (L6 (F5 w))).get? s.heap.objs.size=some (L6 (F5 w)):=CW0 _ rfl
 have nr:s.heap.get? s.heap.objs.size=none:=DA4 (CW1 _)
 obtain⟨o,es,ep,t,g,x,d,el,rfl,nd,bd,f,pz,ld⟩:=Ta
 have la:a<s.heap.objs.size:=CV9 g
 have ne:∀c o,s.heap.get? c=some o->c≠s.heap.objs.size:=fun c o e=>CX3 (CV9 e)
 unfold setMerge
 rw[if_neg (by simp;lia)]
 refine CU6 (CU6 (CY7 (up _ _ g) d f ?_))
 dsimp only
 by_cases h0:es=#[]
 ·subst h0
  rw[if_pos (show(#[]:Array (Int×Value)).isEmpty=true from rfl)]
  exact CU7 (CU7 (q _ s.heap.objs.size [] up rfl rfl nr (IE gr) (.refl _)))
 ·rw[if_neg (by simpa using h0)]
  have pl:t.plain=false:=by
   cases e:t.plain with
   | false=>rfl
   | true=>exact absurd (Array.eq_empty_of_size_eq_zero (pz e)) h0
  refine CU6 (BB9 (o:=o) (s:={s with heap:=s.heap.push (L6 (F5 w))}) (by rw[CV1,CW2] at h16;exact h16) gr fun h' ep' ts g' B sb=>?_)
  refine CU6 (CY7 g' rfl B.fits ?_)
  dsimp only
  have keep:∀c oc,s.heap.get? c=some oc->h'.get? c=some oc:=fun c oc e=>(sb.2 c (ne c oc e)).trans (up c oc e)
  have lw:(ts.led && t.led)=F5 w:=by rw[B.ld,ld,Bool.and_self]
  have fin:∀(es2:Array (Int×Value)) (t2:DI4),DA9 es2.toList es.toList->t2.fits es2.size=true->t2.plain=false->t2.led=F5 w->wpAny (model P w) A (storeSet s.heap.objs.size es2 t2) (fun _ s'=>wpAny (model P w) A (pure (Value.ref s.heap.objs.size)) Q E s') E {s with heap:=h'}:=fun es2 t2 p2 f2 l2 k2=>by
   have sz:es2.size=es.size:=by rw[<-CW2,p2.length_eq,CW2]
   have b2:es2.size<DE3:=by rw[sz];exact bd
   have el2:=el.perm p2
   have pm2:=p2.map (fun e:Int×Value=>tx e.2)
   refine DG5 g' rfl (CU7 ?_) (DG7 b2)
   obtain⟨g3,_⟩:=SetOf_store (knd:=strKind P w) (S':=fun k=>decide (k∈es2.toList.map fun e=>tx e.2)) g' ⟨rfl,rfl,rfl⟩ rfl el2 (fun k=>by rw[decide_eq_true_eq,O6 el2]) b2 f2
   exact q _ _ _ (fun c oc e=>(CY6 _ _ (Ne.symm (ne c oc e))).trans (keep c oc e)) rfl rfl nr ⟨_,es2,_,t2,g3,⟨rfl,rfl,rfl⟩,rfl,el2,rfl,AU pm2 nd,b2,f2,fun z=>(by rw[l2] at z;cases z),k2⟩ pm2
  have fill0:ts.fill=0:=by unfold DH1;rw[B.pl,B.dm];rfl
  unfold SetTable.road
  rw[if_neg (by simp[fill0])]
  by_cases hc:(ts.mask==t.mask && t.dummies.isEmpty)=true
  ·rw[if_pos hc]
   dsimp only
   exact fin es _ (.refl _) f (by show(ts.plain && t.plain)=false;rw[pl,DI2]) lw
  ·rw[if_neg hc]
   dsimp only
   have hl:(es.map (·.1)).size<=ts.mask:=by
    have:=B.rm
    rw[DN9]
    simpa using this
   obtain⟨t2,order,e2,pm,k1,k2,k3,k4,k5⟩:=GG (mask:=ts.mask) (fg:=ts.finger) (mv:=ts.moves) (led:=ts.led && t.led) (plain:=ts.plain && t.plain) (hs:=es.map (·.1)) B.cv hl
   rw[DN9] at pm k2
   obtain⟨p',bz⟩:=MT pm
   refine CU6 (DF8 (a:=(order.filterMap fun i=>es[i]?,t2)) (by rw[e2];exact if_neg (by rw[bz];exact CV5)) ?_)
   generalize (order.filterMap fun i=>es[i]?)=es' at p'
   dsimp only
   have sz:es'.size=es.size:=by rw[<-CW2,p'.length_eq,CW2]
   refine fin es' t2 p' ?_ (by rw[k5,pl,DI2]) (k4.trans lw)
   unfold DI9 DH1
   rw[k2,k3,sz,k1]
   rw[DN9] at hl
   simpa using hl
end
section
variable {P:DA0}{w:World}{A:DD3}{E:Value->CV4->Prop}{a b r:Addr}{L M:List Str}{s:CV4}{nm:String}{es:Array (Int×Value)}{o:Obj}{ep:Nat}{t:DI4}{z:Str}{tk:Tok}
theorem AP8 {Q:Array (Int×Value)->CV4->Prop}{T0:List Addr}(g:s.heap.get? a=some o)(x:o.ExactSet)(d:o.data=.set es ep t)(el:ElemsOf (strKind P w) es.toList)(nd:(es.toList.map fun e=>tx e.2).Nodup)(bd:es.size<DE3)(f:t.fits es.size=true)(pz:t.plain=true->es.size=0)(ld:t.led=F5 w)
  (hT:∀y∈T0,∃Z,TSet P w s.heap y Z) (q:∀W dr,DA9 W.toList es.toList->Q W {s with drawn:=dr}):wpAny (model P w) A (setWalkUnseen a T0 none) Q E s:=by
 unfold setWalkUnseen
 refine CU6 (CY7 g d f ?_)
 dsimp only
 unfold DO0
 refine CU6 (CU6 (DC8 (CU7 ?_)))
 split
 ·exact XY g d f pz ld q
 ·refine CU6 (XD (fun y hy=>?_) ?_)
  ·rcases CV0.mp hy with rfl|hy
   ·exact⟨_,o,es,ep,t,g,x,d,el,rfl,nd,bd,f,pz,ld⟩
   ·exact hT y hy
  ·rw[if_neg (by decide)]
   exact CU6 (DH2 (CU7 (q es s.drawn (.refl _))))
theorem MH (xs:Array α)(i:Nat):(DE6 xs i).toList=xs.toList.eraseIdx i:=by
 unfold DE6
 rw[Array.toList_append,Array.toList_extract,Array.toList_extract]
 rw[List.eraseIdx_eq_take_drop_succ]
 simp[List.extract]
 exact DK6 (by simp)
theorem AK8 (f:t.fits n=true)(hi:i<n):(t.drop i).fits (n-1)=true/\(t.drop i).plain=t.plain/\(t.drop i).led=t.led:=by
 unfold DI9 DH1 at f
 simp only[CX9,beq_iff_eq,decide_eq_true_eq] at f
 have hl:i<t.place.size:=by lia
 unfold SetTable.drop
 rw[DI1 hl]
 refine⟨?_,rfl,rfl⟩
 unfold DI9 DH1
 have s1:(DE6 t.place i).size=t.place.size-1:=by
  rw[<-CW2,MH,DH8 (by simpa using hl),CW2]
 have s2:(SetTable.insertAt t.dummies (SetTable.below t.dummies t.place[i]) t.place[i]).size=t.dummies.size+1:=by
  have:=(SetTable.insertAt_perm t.dummies (SetTable.below t.dummies t.place[i]) t.place[i]).length_eq
  rw[CW2,CW2,Array.size_push] at this
  exact this
 simp only[CX9,beq_iff_eq,decide_eq_true_eq]
 rw[s1,s2]
 refine⟨by lia,by lia⟩
set_option maxHeartbeats 1000000 in
theorem SI {Q:Bool->CV4->Prop}(T:TSet P w s.heap a L)
  (q:∀bb h' L',DD0 a s.heap h'->TSet P w h' a L'->(∀y,y∈L'↔y∈L/\y≠z)->Q bb {s with heap:=h'}):wpAny (model P w) A (setDiscardHashed a (.str z tk) ((strKind P w).hash z)) Q E s:=by
 obtain⟨o,es,ep,t,g,x,d,el,rfl,nd,b,f,pl,ld⟩:=T
 have key:(strKind P w).is z (.str z tk)=true:=by simp[strKind,DM2]
 unfold setDiscardHashed setFind setFindIn
 refine CU6 (CU6 (CY7 g d f ?_))
 dsimp only
 rw[if_pos (byScan_of rfl b el)]
 refine CU6 (DH2 (CU6 (wpAny_setScan_of key g d f el ?_)))
 cases fi:es.toList.findIdx? (fun e=>(strKind P w).is z e.2) with
 | none =>
  dsimp only
  have m:z∉es.toList.map fun e=>tx e.2:=fun m=>by
   obtain⟨e,me,i⟩:=(O6 el z).mpr m
   have:=List.findIdx?_eq_none_iff.mp fi e me
   rw[i] at this;cases this
  refine CU7 ?_
  exact CU7 (q false s.heap _ (.refl a _) ⟨o,es,ep,t,g,x,d,el,rfl,nd,b,f,pl,ld⟩ fun y=>⟨fun h=>⟨h,fun e=>m (e ▸ h)⟩,fun h=>h.1⟩)
 | some j =>
  dsimp only
  obtain⟨hj,hp,_⟩:=List.findIdx?_eq_some_iff_getElem.mp fi
  have hj':j<es.size:=by simpa using hj
  refine CU7 ?_
  dsimp only
  refine CU6 (CY7 g d f ?_)
  dsimp only
  rw[Nat.zero_add]
  have er:=MH es j
  have el1:ElemsOf (strKind P w) (DE6 es j).toList:=fun e he=>el e (by rw[er] at he;exact List.mem_of_mem_eraseIdx he)
  have sz:(DE6 es j).size=es.size-1:=by rw[<-CW2,er,DH8 hj,CW2]
  have b1:(DE6 es j).size<DE3:=by rw[sz];lia
  obtain⟨f1,p1,l1⟩:=AK8 f hj'
  have tp:t.plain=false:=by
   cases e:t.plain with
   | false=>rfl
   | true=>have:=pl e;lia
  have mp:DA9 (z::(DE6 es j).toList.map fun e=>tx e.2) (es.toList.map fun e=>tx e.2):=by
   rw[er]
   have:=(AQ (l:=es.toList) (i:=j) (x:=es.toList[j]) (CX2 hj)).map fun e:Int×Value=>tx e.2
   rw[CW9,AU4 hp] at this
   exact this
  have nd1:=mp.nodup_iff.mpr nd
  rw[List.nodup_cons] at nd1
  refine CU6 (DG5 g d ?_ (DG7 b1))
  obtain⟨g3,_⟩:=SetOf_store (knd:=strKind P w) (S':=fun k=>decide (k∈(DE6 es j).toList.map fun e=>tx e.2)) (t':=t.drop j) g x d el1 (fun k=>by rw[decide_eq_true_eq,O6 el1]) b1 (by rw[sz];exact f1)
  refine CU6 (wpAny_point (CU7 (q true _ _ (DA5 ..) ⟨_,_,_,t.drop j,g3,x,rfl,el1,rfl,nd1.2,b1,by rw[sz];exact f1,fun h=>(by rw[p1,tp] at h;cases h),l1.trans ld⟩ fun y=>?_)))
  rw[<-mp.mem_iff,CV0]
  refine⟨fun h=>⟨.inr h,fun e=>nd1.1 (e ▸ h)⟩,fun h=>h.1.resolve_left h.2⟩
end
section
variable {P:DA0}{w:World}{A:DD3}{E:Value->CV4->Prop}{a b r:Addr}{L M:List Str}{s:CV4}{nm:String}{es:Array (Int×Value)}{o:Obj}{ep:Nat}{t:DI4}{z:Str}{tk:Tok}
theorem BE0 {Q:Unit->CV4->Prop}(T:TSet P w s.heap a L)(h15:L.length<=15)
  (q:∀h' L',DD0 a s.heap h'->TSet P w h' a L'->DA9 L' L->Q () {s with heap:=h'}):wpAny (model P w) A (setTidy a) Q E s:=by
 obtain⟨o,es,ep,t,g,x,d,el,rfl,nd,b,f,pl,ld⟩:=T
 unfold setTidy
 refine CU6 (CY7 g d f ?_)
 dsimp only
 split
 ·rw[CV1,CW2] at h15
  have gr:DD7 es.size=es.size*4:=by unfold DD7;rw[if_neg (by lia)]
  rw[gr]
  have mk:∃m,CY2 (es.size*4)-1=m/\cov m=true/\es.size<=m/\CY2 (es.size*4)<=64:=by
   have all:∀k,k<16->(CY2 (k*4)-1=7\/CY2 (k*4)-1=15\/CY2 (k*4)-1=31\/CY2 (k*4)-1=63)/\k<=CY2 (k*4)-1/\CY2 (k*4)<=64:=by decide +kernel
   obtain⟨h1,h2,h3⟩:=all es.size (by lia)
   refine⟨_,rfl,?_,h2,h3⟩
   rcases h1 with h|h|h|h
   ·rw[h];exact BO8
   ·rw[h];exact AR2
   ·rw[h];exact AR3
   ·rw[h];exact AR4
  obtain⟨m,em,cm,nm,sm⟩:=mk
  unfold setRelay
  refine CU6 (CY7 g d f ?_)
  dsimp only
  rw[if_neg (by rw[CX1];lia)]
  obtain⟨t2,order,e2,pm,k1,k2,k3,k4,k5⟩:=GG (mask:=m) (fg:=t.finger) (mv:=t.movedTo m) (led:=t.led) (plain:=t.plain) (hs:=es.map (·.1)) cm (by rw[DN9];exact nm)
  rw[DN9] at pm k2
  have e3:t.relaid (es.map (·.1)) (es.size*4)=some (t2,order):=by
   show SetTable.laid (CY2 (es.size*4)-1) _ _ _ _ _=_
   rw[em];exact e2
  obtain⟨p',bz⟩:=MT pm
  refine CU6 (DF8 (a:=(order.filterMap fun i=>es[i]?,t2)) (by rw[e3];exact if_neg (by rw[bz];exact CV5)) ?_)
  generalize (order.filterMap fun i=>es[i]?)=es' at p'
  dsimp only
  have sz:es'.size=es.size:=by rw[<-CW2,p'.length_eq,CW2]
  have b2:es'.size<DE3:=by rw[sz];exact b
  have el2:=el.perm p'
  have pm2:=p'.map (fun e:Int×Value=>tx e.2)
  have f2:t2.fits es'.size=true:=by
   unfold DI9 DH1
   rw[k2,k3,sz,k1]
   simpa using nm
  refine DG5 g d ?_ (DG7 b2)
  obtain⟨g3,_⟩:=SetOf_store (knd:=strKind P w) (S':=fun k=>decide (k∈es'.toList.map fun e=>tx e.2)) (t':=t2) g x d el2 (fun k=>by rw[decide_eq_true_eq,O6 el2]) b2 f2
  exact q _ _ (DA5 ..) ⟨_,es',_,t2,g3,x,rfl,el2,rfl,AU pm2 nd,b2,f2,fun h=>by rw[k5] at h;rw[sz];exact pl h,k4.trans ld⟩ pm2
 ·exact CU7 (q s.heap _ (.refl a _) ⟨o,es,ep,t,g,x,d,el,rfl,nd,b,f,pl,ld⟩ (.refl _))
set_option maxHeartbeats 1000000 in
theorem AS3 {Q:Unit->CV4->Prop}(Tr:TSet P w s.heap r L)(Tb:TSet P w s.heap b M)(hrb:b≠r)(h15:L.length<=15)(hz:¬M.length / 8>L.length)
  (q:∀(s':CV4) Z,(∀c,c≠r->s'.heap.get? c=s.heap.get? c)->s'.gens=s.gens->s'.os=s.os->TSet P w s'.heap r Z->(∀z,z∈Z↔z∈L/\z∉M)->Q () s'):wpAny (model P w) A (Frozenset.differenceUpdate nm r (.ref b)) Q E s:=by
 unfold Frozenset.differenceUpdate
 rw[if_neg (by simpa using hrb)]
 refine CU6 (HH Tb ?_)
 rw[if_pos rfl]
 refine CU6 (m:=Frozenset.addrOf (.ref b)) (CU7 ?_)
 refine CU6 (AC Tb (CU6 (AC Tr ?_)))
 rw[if_neg hz]
 dsimp only
 obtain⟨o,es,ep,t,g,x,d,el,eM,nd,bd,f,pz,ld⟩:=id Tb
 refine CU6 (DI3 g d f (CU6 (DA2 ?_)))
 refine CU6 (AP8 (T0:=[r]) g x d el (eM ▸ nd) bd f pz ld (fun y hy=>?_) fun W dr pm=>?_)
 ·rw[DF1] at hy
  subst hy
  exact⟨_,Tr⟩
 refine CU6 (wpAny_forIn_array' _ (fun rest _ s'=>∃dn Z,W.toList=dn++rest/\TSet P w s'.heap r Z/\(∀z,z∈Z↔z∈L/\z∉dn.map (fun e=>tx e.2))/\(∀c,c≠r->s'.heap.get? c=s.heap.get? c)/\s'.gens=s.gens/\s'.os=s.os) _ ?_ ?_ W _ ⟨[],L,rfl,Tr,fun z=>by simp,fun _ _=>rfl,rfl,rfl⟩)
 ·rintro⟨k,v⟩ rest _ s' ⟨dn,Z,eW,T',mem,oth,eg,eo⟩
  have hin:(k,v)∈es.toList:=pm.mem_iff.mp (by rw[eW];simp)
  obtain⟨i1,i2⟩:=YN el hin
  obtain⟨tk,ev⟩:=DF9 i1
  dsimp only at ev i2 ⊢
  generalize tx v=z at ev i2
  subst ev i2
  refine CU6 (DA2 (SI T' fun bb h2 Z2 sb T2 m2=>?_))
  have g2:h2.get? b=some o:=(sb.2 b hrb).trans ((oth b hrb).trans g)
  refine CU6 (CE3 (s:={s' with heap:=h2}) g2 d f (CU7 ⟨dn++[((strKind P w).hash z,Value.str z tk)],Z2,by rw[eW,DP0];rfl,T2,fun y=>?_,fun c hc=>(sb.2 c hc).trans (oth c hc),eg,eo⟩))
  rw[m2 y,mem y,CX6,CZ9]
  simp only[CW9,CZ3,DF1,tx,not_or]
  exact⟨fun h=>⟨h.1.1,h.1.2,h.2⟩,fun h=>⟨⟨h.1,h.2.1⟩,h.2.2⟩⟩
 ·rintro _ s' ⟨dn,Z,eW,T',mem,oth,eg,eo⟩
  rw[DF7] at eW
  refine CU7 ?_
  have zl:Z.length<=15:=by
   obtain⟨_,_,_,_,_,_,_,_,_,ndZ,_⟩:=id T'
   exact CY4 (AH2 ndZ fun y hy=>((mem y).mp hy).1) h15
  refine BE0 T' zl fun h2 Z2 sb T2 p2=>q {s' with heap:=h2} Z2 (fun c hc=>(sb.2 c hc).trans (oth c hc)) eg eo T2 fun z=>?_
  rw[p2.mem_iff,mem z,<-eW,(pm.map fun e:Int×Value=>tx e.2).mem_iff,eM]
theorem entry_sub:entryFor table "set.__sub__"=some DF3.«frozenset.__sub__»:=entryFor_alias (id':="frozenset.__sub__") (by kernel_rfl) rfl (by decide +kernel) (by kernel_rfl)
theorem AS2 (Ta:TSet P w s.heap a L)(Tb:TSet P w s.heap b M)(h15:L.length<=15)
  (q:∀(s':CV4) r Z,(∀c o,s.heap.get? c=some o->s'.heap.get? c=some o)->s'.gens=s.gens->s'.os=s.os->s.heap.get? r=none->TSet P w s'.heap r Z->(∀z,z∈Z↔z∈L/\z∉M)->Q (.ref r) s'):wpAny (model P w) A (Frozenset.difference nm a (.ref b)) Q E s:=by
 by_cases hz:L.length / 4>M.length
 ·unfold Frozenset.difference
  dsimp only
  refine CU6 (HH Tb ?_)
  rw[if_neg (by decide)]
  refine CU6 (m:=Frozenset.addrOf (.ref b)) (CU7 ?_)
  rw[if_neg (by simp),if_pos rfl]
  refine CU6 (AC Tb (CU6 (AC Ta ?_)))
  rw[if_pos hz]
  refine CU6 (DH2 (CU6 (AR1 Ta (by lia) fun s1 r Z old eg eo nr Tr pm=>?_)))
  refine CU6 (m:=Frozenset.addrOf (.ref r)) (CU7 ?_)
  have Tb1:TSet P w s1.heap b M:=Tb.keep fun o e=>old _ _ e
  have hbr:b≠r:=by
   rintro rfl
   obtain⟨_,_,_,_,g,_⟩:=Tb
   rw[nr] at g;cases g
  have zl:=pm.length_eq
  refine CU6 (DA2 (AS3 Tr Tb1 hbr (by lia) (by lia) fun s2 Z2 oth eg2 eo2 T2 m2=>CU7 (q s2 r Z2 (fun c o e=>?_) (eg2.trans eg) (eo2.trans eo) nr T2 fun z=>by rw[m2 z,pm.mem_iff])))
  have hc:c≠r:=by rintro rfl;rw[nr] at e;cases e
  rw[oth c hc];exact old c o e
 ·exact CF4 Ta Tb hz (by lia) q
theorem BC9 (Ta:TSet P w s.heap a L)(Tb:TSet P w s.heap b M)(h15:L.length<=15)
  (q:∀(s':CV4) r Z,(∀c o,s.heap.get? c=some o->s'.heap.get? c=some o)->s'.gens=s.gens->s'.os=s.os->s.heap.get? r=none->TSet P w s'.heap r Z->(∀z,z∈Z↔z∈L/\z∉M)->Q (.ref r) s'):wpAny (model P w) A (DG2 .Sub (.ref a) (.ref b)) Q E s:=by
 refine wpAny_binaryOp_same Ta.ty Tb.ty F.fills_set_sub F.slot_set_sub (DC7 F.slot_set_sub Ta.ty entry_sub ?_ (F.args_set_sub_2 _ _))
 show wpAny (model P w) A.in1 (do
  let (self,other) <-Frozenset.slot1 "__sub__" ⟨[.ref a,.ref b],[]⟩
  let (l,r):=if false then(other,self) else(self,other)
  if !(<-Frozenset.isAnySet l <&&> Frozenset.isAnySet r) then rule s!"frozenset.{"__sub__"}.declined";return <-ret .notImplemented
  ret (<-Frozenset.difference s!"frozenset.{"__sub__"}" (<-Frozenset.addrOf l) r)) _ _ _
 refine CU6 (DF8 (show Frozenset.slot1 "__sub__" ⟨[.ref a,.ref b],[]⟩=pure (.ref a,.ref b) from rfl) ?_)
 dsimp only
 rw[if_neg (by decide)]
 dsimp only
 refine CU6 (CU6 (HH Ta ?_))
 show wpAny _ _ (Frozenset.isAnySet (.ref b)) _ _ _
 refine HH Tb ?_
 rw[if_neg (by decide)]
 refine CU6 (m:=Frozenset.addrOf (.ref a)) (CU7 (CU6 (AS2 Ta Tb h15 fun s' r Z h1 h2 h3 h4 h5 h6=>?_)))
 exact CU7 ⟨_,rfl,(fun z=>nomatch z),q s' r Z h1 h2 h3 h4 h5 h6⟩
end
end TSt
namespace L2
open PySem PySem.Spec PyProof.Rows
section
variable {X:Cx}{pins:List (Addr×Obj)}{σ:St}{H:Hp}{s s':CV4}{l:Addr}{ys:List V}{its:List Value}{n:Nat}
theorem Inv.grow (I:Inv X pins σ H s)(k:∀b o,s.heap.get? b=some o->s'.heap.get? b=some o)(hg:s'.gens=s.gens)(ho:s'.os=s.os):Inv X pins σ H s' :=
 I.call' (ch:=[]) ho ⟨fun b u q _ _ _=>k b u q,fun b u q _ _ _=>⟨u.slots,k b u q⟩,fun _ _ _ n _=>n,fun b u q _=>⟨u,k b u q⟩,fun _ _ q=>q,fun _ _ _ q=>q,fun b ps q=>⟨#[],by rw[q];simp⟩⟩ (I.hok.kept k) (by rw[hg];exact I.bare) fun _ z=>nomatch z
theorem Inv.gone (I:Inv X pins σ H s)(hn:s.heap.get? l=none):H l=none:=BG6 I.hok hn
theorem Inv.lfar (I:Inv X pins σ H s)(k:∀b o,s.heap.get? b=some o->s'.heap.get? b=some o)(hg:s'.gens=s.gens)(ho:s'.os=s.os)(hn:s.heap.get? l=none)(gl:s'.heap.get? l=some {cls:=.type "list",data:=.seq its.toArray n}) (hv:Vals ys its) (hz:ys.length<=CV8) :
  Inv X pins σ (upd H l (.lst ys)) s':=by
 have nH:=I.gone hn
 refine I.call' (ch:=[]) ho ⟨fun b u q _ _ _=>k b u q,fun b u q _ _ _=>⟨u.slots,k b u q⟩,fun b u q n _=>?_,fun b u q _=>⟨u,k b u q⟩,fun b xs q=>?_,fun b o u q=>?_,fun b ps q=>⟨#[],?_⟩⟩ (fun b u e=>?_) (by rw[hg];exact I.bare) fun _ z=>nomatch z
 ·rw[D5 (fun z=>by subst z;rw[hn] at q;cases q)];exact n
 ·rw[D5 (F3 q nH)];exact q
 ·rw[D5 (F3 q nH)];exact q
 ·rw[D5 (F3 q nH),q];simp
 ·by_cases hb:b=l
  ·subst hb
   rw[D4] at e
   cases e
   exact⟨hz,its,n,hv,gl⟩
  ·rw[D5 hb] at e
   exact(I.hok b u e).stay (fun c v _ q=>k c v q) (fun c q=>by rw[D5 (F3 q nH)];exact q) fun c xs q=>by rw[D5 (F3 q nH)];exact q
end
end L2
namespace L3
open PySem PySem.Spec PyProof.Rows L2
theorem RN:∀{zs:List Str} {vs:List Value},StrsAre vs zs->Vals (zs.map V.str) vs
 | _,_,.nil=>.nil
 | _,_,.cons y t r=>.cons ⟨t,rfl⟩ (RN r)
theorem OD:∀{zs:List Str} {vs:List Value},StrsAre vs zs->vs.length=zs.length/\∀(i:Nat) (y:Value),vs[i]?=some y->∃t,y=.str (zs.getD i ⟨#[]⟩) t
 | _,_,.nil=>⟨rfl,fun i y h=>by simp at h⟩
 | _,_,.cons z t r=>by
  obtain⟨h1,h2⟩:=OD r
  refine⟨by rw[CV6,CV6,h1],fun i y h=>?_⟩
  cases i with
  | zero=>exact⟨t,by simpa[eq_comm] using h⟩
  | succ i =>
   obtain⟨t',e⟩:=h2 i y (by simpa using h)
   exact⟨t',by simpa using e⟩
section
variable {X:Cx}{pos:Pos}
theorem BD8 {σv:L2.St}{d:D}(I:Inv X pins σv H s)(m:MRel X.K M H)(e:UV M d=some (zs.map D.str))(p:Rep X.K M H d v)(r:RelV v u) :
  ∃(l:Addr) (its:List Value),u=.ref l/\its.length=zs.length/\(∀(i:Nat) (y:Value),its[i]?=some y->∃t,y=.str (zs.getD i ⟨#[]⟩) t)/\(s.heap.IsList l its.toArray\/s.heap.IsTuple l its.toArray):=by
 obtain⟨l,vs,rfl,sq,rr⟩:=UW m p e
 obtain rfl:u=.ref l:=r
 rcases sq with sl|st
 ·obtain⟨its,ri,pl,_⟩:=I.list sl
  obtain⟨h1,h2⟩:=OD (EV rr ri)
  exact⟨l,its,rfl,h1,h2,.inl pl.isList⟩
 ·obtain⟨its,ri,⟨o,ho,hc,n,hd⟩,_⟩:=I.tuple st
  obtain⟨h1,h2⟩:=OD (EV rr ri)
  exact⟨l,its,rfl,h1,h2,.inr ⟨o,ho,hc,n,hd⟩⟩
theorem CC8 {σv:L2.St}{d:D}(hh:A.handled=none)(I:Inv X pins σv H s)(m:MRel X.K M H)(e:UV M d=some (zs.map D.str))(p:Rep X.K M H d v)(r:RelV v u)(hb:zs.length+1<DE3)
  (q:∀s' a L,Inv X pins σv H s'->(∀b o,s.heap.get? b=some o->s'.heap.get? b=some o)->s.heap.get? a=none->TSt.TSet X.prog X.w s'.heap a L->(∀z,z∈L↔z∈zs)->Q (.ref a) s'):wpAny (model X.prog X.w) A (call (.type "set") [u]) Q E s:=by
 obtain⟨l,its,rfl,h1,h2,h3⟩:=BD8 I m e p r
 have fin:∀h' tk L,TSt.TSet X.prog X.w h' s.heap.objs.size L->(∀z,z∈L↔z∈zs)->(∀b o,s.heap.get? b=some o->h'.get? b=some o)->Q (.ref s.heap.objs.size) {s with heap:=h',toks:=tk}:=fun h' tk L T mem k =>
  q {s with heap:=h',toks:=tk} _ L (I.grow (s':={s with heap:=h',toks:=tk}) k rfl rfl) k (DA4 (CW1 _)) T mem
 rcases h3 with h3|h3
 ·exact TSt.XX hh h3 h1 h2 hb fin
 ·exact TSt.UX hh h3 h1 h2 hb fin
end
abbrev TZ3:=Lo->Mem->(List Str->Mem->Prop)->Prop
def PZ3 (X:Cx)(e:Expr)(t:TZ3):Prop :=
 ∀(pins:List (Addr×Obj)) (s:CV4) (σv:L2.St) (H:Hp) (σ:Lo) (M:Mem) (Q:List Str->Mem->Prop),Inv X pins σv H s->SRel X.K M H σ σv->MRel X.K M H->t σ M Q->wpAny (model X.prog X.w) X.A (eval e X.env) (fun u s'=>∃a L zs M' H',u=.ref a/\Inv X pins σv H' s'/\Step M H M' H'/\MRel X.K M' H'/\H' a=none/\(a≠X.env.locals/\a∉X.fs)/\TSt.TSet X.prog X.w s'.heap a L/\(∀z,z∈L↔z∈zs)/\Q zs M') X.xe s
theorem AV7 {X:Cx}{σv:L2.St}(I:Inv X pins σv H s)(hn:s.heap.get? a=none):a≠X.env.locals/\a∉X.fs:=by
 refine⟨fun e=>?_,fun hb=>?_⟩
 ·obtain⟨m,⟨o,_,_,g,_⟩,_⟩:=I.loc
  rw[<-e,hn] at g;cases g
 ·obtain⟨_,o,g,_⟩:=I.funs.mem hb
  rw[hn] at g;cases g
section
variable {X:Cx}{pos p:Pos}{e:Expr}{ta:TA3}
def YK (ta:TA3):TZ3:=fun σ M Q=>ta σ M fun ds M1=>∃d zs,ds=[d]/\UV M1 d=some (zs.map D.str)/\zs.length+1<DE3/\Q zs M1
theorem TR (hcalm:X.calm=true)(hg:Gl X "set")(hm:X.mg "set"=none)(hv:DB0 "set"=some (.type "set"))(ha:PA3 X [e] ta)
  (he:CY3 [e] X.env=(false,eval e X.env)::CY3 [] X.env:=by rfl):PZ3 X (.Call (.Name "set" p) [e] [] pos) (YK ta):=by
 intro pins s σv H σ M Q I hS hM h
 refine DF5 (CW I hg hm hv ?_ (by decide) (by decide))
 refine DG3 (thn (ha pos pins s σv H σ M _ I hS hM h) fun us s1 hx=>?_) he rfl
 obtain⟨ds,vs,M1,H1,I1,st1,m1,rv1,p1,d,zs,rfl,hd,hb,q⟩:=hx
 obtain⟨v,rfl,pv⟩:=NO p1
 obtain⟨u,rfl,ru⟩:=vals1 rv1
 refine CC8 (I.ok.hd hcalm) I1 m1 hd pv ru hb fun s' a L I2 k hn T mem=>?_
 exact⟨a,L,zs,M1,H1,rfl,I2,st1,m1,I1.gone hn,AV7 I1 hn,T,mem,q⟩
def AC8 (tz:TZ3):TE3:=fun σ M Q=>tz σ M fun zs M1=>(∀ys:List Str,ys.Nodup->(∀z∈ys,z∈zs)->ys.length<64)/\∀ys:List Str,ys.Nodup->sortedS ys=true->(∀z,z∈ys↔z∈zs)->Q (.lst (ys.map D.str)) M1
theorem AH3 {h:Heap}{L:List Str}(T:TSt.TSet P w h a L):L.Nodup:=by
 obtain⟨_,_,_,_,_,_,_,_,_,n,_⟩:=T
 exact n
theorem AN7 {tz:TZ3}{e:Expr}(hcalm:X.calm=true)(hg:Gl X "sorted")(hm:X.mg "sorted"=none)(hz:PZ3 X e tz)(he:CY3 [e] X.env=(false,eval e X.env)::CY3 [] X.env:=by rfl):PE3 X (.Call (.Name "sorted" p) [e] [] pos) (AC8 tz):=by
 intro pins s σv H σ M Q I hS hM h
 refine DF5 (CW I hg hm boot_sorted ?_ (by decide) (by decide))
 refine DJ5 ?_ he rfl
 rw[he]
 show wpAny _ _ (spliced ((false,eval e X.env)::DK1 pos (CY3 [] X.env))) _ _ s
 refine Calls.spliced_cons (thn (hz pins s σv H σ M _ I hS hM h) fun u s1 hx=>?_)
 obtain⟨a,L,zs,M1,H1,rfl,I1,st1,m1,nH,_,T,mem,h64,q⟩:=hx
 refine Calls.spliced_nil ?_
 have lL:=h64 L (AH3 T) fun z hz=>(mem z).mp hz
 refine TSt.AC2 (I.ok.hd hcalm) T lL fun s' l n vs ys old eg eo hn gl sv pm so=>?_
 have nH':=I1.gone hn
 have ly:ys.length<64:=by rw[pm.length_eq];exact lL
 refine⟨.lst (ys.map D.str),.ref l,M1,_,I1.lfar old eg eo hn gl (RN sv) (by rw[CV1,CX1];lia),st1.trans (Step.lay nH'),m1.lay nH',rfl,.lst (.inl ⟨.inl D4,m1.free nH'⟩) (AH _),q ys (pm.nodup_iff.mpr (AH3 T)) so fun z=>?_⟩
 rw[pm.mem_iff,mem z]
theorem Inv.pinP {σv:L2.St}{q:Addr×Obj}(I:Inv X pins σv H s)(hq:s.heap.get? q.1=some q.2/\H q.1=none/\q.1≠X.env.locals/\q.1∉X.fs/\∀v,q.2.data≠.cell v):Inv X (q::pins) σv H s :=
 ⟨I.ok,I.os,I.bare,I.base,I.loc,I.cell,I.free,I.freeC,fun y hy=>by
  rcases CZ9.mp hy with hy|hy
  ·exact I.pin y (DE0 _ hy)
  ·rcases CV0.mp hy with rfl|hy
   ·exact hq
   ·exact I.pin y (CW6 _ hy),I.hok,I.len⟩
theorem Inv.lessP {σv:L2.St}{q:Addr×Obj}(I:Inv X (q::pins) σv H s):Inv X pins σv H s :=
 ⟨I.ok,I.os,I.bare,I.base,I.loc,I.cell,I.free,I.freeC,fun y hy=>by
  rcases CZ9.mp hy with hy|hy
  ·exact I.pin y (DE0 _ hy)
  ·exact I.pin y (CW6 _ (CW5 _ hy)),I.hok,I.len⟩
def BD7 (ta tb:TZ3):TZ3:=fun σ M Q=>ta σ M fun zs M1=>tb σ M1 fun ws M2=>(∀ys:List Str,ys.Nodup->(∀z∈ys,z∈zs)->ys.length<=15)/\Q (zs.filter fun z=>!ws.contains z) M2
theorem BM3 {ea eb:Expr}{ta tb:TZ3}(ha:PZ3 X ea ta)(hb:PZ3 X eb tb):PZ3 X (.BinOp ea .Sub eb pos) (BD7 ta tb):=by
 intro pins s σv H σ M Q I hS hM h
 refine wpAny_BinOp (thn (ha pins s σv H σ M _ I hS hM h) fun u s1 hx=>?_)
 obtain⟨a,L,zs,M1,H1,rfl,I1,st1,m1,nH,nf,T,mem,h1⟩:=hx
 obtain⟨o,es,ep,t,g,x,d,r⟩:=id T
 have I1':=Inv.pinP (q:=(a,o)) I1 ⟨g,nH,nf.1,nf.2,fun v z=>by rw[d] at z;cases z⟩
 refine thn (hb ((a,o)::pins) s1 σv H1 σ M1 _ I1' (hS.mono st1) m1 h1) fun u2 s2 hx=>?_
 obtain⟨b,L2,ws,M2,H2,rfl,I2,st2,m2,nH2,nf2,T2,mem2,hlen,q⟩:=hx
 have g2:=(I2.pin (a,o) (CW6 _ CW4)).1
 have T1:TSt.TSet X.prog X.w s2.heap a L:=T.keep fun o' e=>by rw[g] at e;cases e;exact g2
 refine TSt.BC9 T1 T2 (hlen L (AH3 T) fun z hz=>(mem z).mp hz) fun s3 c Z old eg eo hn T3 mem3=>?_
 have I3:=Inv.lessP I2
 refine⟨c,Z,_,M2,H2,rfl,I3.grow old eg eo,st1.trans st2,m2,I3.gone hn,AV7 I3 hn,T3,fun z=>?_,q⟩
 rw[mem3 z,mem z,mem2 z,List.mem_filter]
 simp
end
end L3
namespace TSt
open PySem PySem.Spec PyProof.Rows
end TSt
namespace L3
open PySem
theorem ZD:DB0 "set"=some (.type "set"):=by decide +kernel
end L3
namespace L3
open PySem PySem.Spec PyProof.Rows L2
theorem AO2 {iy:Nat}{X:Cx}
  (hc:X.calm=true) (hi:HE X tg iter ti) (hkind:scope.kind=.function) (hcell:∀y∈scope.names,y.2≠.cell)
  (hnames:∀y∈scope.names,y.2=.local->scope.names.lookup y.1=some .local)
  (hfree:∀y∈scope.names,y.2=.free->X.env.kindOf y.1=some .cell\/X.env.kindOf y.1=some .free)
  (hcf:∀y∈caps,scope.names.lookup y=some .free) (hcaps:slots.map (fun j=>X.N[j]?)=caps.map some)
  (hgk:∀d M Q (cs:Lo),g d (CV2 tns.length none++cs) M Q->g d (CV2 tns.length none++cs) M (fun σ' M'=>σ'.drop tns.length=cs/\Q σ' M'))
  (hg:∀cl s₀ H₀ ex,PG3 (B0 X scope cl s₀ H₀ ex (tns++caps)) tg g)
  (ht:∀cl s₀ H₀ ex,AN (B0 X scope cl s₀ H₀ ex (tns++caps)) ifs tt) (he:∀cl s₀ H₀ ex,PE3 (B0 X scope cl s₀ H₀ ex (tns++caps)) elt te)
  (hN:X.N.Nodup) (hiy:X.N[iy]?=some y) (hy:Loc X.env.scope y) (hsw:DM5 (.ListComp elt [⟨tg,iter,ifs,0⟩] scope pos) (some (.Name y py)) spos.line X.env=pure true) (hf:X.fn y=true\/X.env.scope.names.lookup y=some .local)
  (hs:∀y,CY5 iter X.env y=pure y:=by intro _;rfl) :
  PS3 X (.Assign [.Name y py] (.ListComp elt [⟨tg,iter,ifs,0⟩] scope pos) spos) (B6 iy (Q8 ti tns.length slots g tt te)):=by
 intro pins s σv H σ M T0 I hS hM h
 rw[exec_Assign_Name_used _ _ _ _ hsw]
 refine CU6 (DN5 (CU6 ?_))
 rw[arm_evalThenUse_ListComp]
 refine CU6 ?_
 refine EJ hc hi hkind hcell hnames hfree hcf hcaps hgk hg ht he hs (use:=some (assign (.Name y py) X.env)) (F:=fun p acc M=>T0.nx (σ.set iy (some (.ref p))) M) I hS hM h fun D C acc H5 M5 s6 m hn I7 c1 c2 c3 c4 c5 c6 st m5 hp hq=>?_
 obtain⟨oC,es,ep,hoC,hdC,rC⟩:=hn
 have pinC:Inv X (pins++[(C,oC)]) σv H5 s6:=I7.pins_of fun p hp=>by
  rcases CZ9.mp hp with z|z
  ·exact I7.pin p (CW6 _ z)
  ·cases DF1.mp z
   exact⟨hoC,c1,c2,c3,fun v z=>by rw[hdC] at z;cases z⟩
 show wpAny (model X.prog X.w) X.A (assign (.Name y py) X.env (.ref D)) _ X.xe s6
 refine wpAny_assign_Name (IS pinC hN hiy hy (v:=.ref D) rfl (fun s7 I8=>?_) hf)
 have hp8:=(I8.pin (C,oC) (CW6 _ (CW6 _ CW4))).1
 refine⟨m,⟨oC,es,ep,hp8,hdC,rC⟩,fun h' sb=>CU7 (CU7 ?_)⟩
 have I9:Inv X pins (σv.set iy (some (.ref D))) H5 {s7 with heap:=h',toks:=s7.toks}:=I8.unpinned.turned (it:=C) (fun b o hb e=>(sb.2 b hb).trans e) c1 c2 (.inr c4) c5 c6
 exact⟨_,_,M5,H5,I9,st,m5,(hS.mono st).set .ref iy,hq⟩
theorem AA5 {X:Cx}(iy:Nat)(tns caps:List Str)(slots:List Nat)
  (hc:X.calm=true) (hi:HE X tg iter ti) (hkind:scope.kind=.function) (hok:N5 X.env scope caps=true) (hcaps:slots.map (fun j=>X.N[j]?)=caps.map some)
  (hgk:∀d M Q (cs:Lo),g d (CV2 tns.length none++cs) M Q->g d (CV2 tns.length none++cs) M (fun σ' M'=>σ'.drop tns.length=cs/\Q σ' M'))
  (hg:∀cl s₀ H₀ ex,PG3 (B0 X scope cl s₀ H₀ ex (tns++caps)) tg g)
  (ht:∀cl s₀ H₀ ex,AN (B0 X scope cl s₀ H₀ ex (tns++caps)) ifs tt) (he:∀cl s₀ H₀ ex,PE3 (B0 X scope cl s₀ H₀ ex (tns++caps)) elt te)
  (hN:X.N.Nodup) (hiy:X.N[iy]?=some y) (hy:Loc X.env.scope y) (hf:X.fn y=true\/X.env.scope.names.lookup y=some .local)
  (hsw:DM5 (.ListComp elt [⟨tg,iter,ifs,0⟩] scope pos) (some (.Name y py)) spos.line X.env=pure true:=by rfl)
  (hs:∀y,CY5 iter X.env y=pure y:=by intro _;rfl) :
  PS3 X (.Assign [.Name y py] (.ListComp elt [⟨tg,iter,ifs,0⟩] scope pos) spos) (B6 iy (Q8 ti tns.length slots g tt te)):=by
 unfold N5 at hok
 rw[CX9,CX4,CX4] at hok
 obtain⟨h1,h2⟩:=hok
 refine AO2 hc hi hkind (fun y hy e=>?_) (fun y hy e=>?_) (fun y hy e=>?_) (fun y hy=>?_) hcaps hgk hg ht he hN hiy hy hsw hf hs
 ·have:=h1 y hy;rw[e] at this;cases this
 ·have:=h1 y hy
  rw[e] at this
  dsimp only at this
  split at this
  ·assumption
  ·cases this
 ·have:=h1 y hy
  rw[e] at this
  dsimp only at this
  split at this
  ·exact .inl (by assumption)
  ·exact .inr (by assumption)
  ·cases this
 ·have:=h2 y hy
  split at this
  ·assumption
  ·cases this
theorem WX {X:Cx}(tns caps:List Str)(slots:List Nat)
  (hc:X.calm=true) (hi:HE X tg iter ti) (hkind:scope.kind=.function) (hok:N5 X.env scope caps=true) (hcaps:slots.map (fun j=>X.N[j]?)=caps.map some)
  (hgk:∀d M Q (cs:Lo),g d (CV2 tns.length none++cs) M Q->g d (CV2 tns.length none++cs) M (fun σ' M'=>σ'.drop tns.length=cs/\Q σ' M'))
  (hg:∀cl s₀ H₀ ex,PG3 (B0 X scope cl s₀ H₀ ex (tns++caps)) tg g)
  (ht:∀cl s₀ H₀ ex,AN (B0 X scope cl s₀ H₀ ex (tns++caps)) ifs tt) (he:∀cl s₀ H₀ ex,PE3 (B0 X scope cl s₀ H₀ ex (tns++caps)) elt te)
  (hs:∀y,CY5 iter X.env y=pure y:=by intro _;rfl) :
  PE3 X (.ListComp elt [⟨tg,iter,ifs,0⟩] scope pos) (Q8 ti tns.length slots g tt te):=by
 unfold N5 at hok
 rw[CX9,CX4,CX4] at hok
 obtain⟨h1,h2⟩:=hok
 refine ND hc hi hkind (fun y hy e=>?_) (fun y hy e=>?_) (fun y hy e=>?_) (fun y hy=>?_) hcaps hgk hg ht he hs
 ·have:=h1 y hy;rw[e] at this;cases this
 ·have:=h1 y hy
  rw[e] at this
  dsimp only at this
  split at this
  ·assumption
  ·cases this
 ·have:=h1 y hy
  rw[e] at this
  dsimp only at this
  split at this
  ·exact .inl (by assumption)
  ·exact .inr (by assumption)
  ·cases this
 ·have:=h2 y hy
  split at this
  ·assumption
  ·cases this
end L3
namespace L3
open PySem L2
theorem JT {tl th:TO3}{Q:DK}(h:te σ M fun x M1=>tl σ M1 fun l M2=>th σ M2 fun u M3=>RJ x l u M3 Q):RS te tl th σ M Q:=h
theorem ER {l u:Option Int}{Q:DK}(h:Q (.tup (cutD ds l u)) M):RJ (.tup ds) l u M Q:=h
theorem UE {Q:DK}(h:te σ M fun d M1=>∃p xs,d=.ref p/\M1 p=some (.lst xs)/\Q (.lst xs) (Z0 M1 p)):GT te σ M Q:=h
theorem NL {tz:TZ3}{Q:DK}(h:tz σ M fun zs M1=>(∀ys:List Str,ys.Nodup->(∀z∈ys,z∈zs)->ys.length<64)/\∀ys:List Str,ys.Nodup->PyProof.Rows.sortedS ys=true->(∀z,z∈ys↔z∈zs)->Q (.lst (ys.map D.str)) M1):AC8 tz σ M Q:=h
theorem UP {ta tb:TZ3}{Q:List Str->Mem->Prop}(h:ta σ M fun zs M1=>tb σ M1 fun ws M2=>(∀ys:List Str,ys.Nodup->(∀z∈ys,z∈zs)->ys.length<=15)/\Q (zs.filter fun z=>!ws.contains z) M2):BD7 ta tb σ M Q:=h
theorem UN {ta:TA3}{Q:List Str->Mem->Prop}(h:ta σ M fun ds M1=>∃d zs,ds=[d]/\UV M1 d=some (zs.map D.str)/\zs.length+1<DE3/\Q zs M1):YK ta σ M Q:=h
def AQ2 (g:TG3)(tt:TT3)(te:TE3)(σ0:Lo)(ds:List D)(M1:Mem)(Q:DK):Prop:=∀p,M1 p=none->∃Pv:Nat->List D->Mem->Prop,Pv 0 [] (D3 M1 p (.lst [])) /\
 (∀k d acc M,ds[k]?=some d->Pv k acc M->g d σ0 M fun σ' M0=>tt σ' M0 fun b M' =>
  if b=true then te σ' M' fun e M''=>M'' p=some (.lst acc)/\acc.length<CV8/\Pv (k+1) (acc++[e]) (D3 M'' p (.lst (acc++[e]))) else Pv (k+1) acc M') /\
 ∀acc M,Pv ds.length acc M->M p=some (.lst acc)/\Q (.ref p) M
theorem NJ {Q:DK}(h:ti σ M fun ds M1=>AQ2 g tt te (CV2 n none++slots.map fun j=>(σ[j]?).getD none) ds M1 Q):Q8 ti n slots g tt te σ M Q:=h
theorem CN {gt:TG3}{σ0:Lo}{M1:Mem}{Q:DK}(l:List α)(f g:α->D)(c:α->Bool)(hl:l.length<CV8)
  (turn:∀a∈l,∀M2 (R:D->Mem->Prop) (F:Mem->Prop),(∀x,M1 x≠none->M2 x=M1 x)->(c a=true->R (g a) M2)->(c a=false->F M2)->gt (f a) σ0 M2 fun σ' M3=>tt σ' M3 fun bb M4=>if bb=true then te σ' M4 R else F M4)
  (done:∀p M',M1 p=none->M' p=some (.lst ((l.filter c).map g))->(∀x,x≠p->M' x=M1 x)->Q (.ref p) M'):AQ2 gt tt te σ0 (l.map f) M1 Q:=by
 intro p hp
 refine⟨fun k acc M2=>acc=((l.take k).filter c).map g/\M2 p=some (.lst acc)/\∀a,a≠p->M2 a=M1 a,⟨rfl,B4,fun a ha=>D0 ha⟩,?_,?_⟩
 ·rintro k d acc M2 hd ⟨rfl,hacc,hsame⟩
  have hk:k<l.length:=by simpa using(List.getElem?_eq_some_iff.mp hd).1
  have hdk:d=f l[k]:=by
   rw[CW8,CX2 hk] at hd
   exact(Option.some.inj hd).symm
  subst hdk
  have hlen:(((l.take k).filter c).map g).length<=k:=by
   rw[CV1]
   exact CY4 (DQ7 _ _) (by simp;lia)
  have e1:l.take (k+1)=l.take k++[l[k]]:=by rw[DE1,CX2 hk];rfl
  refine turn l[k] (DB2 hk) M2 _ _ (fun a ha=>hsame a (by rintro rfl;exact ha hp)) (fun hc=>⟨hacc,by lia,?_,B4,fun a ha=>by rw[D0 ha];exact hsame a ha⟩) (fun hc=>⟨?_,hacc,hsame⟩)
  ·rw[e1,DN8,List.filter_cons_of_pos hc,CX6];rfl
  ·rw[e1,DN8,List.filter_cons_of_neg (by rw[hc];simp),CX6];simp
 ·rintro acc M2 ⟨rfl,hacc,hsame⟩
  rw[CV1,DB1] at hacc
  refine⟨?_,done p M2 hp hacc hsame⟩
  rw[CV1,DB1];exact hacc
theorem GA {gt:TG3}{σ0:Lo}{M1:Mem}{Q:DK}(l:List α)(f g:α->D)(c:α->Bool)(hl:l.length<CV8)
  (turn:∀a∈l,∀M2 (R:D->Mem->Prop) (F:Mem->Prop),(∀x,M1 x≠none->M2 x=M1 x)->(c a=true->R (g a) M2)->(c a=false->F M2)->gt (f a) σ0 M2 fun σ' M3=>tt σ' M3 fun bb M4=>if bb=true then te σ' M4 R else F M4)
  (done:Q (.lst ((l.filter c).map g)) M1):AQ1 gt tt te σ0 (l.map f) M1 Q:=by
 intro p hp
 refine⟨fun k acc M2=>acc=((l.take k).filter c).map g/\M2 p=some (.lst acc)/\∀a,a≠p->M2 a=M1 a,⟨rfl,B4,fun a ha=>D0 ha⟩,?_,?_⟩
 ·rintro k d acc M2 hd ⟨rfl,hacc,hsame⟩
  have hk:k<l.length:=by simpa using(List.getElem?_eq_some_iff.mp hd).1
  have hdk:d=f l[k]:=by
   rw[CW8,CX2 hk] at hd
   exact(Option.some.inj hd).symm
  subst hdk
  have hlen:(((l.take k).filter c).map g).length<=k:=by
   rw[CV1]
   exact CY4 (DQ7 _ _) (by simp;lia)
  have e1:l.take (k+1)=l.take k++[l[k]]:=by rw[DE1,CX2 hk];rfl
  refine turn l[k] (DB2 hk) M2 _ _ (fun a ha=>hsame a (by rintro rfl;exact ha hp)) (fun hc=>⟨hacc,by lia,?_,B4,fun a ha=>by rw[D0 ha];exact hsame a ha⟩) (fun hc=>⟨?_,hacc,hsame⟩)
  ·rw[e1,DN8,List.filter_cons_of_pos hc,CX6];rfl
  ·rw[e1,DN8,List.filter_cons_of_neg (by rw[hc];simp),CX6];simp
 ·rintro acc M2 ⟨rfl,hacc,hsame⟩
  have hlen:(l.map f).length=l.length:=by simp
  rw[hlen,DB1] at hacc ⊢
  have:Z0 M2 p=M1:=funext fun a=>by
   by_cases ha:a=p
   ·subst ha;rw[JF,hp]
   ·rw[LO ha];exact hsame a ha
  rw[this]
  exact⟨hacc,done⟩
theorem U5 (l:List α)(f:α->D){tb:TS3}{T:Z3}{fnd:Addr}{ini:List D}(S:Lo->Prop)(P:Nat->List D->Prop)(hS:S σ)(hf:M fnd=some (.lst ini))(h0:P 0 ini)
  (turn:∀k a acc σ' M' (N:Lo->Mem->Prop),l[k]?=some a->S σ'->P k acc->M' fnd=some (.lst acc)->(∀x,x≠fnd->M x≠none->M' x=M x) ->
   (∀σ'' acc' M'',S σ''->P (k+1) acc'->M'' fnd=some (.lst acc')->(∀x,x≠fnd->M' x≠none->M'' x=M' x)->N σ'' M'') ->
   tb {T with nx:=N,ct:=N,bk:=T.nx} (σ'.set i (some (f a))) M')
  (done:∀σ' acc M',S σ'->P l.length acc->M' fnd=some (.lst acc)->(∀x,x≠fnd->M x≠none->M' x=M x)->T.nx σ' M') :
  ∃Pv:Nat->Lo->Mem->Prop,Pv 0 σ M/\(∀k d σ M,(l.map f)[k]?=some d->Pv k σ M->tb {T with nx:=Pv (k+1),ct:=Pv (k+1),bk:=T.nx} (σ.set i (some d)) M)/\∀σ M,Pv (l.map f).length σ M->T.nx σ M:=by
 refine⟨fun k σ' M'=>S σ'/\∃acc,P k acc/\M' fnd=some (.lst acc)/\∀x,x≠fnd->M x≠none->M' x=M x,⟨hS,ini,h0,hf,fun _ _ _=>rfl⟩,?_,?_⟩
 ·rintro k d σ' M' hd ⟨s',acc,hp,hm,hs⟩
  rw[CW8] at hd
  cases e:l[k]? with
  | none=>rw[e] at hd;cases hd
  | some a =>
   rw[e] at hd
   cases hd
   refine turn k a acc σ' M' _ e s' hp hm hs fun σ'' acc' M'' s'' p'' m'' h''=>⟨s'',acc',p'',m'',fun x hx hn=>?_⟩
   rw[h'' x hx (by rw[hs x hx hn];exact hn),hs x hx hn]
 ·rintro σ' M' ⟨s',acc,hp,hm,hs⟩
  rw[CV1] at hp
  exact done σ' acc M' s' hp hm hs
def nw (M:Mem)(l:List D)(Q:DK):Prop:=∀a M',M a=none->M' a=some (.lst l)->(∀x,x≠a->M' x=M x)->Q (.ref a) M'
theorem TF {fnd:Addr}{acc es:List D}{N:Mem->Prop}(hf:M fnd=some (.lst acc))(hl:acc.length+es.length<=CV8)(q:∀M',M' fnd=some (.lst (acc++es))->(∀x,x≠fnd->M x≠none->M' x=M x)->N M') :
  nw M es (fun d M1=>RI (.ref fnd) [d] M1 fun _ M2=>N M2):=by
 intro a M' ha hM hs
 have hfa:fnd≠a:=by rintro rfl;rw[ha] at hf;cases hf
 refine⟨fnd,a,acc,es,rfl,rfl,by rw[hs fnd hfa];exact hf,hM,hl,q _ B4 fun x hx hn=>?_⟩
 rw[D0 hx]
 exact hs x (by rintro rfl;exact hn ha)
theorem NA {es:List D}{Q:DK}(q:∀M',(∀x,M x≠none->M' x=M x)->(∀x,M x=none->M' x=none)->Q (.lst es) M'):nw M es (fun d M1=>∃p xs,d=.ref p/\M1 p=some (.lst xs)/\Q (.lst xs) (Z0 M1 p)):=by
 intro a M' ha hM hs
 refine⟨a,es,rfl,hM,q _ (fun x hn=>?_) fun x hn=>?_⟩
 ·have hx:x≠a:=by rintro rfl;exact hn ha
  rw[LO hx];exact hs x hx
 ·by_cases hx:x=a
  ·subst hx;exact JF
  ·rw[LO hx,hs x hx];exact hn
theorem ZT {M1:Mem}{f:Addr}{l:List D}{Q:DK}(q:nw M l Q)(hf0:M f=none)(hf:M1 f=some (.lst l))(hs:∀x,x≠f->M x≠none->M1 x=M x):View Q (.ref f) M1:=by
 refine View.sub (M':=fun a=>if a=f then M1 f else M a) (fun a o e=>?_) (q f _ hf0 (by show(if f=f then M1 f else M f)=_;rw[if_pos rfl];exact hf) fun x hx=>by show(if x=f then M1 f else M x)=_;rw[if_neg hx])
 by_cases ha:a=f
 ·subst ha;have e:(if a=a then M1 a else M a)=some o:=e;rw[if_pos rfl] at e;exact e
 ·have e:(if a=f then M1 f else M a)=some o:=e
  rw[if_neg ha] at e;rw[hs a ha (by rw[e];simp)];exact e
theorem BI3 {l:List D}{Q:DK}(q:nw M l Q):nw M l (View Q):=fun a M' h1 h2 h3=>View.of (q a M' h1 h2 h3)
theorem View.keep {Q:DK}{d:D}{M1:Mem}(h:∀x,M x≠none->M1 x=M x)(q:Q d M):View Q d M1:=View.sub (fun a o e=>by rw[h a (by rw[e];simp)];exact e) q
end L3
namespace K10
open PySem L2 L3 PK
open PyProof.Rows (sortedS)
def tblS:List (Str×List Str):=[("let",["name","expression"]),("note",["expression"]),("give",["name","expression"]),("on",["name","expression"]),("ask",["name","name","expression","expression"]),("cast",["name","name","expression","word","expression"]),("close",["expression"]),("end",["expression"]),("fault",["word","expression"]),("leave",[]),("if",["expression","block","rest"]),("while",["expression","block"]),("try",["block","catches","rest"])]
mutual
def dsB:Blk->List Deed
 | .nil=>[]
 | .cons d r=>dsD d++dsB r
def dsD:Deed->List Deed
 | .mk h bs=>.mk h bs::HK bs
def HK:Bls->List Deed
 | .nil=>[]
 | .cons b r=>dsB b++HK r
end
mutual
def trE:Ex->List Ex
 | .none=>[.none]
 | .num n=>[.num n]
 | .var x=>[.var x]
 | .op s a b=>.op s a b::(trE a++trE b)
 | .make r as=>.make r as::GW as
def GW:Exs->List Ex
 | .nil=>[]
 | .cons a r=>trE a++GW r
end
mutual
def vrE:Ex->List Str
 | .none=>[]
 | .num _=>[]
 | .var x=>[x]
 | .op _ a b=>vrE a++vrE b
 | .make _ as=>YS as
def YS:Exs->List Str
 | .nil=>[]
 | .cons a r=>vrE a++YS r
end
def exL:Exs->List Ex
 | .nil=>[]
 | .cons a r=>a::exL r
def brE:Ex->List Ex
 | .op _ a b=>[a,b]
 | .make _ as=>exL as
 | _=>[]
def Ev (y:Str):Deed->Prop
 | .mk (.leaf _ r) _=>∃e,eD e∈r/\y∈vrE e
 | .mk (.ife d) _=>∃e,d=eD e/\y∈vrE e
 | .mk (.whl d) _=>∃e,d=eD e/\y∈vrE e
 | .mk (.tr _) _=>False
def Tg (x:Str):Deed->Prop
 | .mk (.leaf h r) _=>((h="let"\/h="give"\/h="on"\/h="ask"\/h="cast")/\r[0]?=some (.str x))\/((h="ask"\/h="cast")/\r[1]?=some (.str x))
 | .mk (.tr cs) _=>∃w,(w,x)∈cs
 | _=>False
def Nm (x:Str)(b:Blk):Prop:=∃d∈dsB b,Ev x d\/Tg x d
def pick (kind:Str)(sh:List Str)(r:List D):List D:=((sh.zip r).filter fun p=>p.1==kind).map Prod.snd
def ET:Sp3:=fun ds M Q=>∃h r kind sh,ds=[.tup (.str h::r),.str kind]/\tblS.lookup h=some sh/\sh.length<=10/\nw M (pick kind sh r) Q
def E4 (n:Nat):Sp3:=fun ds M Q=>∃_:Pool,∃b,ds=[.tup (dB b)]/\okB b/\dpB b+1<=n/\C0 b<=100/\nw M ((dsB b).map dD) Q
def IQ:Sp3:=fun ds M Q=>∃_:Pool,∃d,ds=[dD d]/\okD d/\∀ns:List Str,(∀x,x∈ns↔Tg x d)->ns.length<=3->nw M (ns.map D.str) Q
def W0:Sp3:=fun ds M Q=>∃e,ds=[eD e]/\Q (.lst ((brE e).map eD)) M
def O9 (n:Nat):Sp3:=fun ds M Q=>∃e,ds=[eD e]/\dp e<=n/\nd e<=99/\nw M ((trE e).map eD) Q
def EU:Sp3:=fun ds M Q=>∃_:Pool,∃r,ds=[rD r]/\okB r.blk/\dpB r.blk<=4/\C0 r.blk<=30/\∀ts:List Ex,(∀y,Ex.var y∈ts↔∃d∈dsB r.blk,Ev y d)->ts.length<=540->nw M (ts.map eD) Q
def S1:Sp3:=fun ds M Q=>∃_:Pool,∃r,ds=[rD r]/\okB r.blk/\dpB r.blk<=4/\C0 r.blk<=30/\Pool.ps.length<=15/\r.pars.length<=3/\∀ys:List Str,ys.Nodup->sortedS ys=true->(∀z,z∈ys↔Nm z r.blk/\z∉r.pars)->Q (.tup ((r.pars++ys).map D.str)) M
mutual
theorem OL (y:Str):∀e:Ex,Ex.var y∈trE e↔y∈vrE e
 | .none=>by simp[trE,vrE]
 | .num n=>by simp[trE,vrE]
 | .var x=>by simp[trE,vrE]
 | .op s a b=>by simp[trE,vrE,OL y a,OL y b]
 | .make r as=>by simp[trE,vrE,AJ7 y as]
theorem AJ7 (y:Str):∀e:Exs,Ex.var y∈GW e↔y∈YS e
 | .nil=>by simp[GW,YS]
 | .cons a r=>by simp[GW,YS,OL y a,AJ7 y r]
end
mutual
theorem BU:∀e:Ex,(trE e).length=nd e
 | .none=>by simp[trE,nd]
 | .num n=>by simp[trE,nd]
 | .var x=>by simp[trE,nd]
 | .op s a b=>by simp[trE,nd,BU a,BU b];lia
 | .make r as=>by simp[trE,nd,YL as];lia
theorem YL:∀e:Exs,(GW e).length=nds e
 | .nil=>by simp[GW,nds]
 | .cons a r=>by simp[GW,nds,BU a,YL r]
end
mutual
theorem AJ9 [Pool](y:Str):∀e:Ex,wf e->y∈vrE e->pn y
 | .none,_,h=>by simp[vrE] at h
 | .num n,_,h=>by simp[vrE] at h
 | .var x,w,h=>by simp[vrE] at h;rw[h];exact w
 | .op s a b,w,h=>by
  simp only[vrE,CZ9] at h
  exact h.elim (AJ9 y a w.2.1) (AJ9 y b w.2.2)
 | .make r as,w,h=>BE4 y as w.2.2 (by simpa[vrE] using h)
theorem BE4 [Pool](y:Str):∀e:Exs,wfs e->y∈YS e->pn y
 | .nil,_,h=>by simp[YS] at h
 | .cons a r,w,h=>by
  simp only[YS,CZ9] at h
  exact h.elim (AJ9 y a w.1) (BE4 y r w.2)
end
mutual
theorem EK:∀b:Blk,(dsB b).length=C0 b
 | .nil=>by simp[dsB,C0]
 | .cons d r=>by simp only[dsB,C0,CW3,BG3 d,EK r]
theorem BG3:∀d:Deed,(dsD d).length=F2 d
 | .mk h bs=>by simp only[dsD,F2,CV6,WF bs];lia
theorem WF:∀b:Bls,(HK b).length=E8 b
 | .nil=>by simp[HK,E8]
 | .cons b r=>by simp only[HK,E8,CW3,EK b,WF r]
end
mutual
theorem CQ [Pool]:∀(b:Blk),okB b->∀d∈dsB b,okD d
 | .nil,_,d,h=>by simp[dsB] at h
 | .cons x r,k,d,h=>by
  simp only[dsB,CZ9] at h
  exact h.elim (BS4 x k.1 d) (CQ r k.2 d)
theorem BS4 [Pool]:∀(x:Deed),okD x->∀d∈dsD x,okD d
 | .mk h bs,k,d,m=>by
  simp only[dsD,CV0] at m
  rcases m with rfl|m
  ·exact k
  ·exact AF0 bs k.2 d m
theorem AF0 [Pool]:∀(b:Bls),AW5 b->∀d∈HK b,okD d
 | .nil,_,d,h=>by simp[HK] at h
 | .cons x r,k,d,h=>by
  simp only[HK,CZ9] at h
  exact h.elim (CQ x k.1 d) (AF0 r k.2 d)
end
mutual
theorem CS:∀(a b:Ex),eD a=eD b->a=b
 | .none,.none,_=>rfl
 | .num m,.num n,h=>by
  simp only[eD,D.tup.injEq,List.cons.injEq,D.int.injEq,and_true,true_and] at h
  rw[h]
 | .var m,.var n,h=>by
  simp only[eD,D.tup.injEq,List.cons.injEq,D.str.injEq,and_true,true_and] at h
  rw[h]
 | .op s a b,.op t c d,h=>by
  simp only[eD,D.tup.injEq,List.cons.injEq,D.str.injEq,and_true,true_and] at h
  rw[h.1,CS a c h.2.1,CS b d h.2.2]
 | .make r as,.make t bs,h=>by
  simp only[eD,D.tup.injEq,List.cons.injEq,D.str.injEq,and_true,true_and] at h
  rw[h.1,AF3 as bs h.2]
 | .none,.num _,h=>by simp[eD] at h
 | .none,.var _,h=>by simp[eD] at h
 | .none,.op _ _ _,h=>by simp[eD] at h
 | .none,.make _ _,h=>by simp[eD] at h
 | .num _,.none,h=>by simp[eD] at h
 | .num _,.var _,h=>by simp[eD] at h
 | .num _,.op _ _ _,h=>by simp[eD] at h
 | .num _,.make _ _,h=>by simp[eD] at h
 | .var _,.none,h=>by simp[eD] at h
 | .var _,.num _,h=>by simp[eD] at h
 | .var _,.op _ _ _,h=>by simp[eD] at h
 | .var _,.make _ _,h=>by simp[eD] at h
 | .op _ _ _,.none,h=>by simp[eD] at h
 | .op _ _ _,.num _,h=>by simp[eD] at h
 | .op _ _ _,.var _,h=>by simp[eD] at h
 | .op _ _ _,.make _ _,h=>by simp[eD] at h
 | .make _ _,.none,h=>by simp[eD] at h
 | .make _ _,.num _,h=>by simp[eD] at h
 | .make _ _,.var _,h=>by simp[eD] at h
 | .make _ _,.op _ _ _,h=>by simp[eD] at h
theorem AF3:∀(a b:Exs),eDs a=eDs b->a=b
 | .nil,.nil,_=>rfl
 | .cons a r,.cons b q,h=>by
  simp only[eDs,List.cons.injEq] at h
  rw[CS a b h.1,AF3 r q h.2]
 | .nil,.cons _ _,h=>by simp[eDs] at h
 | .cons _ _,.nil,h=>by simp[eDs] at h
end
theorem G2 (e:Ex)(x:Str):eD e≠.str x:=by cases e<;>simp[eD]
theorem HM:∀as:Exs,eDs as=(exL as).map eD
 | .nil=>by simp[eDs,exL]
 | .cons a r=>by simp[eDs,exL,HM r]
end K10
namespace K10
open PySem L2 L3
abbrev FX:List Str:=["deed","kind"]
def BQ:TS3 :=
  (B1 (Q8 (AG0 (A0 (CD5 tblS (A3 C6 (A1 0) (tC3 (.int 0)))) (A0 (RS (A1 0) (EE (tC3 (.int 1))) W1) A2))) 2 [1] (CV [0,1]) (A9 (A3 J4 (A1 0) (A1 2))) (A1 1)))
theorem YF (d0 d1:D):B3 FX [d0,d1]=[some d0,some d1]:=rfl
abbrev CH:List Str:=["deed"]
def Y4:TS3 :=
  (A6 (C8 (A9 (A3 J4 (A3 C6 (A1 0) (tC3 (.int 0))) (tC3 (.str "if")))) (B1 (E9 (A0 (A3 C6 (A1 0) (tC3 (.int 2))) (A0 (A3 C6 (A1 0) (tC3 (.int 3))) A2)))) B9)
  (A6 (C8 (A9 (A3 J4 (A3 C6 (A1 0) (tC3 (.int 0))) (tC3 (.str "while")))) (B1 (E9 (A0 (A3 C6 (A1 0) (tC3 (.int 2))) A2))) B9)
  (A6 (C8 (A9 (A3 J4 (A3 C6 (A1 0) (tC3 (.int 0))) (tC3 (.str "try")))) (B1 (A3 C9 (A3 C9 (E9 (A0 (A3 C6 (A1 0) (tC3 (.int 1))) A2)) (F9 (Z7 (A3 C6 (A1 0) (tC3 (.int 2)))) 3 [] (CV [0,1,2]) J8 (A1 2))) (E9 (A0 (A3 C6 (A1 0) (tC3 (.int 3))) A2)))) B9)
  (B1 (E9 A2)))))
theorem VA (d0:D):B3 CH [d0]=[some d0]:=rfl
abbrev FT:List Str:=["block","found","deed","inner"]
def BK (q_deeds_of:Sp3):TS3 :=
  (A6 (B6 1 (GU A2))
  (A6 (X9 (Z7 (A1 0)) 2 (A6 (BI (PY "list" DD (A1 1) (A0 (A1 2) A2)))
  (X9 (S3 (A4 PK.ES (A0 (A1 2) A2))) 3 (BI (PY "list" RI (A1 1) (A0 (A4 q_deeds_of (A0 (A1 3) A2)) A2))))))
  (B1 (A1 1))))
theorem YB (d0:D):B3 FT [d0]=[some d0,none,none,none]:=rfl
abbrev Y9:List Str:=["deed"]
def R4:TS3 :=
  (A6 (C8 (A9 (A3 J4 (A3 C6 (A1 0) (tC3 (.int 0))) (tC3 (.str "try")))) (B1 (Q8 (Z7 (A3 C6 (A1 0) (tC3 (.int 2)))) 3 [] (CV [0,1,2]) J8 (A1 1))) B9)
  (B1 (A4 ET (A0 (A1 0) (A0 (tC3 (.str "name")) A2)))))
theorem OB (d0:D):B3 Y9 [d0]=[some d0]:=rfl
abbrev Y8:List Str:=["expression"]
def R1:TS3 :=
  (A6 (C8 (A9 (A3 J4 (A3 C6 (A1 0) (tC3 (.int 0))) (tC3 (.str "op")))) (B1 (E9 (A0 (A3 C6 (A1 0) (tC3 (.int 2))) (A0 (A3 C6 (A1 0) (tC3 (.int 3))) A2)))) B9)
  (A6 (C8 (A9 (A3 J4 (A3 C6 (A1 0) (tC3 (.int 0))) (tC3 (.str "make")))) (B1 (C5 JN (A0 (A3 C6 (A1 0) (tC3 (.int 2))) A2))) B9)
  (B1 (E9 A2))))
theorem OA (d0:D):B3 Y8 [d0]=[some d0]:=rfl
abbrev FZ:List Str:=["expression","found","branch"]
def BS (q_trees_of:Sp3):TS3 :=
  (A6 (B6 1 (GU (A0 (A1 0) A2)))
  (A6 (X9 (S3 (A4 W0 (A0 (A1 0) A2))) 2 (BI (PY "list" RI (A1 1) (A0 (A4 q_trees_of (A0 (A1 2) A2)) A2))))
  (B1 (A1 1))))
theorem YH (d0:D):B3 FZ [d0]=[some d0,none,none]:=rfl
abbrev CJ:List Str:=["rule","names","deed"]
def Y7:TS3 :=
  (A6 (B6 1 (Q8 (S3 (GT (A4 EU (A0 (A1 0) A2)))) 1 [] (K2 0) (A9 (A3 J4 (A3 C6 (A1 0) (tC3 (.int 0))) (tC3 (.str "var")))) (A3 C6 (A1 0) (tC3 (.int 1)))))
  (A6 (X9 (S3 (GT (A4 (E4 8) (A0 (A3 C6 (A1 0) (tC3 (.int 2))) A2)))) 2 (BI (PY "list" RI (A1 1) (A0 (A4 IQ (A0 (A1 2) A2)) A2))))
  (B1 (A3 C9 (A3 C6 (A1 0) (tC3 (.int 1))) (C5 M7 (A0 (AC8 (BD7 (YK (A0 (A1 1) A2)) (YK (A0 (A3 C6 (A1 0) (tC3 (.int 1))) A2)))) A2))))))
theorem VC (d0:D):B3 CJ [d0]=[some d0,none,none]:=rfl
end K10
open L3
local macro_rules | `(tactic| walk_at "rd")=>`(tactic| repeat (first|(with_reducible first|refine DS ?_|refine DM ?_|refine X6 ?_|refine KU ?_|refine KZ ?_|refine XG ?_|refine BC ?_|refine DT ?_|refine W9 ?_|refine T4 ?_|refine W7 ?_|refine KR ?_|refine DO ?_|refine W8 ?_|refine X7 ?_|refine X3 ?_|refine DI ?_|refine KW ?_|refine DP ?_|refine W6 ?_|refine DQ ?_|refine X4 ?_|refine R7 ?_|refine KY ?_|refine KS ?_|refine X5 ?_|refine P5 ?_|refine G6 ?_|refine G9 ?_|refine V5 ?_|refine V4 ?_|refine KQ ?_|refine XE ?_|refine J9 ?_|refine X1 ?_|refine X2 ?_|refine DH ?_|refine R8 ?_|refine R9 ?_|refine DU ?_|refine DN ?_|refine GN ?_|refine V2 ?_|refine BD ?_|refine NH ?_|refine BB ?_|refine BE ?_|refine AX ?_|refine BA ?_|refine X0 ?_|refine V3 ?_|refine V7 ?_|refine S0 ?_|refine V6 ?_|refine AY ?_|refine GQ ?_|refine GP ?_|refine DJ ?_|refine GR ?_|refine DL ?_|refine DR ?_|refine NJ ?_|refine UH ?_|refine BB3 ?_|refine JT ?_|refine UE ?_|refine NL ?_|refine UP ?_|refine UN ?_|refine ER ?_)|((with_reducible show A1 _ _ _ _);refine V8 rfl ?_)|((with_reducible show _/\_);refine⟨(by first|decide|(simp only[CV6,CY0];decide)),?_⟩)))
namespace K10
open PySem L2 L3 PK
open PyProof.Rows (sortedS)
theorem OY:∀ds M Q,ES ds M Q->ds.length=1:=by rintro _ _ _ ⟨_,_,_,rfl,_⟩;rfl
theorem UD:∀ds M Q,ES ds M Q->Y4 {nx:=fun _ M'=>View Q .non M',rt:=View Q} (B3 CH ds) M:=by
 rintro _ M Q ⟨P,h,bs,rfl,hh,q⟩
 have hl:=SH bs
 rw[VA]
 unfold Y4
 show _
 change (A6 _ _) _ [some (QW h (dTs bs))] M
 generalize dTs bs=ts at q hl
 cases h with
 | leaf h r =>
  obtain⟨h0,hlf⟩:=hh
  obtain⟨n1,n2,n3⟩:=BH4 hlf
  have hts:ts=[]:=List.length_eq_zero_iff.mp (hl.trans h0)
  subst hts
  walk_at "rd"
  refine B8 (d:=.str h) (G3 (j:=0) rfl) ?_
  walk_at "rd"
  refine A8 n1 ?_
  walk_at "rd"
  refine B8 (d:=.str h) (G3 (j:=0) rfl) ?_
  walk_at "rd"
  refine A8 n2 ?_
  walk_at "rd"
  refine B8 (d:=.str h) (G3 (j:=0) rfl) ?_
  walk_at "rd"
  refine A8 n3 ?_
  walk_at "rd"
  exact View.of q
 | ife e =>
  obtain⟨h0,_⟩:=hh
  obtain⟨t0,t1,rfl⟩:∃t0 t1,ts=[t0,t1]:=by
   match ts,hl.trans h0 with
   | [a,b],_=>exact⟨a,b,rfl⟩
  walk_at "rd"
  refine B8 (d:=.str "if") rfl ?_
  walk_at "rd"
  refine B7 (by decide +kernel) ?_
  walk_at "rd"
  refine B8 (d:=t0) rfl ?_
  walk_at "rd"
  refine B8 (d:=t1) rfl ?_
  walk_at "rd"
  exact View.of q
 | whl e =>
  obtain⟨h0,_⟩:=hh
  obtain⟨t0,rfl⟩:∃t0,ts=[t0]:=by
   match ts,hl.trans h0 with
   | [a],_=>exact⟨a,rfl⟩
  walk_at "rd"
  refine B8 (d:=.str "while") rfl ?_
  walk_at "rd"
  refine A8 (by decide +kernel) ?_
  walk_at "rd"
  refine B8 (d:=.str "while") rfl ?_
  walk_at "rd"
  refine B7 (by decide +kernel) ?_
  walk_at "rd"
  refine B8 (d:=t0) rfl ?_
  walk_at "rd"
  exact View.of q
 | tr cs =>
  obtain⟨h0,hcs,_⟩:=hh
  obtain⟨t0,rest,rfl⟩:∃t0 rest,ts=t0::rest:=by
   match ts,hl.trans h0 with
   | a::r,_=>exact⟨a,r,rfl⟩
  have hr:rest.length=cs.length+1:=by simpa[h0] using hl
  walk_at "rd"
  refine B8 (d:=.str "try") rfl ?_
  walk_at "rd"
  refine A8 (by decide +kernel) ?_
  walk_at "rd"
  refine B8 (d:=.str "try") rfl ?_
  walk_at "rd"
  refine A8 (by decide +kernel) ?_
  walk_at "rd"
  refine B8 (d:=.str "try") rfl ?_
  walk_at "rd"
  refine B7 (by decide +kernel) ?_
  walk_at "rd"
  refine B8 (d:=t0) rfl ?_
  walk_at "rd"
  refine B8 (d:=.tup (J7 cs rest)) rfl ?_
  walk_at "rd"
  have e1:J7 cs rest=(J7 cs rest).map id:=by simp
  rw[e1]
  have hcl:=SE cs rest
  refine G4 (J7 cs rest) id AJ5 (by rw[CX1];lia) ?_ ?_
  ·intro d hd M2 R F _ hR
   obtain⟨w,x,t,rfl⟩:=SF cs rest d hd
   refine AZ rfl ?_
   walk_at "rd"
   exact hR
  rw[QN cs rest (by lia)]
  refine K6 (by simp;rw[CX1];lia) ?_
  walk_at "rd"
  have hlast:∃l,rest[cs.length]?=some l:=⟨rest[cs.length],by simp⟩
  obtain⟨l,hl2⟩:=hlast
  have e2:(t0::rest).getD (cs.length+1) (.tup [])=l:=by simp[DN0,hl2]
  refine B8 (d:=l) (by rw[<-e2];rfl) ?_
  walk_at "rd"
  refine K6 (by simp;rw[CX1];lia) ?_
  have e3:[t0]++rest.take cs.length++[l]=t0::rest:=by
   have:rest.take cs.length++[l]=rest:=by
    have h5:=DE1 (l:=rest) (i:=cs.length)
    rw[hl2] at h5
    rw[show rest.take cs.length++[l]=rest.take cs.length++(some l).toList from rfl,<-h5,DK6 (by lia)]
   rw[DP0,this];rfl
  rw[e3]
  exact View.of q
theorem SX:∀ds M Q,ET ds M Q->ds.length=2:=by rintro _ _ _ ⟨_,_,_,_,rfl,_⟩;rfl
theorem CF3 (x:D)(r:List D):cutD (x::r) (some 1) none=r:=by
 unfold cutD
 have e1:HT.sIx (x::r).length 0 (some 1)=1:=by simp[HT.sIx]
 have e2:HT.sIx (x::r).length (x::r).length none=(x::r).length:=by simp[HT.sIx]
 rw[e1,e2,List.drop_one,List.tail_cons,DK6 (by simp)]
theorem YX:∀(sh:List Str) (r:List D),AK (sh.map D.str) r=(sh.zip r).map fun p=>.tup [.str p.1,p.2]
 | [],r=>by simp[AK]
 | s::sh,[]=>by simp[AK]
 | s::sh,d::r=>by
  show D.tup [.str s,d]::AK (sh.map D.str) r=_
  rw[YX sh r];rfl
theorem XQ:∀ds M Q,ET ds M Q->BQ {nx:=fun _ M'=>View Q .non M',rt:=View Q} (B3 FX ds) M:=by
 rintro _ M Q ⟨h,r,kind,sh,rfl,hl,hlen,q⟩
 rw[YF]
 unfold BQ
 walk_at "rd"
 refine B8 (d:=.str h) (G3 (j:=0) rfl) ?_
 refine⟨h,sh,rfl,hl,?_⟩
 walk_at "rd"
 rw[CF3]
 refine⟨_,_,rfl,?_⟩
 rw[YX]
 refine CN (sh.zip r) _ Prod.snd (fun p=>p.1==kind) (by rw[CX1,List.length_zip];lia) ?_ fun p M' h1 h2 h3=>View.of (q p M' h1 h2 h3)
 intro a ha M2 R F _ hR hF
 refine AZ rfl ?_
 walk_at "rd"
 cases e:(a.1==kind) with
 | true=>exact G6 (V8 rfl (hR e))
 | false=>exact G9 (hF e)
def AU0:Deed->Bool
 | .mk (.tr _) _=>true
 | _=>false
theorem EL {es:List Ex}(hr:∀e,eD e∈r↔e∈es)(y:Str):(∃e∈es,y∈vrE e)↔Ev y (.mk (.leaf h r) .nil):=by
 show _↔∃e,eD e∈r/\y∈vrE e
 simp only[hr]
theorem W4 {e e':Ex}:(eD e=eD e')↔e=e':=⟨CS e e',fun h=>by rw[h]⟩
end K10
open L3
namespace K10
open PySem L2 L3 PK
open PyProof.Rows (sortedS)
structure Shp [Pool](d:Deed)(hd:Str)(rest:List D)(sh:List Str):Prop where
 eq:dD d=.tup (.str hd::rest)
 look:tblS.lookup hd=some sh
 few:sh.length<=10
 tr:(hd==("try":Str))=AU0 d
 ex:∃es:List Ex,pick "expression" sh rest=es.map eD/\es.length<=2/\(∀e∈es,wf e/\nd e<=9/\dp e<=4)/\∀y,(∃e∈es,y∈vrE e)↔Ev y d
 nm:AU0 d=false->∃ns:List Str,pick "name" sh rest=ns.map D.str/\ns.length<=2/\∀x,x∈ns↔Tg x d
theorem CD8 (h1:(h="let"\/h="give"\/h="on"\/h="ask"\/h="cast"))(h2:¬(h="ask"\/h="cast"))(z:Str):z∈[x]↔Tg z (.mk (.leaf h (.str x::r)) .nil):=by
 show _↔((h="let"\/h="give"\/h="on"\/h="ask"\/h="cast")/\(D.str x::r)[0]?=some (D.str z))\/((h="ask"\/h="cast")/\_)
 rw[eq_true h1,eq_false h2]
 simp[eq_comm]
theorem BD9 (h1:(h="let"\/h="give"\/h="on"\/h="ask"\/h="cast"))(h2:(h="ask"\/h="cast"))(z:Str):z∈[x,y]↔Tg z (.mk (.leaf h (.str x::.str y::r)) .nil):=by
 show _↔((h="let"\/h="give"\/h="on"\/h="ask"\/h="cast")/\(D.str x::.str y::r)[0]?=some (D.str z))\/((h="ask"\/h="cast")/\(D.str x::.str y::r)[1]?=some (D.str z))
 rw[eq_true h1,eq_true h2]
 simp[eq_comm]
theorem VI (h1:¬(h="let"\/h="give"\/h="on"\/h="ask"\/h="cast"))(h2:¬(h="ask"\/h="cast"))(z:Str):z∈([]:List Str)↔Tg z (.mk (.leaf h r) .nil):=by
 show _↔((h="let"\/h="give"\/h="on"\/h="ask"\/h="cast")/\_)\/((h="ask"\/h="cast")/\_)
 rw[eq_false h1,eq_false h2]
 simp
theorem BC6 [Pool](hl:RU h r):∃sh,Shp (.mk (.leaf h r) .nil) h r sh:=by
 rcases hl with⟨h1,x,e,rfl,hx,he⟩|⟨h1,e,rfl,he⟩|⟨h1,x,y,g,e,rfl,hx,hy,hg,he⟩|⟨h1,x,y,g,w,e,rfl,hx,hy,hw,hg,he⟩|⟨h1,rfl⟩|⟨h1,w,e,rfl,hw,he⟩
 ·obtain⟨e,rfl,w1,w2,w3⟩:=he
  rcases h1 with rfl|rfl|rfl
  all_goals exact⟨["name","expression"],rfl,by decide +kernel,by decide,by show _=false;decide +kernel,⟨[e],by first|rfl|kernel_rfl,by simp,by simpa using⟨w1,w2,w3⟩,EL fun e'=>by simp[G2,W4]⟩,fun _=>⟨[x],by first|rfl|kernel_rfl,by simp,CD8 (by decide +kernel) (by decide +kernel)⟩⟩
 ·obtain⟨e,rfl,w1,w2,w3⟩:=he
  rcases h1 with rfl|rfl|rfl
  all_goals exact⟨["expression"],rfl,by decide +kernel,by decide,by show _=false;decide +kernel,⟨[e],by first|rfl|kernel_rfl,by simp,by simpa using⟨w1,w2,w3⟩,EL fun e'=>by simp[G2,W4]⟩,fun _=>⟨[],by first|rfl|kernel_rfl,by simp,VI (by decide +kernel) (by decide +kernel)⟩⟩
 ·obtain⟨e,rfl,w1,w2,w3⟩:=he
  obtain⟨g,rfl,v1,v2,v3⟩:=hg
  subst h1
  exact⟨["name","name","expression","expression"],rfl,by decide +kernel,by decide,by show _=false;decide +kernel,⟨[g,e],by first|rfl|kernel_rfl,by simp,by simpa using⟨⟨v1,v2,v3⟩,w1,w2,w3⟩,EL fun e'=>by simp[G2,W4]⟩,fun _=>⟨[x,y],by first|rfl|kernel_rfl,by simp,BD9 (by decide +kernel) (by decide +kernel)⟩⟩
 ·obtain⟨e,rfl,w1,w2,w3⟩:=he
  obtain⟨g,rfl,v1,v2,v3⟩:=hg
  subst h1
  exact⟨["name","name","expression","word","expression"],rfl,by decide +kernel,by decide,by show _=false;decide +kernel,⟨[g,e],by first|rfl|kernel_rfl,by simp,by simpa using⟨⟨v1,v2,v3⟩,w1,w2,w3⟩,EL fun e'=>by simp[G2,W4]⟩,fun _=>⟨[x,y],by first|rfl|kernel_rfl,by simp,BD9 (by decide +kernel) (by decide +kernel)⟩⟩
 ·subst h1
  exact⟨[],rfl,by decide +kernel,by decide,by show _=false;decide +kernel,⟨[],by first|rfl|kernel_rfl,by simp,by simp,EL fun e'=>by simp⟩,fun _=>⟨[],by first|rfl|kernel_rfl,by simp,VI (by decide +kernel) (by decide +kernel)⟩⟩
 ·obtain⟨e,rfl,w1,w2,w3⟩:=he
  subst h1
  exact⟨["word","expression"],rfl,by decide +kernel,by decide,by show _=false;decide +kernel,⟨[e],by first|rfl|kernel_rfl,by simp,by simpa using⟨w1,w2,w3⟩,EL fun e'=>by simp[G2,W4]⟩,fun _=>⟨[],by first|rfl|kernel_rfl,by simp,VI (by decide +kernel) (by decide +kernel)⟩⟩
theorem UY [Pool](d:Deed)(hk:okD d):∃hd rest sh,Shp d hd rest sh:=by
 obtain⟨h,bs⟩:=d
 have hl:=SH bs
 obtain⟨hk,hb⟩:=hk
 cases h with
 | leaf h r =>
  obtain⟨h0,hlf⟩:=hk
  cases bs with
  | nil =>
   obtain⟨sh,s⟩:=BC6 hlf
   exact⟨h,r,sh,s⟩
  | cons b r=>exact absurd h0 (Nat.succ_ne_zero _)
 | ife d =>
  obtain⟨h0,e,rfl,w1,w2,w3⟩:=hk
  obtain⟨t0,t1,ht⟩:∃t0 t1,dTs bs=[t0,t1]:=by
   match h:dTs bs,hl.trans h0 with
   | [a,b],_=>exact⟨a,b,rfl⟩
  exact⟨"if",[eD e,t0,t1],["expression","block","rest"],by show QW (.ife (eD e)) (dTs bs)=_;rw[ht];rfl,by decide +kernel,by decide,by show _=false;decide +kernel,⟨[e],by first|rfl|kernel_rfl,by simp,by simpa using⟨w1,w2,w3⟩,fun y=>by
   show _↔∃e',eD e=eD e'/\y∈vrE e'
   simp[W4]⟩,fun _=>⟨[],by first|rfl|kernel_rfl,by simp,fun x=>by show _↔False;simp⟩⟩
 | whl d =>
  obtain⟨h0,e,rfl,w1,w2,w3⟩:=hk
  obtain⟨t0,ht⟩:∃t0,dTs bs=[t0]:=by
   match h:dTs bs,hl.trans h0 with
   | [a],_=>exact⟨a,rfl⟩
  exact⟨"while",[eD e,t0],["expression","block"],by show QW (.whl (eD e)) (dTs bs)=_;rw[ht];rfl,by decide +kernel,by decide,by show _=false;decide +kernel,⟨[e],by first|rfl|kernel_rfl,by simp,by simpa using⟨w1,w2,w3⟩,fun y=>by
   show _↔∃e',eD e=eD e'/\y∈vrE e'
   simp[W4]⟩,fun _=>⟨[],by first|rfl|kernel_rfl,by simp,fun x=>by show _↔False;simp⟩⟩
 | tr cs =>
  exact⟨"try",[(dTs bs).getD 0 (.tup []),.tup (J7 cs (dTs bs).tail),(dTs bs).getD (cs.length+1) (.tup [])],["block","catches","rest"],rfl,by decide +kernel,by decide,by show _=true;decide +kernel,⟨[],by first|rfl|kernel_rfl,by simp,by simp,fun y=>by show _↔False;simp⟩,fun h=>by cases h⟩
theorem CF8 [Pool](hk:okD d)(h:Ev y d):pn y:=by
 obtain⟨hd,rest,sh,s⟩:=UY d hk
 obtain⟨es,_,_,hw,he⟩:=s.ex
 obtain⟨e,hm,hy⟩:=(he y).mpr h
 exact AJ9 y e (hw e hm).1 hy
theorem CQ1 [Pool](hk:okD d)(h:Tg x d):pn x:=by
 obtain⟨h0,bs⟩:=d
 obtain⟨hk,_⟩:=hk
 cases h0 with
 | leaf hh r =>
  obtain⟨_,hl⟩:=hk
  rcases hl with⟨h1,y,e,rfl,hx,he⟩|⟨h1,e,rfl,he⟩|⟨h1,y,z,g,e,rfl,hx,hy,hg,he⟩|⟨h1,y,z,g,w,e,rfl,hx,hy,hw,hg,he⟩|⟨h1,rfl⟩|⟨h1,w,e,rfl,hw,he⟩
  ·rcases h with⟨_,h⟩|⟨h,_⟩
   ·simp at h;rw[<-h];exact hx
   ·rcases h1 with rfl|rfl|rfl<;>exact absurd h (by decide +kernel)
  ·rcases h with⟨h,_⟩|⟨h,_⟩
   ·rcases h1 with rfl|rfl|rfl<;>exact absurd h (by decide +kernel)
   ·rcases h1 with rfl|rfl|rfl<;>exact absurd h (by decide +kernel)
  ·rcases h with⟨_,h⟩|⟨_,h⟩
   ·simp at h;rw[<-h];exact hx
   ·simp at h;rw[<-h];exact hy
  ·rcases h with⟨_,h⟩|⟨_,h⟩
   ·simp at h;rw[<-h];exact hx
   ·simp at h;rw[<-h];exact hy
  ·subst h1
   rcases h with⟨h,_⟩|⟨h,_⟩<;>exact absurd h (by decide +kernel)
  ·subst h1
   rcases h with⟨h,_⟩|⟨h,_⟩<;>exact absurd h (by decide +kernel)
 | ife d=>exact h.elim
 | whl d=>exact h.elim
 | tr cs =>
  obtain⟨w,hw⟩:=h
  exact(hk.2.2 _ hw).2
theorem AH5 [Pool]{b:Blk}(hk:okB b)(h:Nm x b):x∈Pool.ps:=by
 obtain⟨d,hd,h⟩:=h
 rcases h with h|h
 ·exact(CF8 (CQ b hk d hd) h).2
 ·exact(CQ1 (CQ b hk d hd) h).2
theorem AS:∀(ys ps:List Str),ys.Nodup->(∀y∈ys,y∈ps)->ys.length<=ps.length
 | [],ps,_,_=>DC3 _
 | y::ys,ps,hn,h=>by
  rw[List.nodup_cons] at hn
  have hy:=h y CW4
  have h1:=AS ys (ps.erase y) hn.2 fun z hz=>(List.mem_erase_of_ne (by rintro rfl;exact hn.1 hz)).mpr (h z (CW5 _ hz))
  rw[List.length_erase_of_mem hy] at h1
  have:=List.length_pos_of_mem hy
  show ys.length+1<=ps.length
  lia
end K10
open L3
namespace K10
open PySem L2 L3 PK
open PyProof.Rows (sortedS)
theorem LF:∀ds M Q,IQ ds M Q->ds.length=1:=by rintro _ _ _ ⟨_,_,rfl,_⟩;rfl
def UT:D->D
 | .tup [_,t,_]=>t
 | _=>.non
theorem ME:∀(cs:List (Str×Str)) (ts:List D),cs.length<=ts.length->(J7 cs ts).map UT=cs.map fun c=>.str c.2
 | [],ts,_=>by cases ts<;>rfl
 | (w,x)::cs,[],h=>by simp at h
 | (w,x)::cs,t::ts,h=>by
  show UT (.tup [.str w,.str x,t])::(J7 cs ts).map UT=_
  rw[ME cs ts (by simpa using h)]
  rfl
theorem NK:∀ds M Q,IQ ds M Q->R4 {nx:=fun _ M'=>View Q .non M',rt:=View Q} (B3 Y9 ds) M:=by
 rintro _ M Q ⟨P,d,rfl,hk,q⟩
 obtain⟨hd,rest,sh,s⟩:=UY d hk
 rw[OB]
 unfold R4
 rw[s.eq]
 walk_at "rd"
 refine B8 (d:=.str hd) (G3 (j:=0) rfl) ?_
 walk_at "rd"
 cases ht:AU0 d with
 | false =>
  refine A8 (by rw[s.tr,ht]) ?_
  walk_at "rd"
  obtain⟨ns,h1,h2,h3⟩:=s.nm ht
  refine⟨hd,rest,"name",sh,rfl,s.look,s.few,?_⟩
  rw[h1]
  exact BI3 (q ns h3 (by lia))
 | true =>
  obtain⟨h,bs⟩:=d
  cases h<;>first|(cases ht;done)|skip
  rename_i cs
  obtain⟨⟨h0,h1,h2⟩,_⟩:=hk
  have hl:=SH bs
  have he:=s.eq
  have he2:D.tup [.str "try",(dTs bs).getD 0 (.tup []),.tup (J7 cs (dTs bs).tail),(dTs bs).getD (cs.length+1) (.tup [])]=.tup (.str hd::rest):=he
  simp only[D.tup.injEq,List.cons.injEq,D.str.injEq] at he2
  obtain⟨rfl,rfl⟩:=he2
  refine B7 (by decide +kernel) ?_
  walk_at "rd"
  refine B8 (d:=.tup (J7 cs (dTs bs).tail)) rfl ?_
  walk_at "rd"
  have hcl:=SE cs (dTs bs).tail
  have e1:J7 cs (dTs bs).tail=(J7 cs (dTs bs).tail).map id:=by simp
  rw[e1]
  refine CN (J7 cs (dTs bs).tail) id UT (fun _=>true) (by rw[CX1];lia) ?_ ?_
  ·intro a ha M2 R F _ hR _
   obtain⟨w,x,t,rfl⟩:=SF cs _ a ha
   refine AZ rfl ?_
   walk_at "rd"
   exact hR rfl
  ·intro p M' h3 h4 h5
   rw[List.filter_eq_self.mpr (fun _ _=>rfl),ME cs _ (by rw[List.length_tail,hl];lia)] at h4
   have e2:(cs.map fun c=>D.str c.2)=(cs.map Prod.snd).map D.str:=by rw[DA8];rfl
   rw[e2] at h4
   refine View.of (q (cs.map Prod.snd) (fun x=>?_) (by rw[CV1];exact h1) p M' h3 h4 h5)
   show _↔∃w,(w,x)∈cs
   simp
theorem LE:∀ds M Q,W0 ds M Q->ds.length=1:=by rintro _ _ _ ⟨_,rfl,_⟩;rfl
theorem NI:∀ds M Q,W0 ds M Q->R1 {nx:=fun _ M'=>View Q .non M',rt:=View Q} (B3 Y8 ds) M:=by
 rintro _ M Q ⟨e,rfl,q⟩
 rw[OA]
 unfold R1
 cases e with
 | none =>
  walk_at "rd"
  refine B8 (d:=.str "none") rfl ?_
  walk_at "rd"
  refine A8 (by decide +kernel) ?_
  walk_at "rd"
  refine B8 (d:=.str "none") rfl ?_
  walk_at "rd"
  refine A8 (by decide +kernel) ?_
  walk_at "rd"
  exact View.of q
 | num n =>
  walk_at "rd"
  refine B8 (d:=.str "number") rfl ?_
  walk_at "rd"
  refine A8 (by decide +kernel) ?_
  walk_at "rd"
  refine B8 (d:=.str "number") rfl ?_
  walk_at "rd"
  refine A8 (by decide +kernel) ?_
  walk_at "rd"
  exact View.of q
 | var n =>
  walk_at "rd"
  refine B8 (d:=.str "var") rfl ?_
  walk_at "rd"
  refine A8 (by decide +kernel) ?_
  walk_at "rd"
  refine B8 (d:=.str "var") rfl ?_
  walk_at "rd"
  refine A8 (by decide +kernel) ?_
  walk_at "rd"
  exact View.of q
 | op sg a b =>
  walk_at "rd"
  refine B8 (d:=.str "op") rfl ?_
  walk_at "rd"
  refine B7 (by decide +kernel) ?_
  walk_at "rd"
  refine B8 (d:=eD a) rfl ?_
  walk_at "rd"
  refine B8 (d:=eD b) rfl ?_
  walk_at "rd"
  exact View.of q
 | make r as =>
  walk_at "rd"
  refine B8 (d:=.str "make") rfl ?_
  walk_at "rd"
  refine A8 (by decide +kernel) ?_
  walk_at "rd"
  refine B8 (d:=.str "make") rfl ?_
  walk_at "rd"
  refine B7 (by decide +kernel) ?_
  walk_at "rd"
  refine B8 (d:=.tup (eDs as)) rfl ?_
  walk_at "rd"
  rw[HM]
  exact View.of q
theorem AS8:∀as:Exs,(exL as).flatMap trE=GW as
 | .nil=>by simp[exL,GW]
 | .cons a r=>by simp[exL,GW,AS8 r]
theorem BQ7 (e:Ex):trE e=e::(brE e).flatMap trE:=by
 cases e with
 | none=>simp[trE,brE]
 | num n=>simp[trE,brE]
 | var x=>simp[trE,brE]
 | op s a b=>simp[trE,brE]
 | make r as=>simp[trE,brE,AS8]
theorem AH0:∀(as:Exs) (b:Ex),b∈exL as->dp b<=dps as/\nd b<=nds as
 | .nil,b,h=>by simp[exL] at h
 | .cons a r,b,h=>by
  simp only[exL,CV0] at h
  rcases h with rfl|h
  ·exact⟨by show dp b<=max (dp b) (dps r);lia,by show nd b<=nd b+nds r;lia⟩
  ·obtain⟨h1,h2⟩:=AH0 r b h
   exact⟨by show dp b<=max (dp a) (dps r);lia,by show nd b<=nd a+nds r;lia⟩
theorem BT9 (e b:Ex)(h:b∈brE e):dp b+1<=dp e/\nd b+1<=nd e:=by
 cases e with
 | none=>simp[brE] at h
 | num n=>simp[brE] at h
 | var x=>simp[brE] at h
 | op s a c =>
  simp only[brE,CV0,CU9,or_false] at h
  have e1:dp (.op s a c)=1+max (dp a) (dp c):=rfl
  have e2:nd (.op s a c)=1+nd a+nd c:=rfl
  rcases h with rfl|rfl<;>lia
 | make r as =>
  obtain⟨h1,h2⟩:=AH0 as b h
  have e1:dp (.make r as)=1+dps as:=rfl
  have e2:nd (.make r as)=1+nds as:=rfl
  lia
theorem ZK (e:Ex):1<=dp e:=by cases e<;>simp[dp]<;>lia
theorem take_snoc {β:Type}{a:α}(g:α->List β)(h:l[k]?=some a):(l.take (k+1)).flatMap g=(l.take k).flatMap g++g a:=by
 rw[DE1,h,List.flatMap_append];simp
theorem VH {β:Type}(l:List α)(k:Nat)(g:α->List β):((l.take k).flatMap g).length<=(l.flatMap g).length:=by
 have:l.flatMap g=(l.take k).flatMap g++(l.drop k).flatMap g:=by rw[<-List.flatMap_append,DQ5]
 rw[this,CW3];lia
theorem IC:∀n ds M Q,O9 n ds M Q->ds.length=1:=by rintro _ _ _ _ ⟨_,rfl,_⟩;rfl
theorem QD:∀ds M Q,¬O9 0 ds M Q:=by
 rintro _ _ _ ⟨e,rfl,h,_⟩
 have:=ZK e
 lia
theorem XT:∀n ds M Q,O9 (n+1) ds M Q->BS (O9 n) {nx:=fun _ M'=>View Q .non M',rt:=View Q} (B3 FZ ds) M:=by
 rintro lv _ M Q ⟨e,rfl,hdp,hnd,q⟩
 rw[YH]
 unfold BS
 walk_at "rd"
 intro f hf
 walk_at "rd"
 refine⟨e,rfl,?_⟩
 walk_at "rd"
 have hlen:=BU e
 rw[BQ7 e,CV6] at hlen
 refine U5 (brE e) eD (fnd:=f) (ini:=[eD e]) (fun σ=>∃s2,σ=[some (eD e),some (.ref f),s2]) (fun k acc=>acc=(e::((brE e).take k).flatMap trE).map eD) ⟨_,rfl⟩ B4 rfl ?_ ?_
 ·rintro k b acc σ' M' N hb ⟨s2,rfl⟩ rfl hm hs nx
  obtain⟨h1,h2⟩:=BT9 e b (DA1 hb)
  have hb2:=BU b
  have e2:=take_snoc trE hb
  have e3:=VH (brE e) (k+1) trE
  rw[e2,CW3] at e3
  walk_at "rd"
  refine⟨.inl ⟨rfl,_,hm⟩,?_⟩
  walk_at "rd"
  refine⟨b,rfl,by lia,by lia,TF hm (by simp only[CV1,CV6,CX1];lia) fun M'' h3 h4=>?_⟩
  exact nx _ _ M'' ⟨_,rfl⟩ (by rw[e2,<-DD6,CX6]) h3 h4
 ·rintro σ' acc M' ⟨s2,rfl⟩ rfl hm hs
  rw[DB1,<-BQ7] at hm
  walk_at "rd"
  exact ZT q hf hm fun x hx hn=>by rw[hs x hx (by rw[D0 hx];exact hn),D0 hx]
theorem ZL:∀b:Blk,dsB b=(toL b).flatMap dsD
 | .nil=>by simp[dsB,toL]
 | .cons d r=>by simp[dsB,toL,ZL r]
theorem LN:∀b:Bls,HK b=(F6 b).flatMap dsB
 | .nil=>by simp[HK,F6]
 | .cons d r=>by simp[HK,F6,LN r]
theorem HZ:∀n ds M Q,E4 n ds M Q->ds.length=1:=by rintro _ _ _ _ ⟨_,_,rfl,_⟩;rfl
theorem PZ:∀ds M Q,¬E4 0 ds M Q:=by
 rintro _ _ _ ⟨_,_,rfl,_,h,_⟩
 lia
theorem XH:∀n ds M Q,E4 (n+1) ds M Q->BK (E4 n) {nx:=fun _ M'=>View Q .non M',rt:=View Q} (B3 FT ds) M:=by
 rintro lv _ M Q ⟨P,b,rfl,hok,hdp,hcnt,q⟩
 rw[YB]
 unfold BK
 walk_at "rd"
 intro f hf
 walk_at "rd"
 have hlen:=EK b
 rw[ZL] at hlen q
 rw[AR6]
 refine U5 (toL b) dD (fnd:=f) (ini:=[]) (fun σ=>∃s2 s3,σ=[some (.tup ((toL b).map dD)),some (.ref f),s2,s3]) (fun k acc=>acc=(((toL b).take k).flatMap dsD).map dD) ⟨_,_,rfl⟩ B4 rfl ?_ ?_
 ·rintro k d acc σ' M' N hd ⟨s2,s3,rfl⟩ rfl hm hs nx
  obtain⟨c1,c2,c3⟩:=AH1 b d (DA1 hd)
  have e2:=take_snoc dsD hd
  have e3:=VH (toL b) (k+1) dsD
  rw[e2,CW3] at e3
  obtain⟨h,bs⟩:=d
  have hokd:=c3 hok
  have ed:dsD (.mk h bs)=.mk h bs::(F6 bs).flatMap dsB:=by rw[dsD,LN]
  have hcD:F2 (.mk h bs)=1+E8 bs:=rfl
  have hdD:dpD (.mk h bs)=J1 bs:=rfl
  walk_at "rd"
  refine⟨.inl ⟨rfl,_,hm⟩,?_⟩
  walk_at "rd"
  refine EO hm (by simp only[CV1,CX1];lia) ?_
  walk_at "rd"
  refine⟨P,h,bs,rfl,hokd.1,?_⟩
  walk_at "rd"
  rw[GB]
  refine U5 (F6 bs) tB (fnd:=f) (ini:=(((toL b).take k).flatMap dsD).map dD++[dD (.mk h bs)]) (fun σ=>∃s3,σ=[some (.tup ((toL b).map dD)),some (.ref f),some (dD (.mk h bs)),s3]) (fun j acc=>acc=(((toL b).take k).flatMap dsD).map dD++(.mk h bs::((F6 bs).take j).flatMap dsB).map dD) ⟨_,rfl⟩ B4 rfl ?_ ?_
  ·rintro j c acc σ2 M2 N2 hc ⟨s3,rfl⟩ rfl hm2 hs2 nx2
   obtain⟨c4,c5,c6⟩:=MW bs c (DA1 hc)
   have f2:=take_snoc dsB hc
   have f3:=VH (F6 bs) (j+1) dsB
   have f4:=EK c
   rw[f2,CW3] at f3
   rw[ed,CV6] at e3
   walk_at "rd"
   refine⟨.inl ⟨rfl,_,hm2⟩,?_⟩
   walk_at "rd"
   refine⟨P,c,rfl,c6 hokd.2,by lia,by lia,TF hm2 (by simp only[CV1,CW3,CV6,CX1];lia) fun M'' h3 h4=>?_⟩
   exact nx2 _ _ M'' ⟨_,rfl⟩ (by rw[f2];simp) h3 h4
  ·rintro σ2 acc M2 ⟨s3,rfl⟩ rfl hm2 hs2
   rw[DB1,<-ed] at hm2
   exact nx _ _ M2 ⟨_,_,rfl⟩ (by rw[e2,CX6]) hm2 fun x hx hn=>by rw[hs2 x hx (by rw[D0 hx];exact hn),D0 hx]
 ·rintro σ' acc M' ⟨s2,s3,rfl⟩ rfl hm hs
  rw[DB1] at hm
  walk_at "rd"
  exact ZT q hf hm fun x hx hn=>by rw[hs x hx (by rw[D0 hx];exact hn),D0 hx]
end K10
open L3
namespace K10
open PySem L2 L3 PK
open PyProof.Rows (sortedS)
theorem E7 {a x:α}(h:l[k]?=some a):x∈l.take (k+1)↔x∈l.take k\/x=a:=by
 rw[DE1,h,CZ9];simp
def AU1:Ex->Bool
 | .var _=>true
 | _=>false
def CE4:Ex->D
 | .var x=>.str x
 | _=>.non
def AP6:Ex->Option Str
 | .var x=>some x
 | _=>none
theorem YR:∀ts:List Ex,(ts.filter AU1).map CE4=(ts.filterMap AP6).map D.str
 | []=>rfl
 | t::ts=>by
  have ih:=YR ts
  cases t with
  | var x=>show D.str x::(ts.filter AU1).map CE4=D.str x::(ts.filterMap AP6).map D.str;rw[ih]
  | none=>exact ih
  | num _=>exact ih
  | op _ _ _=>exact ih
  | make _ _=>exact ih
theorem AV4 (ts:List Ex)(x:Str):x∈ts.filterMap AP6↔Ex.var x∈ts:=by
 rw[List.mem_filterMap]
 constructor
 ·rintro⟨t,h1,h2⟩
  cases t<;>simp[AP6] at h2
  rw[<-h2];exact h1
 ·intro h
  exact⟨_,h,rfl⟩
theorem PC:∀ds M Q,S1 ds M Q->ds.length=1:=by rintro _ _ _ ⟨_,_,rfl,_⟩;rfl
theorem US:DE3=4096:=by first|rfl|decide
theorem UQ:∀ds M Q,S1 ds M Q->Y7 {nx:=fun _ M'=>View Q .non M',rt:=View Q} (B3 CJ ds) M:=by
 rintro _ M Q ⟨P,r,rfl,hok,hdp,hcnt,hps,hpl,q⟩
 rw[VC]
 unfold Y7
 walk_at "rd"
 refine⟨P,r,rfl,hok,hdp,hcnt,fun ts ht1 ht2=>NA fun M2 k1 k2=>?_⟩
 walk_at "rd"
 have hlen:=EK r.blk
 refine CN ts eD CE4 AU1 (by rw[CX1];lia) ?_ ?_
 ·intro t ht M3 R F _ hR hF
  cases t with
  | none =>
   walk_at "rd"
   refine B8 (d:=.str "none") rfl ?_
   walk_at "rd"
   exact A8 (by decide +kernel) (hF rfl)
  | num n =>
   walk_at "rd"
   refine B8 (d:=.str "number") rfl ?_
   walk_at "rd"
   exact A8 (by decide +kernel) (hF rfl)
  | var x =>
   walk_at "rd"
   refine B8 (d:=.str "var") rfl ?_
   walk_at "rd"
   refine B7 (by decide +kernel) ?_
   walk_at "rd"
   exact B8 (d:=.str x) rfl (hR rfl)
  | op sg a b =>
   walk_at "rd"
   refine B8 (d:=.str "op") rfl ?_
   walk_at "rd"
   exact A8 (by decide +kernel) (hF rfl)
  | make n as =>
   walk_at "rd"
   refine B8 (d:=.str "make") rfl ?_
   walk_at "rd"
   exact A8 (by decide +kernel) (hF rfl)
 intro f M3 hf hm3 hs3
 rw[YR] at hm3
 have hv:=AV4 ts
 have hvl:(ts.filterMap AP6).length<=540:=CY4 (List.length_filterMap_le _ _) ht2
 generalize ts.filterMap AP6=ns at hm3 hv hvl
 have hfM:M f=none:=by
  cases e:M f with
  | none=>rfl
  | some o=>rw[k1 f (by rw[e];simp),e] at hf;cases hf
 have k3:∀x,M x≠none->M3 x=M x:=fun x hn=>by rw[hs3 x (by rintro rfl;exact hn hfM),k1 x hn]
 walk_at "rd"
 refine B8 (d:=.tup (dB r.blk)) rfl ?_
 walk_at "rd"
 refine⟨P,r.blk,rfl,hok,by lia,by lia,NA fun M4 j1 j2=>?_⟩
 walk_at "rd"
 have hm4:M4 f=some (.lst (ns.map D.str)):=by rw[j1 f (by rw[hm3];simp)];exact hm3
 have k4:∀x,M x≠none->M4 x=M x:=fun x hn=>by rw[j1 x (by rw[k3 x hn];exact hn),k3 x hn]
 refine U5 (dsB r.blk) dD (fnd:=f) (ini:=ns.map D.str) (fun σ=>∃s2,σ=[some (rD r),some (.ref f),s2]) (fun k acc=>∃ms:List Str,acc=ms.map D.str/\(∀x,x∈ms↔(∃d∈dsB r.blk,Ev x d)\/∃d∈(dsB r.blk).take k,Tg x d)/\ms.length<=540+3*k) ⟨_,rfl⟩ hm4 ⟨ns,rfl,fun x=>by rw[hv,ht1];simp,by lia⟩ ?_ ?_
 ·rintro k d acc σ' M' N hd ⟨s2,rfl⟩ ⟨ms,rfl,h1,h2⟩ hm hs nx
  have hkl:k<(dsB r.blk).length:=(List.getElem?_eq_some_iff.mp hd).1
  walk_at "rd"
  refine⟨.inl ⟨rfl,_,hm⟩,?_⟩
  walk_at "rd"
  refine⟨P,d,rfl,CQ r.blk hok d (DA1 hd),fun gs g1 g2=>TF hm (by simp only[CV1,CX1];lia) fun M5 h3 h4=>?_⟩
  refine nx _ _ M5 ⟨_,rfl⟩ ⟨ms++gs,by rw[CX6],fun y=>?_,by rw[CW3];lia⟩ h3 h4
  rw[CZ9,h1,g1]
  constructor
  ·rintro((h|⟨e',h1,h2⟩)|h)
   ·exact .inl h
   ·exact .inr ⟨e',(E7 hd).mpr (.inl h1),h2⟩
   ·exact .inr ⟨d,(E7 hd).mpr (.inr rfl),h⟩
  ·rintro(h|⟨e',h1,h2⟩)
   ·exact .inl (.inl h)
   ·rcases(E7 hd).mp h1 with h1|rfl
    ·exact .inl (.inr ⟨e',h1,h2⟩)
    ·exact .inr h2
 ·rintro σ' acc M' ⟨s2,rfl⟩ ⟨ms,rfl,h1,h2⟩ hm hs
  rw[DB1] at h1
  have hN:∀z,z∈ms↔Nm z r.blk:=fun z=>by
   rw[h1]
   constructor
   ·rintro(⟨d,a,b⟩|⟨d,a,b⟩)
    ·exact⟨d,a,.inl b⟩
    ·exact⟨d,a,.inr b⟩
   ·rintro⟨d,a,b|b⟩
    ·exact .inl ⟨d,a,b⟩
    ·exact .inr ⟨d,a,b⟩
  have hfew:∀ys:List Str,ys.Nodup->(∀z∈ys,z∈ms)->ys.length<=15:=fun ys n h=>CY4 (AS ys Pool.ps n fun y hy=>AH5 hok ((hN y).mp (h y hy))) hps
  walk_at "rd"
  refine B8 (d:=.tup (r.pars.map D.str)) rfl ?_
  walk_at "rd"
  refine⟨_,ms,rfl,BC3 hm,by rw[US];lia,?_⟩
  walk_at "rd"
  refine B8 (d:=.tup (r.pars.map D.str)) rfl ?_
  walk_at "rd"
  refine⟨_,r.pars,rfl,rfl,by rw[US];lia,hfew,fun ys n h=>Nat.lt_of_le_of_lt (hfew ys n fun z hz=>(List.mem_filter.mp (h z hz)).1) (by decide),fun ys n so mem=>?_⟩
  walk_at "rd"
  have hy:ys.length<=15:=hfew ys n fun z hz=>(List.mem_filter.mp ((mem z).mp hz)).1
  refine LT (by rw[CV1,CV1,CX1];lia) ?_
  rw[<-CX6]
  refine View.keep (M:=M) (fun x hn=>?_) (q ys n so fun z=>?_)
  ·rw[hs x (by rintro rfl;exact hn hfM) (by rw[k4 x hn];exact hn),k4 x hn]
  ·rw[mem z,List.mem_filter,hN];simp
end K10
namespace MK
open PySem L2 L3
end MK
open L3
local macro_rules | `(tactic| walk_at "rd")=>`(tactic| repeat (first|(with_reducible first|refine DS ?_|refine DM ?_|refine X6 ?_|refine KU ?_|refine KZ ?_|refine XG ?_|refine BC ?_|refine DT ?_|refine W9 ?_|refine T4 ?_|refine W7 ?_|refine KR ?_|refine DO ?_|refine W8 ?_|refine X7 ?_|refine X3 ?_|refine DI ?_|refine KW ?_|refine DP ?_|refine W6 ?_|refine DQ ?_|refine X4 ?_|refine R7 ?_|refine KY ?_|refine KS ?_|refine X5 ?_|refine P5 ?_|refine G6 ?_|refine G9 ?_|refine V5 ?_|refine V4 ?_|refine KQ ?_|refine XE ?_|refine J9 ?_|refine X1 ?_|refine X2 ?_|refine DH ?_|refine R8 ?_|refine R9 ?_|refine DU ?_|refine DN ?_|refine GN ?_|refine V2 ?_|refine BD ?_|refine NH ?_|refine BB ?_|refine BE ?_|refine AX ?_|refine BA ?_|refine X0 ?_|refine V3 ?_|refine V7 ?_|refine S0 ?_|refine V6 ?_|refine AY ?_|refine GQ ?_|refine GP ?_|refine DJ ?_|refine GR ?_|refine DL ?_|refine DR ?_)|((with_reducible show A1 _ _ _ _);refine V8 rfl ?_)|((with_reducible show _/\_);refine⟨(by first|decide|(simp only[CV6,CY0];decide)),?_⟩)))
namespace MK
open PySem L2 L3
end MK
namespace K01
open PySem L2 L3
def G7:Int:=1000000000000000000000000000000
def OO (n:Int):Bool:=decide (G7<=n) || decide (n<=-G7)
def isStr (x:D)(z:Str):Bool:=match x with|.str w=>w==z|_=>false
def isInt (x:D):Bool:=match x with|.int _=>true|_=>false
def abc:Str:="abcdefghijklmnopqrstuvwxyz"
def AK9 (x:D):Prop:=dOk x\/∃kvs,x=.dct kvs
def isW (d:D)(m:Int):Bool:=match d with
 | .tup [x]=>isStr x "none"
 | .tup [x,.int n]=>if isStr x "number"=true then !OO n else isStr x "giver" && (decide (0<=n) && decide (n<m))
 | _=>false
def BE3 (z:Str):Prop:=z.length<=1000/\∀c∈z.cps.toList,c<128
def only (z:Str):Bool:=z.cps.toList.all fun c=>subIn ⟨#[c]⟩ abc
def isL (d:D):Bool:=match d with
 | .str z=>decide (1<=z.length) && (decide (z.length<=8) && only z)
 | _=>false
def BS9 (d:D):Bool:=isL d && !isStr d "any"
def CQ2 (d:D):Prop:=IG d/\∀xs,d=.tup xs->∀x∈xs,IG x/\AK9 x
def YT (d:D):Prop:=IG d/\∀z,d=.str z->BE3 z
def IR:Sp3:=fun ds M Q=>∃d,ds=[d]/\IG d/\Q (.bl (isInt d)) M
def NX:Sp3:=fun ds M Q=>∃z,ds=[.str z,.str abc]/\BE3 z/\Q (.bl (only z)) M
def O2:Sp3:=fun ds M Q=>∃d,ds=[d]/\YT d/\Q (.bl (isL d)) M
def AF:Sp3:=fun ds M Q=>∃d,ds=[d]/\YT d/\Q (.bl (BS9 d)) M
def EB:Sp3:=fun ds M Q=>∃n,ds=[.int n]/\Q (.bl (!OO n)) M
def AG:Sp3:=fun ds M Q=>∃d m,ds=[d,.int m]/\CQ2 d/\Q (.bl (isW d m)) M
abbrev FV:List Str:=["thing"]
def BO:TS3 :=
  (B1 (G8 (C5 K3 (A0 (A1 0) (A0 (tC3 (.ty "int")) A2))) (AC7 (C5 K3 (A0 (A1 0) (A0 (tC3 (.ty "bool")) A2))))))
theorem YD (d0:D):B3 FV [d0]=[some d0]:=rfl
abbrev FU:List Str:=["text","signs"]
def BL:TS3 :=
  (B1 (C5 DC (A0 (F9 (AT7 (A1 0)) 1 [1] (K2 0) J8 (A3 (AO5 false) (A1 0) (A1 1))) A2)))
theorem YC (d0 d1:D):B3 FU [d0,d1]=[some d0,some d1]:=rfl
abbrev AM:List Str:=["thing"]
def U2:TS3 :=
  (B1 (G8 (C5 K3 (A0 (A1 0) (A0 (tC3 (.ty "str")) A2))) (G8 (X8 FH FH (tC3 (.int 1)) (C5 E6 (A0 (A1 0) A2)) (tC3 (.int 8))) (A4 NX (A0 (A1 0) (A0 (tC3 (.str "abcdefghijklmnopqrstuvwxyz")) A2))))))
theorem PX (d0:D):B3 AM [d0]=[some d0]:=rfl
abbrev JB:List Str:=["thing"]
def FD:TS3 :=
  (B1 (G8 (A4 O2 (A0 (A1 0) A2)) (A3 CG (A1 0) (tC3 (.str "any")))))
theorem AC5 (d0:D):B3 JB [d0]=[some d0]:=rfl
abbrev AL:List Str:=["number"]
def U0:TS3 :=
  (B1 (A3 PL (C5 CA (A0 (A1 0) A2)) (tC3 (.int 1000000000000000000000000000000))))
theorem PW (d0:D):B3 AL [d0]=[some d0]:=rfl
abbrev FW:List Str:=["thing","many"]
def BP:TS3 :=
  (A6 (C8 (K4 (A9 (C5 K3 (A0 (A1 0) (A0 (tC3 (.ty "tuple")) A2))))) (B1 (tC3 (.bl false))) B9)
  (A6 (C8 (A9 (A3 FQ (C5 E6 (A0 (A1 0) A2)) (tC3 (.int 1)))) (B1 (A3 FQ (A3 C6 (A1 0) (tC3 (.int 0))) (tC3 (.str "none")))) B9)
  (A6 (C8 (Z1 (A9 (A3 CG (C5 E6 (A0 (A1 0) A2)) (tC3 (.int 2)))) (K4 (A9 (A4 IR (A0 (A3 C6 (A1 0) (tC3 (.int 1))) A2))))) (B1 (tC3 (.bl false))) B9)
  (A6 (C8 (A9 (A3 FQ (A3 C6 (A1 0) (tC3 (.int 0))) (tC3 (.str "number")))) (B1 (A4 EB (A0 (A3 C6 (A1 0) (tC3 (.int 1))) A2))) B9)
  (B1 (G8 (A3 FQ (A3 C6 (A1 0) (tC3 (.int 0))) (tC3 (.str "giver"))) (X8 FH PL (tC3 (.int 0)) (A3 C6 (A1 0) (tC3 (.int 1))) (A1 1))))))))
theorem YE (d0 d1:D):B3 FW [d0,d1]=[some d0,some d1]:=rfl
end K01
namespace L3
open PySem L2
theorem UO {l u:Option Int}{Q:DK}(h:Q (.lst (cutD ds l u)) M):RJ (.lst ds) l u M Q:=h
theorem BN0 {x y:Int}{Q:DK}(h:Q (.bl (x==y)) M):FQ (.int x) (.int y) M Q:=.inl (AY h)
theorem AI6 {Q:DK}(h:Q (.bl (x==y)) M):FQ (.str x) (.str y) M Q:=.inl (DJ h)
theorem IK {x y:D}{b:Bool}{Q:DK}(hx:dOk x)(hy:dOk y)(e:DF4 (pyD x) (pyD y)=b)(h:Q (.bl b) M):FQ x y M Q:=.inl (BB2 hx hy e h)
theorem UM {ts:TO3}{Q:DK}(h:te σ M fun x M1=>ts σ M1 fun o M2=>o=some (-1)/\BA8 x M2 Q):BD6 te ts σ M Q:=h
end L3
open L3
local macro_rules | `(tactic| walk_at "rd")=>`(tactic| repeat (first|(with_reducible first|refine DS ?_|refine DM ?_|refine X6 ?_|refine KU ?_|refine KZ ?_|refine XG ?_|refine BC ?_|refine DT ?_|refine W9 ?_|refine T4 ?_|refine W7 ?_|refine KR ?_|refine DO ?_|refine W8 ?_|refine X7 ?_|refine X3 ?_|refine DI ?_|refine KW ?_|refine DP ?_|refine W6 ?_|refine DQ ?_|refine X4 ?_|refine R7 ?_|refine KY ?_|refine KS ?_|refine X5 ?_|refine P5 ?_|refine G6 ?_|refine G9 ?_|refine V5 ?_|refine V4 ?_|refine KQ ?_|refine XE ?_|refine J9 ?_|refine X1 ?_|refine X2 ?_|refine DH ?_|refine R8 ?_|refine R9 ?_|refine DU ?_|refine DN ?_|refine GN ?_|refine V2 ?_|refine BD ?_|refine NH ?_|refine JT ?_|refine UO ?_|refine ER ?_|refine BN0 ?_|refine AI6 ?_|refine UM ?_|refine BB ?_|refine BE ?_|refine AX ?_|refine BA ?_|refine X0 ?_|refine V3 ?_|refine V7 ?_|refine S0 ?_|refine V6 ?_|refine AY ?_|refine GQ ?_|refine GP ?_|refine DJ ?_|refine GR ?_|refine DL ?_|refine DR ?_)|((with_reducible show A1 _ _ _ _);refine V8 rfl ?_)|((with_reducible show _/\_);refine⟨(by first|decide|(simp only[CV6,CY0];decide)),?_⟩)))
namespace K01
open PySem L2 L3
theorem C4 {x:D}{Q:DK}(hx:AK9 x)(hz:DK8 z=true)(h:Q (.bl (isStr x z)) M):FQ x (.str z) M Q:=by
 rcases hx with hx|⟨kvs,rfl⟩
 ·cases x with
  | str w=>exact AI6 h
  | non=>exact IK hx (EC hz) (by simp[pyD,DF4,isStr]) h
  | bl b=>exact IK hx (EC hz) (by simp[pyD,DF4,isStr]) h
  | int i=>exact IK hx (EC hz) (by simp[pyD,DF4,isStr]) h
  | tup xs=>exact IK hx (EC hz) (by simp[pyD,DF4,isStr]) h
  | lst xs=>exact IK hx (EC hz) (by simp[pyD,DF4,isStr]) h
  | dct _=>cases hx.1
  | ty _=>cases hx.1
  | ref _=>cases hx.1
 ·exact .inr ⟨kvs,z,rfl,rfl,h⟩
theorem BT2:DK8 ("none":Str)=true:=by decide +kernel
theorem AU9:DK8 ("number":Str)=true:=by decide +kernel
theorem BH2:DK8 ("giver":Str)=true:=by decide +kernel
theorem SV:∀ds M Q,IR ds M Q->ds.length=1:=by rintro _ _ _ ⟨_,rfl,_⟩;rfl
def QX:D->Bool
 | .int _=>true|.bl _=>true|_=>false
def QZ:D->Bool
 | .bl _=>true|_=>false
def HU:D->Bool
 | .str _=>true|_=>false
def QY:D->Bool
 | .tup _=>true|_=>false
theorem AU5 (x:D):isIn (tyN x) "int"=QX x\/¬IG x:=by
 cases x<;>first|exact .inr id|(left;simp only[tyN,QX,QZ,HU,QY];decide +kernel)
theorem AL4 (x:D):isIn (tyN x) "bool"=QZ x\/¬IG x:=by
 cases x<;>first|exact .inr id|(left;simp only[tyN,QX,QZ,HU,QY];decide +kernel)
theorem AU6 (x:D):isIn (tyN x) "str"=HU x\/¬IG x:=by
 cases x<;>first|exact .inr id|(left;simp only[tyN,QX,QZ,HU,QY];decide +kernel)
theorem AU7 (x:D):isIn (tyN x) "tuple"=QY x\/¬IG x:=by
 cases x<;>first|exact .inr id|(left;simp only[tyN,QX,QZ,HU,QY];decide +kernel)
theorem BB5 {x:D}{Q:DK}(h:IG x)(q:Q (.bl (QX x)) M):K3 [x,.ty "int"] M Q :=
 GO h (.inr (.inl rfl)) (by rw[(AU5 x).resolve_right fun z=>z h];exact q)
theorem AB {x:D}{Q:DK}(h:IG x)(q:Q (.bl (QZ x)) M):K3 [x,.ty "bool"] M Q :=
 GO h (.inl rfl) (by rw[(AL4 x).resolve_right fun z=>z h];exact q)
theorem EQ {x:D}{Q:DK}(h:IG x)(q:Q (.bl (HU x)) M):K3 [x,.ty "str"] M Q :=
 GO h (.inr (.inr (.inl rfl))) (by rw[(AU6 x).resolve_right fun z=>z h];exact q)
theorem C7 {x:D}{Q:DK}(h:IG x)(q:Q (.bl (QY x)) M):K3 [x,.ty "tuple"] M Q :=
 GO h (.inr (.inr (.inr (.inl rfl)))) (by rw[(AU7 x).resolve_right fun z=>z h];exact q)
theorem XN:∀ds M Q,IR ds M Q->BO {nx:=fun _ M'=>View Q .non M',rt:=View Q} (B3 FV ds) M:=by
 rintro _ M Q ⟨d,rfl,hd,q⟩
 rw[YD]
 unfold BO
 walk_at "rd"
 refine BB5 hd ?_
 refine P5 ?_
 cases d with
 | int i=>refine G6 ?_;walk_at "rd";refine AB trivial ?_;walk_at "rd";exact View.of q
 | bl b=>refine G6 ?_;walk_at "rd";refine AB trivial ?_;walk_at "rd";exact View.of q
 | ref _=>exact hd.elim
 | ty _=>exact hd.elim
 | _=>exact G9 (View.of q)
theorem ST:∀ds M Q,NX ds M Q->ds.length=2:=by rintro _ _ _ ⟨_,rfl,_⟩;rfl
theorem XI:∀ds M Q,NX ds M Q->BL {nx:=fun _ M'=>View Q .non M',rt:=View Q} (B3 FU ds) M:=by
 rintro _ M Q ⟨z,rfl,⟨hl,_⟩,q⟩
 rw[YC]
 unfold BL
 walk_at "rd"
 refine G4 z.cps.toList (fun c=>D.str ⟨#[c]⟩) (fun c=>D.bl (subIn ⟨#[c]⟩ abc)) ?_ ?_ ?_
 ·rw[<-BH5,CX1];lia
 ·intro c hc M2 R F _ hR
  walk_at "rd"
  exact BY5 rfl (by rw[Bool.false_xor];exact hR)
 ·walk_at "rd"
  have e:z.cps.toList.map (fun c=>D.bl (subIn ⟨#[c]⟩ abc))=(z.cps.toList.map fun c=>subIn ⟨#[c]⟩ abc).map D.bl:=by rw[DA8];rfl
  rw[e]
  refine NG ?_
  rw[List.all_map]
  exact View.of q
theorem MS:∀ds M Q,O2 ds M Q->ds.length=1:=by rintro _ _ _ ⟨_,rfl,_⟩;rfl
theorem PT:∀ds M Q,O2 ds M Q->U2 {nx:=fun _ M'=>View Q .non M',rt:=View Q} (B3 AM ds) M:=by
 rintro _ M Q ⟨d,rfl,⟨hd,hz⟩,q⟩
 rw[PX]
 unfold U2
 walk_at "rd"
 refine EQ hd ?_
 refine P5 ?_
 cases d with
 | str z =>
  have h:=hz z rfl
  refine G6 ?_
  walk_at "rd"
  refine BN2 (by have:=h.1;rw[CX1];lia) ?_
  walk_at "rd"
  have q:Q (.bl (decide (1<=z.length) && (decide (z.length<=8) && only z))) M:=q
  refine JR (fun h1=>?_) (fun h1=>?_)
  ·walk_at "rd"
   refine JR (fun h2=>?_) (fun h2=>?_)
   ·walk_at "rd"
    refine⟨z,rfl,h,View.of ?_⟩
    rw[decide_eq_true (show 1<=z.length by lia),decide_eq_true (show z.length<=8 by lia)] at q
    exact q
   ·rw[decide_eq_false (show¬z.length<=8 by lia),Bool.false_and,DI2] at q
    exact View.of q
  ·walk_at "rd"
   rw[decide_eq_false (show¬1<=z.length by lia),Bool.false_and] at q
   exact View.of q
 | ref _=>exact hd.elim
 | ty _=>exact hd.elim
 | _=>exact G9 (View.of q)
theorem WN:∀ds M Q,AF ds M Q->ds.length=1:=by rintro _ _ _ ⟨_,rfl,_⟩;rfl
theorem AB8:∀ds M Q,AF ds M Q->FD {nx:=fun _ M'=>View Q .non M',rt:=View Q} (B3 JB ds) M:=by
 rintro _ M Q ⟨d,rfl,hd,q⟩
 rw[AC5]
 unfold FD
 walk_at "rd"
 refine⟨d,rfl,hd,?_⟩
 refine P5 ?_
 unfold BS9 at q
 cases e:isL d with
 | false =>
  rw[e] at q
  exact G9 (View.of q)
 | true =>
  rw[e,Bool.true_and] at q
  cases d with
  | str z=>refine G6 ?_;walk_at "rd";exact View.of q
  | _=>cases e
theorem BF8 (n:Int):decide ((if n<0 then -n else n)<1000000000000000000000000000000)=!OO n:=by
 unfold OO G7
 by_cases h:n<0
 ·rw[if_pos h,DE5]
  simp only[decide_eq_true_eq,Bool.not_eq_true',DH9,decide_eq_false_iff_not]
  lia
 ·rw[if_neg h,DE5]
  simp only[decide_eq_true_eq,Bool.not_eq_true',DH9,decide_eq_false_iff_not]
  lia
theorem MQ:∀ds M Q,EB ds M Q->ds.length=1:=by rintro _ _ _ ⟨_,rfl,_⟩;rfl
theorem PQ:∀ds M Q,EB ds M Q->U0 {nx:=fun _ M'=>View Q .non M',rt:=View Q} (B3 AL ds) M:=by
 rintro _ M Q ⟨n,rfl,q⟩
 rw[PW]
 unfold U0
 walk_at "rd"
 rw[BF8]
 exact View.of q
theorem SW:∀ds M Q,AG ds M Q->ds.length=2:=by rintro _ _ _ ⟨_,_,rfl,_⟩;rfl
theorem at0 {x:D}{xs:List D}:atI (x::xs) 0=some x:=G3 (j:=0) rfl
theorem at1 {x y:D}{xs:List D}:atI (x::y::xs) 1=some y:=by
 exact G3 (j:=1) rfl
theorem BB4 {x:D}{n m:Int}{Q:DK}(hx:AK9 x)(q:Q (.bl (isStr x "giver" && (decide (0<=n) && decide (n<m)))) M) :
  G8 (A3 FQ (A3 C6 (A1 0) (tC3 (.int 0))) (tC3 (.str "giver"))) (X8 FH PL (tC3 (.int 0)) (A3 C6 (A1 0) (tC3 (.int 1))) (A1 1)) [some (.tup [x,.int n]),some (.int m)] M Q:=by
 walk_at "rd"
 refine B8 at0 ?_
 walk_at "rd"
 refine C4 hx BH2 ?_
 refine P5 ?_
 cases e:isStr x "giver" with
 | false=>rw[e] at q;exact G9 q
 | true =>
  rw[e,Bool.true_and] at q
  refine G6 ?_
  walk_at "rd"
  refine B8 at1 ?_
  walk_at "rd"
  refine JR (fun h1=>?_) (fun h1=>?_)
  ·rw[decide_eq_true h1,Bool.true_and] at q
   walk_at "rd"
   exact q
  ·rw[decide_eq_false h1,Bool.false_and] at q
   exact q
theorem AU2 (x y z:D)(r:List D)(m:Int):isW (.tup (x::y::z::r)) m=false:=by cases y<;>rfl
theorem XO:∀ds M Q,AG ds M Q->BP {nx:=fun _ M'=>View Q .non M',rt:=View Q} (B3 FW ds) M:=by
 rintro _ M Q ⟨d,m,rfl,⟨hd,hx⟩,q⟩
 rw[YE]
 unfold BP
 walk_at "rd"
 refine C7 hd ?_
 refine P5 ?_
 cases d with
 | tup xs =>
  have hx:=hx xs rfl
  refine A8 rfl ?_
  walk_at "rd"
  match xs,hx,q with
  | [],hx,q =>
   refine A8 (by decide +kernel) ?_
   walk_at "rd"
   refine B7 (by decide +kernel) ?_
   walk_at "rd"
   exact View.of q
  | [x],hx,q =>
   have hx0:=hx x CW4
   refine B7 (by simp) ?_
   walk_at "rd"
   refine B8 at0 ?_
   walk_at "rd"
   exact C4 hx0.2 BT2 (View.of q)
  | [x,y],hx,q =>
   have hx0:=hx x CW4
   have hy0:=hx y (CW5 _ CW4)
   refine A8 (by simp) ?_
   walk_at "rd"
   refine A8 (by simp) ?_
   walk_at "rd"
   refine B8 at1 ?_
   walk_at "rd"
   refine⟨y,rfl,hy0.1,?_⟩
   refine P5 ?_
   cases y with
   | int n =>
    refine A8 rfl ?_
    walk_at "rd"
    refine B8 at0 ?_
    walk_at "rd"
    refine C4 hx0.2 AU9 ?_
    refine P5 ?_
    have q:Q (.bl (if isStr x "number"=true then !OO n else isStr x "giver" && (decide (0<=n) && decide (n<m)))) M:=q
    cases e:isStr x "number" with
    | true =>
     rw[e,if_pos rfl] at q
     refine G6 ?_
     walk_at "rd"
     refine B8 at1 ?_
     walk_at "rd"
     exact⟨n,rfl,View.of q⟩
    | false =>
     rw[e,if_neg CV5] at q
     refine G9 ?_
     refine T4 ?_
     with_reducible refine BC ?_
     exact BB4 hx0.2 (View.of q)
   | _ =>
    refine B7 rfl ?_
    walk_at "rd"
    exact View.of q
  | x::y::z::r,hx,q =>
   refine A8 (by simp;lia) ?_
   walk_at "rd"
   refine B7 (by simp;lia) ?_
   walk_at "rd"
   exact View.of (by rw[AU2] at q;exact q)
 | ref _=>exact hd.elim
 | ty _=>exact hd.elim
 | _=>refine B7 rfl ?_;walk_at "rd";exact View.of q
end K01
open L3
namespace K01
open PySem L2 L3
end K01
open L3
namespace K01
open PySem L2 L3
end K01
namespace K06
open PySem L2 L3
def shutL:List Str:=["any","ask","cast","catch","close","else","end","fault","give","if","last","leave","make","none","note","on","rule","try","while"]
def BS8 (d:D):Bool:=match d with|.str z=>shutL.any (·==z)|_=>false
def SQ (d:D):Bool:=K01.isL d && !BS8 d
def J6:Sp3:=fun ds M Q=>∃d,ds=[d]/\K01.YT d/\Q (.bl (SQ d)) M
abbrev IY:List Str:=["thing"]
def EY:TS3 :=
  (B1 (G8 (A4 K01.O2 (A0 (A1 0) A2)) (A3 (AO5 true) (A1 0) (tC3 (.tup ((["any","ask","cast","catch","close","else","end","fault","give","if","last","leave","make","none","note","on","rule","try","while"]:List Str).map D.str))))))
theorem AC3 (d0:D):B3 IY [d0]=[some d0]:=rfl
end K06
namespace L3
open PySem L2
end L3
open L3
local macro_rules | `(tactic| walk_at "rd")=>`(tactic| repeat (first|(with_reducible first|refine DS ?_|refine DM ?_|refine X6 ?_|refine KU ?_|refine KZ ?_|refine XG ?_|refine BC ?_|refine DT ?_|refine W9 ?_|refine T4 ?_|refine W7 ?_|refine KR ?_|refine DO ?_|refine W8 ?_|refine X7 ?_|refine X3 ?_|refine DI ?_|refine KW ?_|refine DP ?_|refine W6 ?_|refine DQ ?_|refine X4 ?_|refine R7 ?_|refine KY ?_|refine KS ?_|refine X5 ?_|refine P5 ?_|refine G6 ?_|refine G9 ?_|refine V5 ?_|refine V4 ?_|refine KQ ?_|refine XE ?_|refine J9 ?_|refine X1 ?_|refine X2 ?_|refine DH ?_|refine R8 ?_|refine R9 ?_|refine DU ?_|refine DN ?_|refine GN ?_|refine V2 ?_|refine BD ?_|refine NH ?_|refine JT ?_|refine UO ?_|refine ER ?_|refine UM ?_|refine BB ?_|refine BE ?_|refine AX ?_|refine BA ?_|refine X0 ?_|refine V3 ?_|refine V7 ?_|refine S0 ?_|refine V6 ?_|refine AY ?_|refine GQ ?_|refine GP ?_|refine DJ ?_|refine GR ?_|refine DL ?_|refine DR ?_)|((with_reducible show A1 _ _ _ _);refine V8 rfl ?_)|((with_reducible show _/\_);refine⟨(by first|decide|(simp only[CV6,CY0];decide)),?_⟩)))
namespace K06
open PySem L2 L3
open K01 (EQ AB HU AK9 YT BE3 isL only abc)
end K06
open L3
namespace K06
open PySem L2 L3
open K01 (EQ AB HU AK9 YT BE3 isL only abc)
theorem WJ:∀ds M Q,J6 ds M Q->ds.length=1:=by rintro _ _ _ ⟨_,rfl,_⟩;rfl
theorem AB3:∀ds M Q,J6 ds M Q->EY {nx:=fun _ M'=>View Q .non M',rt:=View Q} (B3 IY ds) M:=by
 rintro _ M Q ⟨d,rfl,hd,q⟩
 rw[AC3]
 unfold EY
 walk_at "rd"
 refine⟨d,rfl,hd,?_⟩
 refine P5 ?_
 unfold SQ at q
 cases e:isL d with
 | false=>rw[e] at q;exact G9 (View.of q)
 | true =>
  rw[e,Bool.true_and] at q
  cases d with
  | str z =>
   refine G6 ?_
   walk_at "rd"
   refine .inr ⟨z,shutL,rfl,rfl,?_⟩
   rw[Bool.true_xor]
   exact View.of q
  | _=>cases e
end K06
open L3
namespace K06
open PySem L2 L3
open K01 (EQ AB HU AK9 YT BE3 isL only abc)
end K06
namespace L3
open PySem PySem.Spec PyProof.Rows L2
theorem ZI {R:Result->CV4->Prop}{target:Expr}{it:Value}{D:Addr}(I:Nat->CV4->Prop)
  (turn:∀n s,I n s->wpAny (model prog w) A (DP8 it) (fun r s₁=>match r with
   | none=>R (.ok .next) s₁
   | some v=>wpAny (model prog w) A (DL1 target it v) (fun _ s₁'=>wpAny (model prog w) A (assign target env v) (fun _ s₂ =>
     wpAny (model prog w) A (forIn ifs true fun c r=>if r=true then do let ok <-isTrue c env (eval c env);pure (ForInStep.yield ok) else pure (ForInStep.yield r)) (fun ok s₃ =>
      if ok=true then wpAny (model prog w) A (eval kx env) (fun x s₄=>wpAny (model prog w) A (eval vx env) (fun y s₅ =>
       wpAny (model prog w) A (dictSet D x y) (fun _ s₆=>∃m,m<n/\I m s₆) (fun _ _=>False) s₅) (fun _ _=>False) s₄) (fun _ _=>False) s₃
      else∃m,m<n/\I m s₃) (fun _ _=>False) s₂) (fun _ _=>False) s₁') (fun _ _=>False) s₁) (fun _ _=>False) s)
  (n:Nat) (h:I n s):codeAny (model prog w) A (.compLoop (.DictComp kx vx [⟨target,iter,ifs,0⟩] scope pos) 0 it (.ref D) env) R s:=by
 refine codeAny_loop rfl I (fun n s hI=>?_) n h
 show wpAny _ A ((compTurn (.DictComp kx vx [⟨target,iter,ifs,0⟩] scope pos) 0 it (.ref D) env).onRaise (fun x=>do noteFrame x env;theTreesLotGoes x)) _ _ s
 refine wpAny_noted ?_
 rw[compTurn_dict]
 refine CU6 (DN5 (CU6 (DB9 (turn n s hI) (fun r s₁ h₁=>?_) fun _ _ h'=>h'.elim)))
 cases r with
 | none=>exact CU7 h₁
 | some v =>
  refine CU6 (DB9 h₁ (fun _ s₁' h₁'=>?_) fun _ _ h'=>h'.elim)
  refine CU6 (DB9 h₁' (fun _ s₂ h₂=>CU6 (DB9 h₂ (fun ok s₃ h₃=>?_) fun _ _ h'=>h'.elim)) fun _ _ h'=>h'.elim)
  cases ok with
  | false=>exact CU7 ⟨rfl,h₃⟩
  | true =>
   exact CU6 (CU6 (DB9 h₃ (fun x s₄ h₄=>CU6 (DA2 (DB9 h₄ (fun y s₅ h₅=>CU6 (DN5 (DA2 (DB9 h₅ (fun _ s₆ h₆=>CU7 ⟨rfl,h₆⟩) fun _ _ h'=>h'.elim)))) fun _ _ h'=>h'.elim))) fun _ _ h'=>h'.elim))
def VD (ti:TI3)(n:Nat)(slots:List Nat)(g:TG3)(tt:TT3)(tk tv:TE3)(F:Addr->List (Key×D)->Mem->Prop)(σ:Lo)(M:Mem):Prop:=ti σ M fun ds M1=>∀p,M1 p=none->∃Pv:Nat->List (Key×D)->Mem->Prop,Pv 0 [] (D3 M1 p (.dct [])) /\
 (∀k d acc M,ds[k]?=some d->Pv k acc M->g d (CV2 n none++slots.map fun j=>(σ[j]?).getD none) M fun σ' M0=>tt σ' M0 fun b M' =>
  if b=true then tk σ' M' fun e M2=>tv σ' M2 fun f M3=>∃q,dK? e=some q/\M3 p=some (.dct acc)/\acc.length<CV8/\Pv (k+1) (putD acc q f) (D3 M3 p (.dct (putD acc q f))) else Pv (k+1) acc M') /\
 ∀acc M,Pv ds.length acc M->M p=some (.dct acc)/\F p acc M
set_option maxHeartbeats 2000000 in
theorem ZH {X:Cx}
  (hc:X.calm=true) (hi:HE X tg iter ti) (hkind:scope.kind=.function) (hcell:∀y∈scope.names,y.2≠.cell)
  (hnames:∀y∈scope.names,y.2=.local->scope.names.lookup y.1=some .local)
  (hfree:∀y∈scope.names,y.2=.free->X.env.kindOf y.1=some .cell\/X.env.kindOf y.1=some .free)
  (hcf:∀y∈caps,scope.names.lookup y=some .free) (hcaps:slots.map (fun j=>X.N[j]?)=caps.map some)
  (hgk:∀d M Q (cs:Lo),g d (CV2 tns.length none++cs) M Q->g d (CV2 tns.length none++cs) M (fun σ' M'=>σ'.drop tns.length=cs/\Q σ' M'))
  (hg:∀cl s₀ H₀ ex,PG3 (B0 X scope cl s₀ H₀ ex (tns++caps)) tg g)
  (ht:∀cl s₀ H₀ ex,AN (B0 X scope cl s₀ H₀ ex (tns++caps)) ifs tt) (he:∀cl s₀ H₀ ex,PE3 (B0 X scope cl s₀ H₀ ex (tns++caps)) kx tk) (hv:∀cl s₀ H₀ ex,PE3 (B0 X scope cl s₀ H₀ ex (tns++caps)) vx tv)
  (hs:∀y,CY5 iter X.env y=pure y)
  {use:Option (Value->Sem Unit)} {Post:Value->CV4->Prop} {σv:L2.St} {F:Addr->List (Key×L3.D)->Mem->Prop} (I:Inv X pins σv H s) (hS:SRel X.K M H σ σv) (hM:MRel X.K M H) (h:VD ti tns.length slots g tt tk tv F σ M)
  (fin:∀(D C:Addr) (acc:List (Key×L3.D)) (H5:Hp) (M5:Mem) (s6:CV4) (m:Str->Option Value),s6.heap.Ns C m->Inv X pins σv H5 s6->H5 C=none->C≠X.env.locals->C∉X.fs->X.s₀.heap.objs.size<=C->(∀x c,X.env.cells.lookup x=some c->c≠C)->(∀p∈X.pn++pins,p.1≠C) ->
   Step M H M5 H5->MRel X.K M5 H5->M5 D=some (.dct acc)->F D acc M5->compPost (model X.prog X.w) X.A X.xe use Post (.ref D) C (.ok .next) s6) :
  wpAny (model X.prog X.w) X.A (comprehension (.DictComp kx vx [⟨tg,iter,ifs,0⟩] scope pos) scope X.env (firstIterPos [⟨tg,iter,ifs,0⟩] pos) newDict false (firstIter [⟨tg,iter,ifs,0⟩] X.env) use) Post X.xe s:=by
 have hclos:closureFor scope X.env=pure (N8 (fun n=>(X.env.cells.lookup n).getD 0) scope.names []):=FK fun p hp hk=>by
  obtain⟨a,e⟩:=I.ok.has p.1 (hfree p hp hk)
  rw[e];rfl
 have cellsOf:∀x c,(N8 (fun n=>(X.env.cells.lookup n).getD 0) scope.names []).lookup x=some c->X.env.cells.lookup x=some c:=fun x c e=>by
  obtain⟨e1,e2⟩:=WV e
  obtain⟨a,e3⟩:=I.ok.has x (hfree _ e2 rfl)
  rw[e3] at e1
  rw[e3,e1];rfl
 have clHas:∀n,(n,NameKind.free)∈scope.names->∃c,(N8 (fun n=>(X.env.cells.lookup n).getD 0) scope.names []).lookup n=some c:=fun n hn=>⟨_,HI hn⟩
 generalize N8 (fun n=>(X.env.cells.lookup n).getD 0) scope.names []=cl at hclos cellsOf clHas
 refine wpAny_comprehension_free rfl hs hclos hkind hnames ?_
 refine thn (hi pins s σv H (fun J H2=>∃ds M1,Step M H M1 H2/\MRel X.K M1 H2/\WkE X.K J ds M1 H2/\_) I ⟨σ,M,_,hS,hM,h,fun ds J M1 H1 st m wk q=>⟨ds,M1,st,m,wk,q⟩⟩) fun v s1 h1=>thn h1 fun itv s2 h2=>?_
 obtain⟨it,fp,tn,J,H2,e0,I2,T,st2,f2,ds,M1,stp,m1,wk,cont⟩:=h2
 subst e0
 refine CX5 ?_
 have I3:=I2.laid (a:=s2.heap.objs.size) (o:=.dK []) (h':=s2.heap.push {cls:=.type "dict",data:=.dict #[]}) (t':=s2.toks) (fun _ _ q=>CU8 _ q) (CW1 _) (WE s2.heap I2.big)
 have hget:∀b o,s2.heap.get? b=some o->({s2 with heap:=s2.heap.push {cls:=.type "dict",data:=.dict #[]},toks:=s2.toks}:CV4).heap.get? b=some o:=fun b o e=>CU8 _ e
 have hsz:s2.heap.objs.size<({s2 with heap:=s2.heap.push {cls:=.type "dict",data:=.dict #[]},toks:=s2.toks}:CV4).heap.objs.size:=CV9 (CW0 _ rfl)
 change wpAny _ _ _ _ _ ({s2 with heap:=s2.heap.push {cls:=.type "dict",data:=.dict #[]},toks:=s2.toks}:CV4)
 change Inv X pins σv _ ({s2 with heap:=s2.heap.push {cls:=.type "dict",data:=.dict #[]},toks:=s2.toks}:CV4) at I3
 have hos3:({s2 with heap:=s2.heap.push {cls:=.type "dict",data:=.dict #[]},toks:=s2.toks}:CV4).os=s2.os:=rfl
 generalize ({s2 with heap:=s2.heap.push {cls:=.type "dict",data:=.dict #[]},toks:=s2.toks}:CV4)=s3 at I3 hget hsz hos3 ⊢
 refine wpAny_newFunctionEnv hcell (fun _ hx=>absurd hx (by simp)) (fun h4 hns hsb=>?_) hkind
 have hDn:H2 s2.heap.objs.size=none:=I2.fresh
 have hD:upd H2 s2.heap.objs.size (.dK []) s2.heap.objs.size=some (.dK []):=D4
 have fpne:∀b∈fp,b≠s2.heap.objs.size:=fun b hb=>by
  obtain⟨o,e,_⟩:=T.obj _ _ st2 b hb
  exact CX3 (CV9 e)
 generalize s2.heap.objs.size=D at hDn hD hsz I3 fpne ⊢
 have stD:Step M1 H2 (D3 M1 D (.dct [])) (upd H2 D (.dK [])):=Step.put (.inl hDn)
 have mD:MRel X.K (D3 M1 D (.dct [])) (upd H2 D (.dK [])):=m1.put (.inl hDn) .nil
 have k4:∀b o,s3.heap.get? b=some o->h4.get? b=some o:=fun b o e=>(hsb.2 b (CX3 (CV9 e))).trans (CU8 _ e)
 have fpold:∀b∈fp,b<s3.heap.objs.size:=fun b hb=>by
  obtain⟨o,e,_⟩:=T.obj _ _ st2 b hb
  exact CV9 (hget b o e)
 have fpD:∀b∈fp,upd H2 D (.dK []) b=none:=fun b hb=>by
  rw[D5 (fpne b hb)];exact(f2 b hb).1
 have xok:(B0 X scope cl s3 (upd H2 D (.dK [])) fp (tns++caps)).Ok:={
  mod:=I.ok.mod
  kind:=hkind
  glob:=I.ok.glob
  blt:=I.ok.blt
  above:=CW1 _
  inj:=fun x y c e1 e2=>I.ok.inj x y c (cellsOf x c e1) (cellsOf y c e2)
  has:=fun x hx=>clHas x (IL hcell hx)
  cab:=fun x c hf=>by cases hf
  hd:=I.ok.hd
  frames:=I.ok.frames
  stk:=.inl rfl
  exf:=fun b hb=>⟨CX3 (fpold b hb),fun x c e=>(f2 b hb).2.2.2.2.1 x c (cellsOf x c e)⟩
  bs:=I3.bs
  bsz:=CY4 I3.ok.bsz I3.sz
  noex:=fun b o e hb=>by
   rcases(f2 b hb).2.2.2.1 with z|z
   ·exact I.ok.noex b o e z
   ·exact absurd (CY9 (CV9 e) (CY4 I.ok.bsz z)) (DC9 _)
  exfs:=fun b hb z=>by
   rcases CV0.mp (I2.stkSub b z) with z|z
   ·exact(f2 b hb).2.1 z
   ·exact(f2 b hb).2.2.1 z
  funs:=I3.stack
  frf:=I3.stkFree}
 have I4:Inv (B0 X scope cl s3 (upd H2 D (.dK [])) fp (tns++caps)) [] (CV2 tns.length none++slots.map fun j=>(σv[j]?).getD none) (upd H2 D (.dK [])) {s3 with heap:=h4,toks:=s3.toks+([]:List (Str×Value)).length}:={
  ok:=xok
  os:=rfl
  bare:=I3.bare
  base:=Un.kept k4
  loc:=by
   refine⟨_,hns,fun i x v e1 e2 vis=>?_⟩
   have hlen:caps.length=slots.length:=by
    have:=congrArg DJ2 hcaps
    simpa using this.symm
   have hi:tns.length<=i:=by
    rcases DO2 i tns.length with z|z
    ·rw[CZ0 (by simpa using z),DC0] at e2
     split at e2<;>cases e2
    ·exact z
   change (tns++caps)[i]?=some x at e1
   rw[CX8 hi] at e1
   rw[CX8 (by simpa using hi),DB8,CW8] at e2
   cases e3:slots[i-tns.length]? with
   | none=>rw[e3] at e2;cases e2
   | some j =>
    rw[e3,DE2] at e2
    have e2':(σv[j]?).getD none=some v:=Option.some.inj e2
    have e5:σv[j]?=some (some v):=by
     cases q:σv[j]? with
     | none=>rw[q] at e2';cases e2'
     | some z=>rw[q] at e2';simp only[DL6] at e2';rw[e2']
    have e4:X.N[j]?=some x:=by
     have:=congrArg (fun l=>l[i-tns.length]?) hcaps
     simp only[CW8,e3,e1,DE2] at this
     exact Option.some.inj this
    have hxf:=hcf x (DA1 e1)
    have hk:=hfree (x,.free) (DA3 hxf) rfl
    obtain⟨m,hm,hl⟩:=I3.loc
    obtain⟨u,ru,lk⟩:=hl j x v e4 e5 (hk.elim (fun z=>.inr (.inl z)) fun z=>.inr (.inr z))
    refine⟨u,ru,.inr ⟨FS hxf,?_⟩⟩
    rcases lk with⟨z,_⟩|⟨_,c,ec,ic⟩
    ·rcases hk with y|y<;>(rw[show X.env.kindOf x=_ from z] at y;cases y)
    ·obtain⟨c',ec'⟩:=clHas x (DA3 hxf)
     have:=cellsOf x c' ec'
     rw[ec] at this
     cases this
     obtain⟨o,ho,r⟩:=ic
     exact⟨c,ec',o,k4 _ _ ho,r⟩
  cell:=fun x c e=>by
   obtain⟨v,o,ho,r⟩:=I3.cell x c (cellsOf x c e)
   exact⟨v,o,k4 _ _ ho,r⟩
  free:=I3.fresh
  freeC:=fun x c e=>I3.freeC x c (cellsOf x c e)
  pin:=fun p hp=>absurd hp (by simp[B0])
  hok:=I3.hok.kept k4
  len:=by
   have:=congrArg DJ2 hcaps
   simp at this
   simp[B0,this]}
 have hlen:caps.length=slots.length:=by
  have:=congrArg DJ2 hcaps
  simpa using this.symm
 have stat:∀{H':Hp},(∀b∈fp,H' b=none)->∀b∈fp,ON (B0 X scope cl s3 (upd H2 D (.dK [])) fp (tns++caps)) [] H' b:=fun hn b hb =>
  ⟨hn b hb,(xok.exf b hb).1,xok.exfs b hb,.inl hb,(xok.exf b hb).2,fun p hp=>absurd hp (by simp[B0])⟩
 have hMD:M1 D=none:=m1.free hDn
 obtain⟨Pv,p0,turn,done⟩:=cont D hMD
 have hS0:SRel X.K (D3 M1 D (.dct [])) (upd H2 D (.dK [])) (CV2 tns.length none++slots.map fun j=>(σ[j]?).getD none) (CV2 tns.length none++slots.map fun j=>(σv[j]?).getD none):=by
  refine⟨by simp,fun i d e=>?_⟩
  rcases DO2 i tns.length with z|z
  ·rw[CZ0 (by simpa using z),DC0] at e
   split at e<;>cases e
  ·rw[CX8 (by simpa using z),DB8,CW8] at e ⊢
   cases e3:slots[i-tns.length]? with
   | none=>rw[e3] at e;cases e
   | some j =>
    rw[e3,DE2] at e
    have e2':(σ[j]?).getD none=some d:=Option.some.inj e
    have e5:σ[j]?=some (some d):=by
     cases q:σ[j]? with
     | none=>rw[q] at e2';cases e2'
     | some z=>rw[q] at e2';simp only[DL6] at e2';rw[e2']
    obtain⟨v,ev,rv⟩:=hS.get j d e5
    exact⟨v,by rw[DE2,ev];rfl,rv.mono (stp.trans stD)⟩
 generalize hcs:(slots.map fun j=>(σ[j]?).getD none)=cs at turn hS0
 have hcsl:cs.length=caps.length:=by rw[<-hcs,hlen];simp
 have loop:codeAny (model X.prog X.w) X.A (.compLoop (.DictComp kx vx [⟨tg,iter,ifs,0⟩] scope pos) 0 (.ref it) (.ref D) (compEnvC scope cl s3.heap.objs.size X.env)) (compPost (model X.prog X.w) X.A X.xe use Post (.ref D) s3.heap.objs.size) {s3 with heap:=h4,toks:=s3.toks+([]:List (Str×Value)).length}:=by
  refine ZI (fun n s'=>∃k acc σv' H' M',n=ds.length-k/\k<=ds.length/\Inv (B0 X scope cl s3 (upd H2 D (.dK [])) fp (tns++caps)) [] σv' H' s'/\tn k s'.heap/\(∀b∈fp,H' b=none) /\
   Step (D3 M1 D (.dct [])) (upd H2 D (.dK [])) M' H'/\MRel X.K M' H'/\SRel X.K M' H' (CV2 tns.length none++cs) σv'/\Pv k acc M') ?_ _ ⟨0,[],_,_,_,rfl,DC3 _,I4,T.keep _ _ _ st2 fun b hb o e=>k4 _ _ (hget _ _ e),fpD,.refl,mD,hS0,p0⟩
  rintro n s5 ⟨k,acc,σv5,H5,M5,rfl,hk,I5,tn5,fr5,st5,m5,hS5,pk⟩
  obtain⟨go,yld,stop⟩:=wk M5 H5 (stD.trans st5) m5
  by_cases hlt:k<ds.length
  ·refine thn (T.item (B0 X scope cl s3 (upd H2 D (.dK [])) fp (tns++caps)) rfl rfl rfl hc k [] s5 σv5 H5 (fun _ _=>False) I5 (stat fr5) tn5 (go k hlt)) fun r s6 hx0=>?_
   obtain⟨u,hr,h6⟩:=hx0
   subst hr
   refine thn h6 fun _ s7 hx0=>?_
   obtain⟨x,H7,I7,r7,y7,tn7,fr7⟩:=hx0
   obtain⟨sy,my,ry⟩:=yld k ds[k] x H7 (by simp[hlt]) y7
   have I7':=I7.pinned (stat fr7) (T.obj _ _ tn7)
   refine thn (hg cl s3 (upd H2 D (.dK [])) fp _ s7 σv5 _ x u (fun σv' H'=>∃σ' M',Step M5 H7 M' H'/\MRel X.K M' H'/\SRel X.K M' H' σ' σv'/\_) I7' r7 ⟨ds[k],_,M5,_,ry,hS5.mono sy,my,hgk _ _ _ _ (turn k ds[k] acc M5 (by simp[hlt]) pk),fun σ' σv' M' H' st m r q=>⟨σ',M',st,m,r,q⟩⟩) fun _ s8 hx0=>?_
   obtain⟨σ8,H8,I8,σ',M8,st8,m8,hS8,hdr,q8⟩:=hx0
   have again:∀(sF:CV4) (HF:Hp) (MF:Mem) (accF:List (Key×L3.D)),Inv (B0 X scope cl s3 (upd H2 D (.dK [])) fp (tns++caps)) ([]++JL fp s7.heap) σ8 HF sF->Step M8 H8 MF HF->MRel X.K MF HF->Pv (k+1) accF MF ->
     ∃m,m<ds.length-k/\∃k acc σv' H' M',m=ds.length-k/\k<=ds.length/\Inv (B0 X scope cl s3 (upd H2 D (.dK [])) fp (tns++caps)) [] σv' H' sF/\tn k sF.heap/\(∀b∈fp,H' b=none) /\
      Step (D3 M1 D (.dct [])) (upd H2 D (.dK [])) M' H'/\MRel X.K M' H'/\SRel X.K M' H' (CV2 tns.length none++cs) σv'/\Pv k acc M':=by
    intro sF HF MF accF IF stF mF pF
    refine⟨ds.length-(k+1),by lia,k+1,accF,σ8,HF,MF,rfl,hlt,IF.unpinned,T.keep _ _ _ tn7 fun b hb o e=>(IF.pin (b,o) (CW6 _ (CW6 _ (P9 hb e)))).1,fun b hb=>?_,((st5.trans sy).trans st8).trans stF,mF,?_,pF⟩
    ·obtain⟨o,e,d⟩:=T.obj _ _ tn7 b hb
     exact(IF.pin (b,o) (CW6 _ (CW6 _ (P9 hb e)))).2.1
    ·refine SRel.mono stF ⟨?_,fun i d e=>?_⟩
     ·have:=I8.len
      rw[this,CW3,DB8,hcsl]
      simp[B0]
     ·rcases DO2 i tns.length with z|z
      ·rw[CZ0 (by simpa using z),DC0] at e
       split at e<;>cases e
      ·rw[CX8 (by simpa using z),DB8,<-hdr,List.getElem?_drop] at e
       have:tns.length+(i-tns.length)=i:=by lia
       rw[this] at e
       exact hS8.get i d e
   refine thn (ht cl s3 (upd H2 D (.dK [])) fp _ s8 σ8 H8 σ' M8 _ I8 hS8 m8 q8) fun ok s9 hx0=>?_
   obtain⟨M9,H9,I9,st9,m9,q9⟩:=hx0
   cases ok with
   | false=>exact again s9 H9 M9 acc I9 st9 m9 q9
   | true =>
    refine thn (he cl s3 (upd H2 D (.dK [])) fp _ s9 σ8 H9 σ' M9 _ I9 (hS8.mono st9) m9 q9) fun xk s10 hx0=>?_
    obtain⟨ek,vk,M10,H10,I10,st10,m10,r10,rep10,q10⟩:=hx0
    refine thn (hv cl s3 (upd H2 D (.dK [])) fp _ s10 σ8 H10 σ' M10 _ I10 ((hS8.mono st9).mono st10) m10 q10) fun xv s11 hx0=>?_
    obtain⟨ev,vv,M11,H11,I11,st11,m11,r11,rep11,qk,hqk,hMp,hlt2,q11⟩:=hx0
    have hy:=AR8 hqk
    subst hy
    have ey:=LV rep10
    subst ey
    obtain⟨ho,hHo,rO⟩:=m11 D _ hMp
    cases ho<;>first|exact(rO:False).elim|skip
    rename_i vs
    have rO':RepK X.K M11 H11 acc vs:=rO
    obtain⟨z,hd,vs0,rel,dd⟩:=AE9 I11.hok hHo
    have hz:vs0.length<=CV8:=by rw[<-rel.length];exact z
    have hl:(putK vs qk vv).length<=CV8:=by
     have h1:=W5 vs qk vv
     have h2:=rO'.length
     lia
    refine wpAny_dictSet_pairs (hsz:=hz) (KJ r10) dd fun h' dd' hs'=>?_
    have he':∃q,h'.get? D=some q:=let ⟨q,_,_,hq,_⟩:=dd';⟨q,hq⟩
    have I12:=LK (t':=s11.toks+1) I11 (by rw[hHo];exact True.intro) hs' he' (ZJ hl hd (rel.put qk r11) dd')
    exact again _ _ _ _ I12 (st9.trans (st10.trans (st11.trans (Step.put (.inr (by rw[hMp];simp)))))) (m11.put (.inr (by rw[hMp];simp)) (o:=.dct (putD acc qk ev)) (rO'.put qk rep11)) q11
  ·have e:k=ds.length:=by lia
   subst e
   refine thn (T.done (B0 X scope cl s3 (upd H2 D (.dK [])) fp (tns++caps)) rfl rfl rfl hc _ [] s5 σv5 H5 (fun _ _=>False) I5 (stat fr5) tn5 stop) fun r s6 hx0=>?_
   obtain⟨hr,I6⟩:=hx0
   subst hr
   obtain⟨m,hn,_⟩:=I6.loc
   obtain⟨hp,hq⟩:=done acc M5 pk
   refine fin D s3.heap.objs.size acc H5 M5 s6 m hn (I3.call' (ch:=fp) I6.os I6.base I6.hok I6.bare (fun b hb=>⟨(f2 b hb).2.2.2.1,(f2 b hb).2.1,(f2 b hb).2.2.2.2.1,(f2 b hb).2.2.2.2.2⟩)) I6.free (DL9 I3.lt) (I3.nofs (CW1 _)) I3.sz (fun x c e z=>?_) (fun p hp z=>absurd (CV9 (I3.pin p hp).1) (by rw[z];exact DC9 _)) ((stp.trans stD).trans st5) m5 hp hq
   obtain⟨v,q⟩:=I3.cell x c e
   exact absurd q.lt (by rw[z];exact DC9 _)
 exact codeAny_compStart_dict loop (T.self _ _ _ _ _ (T.keep _ _ _ st2 fun b hb o e=>k4 _ _ (hget _ _ e)) loop)
def LW (ti:TI3)(n:Nat)(slots:List Nat)(g:TG3)(tt:TT3)(tk tv:TE3):TE3:=fun σ M Q=>VD ti n slots g tt tk tv (fun p _ M=>Q (.ref p) M) σ M
end L3
namespace PySem
open Sem (wp)
open Builtin
theorem BB8 (a:Int)(t:Tok)(l:Addr)(T:String)(items:Array Value)(n:Nat)(dd:Option Addr)(sl:Array (Option Value))(hT:T="list"\/T="tuple") :
  Meets (DF3.«int.__rmul__» ⟨[.int a t,.ref l],[]⟩) (fun _ R s=>s.heap.get? l=some {cls:=.type T,dict:=dd,data:=.seq items n,slots:=sl}/\R (.ok (.ret Value.notImplemented)) s):=by
 rcases hT with rfl|rfl
 ·exact .of_wp fun prog w A R s h=>by
   obtain⟨hp,g,d,tk,os⟩:=s;obtain⟨hl,h⟩:=h;wp_walk;exact⟨_,rfl,h⟩
 ·exact .of_wp fun prog w A R s h=>by
   obtain⟨hp,g,d,tk,os⟩:=s;obtain⟨hl,h⟩:=h;wp_walk;exact⟨_,rfl,h⟩
theorem AL7 (l:Addr)(items:Array Value)(n:Nat)(dd:Option Addr)(sl:Array (Option Value))(x:Int)(u:Tok)(hc0:¬(!Builtin.List.listFitsIndex x)=true)(hc1:¬items.size*x.toNat>(2^63-1) / 8)(hc2:¬DE8 (items.size*x.toNat)=true) :
  Meets (DF3.«list.__mul__» ⟨[.ref l,.int x u],[]⟩) (fun _ R s=>s.heap.get? l=some {cls:=.type "list",dict:=dd,data:=.seq items n,slots:=sl}/\R (.ok (.ret (Value.ref s.heap.objs.size))) {s with heap:=s.heap.push {cls:=Value.type "list",data:=Data.seq (List.foldl (fun x1 x2=>x1++x2) #[] (CV2 (if items.isEmpty=true then 0 else x.toNat) items))},toks:=s.toks}):=by
 refine .of_wp fun prog w A R s h=>?_
 obtain⟨hp,g,d,tk,os⟩:=s;obtain⟨hl,h⟩:=h
 have hsz:=AutoListH.joined_fits hc2
 wp_walk;refine wpAny_ite_false (decide_eq_false (Nat.not_lt.mpr hsz)) ?_;wp_walk;exact⟨_,rfl,h⟩
end PySem
namespace L3
open PySem PySem.Spec PyProof.Rows L2
section
variable {X:Cx}
theorem Vals.rep (r:Vals vs us):∀n:Nat,Vals (CV2 n vs).flatten (CV2 n us).flatten
 | 0=>.nil
 | n+1=>by
  rw[DJ0,DJ0,DO9,DO9]
  exact r.append (Vals.rep r n)
theorem Reps.rep (r:Reps K M H ds vs):∀n:Nat,Reps K M H (CV2 n ds).flatten (CV2 n vs).flatten
 | 0=>.nil
 | n+1=>by
  rw[DJ0,DJ0,DO9,DO9]
  exact Reps.append r (Reps.rep r n)
def AA8:R3:=fun x y M Q=>∃ds n,x=.lst ds/\y=.int n/\0<=n/\n<=1000/\ds.length<=1000/\Q (.lst (CV2 n.toNat ds).flatten) M
theorem BI6:OpR3 X (DG2 .Mult) AA8:=by
 rintro pins s σv H M x y xv yv v u Q I m rx ry px py ⟨ds,n,rfl,rfl,n0,n1,dl,q⟩
 obtain⟨p1,vs1,rfl,s1,r1⟩:=MU m px (.inl rfl)
 cases py
 cases rx
 obtain⟨t,rfl⟩:=ry
 obtain⟨its,e1,p1,z1⟩:=I.list s1
 obtain⟨⟨cls,dd,data,sl⟩,ho,hc,k,hd⟩:=p1.isList
 simp only at hc hd
 subst hc hd
 have l1:=r1.length
 have l3:=e1.length
 have hz:CV8=16777216:=CX1
 have hm:its.toArray.size*n.toNat<=1000*1000:=Nat.mul_le_mul (by simp;lia) (by lia)
 have hlen:(CV2 n.toNat vs1).flatten.length<=1000*1000:=by
  rw[List.length_flatten,List.map_replicate,List.sum_replicate_nat,Nat.mul_comm]
  exact Nat.mul_le_mul (by lia) (by lia)
 have ea:List.foldl (fun x1 x2=>x1++x2) #[] (CV2 (if its.toArray.isEmpty=true then 0 else n.toNat) its.toArray)=(CV2 n.toNat its).flatten.toArray:=listMul_foldl_if its.toArray n.toNat
 refine wpAny_binaryOp_repeat_ref (T:="list") (U:="int") (by decide) ⟨_,ho,rfl⟩ (fun s'=>typeIs_int s' n t) noFill_list_mul PySem.F.fills_int_mul PySem.F.slot_int_rmul repeat_list PySem.F.slot_int_index.lookup
  (DK0 PySem.F.slot_int_rmul (typeIs_int s n t) PySem.F.entry_int_rmul (PySem.F.args_int_rmul_2 _ _) (BB8 n t _ "list" its.toArray k dd sl (.inl rfl))
   ⟨ho,rfl,⟨_,ho,rfl⟩,DK0 PySem.F.slot_list_mul ⟨_,ho,rfl⟩ PySem.F.entry_list_mul (PySem.F.args_list_mul_2 _ _)
    (AL7 _ its.toArray k dd sl n t (by simp[Builtin.List.listFitsIndex];lia) (by lia) (by simp[DE8,CV8];simp at hm;lia))
    ⟨ho,?_⟩⟩)
 rw[ea]
 have hf:=I.fresh
 have rr:=Reps.rep r1 n.toNat
 exact⟨_,.ref s.heap.objs.size,M,_,I.lnew (t':=s.toks) (Vals.rep e1 n.toNat) (by lia),Step.lay hf,m.lay hf,rfl,.lst (.inl ⟨.inl D4,m.free hf⟩) (rr.mono (Step.lay hf)),q⟩
theorem BN3 {n:Int}{Q:DK}(h0:0<=n)(h1:n<=1000)(hl:ds.length<=1000)(h:Q (.lst (CV2 n.toNat ds).flatten) M):AA8 (.lst ds) (.int n) M Q:=⟨ds,n,rfl,rfl,h0,h1,hl,h⟩
end
section
variable {X:Cx}
def AA7:M3:=fun x xs M Q=>∃a kds z,x=.ref a/\M a=some (.dct kds)/\xs=[.str z]/\Q ((N7 kds (.inr z)).getD .non) M
theorem BH9 (hu:X.A.units+1<cLine):MtR3 X "dict.get" AA7:=by
 rintro pins s σv H M x xs xv xvs v us Q I m rv rvs px pxs ⟨a,kds,z,rfl,hm,rfl,q⟩
 obtain⟨yv,rfl,py⟩:=NO pxs
 obtain⟨u,rfl,ru⟩:=vals1 rvs
 cases px
 cases py
 cases rv
 obtain⟨ho,e1,r⟩:=m _ _ hm
 cases ho<;>first|exact(r:False).elim|skip
 rename_i kvs
 have r':RepK X.K M H kds kvs:=r
 refine BS2 hu I (.inl ⟨_,.inr z,.inl e1,rfl,rfl⟩) ru fun w' s' I' rw'=>?_
 rcases r'.val (.inr z) with⟨d',v',g1,g2,rp⟩|⟨g1,g2⟩
 ·rw[g2] at rw'
  rw[g1] at q
  exact⟨_,_,M,H,I',.refl,m,rw',rp,q⟩
 ·rw[g2] at rw'
  rw[g1] at q
  exact⟨_,_,M,H,I',.refl,m,rw',.non,q⟩
theorem BN1 {Q:DK}(hm:M a=some (.dct kds))(h:Q ((N7 kds (.inr z)).getD .non) M):AA7 (.ref a) [.str z] M Q:=⟨a,kds,z,rfl,hm,rfl,h⟩
def BA7:C3:=fun ds M Q=>∃a kds,ds=[.ref a]/\M a=some (.dct kds)/\Q (.int kds.length) M
theorem BG0:CallR3 X (.builtin "len") BA7:=by
 rintro pins s σv H M xs xvs us Q I m rv px ⟨a,kds,rfl,hm,q⟩
 match xvs,px,rv with
 | _,.cons .ref .nil,rv =>
 obtain⟨u,rfl,ru⟩:=L2.vals1 rv
 cases ru
 obtain⟨ho,e1,r⟩:=m _ _ hm
 cases ho<;>first|exact(r:False).elim|skip
 rename_i kvs
 have r':RepK X.K M H kds kvs:=r
 obtain⟨z,hd,vs,rel,dd⟩:=AE9 I.hok e1
 have hl:vs.length=kds.length:=by rw[<-rel.length,r'.length]
 have hz:CV8=16777216:=CX1
 refine call_len_dict hd dd (by rw[hl,r'.length];lia) ?_
 rw[hl]
 exact⟨_,.int _,M,H,I.tok _,.refl,m,⟨_,rfl⟩,.int,q⟩
def BD4 (tz:TZ3):TE3:=fun σ M Q=>tz σ M fun zs M1=>∀ys:List Str,ys.Nodup->(∀z,z∈ys↔z∈zs)->Q (.int ys.length) M1
theorem AY2 {tz:TZ3}{p:Pos}(hg:Gl X "len")(hm:X.mg "len"=none)(hz:PZ3 X e tz)(he:CY3 [e] X.env=(false,eval e X.env)::CY3 [] X.env:=by rfl):PE3 X (.Call (.Name "len" p) [e] [] pos) (BD4 tz):=by
 intro pins s σv H σ M Q I hS hM h
 refine DF5 (CW I hg hm D9 ?_ (by decide) (by decide))
 refine DJ5 ?_ he rfl
 rw[he]
 show wpAny _ _ (spliced ((false,eval e X.env)::DK1 pos (CY3 [] X.env))) _ _ s
 refine Calls.spliced_cons (thn (hz pins s σv H σ M _ I hS hM h) fun u s1 hx=>?_)
 obtain⟨a,L,zs,M1,H1,rfl,I1,st1,m1,nH,_,T,mem,q⟩:=hx
 refine Calls.spliced_nil ?_
 have nd:=AH3 T
 obtain⟨o,es,ep,t,g1,g2,g3,g4,g5,g6,g7,g8,_⟩:=T
 have hl:es.size=L.length:=by rw[<-g5];simp
 have hs:es.size<2^63:=Nat.lt_trans g7 (by decide)
 refine call_len_set g1 g2 g3 g8 (by lia) ?_
 rw[hl]
 exact⟨_,.int _,M1,H1,I1.tok _,st1,m1,⟨_,rfl⟩,.int,q L nd mem⟩
theorem AI7 {tz:TZ3}{Q:DK}(h:tz σ M fun zs M1=>∀ys:List Str,ys.Nodup->(∀z,z∈ys↔z∈zs)->Q (.int ys.length) M1):BD4 tz σ M Q:=h
end
theorem ZO (h:GRows K rows tbl){w:Str}(e:tbl.lookup w=none):DQ0 (CB rows) (Sum.inr w)=none:=by
 induction h with
 | nil=>rfl
 | @cons s t b ys rows tbl k _ ih =>
  rw[DI7] at e
  by_cases hw:w=s
  ·subst hw
   simp only[beq_self_eq_true] at e
   cases e
  ·have hne:(w==s)=false:=by simpa using hw
   rw[hne] at e
   have:=ih e
   have h2:¬(Sum.inr s:Key)=Sum.inr w:=fun z=>hw (Sum.inr.inj z).symm
   simp only[DQ0,CB,CW9,DH5,h2,decide_false] at this ⊢
   exact this
section
variable {X:Cx}{pos apos p1:Pos}{i:Expr}{ti:TE3}{ta:TA3}
def gOf (tbl:List (Str×List Str))(w:Str):D:=match tbl.lookup w with
 | some xs=>.tup (xs.map D.str)
 | none=>.non
def CD6 (tbl:List (Str×List Str))(ta:TA3):TE3:=fun σ M Q=>ta σ M fun ds M1=>∃w,ds=[.str w]/\Q (gOf tbl w) M1
theorem AY0 (hg:Gl X x)(hm:∃a,X.mg x=some (.ref a)/\VP X.K X.w.params a tbl/\(a==DG6)=false)(ha:PA3 X [e] ta)(hd:(x==("__debug__":Str))=false:=by decide)
  (hbase:attributeBase (.Name x p1) "get" X.env (eval (.Name x p1) X.env)=eval (.Name x p1) X.env:=by rfl)
  (hfew:((DK1 pos (CY3 [e] X.env)).all (fun x=>!x.1) && (backToKw pos (keywordEach [] X.env)).all (fun x=>x.1.isSome)
   && decide (([e]:List Expr).length+([]:List Keyword).length+(if ([]:List Keyword).isEmpty then 0 else 1)<30))=true:=by rfl)
  (hline:(apos.endLine==pos.line)=true:=by rfl) (hs:CY3 [e] X.env=(false,eval e X.env)::CY3 [] X.env:=by rfl) (hplain:(DK1 pos (CY3 [] X.env)).any (·.1)=false:=by rfl) :
  PE3 X (.Call (.Attribute (.Name x p1) "get" apos) [e] [] pos) (CD6 tbl ta):=by
 obtain⟨a,hm,⟨rows,ep,hk,hn,gr⟩,hsm⟩:=hm
 intro pins s σv H σ M Q I hS hM h
 refine wpAny_Call_method_late hbase hfew hline rfl (thn (AA (d:=.ref a) (v:=.ref a) hg hm rfl (fun _ _=>.ref) hd pins s σv H σ M (fun d M1=>d=.ref a/\ta σ M1 fun ds M1=>∃w,ds=[.str w]/\Q (gOf tbl w) M1) I hS hM ⟨rfl,h⟩) fun u s1 ⟨d,v,M1,H1,I1,st1,m1,r1,p1,e1,q1⟩=>?_)
 subst e1
 cases p1
 obtain rfl:u=Value.ref a:=r1
 have dd1:s1.heap.DictOf (E3 X.prog X.w) a (CB rows):=MI (K:=X.K) (I1.kIn a _ hk) hn
 refine⟨"dict","dict.get",PySem.F.plainAttrs_dict,DK4,PySem.F.type_dict_get,dd1.typeIs,dd1.mapOf.noDict,?_⟩
 have hA:=ha pos pins s1 σv H1 σ M1 _ I1 (hS.mono st1) m1 q1
 rw[hs] at hA ⊢
 refine Calls.callWith_builtin (by show(false || (DK1 pos (CY3 [] X.env)).any (·.1))=false;rw[hplain]<;>rfl) (Calls.evalArgs_plain ?_)
 refine thn hA fun us s2 ⟨ds,vs,M2,H2,I2,st2,m2,rv2,p2,w,e2,q2⟩=>?_
 subst e2
 obtain⟨yv,rfl,py⟩:=NO p2
 obtain⟨u,rfl,ru⟩:=vals1 rv2
 cases py
 have dd:s2.heap.DictOf (E3 X.prog X.w) a (CB rows):=MI (K:=X.K) (I2.kIn a _ hk) hn
 refine call_meetsIn DK4 dd.typeIs DP4 (DO7 _ _) (meets_dict_get (E3 X.prog X.w) a (KJ (k:=.inr w) ru) hsm) ⟨_,dd.mapOf,?_⟩
 cases el:tbl.lookup w with
 | some xs =>
  obtain⟨b,hv,kt⟩:=ML gr el
  have q3:Q (.tup (xs.map D.str)) M2:=by unfold gOf at q2;rw[el] at q2;exact q2
  rw[hv]
  exact⟨_,.ref b,M2,H2,I2.tok _,st1.trans st2,m2,rfl,.tup (.inr kt) (AH xs),q3⟩
 | none =>
  have q3:Q .non M2:=by unfold gOf at q2;rw[el] at q2;exact q2
  rw[ZO gr el]
  exact⟨_,.non,M2,H2,I2.tok _,st1.trans st2,m2,rfl,.non,q3⟩
theorem BQ0 {Q:DK}(h:ta σ M fun ds M1=>∃w,ds=[.str w]/\Q (gOf tbl w) M1):CD6 tbl ta σ M Q:=h
end
end L3
namespace K09
open PySem L2 L3 PK K10
def isN (x:Str):Prop:=nm x/\K06.SQ (.str x)=true
mutual
def nmE:Ex->Prop
 | .none=>True
 | .num _=>True
 | .var x=>isN x
 | .op _ a b=>nmE a/\nmE b
 | .make r as=>isN r/\O4 as
def O4:Exs->Prop
 | .nil=>True
 | .cons a r=>nmE a/\O4 r
end
def exN [Pool](d:D):Prop:=∃e,d=eD e/\wf e/\nd e<=9/\dp e<=4/\nmE e
def C2 [Pool](kind:Str)(d:D):Prop :=
 (kind="name"/\∃x,d=.str x/\isN x)\/(kind="word"/\∃w,d=.str w/\nm w/\w≠"any")\/(kind="expression"/\exN d) \/
 (kind="catches"/\∃cs:List (Str×Str×List D),d=.tup (cs.map fun c=>.tup [.str c.1,.str c.2.1,.tup c.2.2])/\cs.length<=3/\∀c∈cs,nm c.1/\isN c.2.1/\c.2.2≠[]) \/
 (kind="block"/\∃b,d=.tup b/\b≠[])\/(kind="rest"/\∃b,d=.tup b)
def L4 [Pool](d:Deed):Prop:=∃hd rest sh,dD d=.tup (.str hd::rest)/\tblS.lookup hd=some sh/\rest.length=sh.length/\(∀p∈sh.zip rest,C2 p.1 p.2) /\
 (hd="try"->∃b cs q,rest=[b,.tup cs,.tup q]/\0<cs.length+q.length)
mutual
def J3 [Pool]:Deed->Prop
 | .mk h bs=>L4 (.mk h bs)/\F8 bs
def E1 [Pool]:Blk->Prop
 | .nil=>True
 | .cons d r=>J3 d/\E1 r
def F8 [Pool]:Bls->Prop
 | .nil=>True
 | .cons b r=>E1 b/\F8 r
end
def L8 (d:Deed):List D:=match dD d with
 | .tup (.str hd::rest)=>pick "expression" ((tblS.lookup hd).getD []) rest
 | _=>[]
def Et (t:Ex)(d:Deed):Prop:=∃e,eD e∈L8 d/\t∈trE e
def fits (kds:List (Key×D)):Ex->Prop
 | .make r as=>N7 kds (.inr r)=some (.int (exl as))
 | _=>True
def BG:Sp3:=fun ds M Q=>∃xs,ds=[.tup xs]/\Q (.bl (!xs.isEmpty)) M
def N6:Sp3:=fun ds M Q=>∃_:Pool,∃r,ds=[rD r]/\okB r.blk/\dpB r.blk<=4/\C0 r.blk<=30/\∀ts:List Ex,(∀t,t∈ts↔∃d∈dsB r.blk,Et t d)->ts.length<=540->nw M (ts.map eD) Q
def CT3 (r:Rl):Prop:=C0 r.blk<=30/\dpB r.blk<=4/\∃_:Pool,okB r.blk
def YA:Sp3:=fun ds M Q=>∃r a kds,ds=[rD r,.ref a]/\M a=some (.dct kds)/\CT3 r/\(∀z d,N7 kds (.inr z)=some d->∃n:Int,d=.int n)/\∀b:Bool,(b=true↔∀d∈dsB r.blk,∀t,Et t d->fits kds t)->Q (.bl b) M
def cntK (rs:List Rl):List (Key×D):=rs.foldl (fun acc r=>putD acc (.inr r.name) (.int r.pars.length)) []
end K09
namespace K09
open PySem L2 L3
abbrev FY:List Str:=["rule","found","deed","expression"]
def BR:TS3 :=
  (A6 (B6 1 (GU A2))
  (A6 (X9 (S3 (GT (A4 (K10.E4 8) (A0 (A3 C6 (A1 0) (tC3 (.int 2))) A2)))) 2 (X9 (S3 (GT (A4 K10.ET (A0 (A1 2) (A0 (tC3 (.str "expression")) A2))))) 3 (BI (PY "list" RI (A1 1) (A0 (A4 (K10.O9 5) (A0 (A1 3) A2)) A2)))))
  (B1 (A1 1))))
theorem YG (d0:D):B3 FY [d0]=[some d0,none,none,none]:=rfl
abbrev IX:List Str:=["thing","depth"]
def AI (q_is_args q_is_tree:Sp3):TS3 :=
  (A6 (C8 (Z1 (K4 (A9 (C5 K3 (A0 (A1 0) (A0 (tC3 (.ty "tuple")) A2))))) (A9 (A3 TU (C5 E6 (A0 (A1 0) A2)) (tC3 (.int 3))))) (B1 (tC3 (.bl false))) B9)
  (B1 (C5 DC (A0 (F9 (Z7 (A1 0)) 1 [1] (K2 0) J8 (A4 q_is_tree (A0 (A1 0) (A0 (A1 1) A2)))) A2))))
abbrev JA:List Str:=["thing","depth"]
def AJ (q_is_args q_is_tree:Sp3):TS3 :=
  (A6 (C8 (Z1 (A9 (A3 J4 (A1 1) (tC3 (.int 0)))) (Z1 (K4 (A9 (C5 K3 (A0 (A1 0) (A0 (tC3 (.ty "tuple")) A2))))) (A9 (A3 J4 (C5 E6 (A0 (A1 0) A2)) (tC3 (.int 0)))))) (B1 (tC3 (.bl false))) B9)
  (A6 (C8 (A9 (A3 J4 (A3 C6 (A1 0) (tC3 (.int 0))) (tC3 (.str "op")))) (A6 (C8 (Z1 (A9 (A3 CG (C5 E6 (A0 (A1 0) A2)) (tC3 (.int 4)))) (A9 (A3 (AO5 true) (A3 C6 (A1 0) (tC3 (.int 1))) (tC3 (.tup ((["+","-","*","<","="]:List Str).map D.str)))))) (B1 (tC3 (.bl false))) B9)
  (B1 (G8 (A4 q_is_tree (A0 (A3 C6 (A1 0) (tC3 (.int 2))) (A0 (A3 R6 (A1 1) (tC3 (.int 1))) A2))) (A4 q_is_tree (A0 (A3 C6 (A1 0) (tC3 (.int 3))) (A0 (A3 R6 (A1 1) (tC3 (.int 1))) A2)))))) B9)
  (A6 (C8 (A9 (A3 J4 (A3 C6 (A1 0) (tC3 (.int 0))) (tC3 (.str "make")))) (B1 (G8 (A3 J4 (C5 E6 (A0 (A1 0) A2)) (tC3 (.int 3))) (G8 (A4 K06.J6 (A0 (A3 C6 (A1 0) (tC3 (.int 1))) A2)) (A4 q_is_args (A0 (A3 C6 (A1 0) (tC3 (.int 2))) (A0 (A3 R6 (A1 1) (tC3 (.int 1))) A2)))))) B9)
  (A6 (C8 (A9 (A3 J4 (A3 C6 (A1 0) (tC3 (.int 0))) (tC3 (.str "var")))) (B1 (G8 (A3 J4 (C5 E6 (A0 (A1 0) A2)) (tC3 (.int 2))) (A4 K06.J6 (A0 (A3 C6 (A1 0) (tC3 (.int 1))) A2)))) B9)
  (B1 (A4 K01.AG (A0 (A1 0) (A0 (tC3 (.int 0)) A2))))))))
abbrev IZ:List Str:=["thing"]
def FC:TS3 :=
  (B1 (G8 (C5 K3 (A0 (A1 0) (A0 (tC3 (.ty "tuple")) A2))) (A3 TU (C5 E6 (A0 (A1 0) A2)) (tC3 (.int 0)))))
theorem AC4 (d0:D):B3 IZ [d0]=[some d0]:=rfl
abbrev CI:List Str:=["rule","counts","makes"]
def Y6:TS3 :=
  (A6 (B6 2 (F9 (S3 (GT (A4 N6 (A0 (A1 0) A2)))) 1 [] (K2 0) (A9 (A3 J4 (A3 C6 (A1 0) (tC3 (.int 0))) (tC3 (.str "make")))) (A1 0)))
  (B1 (C5 DC (A0 (F9 (S3 (A1 2)) 3 [1] (CV [0,1,2]) J8 (A3 J4 (PY "dict" AA7 (A1 3) (A0 (A1 1) A2)) (C5 E6 (A0 (A1 2) A2)))) A2))))
theorem VB (d0 d1:D):B3 CI [d0,d1]=[some d0,some d1,none]:=rfl
end K09
open L3
local macro_rules | `(tactic| walk_at "rd")=>`(tactic| repeat (first|(with_reducible first|refine DS ?_|refine DM ?_|refine X6 ?_|refine KU ?_|refine KZ ?_|refine XG ?_|refine BC ?_|refine DT ?_|refine W9 ?_|refine T4 ?_|refine W7 ?_|refine KR ?_|refine DO ?_|refine W8 ?_|refine X7 ?_|refine X3 ?_|refine DI ?_|refine KW ?_|refine DP ?_|refine W6 ?_|refine DQ ?_|refine X4 ?_|refine R7 ?_|refine KY ?_|refine KS ?_|refine X5 ?_|refine P5 ?_|refine BQ0 ?_|refine AI7 ?_|refine G6 ?_|refine G9 ?_|refine V5 ?_|refine V4 ?_|refine KQ ?_|refine XE ?_|refine J9 ?_|refine X1 ?_|refine X2 ?_|refine DH ?_|refine R8 ?_|refine R9 ?_|refine DU ?_|refine DN ?_|refine GN ?_|refine V2 ?_|refine BD ?_|refine NH ?_|refine BB ?_|refine BE ?_|refine AX ?_|refine BA ?_|refine X0 ?_|refine V3 ?_|refine V7 ?_|refine S0 ?_|refine V6 ?_|refine AY ?_|refine GQ ?_|refine GP ?_|refine DJ ?_|refine GR ?_|refine DL ?_|refine DR ?_|refine NJ ?_|refine UH ?_|refine BB3 ?_|refine JT ?_|refine UE ?_|refine NL ?_|refine UP ?_|refine UN ?_|refine ER ?_)|((with_reducible show A1 _ _ _ _);refine V8 rfl ?_)|((with_reducible show _/\_);refine⟨(by first|decide|(simp only[CV6,CY0];decide)),?_⟩)))
namespace K09
open PySem L2 L3 PK K10
theorem C7 {xs:List D}{Q:DK}(h:Q (.bl true) M):K3 [.tup xs,.ty "tuple"] M Q:=GO trivial (.inr (.inr (.inr (.inl rfl)))) h
theorem C4 {Q:DK}(h:Q (.bl true) M):K3 [.str z,.ty "str"] M Q:=GO trivial (.inr (.inr (.inl rfl))) h
theorem BF5:((CV7 26).all fun k=>subIn ⟨#[k+97]⟩ K01.abc)=true:=by decide +kernel
theorem BI1 (h:nm x):K01.only x=true:=by
 unfold K01.only
 rw[CX4]
 intro c hc
 have h1:=h.1 c hc
 have:=CX4.mp BF5 (c-97) (List.mem_range.mpr (by lia))
 rwa [show c-97+97=c by lia] at this
theorem AW0 (h:nm x):K01.isL (.str x)=true:=by
 show(decide (1<=x.length) && (decide (x.length<=8) && K01.only x))=true
 rw[decide_eq_true h.2.1,decide_eq_true h.2.2,BI1 h];rfl
theorem P4 (h:nm x):K01.YT (.str x):=⟨trivial,fun w e=>by cases e;exact⟨by have:=h.2.2;lia,fun c hc=>by have:=h.1 c hc;lia⟩⟩
theorem P6 {Q:DK}(h:isN x)(q:Q (.bl true) M):K06.J6 [.str x] M Q:=⟨_,rfl,P4 h.1,by rw[h.2];exact q⟩
theorem HN:∀as:Exs,(exL as).length=exl as
 | .nil=>rfl
 | .cons a r=>by simp only[exL,exl,CV6,HN r]
theorem ZK (e:Ex):1<=dp e:=by cases e<;>simp[dp]<;>lia
theorem BC4 {s:Str}(h:sgn s):(["+","-","*","<","="]:List Str).any (·==s)=true:=by
 rcases h with rfl|rfl|rfl|rfl|rfl<;>decide +kernel
theorem YU {e:Ex}[Pool](hw:wf e)(h:e=.none\/∃n,e=.num n):K01.CQ2 (eD e)/\K01.isW (eD e) 0=true:=by
 rcases h with rfl|⟨n,rfl⟩
 ·refine⟨⟨trivial,fun xs ex x hx=>?_⟩,by show K01.isStr (.str "none") "none"=true;decide +kernel⟩
  simp only[eD,D.tup.injEq] at ex
  subst ex
  obtain rfl:x=.str "none":=by simpa using hx
  exact⟨trivial,.inl (EC (by decide +kernel))⟩
 ·refine⟨⟨trivial,fun xs ex x hx=>?_⟩,?_⟩
  ·simp only[eD,D.tup.injEq] at ex
   subst ex
   rcases(by simpa using hx:x=.str "number"\/x=.int n) with rfl|rfl
   ·exact⟨trivial,.inl (EC (by decide +kernel))⟩
   ·exact⟨trivial,.inl GF⟩
  ·have h1:K01.isStr (.str "number") "number"=true:=by decide +kernel
   show(if K01.isStr (.str "number") "number"=true then !K01.OO n else K01.isStr (.str "number") "giver" && (decide (0<=n) && decide (n<0)))=true
   rw[if_pos h1]
   have hb:bnd n:=hw
   unfold bnd PK.G7 at hb
   unfold K01.OO K01.G7
   rw[decide_eq_false (by lia),decide_eq_false (by lia)];rfl
end K09
open L3
namespace K09
open PySem L2 L3 PK K10
theorem WM:∀ds M Q,BG ds M Q->ds.length=1:=by rintro _ _ _ ⟨_,rfl,_⟩;rfl
theorem AB6:∀ds M Q,BG ds M Q->FC {nx:=fun _ M'=>View Q .non M',rt:=View Q} (B3 IZ ds) M:=by
 rintro _ M Q ⟨xs,rfl,q⟩
 rw[AC4]
 unfold FC
 walk_at "rd"
 refine C7 ?_
 walk_at "rd"
 have e:decide ((0:Int)<(xs.length:Nat))=!xs.isEmpty:=by cases xs<;>simp<;>lia
 rw[e]
 exact View.of q
theorem MB (l:List α):(l.map fun _=>true).all id=true:=by rw[CX4];intro b hb;obtain⟨_,_,rfl⟩:=DQ6.mp hb;rfl
theorem MV (l:List α):l.map (fun _=>D.bl true)=(l.map fun _=>true).map D.bl:=by rw[DA8];rfl
theorem IV:∀(xs:List Str) (ys:List D),AK (xs.map D.str) ys=(xs.zip ys).map fun p=>D.tup [.str p.1,p.2]
 | [],ys=>by cases ys<;>rfl
 | x::xs,[]=>rfl
 | x::xs,y::ys=>by
  have:=IV xs ys
  simp only[CW9,DH0,AK] at this ⊢
  rw[this]
theorem CD0:(tblS.all fun p=>decide (p.2.length<=10))=true:=by decide +kernel
theorem AS (e:tblS.lookup h=some sh):sh.length<=10:=by
 have:=CX4.mp CD0 (h,sh) (DA3 e)
 simpa using this
end K09
open L3
namespace K09
open PySem L2 L3 PK K10
theorem JH {o:MO}(h:M a=some o):D3 M a o=M:=funext fun x=>by
 by_cases hx:x=a
 ·subst hx;rw[B4,h]
 ·rw[D0 hx]
theorem L5 {u v:MO}:D3 (D3 M a u) a v=D3 M a v:=funext fun x=>by
 by_cases hx:x=a
 ·subst hx;rw[B4,B4]
 ·rw[D0 hx,D0 hx,D0 hx]
theorem UG {d:D}{Q:DK}(e:d=.tup (.str hd::rest))(h:Q (.str hd) M):C6 d (.int 0) M Q:=by
 subst e
 exact B8 (d:=.str hd) K01.at0 h
end K09
open L3
namespace K09
open PySem L2 L3 PK K10
open PyProof.Rows (sortedS)
theorem AS6 {es:List Ex}(e:dD d=.tup (.str hd::rest))(l:tblS.lookup hd=some sh)(x1:pick "expression" sh rest=es.map eD)(t:Ex):Et t d↔∃e∈es,t∈trE e:=by
 have hp:L8 d=es.map eD:=by
  unfold L8
  rw[e]
  show pick "expression" ((tblS.lookup hd).getD []) rest=_
  rw[l];exact x1
 unfold Et
 rw[hp]
 constructor
 ·rintro⟨e1,h1,h2⟩
  obtain⟨e2,h3,h4⟩:=DQ6.mp h1
  rw[<-CS _ _ h4] at h2
  exact⟨e2,h3,h2⟩
 ·rintro⟨e1,h1,h2⟩
  exact⟨e1,DJ1 h1,h2⟩
theorem AS7 [Pool](hk:okD d)(y:Str):Et (.var y) d↔Ev y d:=by
 obtain⟨hd,rest,sh,s⟩:=UY d hk
 obtain⟨es,x1,_,_,x4⟩:=s.ex
 rw[AS6 s.eq s.look x1,<-x4 y]
 constructor
 ·rintro⟨e,h1,h2⟩;exact⟨e,h1,(OL y e).mp h2⟩
 ·rintro⟨e,h1,h2⟩;exact⟨e,h1,(OL y e).mpr h2⟩
theorem SY:∀ds M Q,N6 ds M Q->ds.length=1:=by rintro _ _ _ ⟨_,_,rfl,_⟩;rfl
theorem XS:∀ds M Q,N6 ds M Q->BR {nx:=fun _ M'=>View Q .non M',rt:=View Q} (B3 FY ds) M:=by
 rintro _ M Q ⟨P,r,rfl,hok,hdp,hcnt,q⟩
 rw[YG]
 unfold BR
 walk_at "rd"
 intro f hf
 walk_at "rd"
 refine B8 (d:=.tup (dB r.blk)) rfl ?_
 walk_at "rd"
 refine⟨P,r.blk,rfl,hok,by lia,by lia,NA fun M2 k1 k2=>?_⟩
 walk_at "rd"
 have hlen:=EK r.blk
 have hf2:M2 f=some (.lst []):=by rw[k1 f (by rw[B4];simp)];exact B4
 have k3:∀x,x≠f->M x≠none->M2 x=M x:=fun x hx hn=>by rw[k1 x (by rw[D0 hx];exact hn),D0 hx]
 refine U5 (dsB r.blk) dD (fnd:=f) (ini:=[]) (fun σ=>∃s2 s3,σ=[some (rD r),some (.ref f),s2,s3]) (fun k acc=>∃ts:List Ex,acc=ts.map eD/\(∀t,t∈ts↔∃d∈(dsB r.blk).take k,Et t d)/\ts.length<=18*k) ⟨_,_,rfl⟩ hf2 ⟨[],rfl,by simp,by simp⟩ ?_ ?_
 ·rintro k d acc σ' M' N hd ⟨s2,s3,rfl⟩ ⟨ts,rfl,ht1,ht2⟩ hm hs nx
  have hkl:k<(dsB r.blk).length:=(List.getElem?_eq_some_iff.mp hd).1
  obtain⟨hd',rest,sh,s⟩:=UY d (CQ r.blk hok d (DA1 hd))
  obtain⟨es,x1,x2,x3,x4⟩:=s.ex
  walk_at "rd"
  refine⟨hd',rest,"expression",sh,by rw[s.eq],s.look,s.few,?_⟩
  rw[x1]
  refine NA fun M3 j1 j2=>?_
  walk_at "rd"
  have hf3:M3 f=some (.lst (ts.map eD)):=by rw[j1 f (by rw[hm];simp)];exact hm
  refine U5 es eD (fnd:=f) (ini:=ts.map eD) (fun σ=>∃s3,σ=[some (rD r),some (.ref f),some (dD d),s3]) (fun j acc=>∃us:List Ex,acc=us.map eD/\(∀t,t∈us↔(∃d∈(dsB r.blk).take k,Et t d)\/∃e∈es.take j,t∈trE e)/\us.length<=18*k+9*j) ⟨_,rfl⟩ hf3 ⟨ts,rfl,by simpa using ht1,by lia⟩ ?_ ?_
  ·rintro j e acc σ2 M4 N2 he ⟨s3,rfl⟩ ⟨us,rfl,hu1,hu2⟩ hm4 hs4 nx2
   have hjl:j<es.length:=(List.getElem?_eq_some_iff.mp he).1
   obtain⟨w1,w2,w3⟩:=x3 e (DA1 he)
   have hl:=BU e
   walk_at "rd"
   refine⟨.inl ⟨rfl,_,hm4⟩,?_⟩
   walk_at "rd"
   refine⟨e,rfl,by lia,(by lia),TF hm4 (by simp only[CV1,CX1];lia) fun M5 h3 h4=>?_⟩
   refine nx2 _ _ M5 ⟨_,rfl⟩ ⟨us++trE e,by rw[CX6],fun y=>?_,by rw[CW3];lia⟩ h3 h4
   rw[CZ9,hu1]
   constructor
   ·rintro((h|⟨e',h1,h2⟩)|h)
    ·exact .inl h
    ·exact .inr ⟨e',(E7 he).mpr (.inl h1),h2⟩
    ·exact .inr ⟨e,(E7 he).mpr (.inr rfl),h⟩
   ·rintro(h|⟨e',h1,h2⟩)
    ·exact .inl (.inl h)
    ·rcases(E7 he).mp h1 with h1|rfl
     ·exact .inl (.inr ⟨e',h1,h2⟩)
     ·exact .inr h2
  ·rintro σ2 acc M4 ⟨s3,rfl⟩ ⟨us,rfl,hu1,hu2⟩ hm4 hs4
   rw[DB1] at hu1
   refine nx _ _ M4 ⟨_,_,rfl⟩ ⟨us,rfl,fun y=>?_,by lia⟩ hm4 fun x hx hn=>by rw[hs4 x hx (by rw[j1 x hn];exact hn),j1 x hn]
   rw[hu1,<-AS6 s.eq s.look x1 y]
   constructor
   ·rintro(⟨d',h1,h2⟩|h)
    ·exact⟨d',(E7 hd).mpr (.inl h1),h2⟩
    ·exact⟨d,(E7 hd).mpr (.inr rfl),h⟩
   ·rintro⟨d',h1,h2⟩
    rcases(E7 hd).mp h1 with h1|rfl
    ·exact .inl ⟨d',h1,h2⟩
    ·exact .inr h2
 ·rintro σ' acc M' ⟨s2,s3,rfl⟩ ⟨ts,rfl,ht1,ht2⟩ hm hs
  rw[DB1] at ht1
  walk_at "rd"
  exact ZT (q ts ht1 (by lia)) hf hm fun x hx hn=>by rw[hs x hx (by rw[k3 x hx hn];exact hn),k3 x hx hn]
theorem AC9 {Q:DK}(h:K10.EU ds M Q):N6 ds M Q:=by
 obtain⟨P,r,e,h1,h2,h3,q⟩:=h
 refine⟨P,r,e,h1,h2,h3,fun ts ht hl=>q ts (fun y=>?_) hl⟩
 rw[ht]
 constructor
 ·rintro⟨d,hd,h⟩;exact⟨d,hd,(AS7 (CQ r.blk h1 d hd) y).mp h⟩
 ·rintro⟨d,hd,h⟩;exact⟨d,hd,(AS7 (CQ r.blk h1 d hd) y).mpr h⟩
theorem AD4 {f:Addr}(F:FnOk P w K mg base CX0 k f fd ps (HJ K N6)):FnOk P w K mg base CX0 k f fd ps (HJ K K10.EU) :=
 F.imp fun vs H Q E hx=>by
  obtain⟨ds,M,Q3,h1,h2,h3,h4⟩:=hx
  exact⟨ds,M,Q3,h1,h2,AC9 h3,h4⟩
theorem BE1 {b:Blk}(h:b≠.nil):dB b≠[]:=by
 cases b with
 | nil=>exact absurd rfl h
 | cons d r=>simp[dB]
end K09
open L3
namespace K09
open PySem L2 L3 PK K10
def AL3:Ex->Bool
 | .make _ _=>true
 | _=>false
def U7 (kds:List (Key×D)):Ex->Bool
 | .make r as=>(match N7 kds (.inr r) with|some (.int n)=>n==((exl as:Nat):Int)|_=>false)
 | _=>true
theorem AF5 (kds:List (Key×D))(t:Ex):U7 kds t=true↔fits kds t:=by
 cases t with
 | make r as =>
  show(match N7 kds (.inr r) with|some (.int n)=>n==((exl as:Nat):Int)|_=>false)=true↔N7 kds (.inr r)=some (.int (exl as))
  cases e:N7 kds (.inr r) with
  | none=>simp
  | some d=>cases d<;>simp
 | _=>exact⟨fun _=>trivial,fun _=>rfl⟩
theorem BG4 (as:Exs):(eDs as).length=exl as:=by rw[HM,CV1,HN]
theorem PB:∀ds M Q,YA ds M Q->ds.length=2:=by rintro _ _ _ ⟨_,_,_,rfl,_⟩;rfl
theorem UK:∀ds M Q,YA ds M Q->Y6 {nx:=fun _ M'=>View Q .non M',rt:=View Q} (B3 CI ds) M:=by
 rintro _ M Q ⟨r,a,kds,rfl,hm,⟨h6,h7,P,h8⟩,hty,q⟩
 rw[VB]
 unfold Y6
 walk_at "rd"
 refine⟨P,r,rfl,h8,h7,h6,fun ts ht1 ht2=>NA fun M2 k1 k2=>?_⟩
 walk_at "rd"
 refine GA ts eD eD AL3 (by rw[CX1];lia) ?_ ?_
 ·intro t ht M3 R F _ hR hF
  cases t with
  | none =>
   walk_at "rd"
   refine B8 (d:=.str "none") rfl ?_
   walk_at "rd"
   exact A8 (by decide +kernel) (hF rfl)
  | num n =>
   walk_at "rd"
   refine B8 (d:=.str "number") rfl ?_
   walk_at "rd"
   exact A8 (by decide +kernel) (hF rfl)
  | var x =>
   walk_at "rd"
   refine B8 (d:=.str "var") rfl ?_
   walk_at "rd"
   exact A8 (by decide +kernel) (hF rfl)
  | op sg u v =>
   walk_at "rd"
   refine B8 (d:=.str "op") rfl ?_
   walk_at "rd"
   exact A8 (by decide +kernel) (hF rfl)
  | make n as =>
   walk_at "rd"
   refine B8 (d:=.str "make") rfl ?_
   walk_at "rd"
   refine B7 (by decide +kernel) ?_
   exact V8 rfl (hR rfl)
 ·walk_at "rd"
  have hm2:M2 a=some (.dct kds):=by rw[k1 a (by rw[hm];simp)];exact hm
  refine G4 (ts.filter AL3) eD (fun t=>D.bl (U7 kds t)) (by have:=DQ7 AL3 ts;rw[CX1];lia) ?_ ?_
  ·intro t ht M3 R F hs hR
   have hm3:M3 a=some (.dct kds):=by rw[hs a (by rw[hm2];simp)];exact hm2
   have hmk:=(List.mem_filter.mp ht).2
   cases t with
   | make n as =>
    rw[show eD (.make n as)=.tup [.str "make",.str n,.tup (eDs as)] from by simp only[eD]]
    refine AZ (by rfl) ?_
    walk_at "rd"
    refine⟨.inr ⟨rfl,_,hm3⟩,?_⟩
    walk_at "rd"
    refine BN1 hm3 ?_
    walk_at "rd"
    rw[BG4]
    have hR:R (.bl (match N7 kds (.inr n) with|some (.int k)=>k==((exl as:Nat):Int)|_=>false)) M3:=hR
    cases e:N7 kds (.inr n) with
    | none =>
     rw[e] at hR
     exact .inl ⟨⟨rfl,rfl,by decide⟩,GF,by simpa[pyD,DF4] using hR⟩
    | some d =>
     obtain⟨k,rfl⟩:=hty n d e
     rw[e] at hR
     exact AY hR
   | none=>cases hmk
   | num _=>cases hmk
   | var _=>cases hmk
   | op _ _ _=>cases hmk
  ·have e:(ts.filter AL3).map (fun t=>D.bl (U7 kds t))=((ts.filter AL3).map (U7 kds)).map D.bl:=by rw[DA8];rfl
   rw[e]
   walk_at "rd"
   refine NG ?_
   refine View.keep (M:=M) k1 (q _ ?_)
   rw[List.all_map,CX4]
   constructor
   ·intro h d hd t ht
    have hts:t∈ts:=(ht1 t).mpr ⟨d,hd,ht⟩
    cases em:AL3 t with
    | true=>exact(AF5 kds t).mp (h t (List.mem_filter.mpr ⟨hts,em⟩))
    | false=>cases t<;>first|trivial|cases em
   ·intro h t ht
    obtain⟨d,hd,h2⟩:=(ht1 t).mp (List.mem_filter.mp ht).1
    exact(AF5 kds t).mpr (h d hd t h2)
theorem VY (rs:List Rl)(r:Rl):cntK (rs++[r])=putD (cntK rs) (.inr r.name) (.int r.pars.length):=by
 unfold cntK;rw[List.foldl_append];rfl
theorem BX7 {k:Key}(d:D)(hk:k∈kds.map (·.1)):(putD kds k d).map (·.1)=kds.map (·.1):=by
 unfold putD
 have h:(kds.any fun kv=>decide (kv.1=k))=true:=by
  obtain⟨kv,h1,h2⟩:=DQ6.mp hk
  exact List.any_eq_true.mpr ⟨kv,h1,decide_eq_true h2⟩
 rw[if_pos h,DA8]
 refine List.map_congr_left fun kv _=>?_
 show(if kv.1=k then(kv.1,d) else kv).1=kv.1
 split<;>rfl
theorem BM0 {k:Key}(d:D)(hk:k∉kds.map (·.1)):(putD kds k d).map (·.1)=kds.map (·.1)++[k]:=by
 unfold putD
 have h:¬(kds.any fun kv=>decide (kv.1=k))=true:=fun h=>by
  obtain⟨kv,h1,h2⟩:=List.any_eq_true.mp h
  rw[<-of_decide_eq_true h2] at hk
  exact hk (DJ1 h1)
 rw[if_neg h,CX6];rfl
theorem BM1 (kds:List (Key×D))(k:Key)(n:Int)(h:∀kv∈kds,∃n:Int,kv.2=.int n):∀kv∈putD kds k (.int n),∃n:Int,kv.2=.int n:=by
 intro kv hm
 unfold putD at hm
 split at hm
 ·obtain⟨kv',h1,rfl⟩:=DQ6.mp hm
  split
  ·exact⟨n,rfl⟩
  ·exact h kv' h1
 ·rcases CZ9.mp hm with hm|hm
  ·exact h kv hm
  ·obtain rfl:kv=(k,.int n):=by simpa using hm
   exact⟨n,rfl⟩
def VO (rs:List Rl):Prop:=(∀kv∈cntK rs,∃n:Int,kv.2=.int n)/\(∀k:Key,k∈(cntK rs).map (·.1)↔∃r∈rs,k=.inr r.name)/\(cntK rs).length<=rs.length/\((cntK rs).length=rs.length↔(rs.map (·.name)).Nodup)
theorem AR0 (r:Rl)(ih:VO rs):VO (rs++[r]):=by
 obtain⟨i1,i2,i3,i4⟩:=ih
 have hin:(.inr r.name:Key)∈(cntK rs).map (·.1)↔r.name∈rs.map (·.name):=by
  rw[i2,DQ6]
  constructor
  ·rintro⟨r',h1,h2⟩;exact⟨r',h1,(Sum.inr.inj h2).symm⟩
  ·rintro⟨r',h1,h2⟩;exact⟨r',h1,by rw[h2]⟩
 have v:=BM1 (cntK rs) (.inr r.name) r.pars.length i1
 unfold VO
 rw[VY]
 by_cases h:(.inr r.name:Key)∈(cntK rs).map (·.1)
 ·have hk:=BX7 (.int r.pars.length) h
  have hl:(putD (cntK rs) (.inr r.name) (.int r.pars.length)).length=(cntK rs).length:=by
   have:=congrArg DJ2 hk
   simpa using this
  refine⟨v,fun k=>?_,by rw[hl,CW3];lia,?_⟩
  ·rw[hk,i2]
   constructor
   ·rintro⟨r',h1,h2⟩;exact⟨r',DE0 _ h1,h2⟩
   ·rintro⟨r',h1,h2⟩
    rcases CZ9.mp h1 with h1|h1
    ·exact⟨r',h1,h2⟩
    ·obtain rfl:r'=r:=by simpa using h1
     rw[h2];exact(i2 _).mp h
  ·rw[hl,CW3,DL8,CX6,List.nodup_append]
   constructor
   ·intro e;lia
   ·rintro⟨_,_,h3⟩
    exact absurd rfl (h3 r.name (hin.mp h) r.name (by simp))
 ·have hk:=BM0 (.int r.pars.length) h
  have hl:(putD (cntK rs) (.inr r.name) (.int r.pars.length)).length=(cntK rs).length+1:=by
   have:=congrArg DJ2 hk
   simpa using this
  refine⟨v,fun k=>?_,by rw[hl,CW3,DL8];lia,?_⟩
  ·rw[hk,CZ9,i2]
   constructor
   ·rintro(⟨r',h1,h2⟩|h1)
    ·exact⟨r',DE0 _ h1,h2⟩
    ·exact⟨r,by simp,by simpa using h1⟩
   ·rintro⟨r',h1,h2⟩
    rcases CZ9.mp h1 with h1|h1
    ·exact .inl ⟨r',h1,h2⟩
    ·obtain rfl:r'=r:=by simpa using h1
     exact .inr (by simp[h2])
  ·rw[hl,CW3,DL8,CX6,List.nodup_append]
   constructor
   ·intro e
    refine⟨i4.mp (by lia),by simp,fun x hx y hy e2=>?_⟩
    obtain rfl:y=r.name:=by simpa using hy
    subst e2
    exact h (hin.mpr hx)
   ·rintro⟨h1,_,_⟩
    rw[i4.mpr h1]
theorem AE6:∀l:List Rl,VO l.reverse
 | []=>⟨fun kv h=>(nomatch h),fun k=>by simp[cntK],CW1 _,by simp[cntK]⟩
 | r::l=>by rw[DL0];exact AR0 r (AE6 l)
theorem LJ (rs:List Rl):VO rs:=by
 have:=AE6 rs.reverse
 rwa [List.reverse_reverse] at this
theorem VZ {r:Rl}(h:rs[k]?=some r):cntK (rs.take (k+1))=putD (cntK (rs.take k)) (.inr r.name) (.int r.pars.length):=by
 rw[DE1,h];exact VY _ _
theorem AJ6 {d:D}(h:N7 (cntK rs) (.inr z)=some d):∃n:Int,d=.int n:=by
 unfold N7 at h
 cases e:(cntK rs).find? fun kv=>decide (kv.1=Sum.inr z) with
 | none=>rw[e] at h;cases h
 | some kv =>
  rw[e] at h
  cases h
  exact(LJ rs).1 kv (List.mem_of_find?_eq_some e)
theorem BB0 {Q:DK}(h:VD ti n slots g tt tk tv (fun p _ M=>Q (.ref p) M) σ M):LW ti n slots g tt tk tv σ M Q:=h
end K09
namespace K08
open PySem L2 L3 PK K10 K09
def wdS (x:Str):Prop:=K01.YT (.str x)/\x.length<=9
def nS [Pool](x:Str):Prop:=wdS x/\(nm x->x∈Pool.ps)
mutual
def shE [Pool]:Ex->Prop
 | .none=>True
 | .num n=>-PK.G7<=n/\n<=PK.G7
 | .var x=>nS x
 | .op s a b=>sgn s/\shE a/\shE b
 | .make r as=>wdS r/\exl as<=9/\AO8 as
def AO8 [Pool]:Exs->Prop
 | .nil=>True
 | .cons a r=>shE a/\AO8 r
end
def S9 [Pool](d:D):Prop:=∃e,d=eD e/\shE e/\nd e<=15/\dp e<=8
def CC (c:Str×Str×List D):D:=.tup [.str c.1,.str c.2.1,.tup c.2.2]
def CK [Pool](kind:Str)(d:D):Prop :=
 (kind="name"/\∃x,d=.str x/\wdS x)\/(kind="word"/\∃w,d=.str w/\wdS w)\/(kind="expression"/\S9 d) \/
 (kind="catches"/\∃cs:List (Str×Str×List D),d=.tup (cs.map CC)/\cs.length<=9/\∀c∈cs,wdS c.1/\wdS c.2.1) \/
 (kind="block"/\∃b,d=.tup b)\/(kind="rest"/\∃b,d=.tup b)
def dSh [Pool](d:Deed):Prop:=∃hd rest sh,dD d=.tup (.str hd::rest)/\tblS.lookup hd=some sh/\rest.length=sh.length/\(∀p∈sh.zip rest,CK p.1 p.2) /\
 (hd="try"->∃b cs q,rest=[b,.tup cs,.tup q])
def IW [Pool](h:Str)(r:List D):Prop :=
 ((h="let"\/h="give"\/h="on")/\∃x e,r=[.str x,e]/\nS x/\S9 e) \/
 ((h="note"\/h="close"\/h="end")/\∃e,r=[e]/\S9 e) \/
 (h="ask"/\∃x y g e,r=[.str x,.str y,g,e]/\nS x/\nS y/\S9 g/\S9 e) \/
 (h="cast"/\∃x y g w e,r=[.str x,.str y,g,.str w,e]/\nS x/\nS y/\wdS w/\S9 g/\S9 e) \/
 (h="fault"/\∃w e,r=[.str w,e]/\wdS w/\S9 e)
def hSh [Pool]:Head->Nat->Prop
 | .leaf h r,n=>n=0/\IW h r
 | .ife e,n=>n=2/\S9 e
 | .whl e,n=>n=1/\S9 e
 | .tr cs,n=>n=cs.length+2/\cs.length<=9/\∀c∈cs,wdS c.1/\nS c.2
mutual
def shD [Pool]:Deed->Prop
 | .mk h bs=>hSh h (bsl bs)/\AC1 bs
def shB [Pool]:Blk->Prop
 | .nil=>True
 | .cons d r=>shD d/\shB r
def AC1 [Pool]:Bls->Prop
 | .nil=>True
 | .cons b r=>shB b/\AC1 r
end
def vd (P:Prop)(M:Mem)(Q:DK):Prop:=∀v:Bool,(v=true↔P)->Q (.bl v) M
def Q4 (n:Nat):Sp3:=fun ds M Q=>∃_:Pool,∃e,∃m:Nat,ds=[eD e,.int m]/\shE e/\2*m+1<=n/\vd (wf e/\nmE e/\dp e<=m) M Q
def S4 (n:Nat):Sp3:=fun ds M Q=>∃_:Pool,∃as,∃m:Nat,ds=[.tup (eDs as),.int m]/\exl as<=9/\AO8 as/\2*m+2<=n/\vd (exl as<=3/\wfs as/\O4 as/\dps as<=m) M Q
def NW:Sp3:=fun ds M Q=>∃_:Pool,∃d,ds=[d]/\S9 d/\vd (exN d) M Q
def IP:Sp3:=fun ds M Q=>∃c,ds=[CC c]/\wdS c.1/\wdS c.2.1/\vd (nm c.1/\isN c.2.1/\c.2.2≠[]) M Q
def AE:Sp3:=fun ds M Q=>∃cs:List (Str×Str×List D),ds=[.tup (cs.map CC)]/\cs.length<=9/\(∀c∈cs,wdS c.1/\wdS c.2.1)/\vd (cs.length<=3/\∀c∈cs,nm c.1/\isN c.2.1/\c.2.2≠[]) M Q
def NY:Sp3:=fun ds M Q=>∃_:Pool,∃kind d,ds=[.str kind,d]/\CK kind d/\vd (C2 kind d) M Q
def NU:Sp3:=fun ds M Q=>∃_:Pool,∃d,ds=[dD d]/\dSh d/\vd (L4 d) M Q
def E4 (n:Nat):Sp3:=fun ds M Q=>∃_:Pool,∃b,∃m:Nat,∃lp a xs,ds=[.tup (dB b),.int m,.bl lp,.ref a]/\M a=some (.lst xs)/\shB b/\6<=n+m/\xs.length<=30/\C0 b<=99/\m<=5 /\
 ∀v ys,(v=true↔E1 b/\dpB b+m<=5/\xs.length+C0 b<=30)->(v=true->ys.length=xs.length+C0 b)->Q (.bl v) (D3 M a (.lst ys))
def EA:Sp3:=fun ds M Q=>∃xs:List Str,ds=[.tup (xs.map D.str)]/\xs.length<=9/\(∀x∈xs,isN x)/\xs.Nodup/\vd (xs.length<=3) M Q
def ZA (r:Rl):Prop:=∀ys:List Str,ys.Nodup->(∀z,z∈ys↔Nm z r.blk/\z∉r.pars)->r.pars.length+ys.length<=12
def rSh [Pool](r:Rl):Prop:=isN r.name/\r.pars.length<=9/\(∀x∈r.pars,isN x)/\r.pars.Nodup/\C0 r.blk<=90/\shB r.blk
def TV [Pool](r:Rl):Prop:=r.pars.length<=3/\r.blk≠.nil/\(E1 r.blk/\dpB r.blk+1<=5/\C0 r.blk<=30)/\ZA r
def NZ:Sp3:=fun ds M Q=>∃_:Pool,∃r,ds=[rD r]/\rSh r/\Pool.ps.length<=15/\vd (TV r) M Q
def OP [Pool](rs:List Rl):Prop:=rs.length<=10/\(∀r∈rs,rSh r)/\Pool.ps.length<=15/\(rs.map (·.name)).Nodup/\∀r∈rs,∀d∈dsB r.blk,∀t,Et t d->fits (cntK rs) t
def FE [Pool](rs:List Rl):Prop:=1<=rs.length/\rs.length<=8/\∀r∈rs,TV r
def DY:Sp3:=fun ds M Q=>∃_:Pool,∃rs:List Rl,ds=[.tup (rs.map rD)]/\OP rs/\vd (FE rs) M Q
end K08
namespace K08
open PySem L2 L3
abbrev BY:List Str:=["thing"]
def N4:TS3 :=
  (B1 (G8 (A4 (Q4 9) (A0 (A1 0) (A0 (tC3 (.int 4)) A2))) (A3 FH (C5 E6 (A0 (A4 (K10.O9 5) (A0 (A1 0) A2)) A2)) (tC3 (.int 9)))))
abbrev LZ:List Str:=["thing"]
def BM:TS3 :=
  (A6 (C8 (Z1 (K4 (A9 (C5 K3 (A0 (A1 0) (A0 (tC3 (.ty "tuple")) A2))))) (A9 (A3 CG (C5 E6 (A0 (A1 0) A2)) (tC3 (.int 3))))) (B1 (tC3 (.bl false))) B9)
  (B1 (G8 (A4 K01.O2 (A0 (A3 C6 (A1 0) (tC3 (.int 0))) A2)) (G8 (A4 K06.J6 (A0 (A3 C6 (A1 0) (tC3 (.int 1))) A2)) (A4 K09.BG (A0 (A3 C6 (A1 0) (tC3 (.int 2))) A2))))))
abbrev HD:List Str:=["thing"]
def U1:TS3 :=
  (A6 (C8 (Z1 (K4 (A9 (C5 K3 (A0 (A1 0) (A0 (tC3 (.ty "tuple")) A2))))) (A9 (A3 TU (C5 E6 (A0 (A1 0) A2)) (tC3 (.int 3))))) (B1 (tC3 (.bl false))) B9)
  (B1 (C5 DC (A0 (F9 (Z7 (A1 0)) 1 [] (K2 0) J8 (A4 IP (A0 (A1 0) A2))) A2))))
abbrev QH:List Str:=["kind","part"]
def EZ:TS3 :=
  (A6 (C8 (A9 (A3 J4 (A1 0) (tC3 (.str "name")))) (B1 (A4 K06.J6 (A0 (A1 1) A2))) B9)
  (A6 (C8 (A9 (A3 J4 (A1 0) (tC3 (.str "word")))) (B1 (A4 K01.AF (A0 (A1 1) A2))) B9)
  (A6 (C8 (A9 (A3 J4 (A1 0) (tC3 (.str "expression")))) (B1 (A4 NW (A0 (A1 1) A2))) B9)
  (A6 (C8 (A9 (A3 J4 (A1 0) (tC3 (.str "catches")))) (B1 (A4 AE (A0 (A1 1) A2))) B9)
  (A6 (C8 (A9 (A3 J4 (A1 0) (tC3 (.str "block")))) (B1 (A4 K09.BG (A0 (A1 1) A2))) B9)
  (B1 (C5 K3 (A0 (A1 1) (A0 (tC3 (.ty "tuple")) A2)))))))))
abbrev QF:List Str:=["thing","shape"]
def EX:TS3 :=
  (A6 (C8 (Z1 (K4 (A9 (A4 K09.BG (A0 (A1 0) A2)))) (K4 (A9 (C5 K3 (A0 (A3 C6 (A1 0) (tC3 (.int 0))) (A0 (tC3 (.ty "str")) A2)))))) (B1 (tC3 (.bl false))) B9)
  (A6 (B6 1 (CD6 K10.tblS (A0 (A3 C6 (A1 0) (tC3 (.int 0))) A2)))
  (A6 (C8 (Z1 (A9 (A3 BY0 (A1 1) (tC3 .non))) (A9 (A3 CG (C5 E6 (A0 (A1 0) A2)) (A3 C9 (C5 E6 (A0 (A1 1) A2)) (tC3 (.int 1)))))) (B1 (tC3 (.bl false))) B9)
  (A6 (C8 (K4 (A9 (C5 DC (A0 (F9 (AG0 (A0 (A1 1) (A0 (RS (A1 0) (EE (tC3 (.int 1))) W1) A2))) 2 [] (CV [0,1]) J8 (A4 NY (A0 (A1 0) (A0 (A1 1) A2)))) A2)))) (B1 (tC3 (.bl false))) B9)
  (B1 (YJ (A3 CG (A3 C6 (A1 0) (tC3 (.int 0))) (tC3 (.str "try"))) (A3 TU (A3 C9 (C5 E6 (A0 (A3 C6 (A1 0) (tC3 (.int 2))) A2)) (C5 E6 (A0 (A3 C6 (A1 0) (tC3 (.int 3))) A2))) (tC3 (.int 0)))))))))
abbrev MA:List Str:=["block","depth","looped","counted","deed","inner"]
def BN (q_is_deeds:Sp3):TS3 :=
  (A6 (X9 (Z7 (A1 0)) 4 (A6 (BI (PY "list" DD (A1 3) (A0 (A1 4) A2)))
  (A6 (C8 (Z1 (A9 (A3 TU (C5 E6 (A0 (A1 3) A2)) (tC3 (.int 30)))) (K4 (A9 (A4 NU (A0 (A1 4) A2))))) (B1 (tC3 (.bl false))) B9)
  (A6 (C8 (RP (A9 (A3 J4 (A3 C6 (A1 4) (tC3 (.int 0))) (tC3 (.str "leave")))) (K4 (A9 (A1 2)))) (B1 (tC3 (.bl false))) B9)
  (X9 (S3 (A4 PK.ES (A0 (A1 4) A2))) 5 (C8 (Z1 (A9 (A3 J4 (A1 1) (tC3 (.int 5)))) (K4 (A9 (A4 q_is_deeds (A0 (A1 5) (A0 (A3 C9 (A1 1) (tC3 (.int 1))) (A0 (YJ (A1 2) (A3 J4 (A3 C6 (A1 4) (tC3 (.int 0))) (tC3 (.str "while")))) (A0 (A1 3) A2)))))))) (B1 (tC3 (.bl false))) B9))))))
  (B1 (tC3 (.bl true))))
abbrev KH:List Str:=["thing"]
def Y5:TS3 :=
  (A6 (C8 (Z1 (K4 (A9 (C5 K3 (A0 (A1 0) (A0 (tC3 (.ty "tuple")) A2))))) (A9 (A3 TU (C5 E6 (A0 (A1 0) A2)) (tC3 (.int 3))))) (B1 (tC3 (.bl false))) B9)
  (B1 (G8 (C5 DC (A0 (F9 (Z7 (A1 0)) 1 [] (K2 0) J8 (A4 K06.J6 (A0 (A1 0) A2))) A2)) (A3 J4 (BD4 (YK (A0 (A1 0) A2))) (C5 E6 (A0 (A1 0) A2))))))
abbrev QI:List Str:=["thing"]
def FA:TS3 :=
  (A6 (C8 (Z1 (K4 (A9 (C5 K3 (A0 (A1 0) (A0 (tC3 (.ty "tuple")) A2))))) (A9 (A3 CG (C5 E6 (A0 (A1 0) A2)) (tC3 (.int 3))))) (B1 (tC3 (.bl false))) B9)
  (A6 (C8 (Z1 (K4 (A9 (A4 K06.J6 (A0 (A3 C6 (A1 0) (tC3 (.int 0))) A2)))) (Z1 (K4 (A9 (A4 EA (A0 (A3 C6 (A1 0) (tC3 (.int 1))) A2)))) (K4 (A9 (A4 K09.BG (A0 (A3 C6 (A1 0) (tC3 (.int 2))) A2)))))) (B1 (tC3 (.bl false))) B9)
  (B1 (G8 (A4 (E4 6) (A0 (A3 C6 (A1 0) (tC3 (.int 2))) (A0 (tC3 (.int 1)) (A0 (tC3 (.bl false)) (A0 (GU A2) A2))))) (A3 FH (C5 E6 (A0 (A4 K10.S1 (A0 (A1 0) A2)) A2)) (tC3 (.int 12)))))))
abbrev QE:List Str:=["thing","counts"]
def EW:TS3 :=
  (A6 (C8 (Z1 (K4 (A9 (C5 K3 (A0 (A1 0) (A0 (tC3 (.ty "tuple")) A2))))) (K4 (A9 (X8 FH FH (tC3 (.int 1)) (C5 E6 (A0 (A1 0) A2)) (tC3 (.int 8)))))) (B1 (tC3 (.bl false))) B9)
  (A6 (C8 (K4 (A9 (C5 DC (A0 (F9 (Z7 (A1 0)) 1 [] (K2 0) J8 (A4 NZ (A0 (A1 0) A2))) A2)))) (B1 (tC3 (.bl false))) B9)
  (A6 (B6 1 (LW (Z7 (A1 0)) 3 [] (CV [0,1,2]) J8 (A1 0) (C5 E6 (A0 (A1 1) A2))))
  (B1 (G8 (A3 J4 (C5 BA7 (A0 (A1 1) A2)) (C5 E6 (A0 (A1 0) A2))) (C5 DC (A0 (F9 (Z7 (A1 0)) 1 [1] (K2 0) J8 (A4 K09.YA (A0 (A1 0) (A0 (A1 1) A2)))) A2)))))))
end K08
open L3
open K09 (C7 C4)
local macro_rules | `(tactic| walk_at "st")=>`(tactic| first|(with_reducible first|refine DS ?_|refine DM ?_|refine X6 ?_|refine KU ?_|refine KZ ?_|refine XG ?_|refine BC ?_|refine DT ?_|refine W9 ?_|refine T4 ?_|refine W7 ?_|refine KR ?_|refine DO ?_|refine W8 ?_|refine X7 ?_|refine X3 ?_|refine DI ?_|refine KW ?_|refine DP ?_|refine W6 ?_|refine DQ ?_|refine X4 ?_|refine R7 ?_|refine KY ?_|refine KS ?_|refine X5 ?_|refine P5 ?_|refine BQ0 ?_|refine AI7 ?_|refine G6 ?_|refine G9 ?_|refine V5 ?_|refine V4 ?_|refine KQ ?_|refine XE ?_|refine J9 ?_|refine X1 ?_|refine X2 ?_|refine DH ?_|refine R8 ?_|refine R9 ?_|refine DU ?_|refine DN ?_|refine GN ?_|refine V2 ?_|refine BD ?_|refine NH ?_|refine BB ?_|refine BE ?_|refine AX ?_|refine BA ?_|refine X0 ?_|refine V3 ?_|refine V7 ?_|refine S0 ?_|refine V6 ?_|refine AY ?_|refine GQ ?_|refine GP ?_|refine DJ ?_|refine GR ?_|refine DL ?_|refine DR ?_|refine NJ ?_|refine UH ?_|refine BB3 ?_|refine JT ?_|refine UE ?_|refine NL ?_|refine UP ?_|refine UN ?_|refine ER ?_|refine C7 ?_|refine C4 ?_)|((with_reducible show A1 _ _ _ _);refine V8 rfl ?_)|((with_reducible show _/\_);refine⟨(by first|decide|(simp only[CV6,CY0];decide)),?_⟩))
local macro_rules | `(tactic| walk_at "rd")=>`(tactic| repeat walk_at "st")
local macro_rules | `(tactic| walk_at "w")=>`(tactic| repeat (first|walk_at "st"|((with_reducible show C6 (D.tup _) (D.int _) _ _);refine B8 rfl ?_)|((with_reducible show ite _ _ _);first|refine B7 (by first|rfl|decide +kernel) ?_|refine A8 (by first|rfl|decide +kernel) ?_)))
namespace K08
open PySem L2 L3 PK K10
open K09 (isN nmE O4 exN C2 L4 J3 E1 F8 C7 C4 AI AJ IX JA BC4 HN AW0 P4 YU)
theorem BF6:(CV7 128).all (fun c=>!subIn ⟨#[c]⟩ K01.abc || (decide (97<=c) && decide (c<=122)))=true:=by decide +kernel
theorem AT9 (w:wdS x)(h:K01.isL (.str x)=true):nm x:=by
 have h':(decide (1<=x.length) && (decide (x.length<=8) && K01.only x))=true:=h
 simp only[CX9,decide_eq_true_eq] at h'
 refine⟨fun c hc=>?_,h'.1,h'.2.1⟩
 have o:=CX4.mp h'.2.2 c hc
 have r:=CX4.mp BF6 c (List.mem_range.mpr ((w.1.2 x rfl).2 c hc))
 rw[o] at r
 simpa using r
theorem AG4 (w:wdS x):K01.isL (.str x)=true↔nm x:=⟨AT9 w,AW0⟩
theorem BG8 (w:wdS x):K06.SQ (.str x)=true↔isN x :=
 ⟨fun h=>⟨AT9 w (by unfold K06.SQ at h;rw[CX9] at h;exact h.1),h⟩,fun h=>h.2⟩
theorem AU3 (w:wdS x):K01.BS9 (.str x)=true↔nm x/\x≠"any":=by
 show(K01.isL (.str x) && !(x=="any"))=true↔_
 rw[CX9,AG4 w]
 simp
theorem P6 {Q:DK}(h:wdS x)(q:vd (isN x) M Q):K06.J6 [.str x] M Q:=⟨_,rfl,h.1,q _ (BG8 h)⟩
theorem RZ {Q:DK}(h:wdS x)(q:vd (nm x) M Q):K01.O2 [.str x] M Q:=⟨_,rfl,h.1,q _ (AG4 h)⟩
theorem AK1 {Q:DK}(h:wdS x)(q:vd (nm x/\x≠"any") M Q):K01.AF [.str x] M Q:=⟨_,rfl,h.1,q _ (AU3 h)⟩
theorem L7 {P:Prop}(h:¬P):false=true↔P:=⟨fun z=>(nomatch z),fun z=>absurd z h⟩
theorem EH {P:Prop}(h:P):true=true↔P:=⟨fun _=>h,fun _=>rfl⟩
theorem vdR {P:Prop}[Decidable P]{R:DK}(h:R (.bl (decide P)) M):vd P M R:=fun v hv=>by
 rw[show v=decide P from by rw[DE5,hv];simp];exact h
theorem LU {P:α->Prop}[DecidablePred P]{Q:DK}(h:vd (∀e∈l,P e) M Q):DC [.lst (l.map fun e=>D.bl (decide (P e)))] M Q:=by
 rw[show l.map (fun e=>D.bl (decide (P e)))=(l.map fun e=>decide (P e)).map D.bl from by rw[DA8];rfl]
 refine NG (h _ ?_)
 rw[CX4]
 simp only[DQ6,id,forall_exists_index,and_imp,forall_apply_eq_imp_iff₂,decide_eq_true_eq]
theorem KL:∀n ds M Q,S4 n ds M Q->ds.length=2:=by rintro _ _ _ _ ⟨_,_,_,rfl,_⟩;rfl
theorem KN:∀n ds M Q,Q4 n ds M Q->ds.length=2:=by rintro _ _ _ _ ⟨_,_,_,rfl,_⟩;rfl
theorem VJ:∀ds M Q,¬S4 0 ds M Q:=by rintro _ _ _ ⟨_,_,_,_,_,_,h,_⟩;lia
theorem VM:∀ds M Q,¬Q4 0 ds M Q:=by rintro _ _ _ ⟨_,_,_,_,_,h,_⟩;lia
theorem AS9 [Pool]:∀{as:Exs},AO8 as->∀e∈exL as,shE e
 | .nil,_,e,h=>by simp[exL] at h
 | .cons a r,hw,e,h=>by
  simp only[exL,CV0] at h
  rcases h with rfl|h
  ·exact hw.1
  ·exact AS9 hw.2 e h
theorem AF4 [Pool](m:Nat):∀as:Exs,(∀e∈exL as,wf e/\nmE e/\dp e<=m)↔wfs as/\O4 as/\dps as<=m
 | .nil=>by simp[exL,wfs,O4,dps]
 | .cons a r=>by
  simp only[exL,List.forall_mem_cons,wfs,O4,dps,AF4 m r]
  constructor
  ·rintro⟨⟨a1,a2,a3⟩,b1,b2,b3⟩;exact⟨⟨a1,b1⟩,⟨a2,b2⟩,by lia⟩
  ·rintro⟨⟨a1,b1⟩,⟨a2,b2⟩,h⟩;exact⟨⟨a1,a2,by lia⟩,b1,b2,by lia⟩
theorem BI2 {k:Int}:(!K01.OO k)=true↔bnd k:=by
 unfold K01.OO bnd
 rw[Bool.not_eq_true',DH9,decide_eq_false_iff_not,decide_eq_false_iff_not]
 unfold K01.G7 PK.G7
 exact⟨fun h=>⟨by lia,by lia⟩,fun h=>⟨by lia,by lia⟩⟩
open Classical in
theorem AB0:∀n ds M Q,S4 (n+1) ds M Q->AI (S4 n) (Q4 n) {nx:=fun _ M'=>View Q .non M',rt:=View Q} (B3 IX ds) M:=by
 rintro n _ M Q ⟨P,as,m,rfl,hl,hw,hm,q⟩
 unfold AI
 have hlen:(eDs as).length=exl as:=by rw[HM,CV1,HN]
 walk_at "w"
 rw[hlen]
 by_cases h3:exl as<=3
 ·refine A8 (decide_eq_false (by lia)) ?_
  walk_at "w"
  rw[HM]
  refine G4 (exL as) eD (fun e=>D.bl (decide (wf e/\nmE e/\dp e<=m))) (by rw[HN,CX1];lia) ?_ ?_
  ·intro e he M2 R F _ hR
   walk_at "w"
   exact⟨P,e,m,rfl,AS9 hw e he,by lia,vdR hR⟩
  ·walk_at "w"
   refine LU fun v hv=>View.of (q _ ?_)
   rw[hv,AF4]
   exact⟨fun h=>⟨h3,h⟩,fun h=>h.2⟩
 ·refine B7 (decide_eq_true (by lia)) ?_
  walk_at "w"
  exact View.of (q _ (L7 fun h=>h3 h.1))
theorem AB7:∀n ds M Q,Q4 (n+1) ds M Q->AJ (S4 n) (Q4 n) {nx:=fun _ M'=>View Q .non M',rt:=View Q} (B3 JA ds) M:=by
 rintro n _ M Q ⟨P,e,m,rfl,hw,hm,q⟩
 have hp:=K09.ZK e
 have e1:m≠0->((m:Int)-1)=((m-1:Nat):Int):=fun h=>by lia
 unfold AJ
 walk_at "w"
 by_cases h0:m=0
 ·refine B7 (by subst h0;rfl) ?_
  walk_at "w"
  exact View.of (q _ (L7 fun h=>by lia))
 refine A8 (beq_eq_false_iff_ne.mpr (by lia)) ?_
 cases e with
 | op s a b =>
  rw[show eD (.op s a b)=.tup [.str "op",.str s,eD a,eD b] from by simp only[eD]]
  walk_at "w"
  refine .inr ⟨s,["+","-","*","<","="],rfl,rfl,?_⟩
  rw[BC4 hw.1]
  walk_at "w"
  rw[e1 h0]
  refine⟨P,a,m-1,rfl,hw.2.1,by lia,fun v hv=>?_⟩
  cases v with
  | false =>
   walk_at "w"
   exact View.of (q _ (L7 fun h=>by simp only[dp,wf,K09.nmE] at h;exact absurd (hv.mpr ⟨h.1.2.1,h.2.1.1,by lia⟩) CV5))
  | true =>
   walk_at "w"
   rw[e1 h0]
   refine⟨P,b,m-1,rfl,hw.2.2,by lia,fun v2 hv2=>View.of (q _ ?_)⟩
   have ha:=hv.mp rfl
   simp only[dp,wf,K09.nmE]
   rw[hv2]
   exact⟨fun h=>⟨⟨hw.1,ha.1,h.1⟩,⟨ha.2.1,h.2.1⟩,by lia⟩,fun h=>⟨h.1.2.2,h.2.1.2,by lia⟩⟩
 | make r as =>
  rw[show eD (.make r as)=.tup [.str "make",.str r,.tup (eDs as)] from by simp only[eD]]
  walk_at "w"
  refine P6 hw.1 fun v hv=>?_
  cases v with
  | false =>
   walk_at "w"
   exact View.of (q _ (L7 fun h=>absurd (hv.mpr h.2.1.1) CV5))
  | true =>
   walk_at "w"
   rw[e1 h0]
   refine⟨P,as,m-1,rfl,hw.2.1,hw.2.2,by lia,fun v2 hv2=>View.of (q _ ?_)⟩
   have ha:=hv.mp rfl
   simp only[dp,wf,K09.nmE]
   rw[hv2]
   exact⟨fun h=>⟨⟨ha.1,h.1,h.2.1⟩,⟨ha,h.2.2.1⟩,by lia⟩,fun h=>⟨h.1.2.1,h.1.2.2,h.2.1.2,by lia⟩⟩
 | var x =>
  rw[show eD (.var x)=.tup [.str "var",.str x] from by simp only[eD]]
  walk_at "w"
  refine P6 hw.1 fun v hv=>View.of (q _ ?_)
  rw[hv]
  exact⟨fun h=>⟨⟨h.1,hw.2 h.1⟩,h,by simp only[dp];lia⟩,fun h=>h.2.1⟩
 | none =>
  have wk:=YU (e:=.none) trivial (.inl rfl)
  rw[show eD (.none)=.tup [.str "none"] from by simp only[eD]]
  walk_at "w"
  exact⟨eD .none,0,by simp only[eD],wk.1,View.of (q _ (by rw[wk.2];exact EH ⟨trivial,trivial,by simp only[dp];lia⟩))⟩
 | num k =>
  rw[show eD (.num k)=.tup [.str "number",.int k] from by simp only[eD]]
  walk_at "w"
  refine⟨eD (.num k),0,by simp only[eD],⟨trivial,fun xs ex x hx=>?_⟩,View.of (q _ ?_)⟩
  ·simp only[eD,D.tup.injEq] at ex
   subst ex
   rcases(by simpa using hx:x=.str "number"\/x=.int k) with rfl|rfl
   ·exact⟨trivial,.inl (EC (by decide +kernel))⟩
   ·exact⟨trivial,.inl GF⟩
  ·rw[show eD (.num k)=.tup [.str "number",.int k] from by simp only[eD]]
   have h1:K01.isStr (.str "number") "number"=true:=by decide +kernel
   show(if K01.isStr (.str "number") "number"=true then !K01.OO k else K01.isStr (.str "number") "giver" && (decide (0<=k) && decide (k<0)))=true↔_
   rw[if_pos h1]
   rw[BI2]
   exact⟨fun h=>⟨h,trivial,by simp only[dp];lia⟩,fun h=>h.1⟩
end K08
open L3
open K09 (C7 C4)
namespace K08
open PySem L2 L3 PK K10
open K09 (isN nmE O4 exN C2 L4 J3 E1 F8 IV AS)
theorem IB:∀ds M Q,NW ds M Q->ds.length=1:=by rintro _ _ _ ⟨_,_,rfl,_⟩;rfl
theorem exN_iff [Pool]{e:Ex}:exN (eD e)↔(wf e/\nmE e/\dp e<=4)/\nd e<=9 :=
 ⟨fun⟨e',h,a,b,c,d⟩=>by rw[CS e e' h];exact⟨⟨a,d,c⟩,b⟩,fun⟨⟨a,b,c⟩,d⟩=>⟨e,rfl,a,d,c,b⟩⟩
theorem JS:∀ds M Q,NW ds M Q->N4 {nx:=fun _ M'=>View Q .non M',rt:=View Q} (B3 BY ds) M:=by
 rintro _ M Q ⟨P,_,rfl,⟨e,rfl,hs,hnd,_⟩,q⟩
 unfold N4
 walk_at "w"
 refine⟨P,e,4,rfl,hs,by lia,fun v hv=>?_⟩
 cases v with
 | false =>
  walk_at "w"
  exact View.of (q _ (L7 fun h=>absurd (hv.mpr (exN_iff.mp h).1) CV5))
 | true =>
  have h1:=hv.mp rfl
  walk_at "w"
  refine⟨e,rfl,by lia,by lia,fun a M' ha hm hs=>?_⟩
  walk_at "w"
  refine UJ hm ?_
  walk_at "w"
  rw[CV1,BU]
  refine View.keep (fun x hx=>hs x (by rintro rfl;exact hx ha)) (q _ ?_)
  rw[exN_iff,decide_eq_true_eq]
  exact⟨fun h=>⟨h1,by lia⟩,fun h=>by lia⟩
theorem EI {xs:List D}{Q:DK}(q:vd (xs≠[]) M Q):K09.BG [.tup xs] M Q:=⟨xs,rfl,q _ (by cases xs<;>simp)⟩
theorem SU:∀ds M Q,IP ds M Q->ds.length=1:=by rintro _ _ _ ⟨_,rfl,_⟩;rfl
theorem XJ:∀ds M Q,IP ds M Q->BM {nx:=fun _ M'=>View Q .non M',rt:=View Q} (B3 LZ ds) M:=by
 rintro _ M Q ⟨⟨w,x,b⟩,rfl,hw,hx,q⟩
 rw[show CC (w,x,b)=.tup [.str w,.str x,.tup b] from rfl]
 unfold BM
 walk_at "w"
 refine RZ hw fun v hv=>?_
 cases v with
 | false =>
  walk_at "w"
  exact View.of (q _ (L7 fun h=>absurd (hv.mpr h.1) CV5))
 | true =>
  walk_at "w"
  refine P6 hx fun v2 hv2=>?_
  cases v2 with
  | false =>
   walk_at "w"
   exact View.of (q _ (L7 fun h=>absurd (hv2.mpr h.2.1) CV5))
  | true =>
   walk_at "w"
   exact EI fun v3 hv3=>View.of (q _ (by rw[hv3];exact⟨fun h=>⟨hv.mp rfl,hv2.mp rfl,h⟩,fun h=>h.2.2⟩))
theorem MR:∀ds M Q,AE ds M Q->ds.length=1:=by rintro _ _ _ ⟨_,rfl,_⟩;rfl
open Classical in
theorem PR:∀ds M Q,AE ds M Q->U1 {nx:=fun _ M'=>View Q .non M',rt:=View Q} (B3 HD ds) M:=by
 rintro _ M Q ⟨cs,rfl,hl,hc,q⟩
 unfold U1
 walk_at "w"
 rw[CV1]
 by_cases h3:cs.length<=3
 ·refine A8 (decide_eq_false (by lia)) ?_
  walk_at "w"
  refine G4 cs CC (fun c=>D.bl (decide (nm c.1/\isN c.2.1/\c.2.2≠[]))) (by rw[CX1];lia) ?_ ?_
  ·intro c hcs M2 R F _ hR
   walk_at "w"
   exact⟨c,rfl,(hc c hcs).1,(hc c hcs).2,vdR hR⟩
  ·walk_at "w"
   exact LU fun v hv=>View.of (q _ (by rw[hv];exact⟨fun h=>⟨h3,h⟩,fun h=>h.2⟩))
 ·refine B7 (decide_eq_true (by lia)) ?_
  walk_at "w"
  exact View.of (q _ (L7 fun h=>h3 h.1))
theorem ks:(("word":Str)=="name")=false/\(("expression":Str)=="name")=false/\(("expression":Str)=="word")=false/\(("catches":Str)=="name")=false/\(("catches":Str)=="word")=false/\(("catches":Str)=="expression")=false /\
  (("block":Str)=="name")=false/\(("block":Str)=="word")=false/\(("block":Str)=="expression")=false/\(("block":Str)=="catches")=false/\(("rest":Str)=="name")=false/\(("rest":Str)=="word")=false/\(("rest":Str)=="expression")=false/\(("rest":Str)=="catches")=false/\(("rest":Str)=="block")=false:=by decide +kernel
theorem kn:∀{a b:Str},(a==b)=false->¬a=b/\¬b=a:=fun h=>⟨beq_eq_false_iff_ne.mp h,fun e=>beq_eq_false_iff_ne.mp h e.symm⟩
theorem LP [Pool]:C2 "name" (.str x)↔isN x:=by
 obtain⟨a1,a2,a3,a4,a5,a6,b1,b2,b3,b4,b5,b6,b7,b8,b9⟩:=ks
 unfold C2
 simp[kn a1,kn a2,kn a4,kn b1,kn b5]
theorem LQ [Pool]:C2 "word" (.str x)↔nm x/\x≠"any":=by
 obtain⟨a1,a2,a3,a4,a5,a6,b1,b2,b3,b4,b5,b6,b7,b8,b9⟩:=ks
 unfold C2
 simp[kn a1,kn a3,kn a5,kn b2,kn b6]
theorem po_exp [Pool]{d:D}:C2 "expression" d↔exN d:=by
 obtain⟨a1,a2,a3,a4,a5,a6,b1,b2,b3,b4,b5,b6,b7,b8,b9⟩:=ks
 unfold C2
 simp[kn a2,kn a3,kn a6,kn b3,kn b7]
theorem XA [Pool]{b:List D}:C2 "block" (.tup b)↔b≠[]:=by
 obtain⟨a1,a2,a3,a4,a5,a6,b1,b2,b3,b4,b5,b6,b7,b8,b9⟩:=ks
 unfold C2
 simp[kn b1,kn b2,kn b3,kn b4,kn b9]
theorem TQ [Pool]{b:List D}:C2 "rest" (.tup b):=.inr (.inr (.inr (.inr (.inr ⟨rfl,b,rfl⟩))))
theorem VU:∀{a b:List (Str×Str×List D)},a.map CC=b.map CC->a=b
 | [],[],_=>rfl
 | [],_::_,h=>by simp at h
 | _::_,[],h=>by simp at h
 | (x1,x2,x3)::a,(y1,y2,y3)::b,h=>by
  simp only[CW9,List.cons.injEq] at h
  have:=h.1
  simp only[CC,D.tup.injEq,List.cons.injEq,D.str.injEq,and_true] at this
  obtain⟨rfl,rfl,rfl⟩:=this
  rw[VU h.2]
theorem po_cat [Pool]{cs:List (Str×Str×List D)}:C2 "catches" (.tup (cs.map CC))↔cs.length<=3/\∀c∈cs,nm c.1/\isN c.2.1/\c.2.2≠[]:=by
 obtain⟨a1,a2,a3,a4,a5,a6,b1,b2,b3,b4,b5,b6,b7,b8,b9⟩:=ks
 unfold C2
 simp only[kn a4,kn a5,kn a6,kn b4,kn b8,false_and,true_and,false_or,or_false]
 constructor
 ·rintro⟨cs',h,h1,h2⟩
  rw[VU (D.tup.inj h)];exact⟨h1,h2⟩
 ·rintro⟨h1,h2⟩;exact⟨cs,rfl,h1,h2⟩
theorem WK:∀ds M Q,NY ds M Q->ds.length=2:=by rintro _ _ _ ⟨_,_,_,rfl,_⟩;rfl
theorem AB4:∀ds M Q,NY ds M Q->EZ {nx:=fun _ M'=>View Q .non M',rt:=View Q} (B3 QH ds) M:=by
 rintro _ M Q ⟨P,kind,d,rfl,hk,q⟩
 unfold EZ
 rcases hk with⟨rfl,x,rfl,hx⟩|⟨rfl,w,rfl,hw⟩|⟨rfl,he⟩|⟨rfl,cs,rfl,hl,hc⟩|⟨rfl,b,rfl⟩|⟨rfl,b,rfl⟩
 ·walk_at "w"
  exact P6 hx fun v hv=>View.of (q v (by rw[hv,LP]))
 ·walk_at "w"
  exact AK1 hw fun v hv=>View.of (q v (by rw[hv,LQ]))
 ·walk_at "w"
  exact⟨P,d,rfl,he,fun v hv=>View.of (q v (by rw[hv,po_exp]))⟩
 ·walk_at "w"
  exact⟨cs,rfl,hl,hc,fun v hv=>View.of (q v (by rw[hv,po_cat]))⟩
 ·walk_at "w"
  exact EI fun v hv=>View.of (q v (by rw[hv,XA]))
 ·walk_at "w"
  exact View.of (q true (EH TQ))
end K08
open L3
open K09 (C7 C4)
namespace K08
open PySem L2 L3 PK K10
open K09 (isN nmE O4 exN C2 L4 J3 E1 F8 IV AS)
theorem S8 [Pool](ed:dD d=.tup (.str hd::rest))(look:tblS.lookup hd=some sh) :
  L4 d↔rest.length=sh.length/\(∀p∈sh.zip rest,C2 p.1 p.2)/\(hd="try"->∃b cs q,rest=[b,.tup cs,.tup q]/\0<cs.length+q.length):=by
 constructor
 ·rintro⟨hd',rest',sh',ed',look',h⟩
  rw[ed] at ed'
  simp only[D.tup.injEq,List.cons.injEq,D.str.injEq] at ed'
  obtain⟨rfl,rfl⟩:=ed'
  rw[look] at look'
  cases look'
  exact h
 ·intro h;exact⟨hd,rest,sh,ed,look,h⟩
theorem WI:∀ds M Q,NU ds M Q->ds.length=1:=by rintro _ _ _ ⟨_,_,rfl,_⟩;rfl
open Classical in
theorem AB2:∀ds M Q,NU ds M Q->EX {nx:=fun _ M'=>View Q .non M',rt:=View Q} (B3 QF ds) M:=by
 rintro _ M Q ⟨P,d,rfl,⟨hd,rest,sh,ed,look,hl,hp,ht⟩,q⟩
 rw[ed]
 unfold EX
 have hfew:=AS look
 have ok:=S8 ed look
 walk_at "w"
 refine EI fun v hv=>?_
 obtain rfl:v=true:=hv.mpr (by simp)
 walk_at "w"
 refine B8 (d:=.str hd) K01.at0 ?_
 walk_at "w"
 refine B8 (d:=.str hd) K01.at0 ?_
 walk_at "w"
 refine⟨hd,rfl,?_⟩
 have eg:gOf tblS hd=.tup (sh.map D.str):=by unfold gOf;rw[look]
 rw[eg]
 walk_at "w"
 rw[CV1,CV6,hl]
 refine A8 (by rw[beq_iff_eq.mpr (show((sh.length+1:Nat):Int)=(sh.length:Int)+1 by lia)];rfl) ?_
 walk_at "w"
 rw[CF3]
 refine⟨_,_,rfl,?_⟩
 rw[IV]
 refine G4 (sh.zip rest) (fun p=>D.tup [.str p.1,p.2]) (fun p=>D.bl (decide (C2 p.1 p.2))) (by rw[List.length_zip,CX1];lia) ?_ ?_
 ·intro p hpm M2 R F _ hR
  refine AZ (by rfl) ?_
  walk_at "w"
  exact⟨P,p.1,p.2,rfl,hp p hpm,vdR hR⟩
 ·walk_at "w"
  refine LU fun v hv=>?_
  cases v with
  | false =>
   walk_at "w"
   exact View.of (q _ (L7 fun h=>absurd (hv.mpr (ok.mp h).2.1) CV5))
  | true =>
   have hv:=hv.mp rfl
   walk_at "w"
   refine B8 (d:=.str hd) K01.at0 ?_
   walk_at "w"
   by_cases h:hd="try"
   ·obtain⟨b,cs,r,rfl⟩:=ht h
    refine A8 (by rw[h];decide +kernel) ?_
    walk_at "w"
    refine View.of (q _ ?_)
    rw[ok,decide_eq_true_eq]
    constructor
    ·intro hpos;exact⟨hl,hv,fun _=>⟨b,cs,r,rfl,by lia⟩⟩
    ·rintro⟨_,_,h3⟩
     obtain⟨b',cs',r',e,hpos⟩:=h3 h
     simp only[List.cons.injEq,D.tup.injEq,and_true] at e
     obtain⟨_,rfl,rfl⟩:=e
     lia
   ·refine B7 (by rw[beq_eq_false_iff_ne.mpr h];rfl) ?_
    exact View.of (q _ (EH (ok.mpr ⟨hl,hv,fun z=>absurd z h⟩)))
theorem CD9 {bs:Bls}(h:bsl bs=2):∃a b,bs=.cons a (.cons b .nil):=by
 match bs,h with
 | .cons a (.cons b .nil),_=>exact⟨a,b,rfl⟩
 | .nil,h=>cases h
 | .cons a .nil,h=>cases h
 | .cons a (.cons b (.cons c r)),h=>exact absurd h (by show bsl r+1+1+1≠2;lia)
theorem NC {bs:Bls}(h:bsl bs=1):∃a,bs=.cons a .nil:=by
 match bs,h with
 | .cons a .nil,_=>exact⟨a,rfl⟩
 | .nil,h=>cases h
 | .cons a (.cons b r),h=>exact absurd h (by show bsl r+1+1≠1;lia)
theorem exk [Pool]{d:D}(h:exN d):OS d:=let ⟨e,a,b,c,d,_⟩:=h;⟨e,a,b,c,d⟩
theorem pnk [Pool](s:nS x)(h:isN x):pn x:=⟨h.1,s.2 h.1⟩
def Sh3 [Pool](h:Head)(bs:Bls):Prop:=dSh (.mk h bs)/\(L4 (.mk h bs)->hOk h (bsl bs))/\∃hd rest,dD (.mk h bs)=.tup (.str hd::rest)/\(hd==("leave":Str))=false
theorem WG [Pool]{bs:Bls}(look:tblS.lookup h=some sh)(hb:bsl bs=0)(len:r.length=sh.length)(nt:¬h="try")(nl:(h==("leave":Str))=false)
  (hp:∀p∈sh.zip r,CK p.1 p.2) (ok:(∀p∈sh.zip r,C2 p.1 p.2)->RU h r):Sh3 (.leaf h r) bs :=
 ⟨⟨h,r,sh,rfl,look,len,hp,fun z=>absurd z nt⟩,fun z=>⟨hb,ok ((S8 (d:=.mk (.leaf h r) bs) rfl look).mp z).2.1⟩,h,r,rfl,nl⟩
local macro_rules | `(tactic| walk_at "pa")=>`(tactic| simp only[DH0,DJ8,CV0,CU9,or_false,forall_eq_or_imp,forall_eq,LP,LQ,po_exp])
theorem XW [Pool](h:wdS x):CK "name" (.str x):=.inl ⟨rfl,x,rfl,h⟩
theorem BQ3 [Pool](h:wdS x):CK "word" (.str x):=.inr (.inl ⟨rfl,x,rfl,h⟩)
theorem UR [Pool]{d:D}(h:S9 d):CK "expression" d:=.inr (.inr (.inl ⟨rfl,h⟩))
theorem BN9 [Pool]{bs:Bls}(hb:bsl bs=0)(k:IW h r):Sh3 (.leaf h r) bs:=by
 rcases k with⟨h1,x,e,rfl,hx,he⟩|⟨h1,e,rfl,he⟩|⟨rfl,x,y,g,e,rfl,hx,hy,hg,he⟩|⟨rfl,x,y,g,w,e,rfl,hx,hy,hw,hg,he⟩|⟨rfl,w,e,rfl,hw,he⟩
 ·have lk:tblS.lookup h=some (["name","expression"]:List Str)/\¬h="try"/\(h==("leave":Str))=false:=by rcases h1 with rfl|rfl|rfl<;>decide +kernel
  refine WG lk.1 hb rfl lk.2.1 lk.2.2 ?_ ?_
  ·walk_at "pa";exact⟨XW hx.1,UR he⟩
  ·walk_at "pa";exact fun z=>.inl ⟨h1,x,e,rfl,pnk hx z.1,exk z.2⟩
 ·have lk:tblS.lookup h=some (["expression"]:List Str)/\¬h="try"/\(h==("leave":Str))=false:=by rcases h1 with rfl|rfl|rfl<;>decide +kernel
  refine WG lk.1 hb rfl lk.2.1 lk.2.2 ?_ ?_
  ·walk_at "pa";exact UR he
  ·walk_at "pa";exact fun z=>.inr (.inl ⟨h1,e,rfl,exk z⟩)
 ·refine WG (sh:=["name","name","expression","expression"]) (by decide +kernel) hb rfl (by decide +kernel) (by decide +kernel) ?_ ?_
  ·walk_at "pa";exact⟨XW hx.1,XW hy.1,UR hg,UR he⟩
  ·walk_at "pa";exact fun z=>.inr (.inr (.inl ⟨rfl,x,y,g,e,rfl,pnk hx z.1,pnk hy z.2.1,exk z.2.2.1,exk z.2.2.2⟩))
 ·refine WG (sh:=["name","name","expression","word","expression"]) (by decide +kernel) hb rfl (by decide +kernel) (by decide +kernel) ?_ ?_
  ·walk_at "pa";exact⟨XW hx.1,XW hy.1,UR hg,BQ3 hw,UR he⟩
  ·walk_at "pa";exact fun z=>.inr (.inr (.inr (.inl ⟨rfl,x,y,g,w,e,rfl,pnk hx z.1,pnk hy z.2.1,z.2.2.2.1.1,exk z.2.2.1,exk z.2.2.2.2⟩)))
 ·refine WG (sh:=["word","expression"]) (by decide +kernel) hb rfl (by decide +kernel) (by decide +kernel) ?_ ?_
  ·walk_at "pa";exact⟨BQ3 hw,UR he⟩
  ·walk_at "pa";exact fun z=>.inr (.inr (.inr (.inr (.inr ⟨rfl,w,e,rfl,z.1.1,exk z.2⟩))))
theorem AC0 [Pool](b:List D):CK "block" (.tup b):=.inr (.inr (.inr (.inr (.inl ⟨rfl,b,rfl⟩))))
theorem BQ2 [Pool](b:List D):CK "rest" (.tup b):=.inr (.inr (.inr (.inr (.inr ⟨rfl,b,rfl⟩))))
theorem CD1 [Pool]{e:D}{bs:Bls}(hb:bsl bs=2)(k:S9 e):Sh3 (.ife e) bs:=by
 obtain⟨a,b,rfl⟩:=CD9 hb
 have lk:tblS.lookup ("if":Str)=some (["expression","block","rest"]:List Str):=by decide +kernel
 have ed:dD (.mk (.ife e) (.cons a (.cons b .nil)))=.tup [.str "if",e,.tup (dB a),.tup (dB b)]:=rfl
 refine⟨⟨"if",_,_,ed,lk,rfl,?_,fun z=>absurd z (by decide +kernel)⟩,fun z=>⟨rfl,?_⟩,_,_,ed,by decide +kernel⟩
 ·walk_at "pa";exact⟨UR k,AC0 _,BQ2 _⟩
 ·exact exk (po_exp.mp (((S8 ed lk).mp z).2.1 ("expression",e) (by simp)))
theorem CD2 [Pool]{e:D}{bs:Bls}(hb:bsl bs=1)(k:S9 e):Sh3 (.whl e) bs:=by
 obtain⟨a,rfl⟩:=NC hb
 have lk:tblS.lookup ("while":Str)=some (["expression","block"]:List Str):=by decide +kernel
 have ed:dD (.mk (.whl e) (.cons a .nil))=.tup [.str "while",e,.tup (dB a)]:=rfl
 refine⟨⟨"while",_,_,ed,lk,rfl,?_,fun z=>absurd z (by decide +kernel)⟩,fun z=>⟨rfl,?_⟩,_,_,ed,by decide +kernel⟩
 ·walk_at "pa";exact⟨UR k,AC0 _⟩
 ·exact exk (po_exp.mp (((S8 ed lk).mp z).2.1 ("expression",e) (by simp)))
theorem VT:∀(cs:List (Str×Str)) (bs:List Blk),J7 cs (bs.map tB)=(List.zipWith (fun c b=>(c.1,c.2,dB b)) cs bs).map CC
 | [],bs=>by cases bs<;>rfl
 | (w,x)::cs,[]=>rfl
 | (w,x)::cs,b::bs=>by
  show D.tup [.str w,.str x,tB b]::J7 cs (bs.map tB)=_
  rw[VT cs bs];rfl
theorem CP3 [Pool]{cs:List (Str×Str)}{bs:Bls}(hb:bsl bs=cs.length+2)(hl:cs.length<=9)(k:∀c∈cs,wdS c.1/\nS c.2):Sh3 (.tr cs) bs:=by
 have lk:tblS.lookup ("try":Str)=some (["block","catches","rest"]:List Str):=by decide +kernel
 have hlen:=IT bs
 rw[hb] at hlen
 obtain⟨b0,r,hr⟩:∃b0 r,F6 bs=b0::r:=by cases e:F6 bs with|nil=>rw[e] at hlen;cases hlen|cons a r=>exact⟨a,r,rfl⟩
 have hrl:r.length=cs.length+1:=by rw[hr,CV6] at hlen;lia
 have ed:dD (.mk (.tr cs) bs)=.tup [.str "try",tB b0,.tup ((List.zipWith (fun c b=>(c.1,c.2,dB b)) cs r).map CC),tB (r[cs.length]'(by lia))]:=by
  show D.tup [.str "try",(dTs bs).getD 0 (.tup []),.tup (J7 cs (dTs bs).tail),(dTs bs).getD (cs.length+1) (.tup [])]=_
  rw[GB,hr,CW9,List.tail_cons,VT]
  congr 4
  simp[DN0,hrl]
 refine⟨⟨"try",_,_,ed,lk,rfl,?_,fun _=>⟨_,_,_,rfl⟩⟩,fun z=>?_,_,_,ed,by decide +kernel⟩
 ·walk_at "pa"
  refine⟨AC0 _,.inr (.inr (.inr (.inl ⟨rfl,_,rfl,by rw[List.length_zipWith];lia,fun c hc=>?_⟩))),BQ2 _⟩
  obtain⟨i,hi,rfl⟩:=List.mem_iff_getElem.mp hc
  rw[List.getElem_zipWith]
  exact⟨(k _ (DB2 _)).1,(k _ (DB2 _)).2.1⟩
 ·have h:=po_cat.mp (((S8 ed lk).mp z).2.1 ("catches",_) (List.Mem.tail _ (List.Mem.head _)))
  rw[List.length_zipWith] at h
  refine⟨hb,by lia,fun c hc=>?_⟩
  obtain⟨i,hi,rfl⟩:=List.mem_iff_getElem.mp hc
  have h2:=h.2 _ (DB2 (l:=List.zipWith (fun c b=>(c.1,c.2,dB b)) cs r) (n:=i) (by rw[List.length_zipWith];lia))
  rw[List.getElem_zipWith] at h2
  exact⟨h2.1,pnk (k _ (DB2 _)).2 h2.2.1⟩
theorem sh3 [Pool]{h:Head}{bs:Bls}(k:hSh h (bsl bs)):Sh3 h bs:=by
 cases h with
 | leaf h r=>exact BN9 k.1 k.2
 | ife e=>exact CD1 k.1 k.2
 | whl e=>exact CD2 k.1 k.2
 | tr cs=>exact CP3 k.1 k.2.1 k.2.2
end K08
open L3
open K09 (C7 C4)
namespace K08
open PySem L2 L3 PK K10
open K09 (isN nmE O4 exN C2 L4 J3 E1 F8 JH L5 UG)
theorem CP5 {x:α}(f:α->Nat)(h:l[k]?=some x):((l.take (k+1)).map f).sum=((l.take k).map f).sum+f x:=by
 rw[DE1,h,CX6,DM8];simp
theorem BQ5 (l:List α)(k:Nat)(f:α->Nat):((l.take k).map f).sum<=(l.map f).sum:=by
 have:l.map f=(l.take k).map f++(l.drop k).map f:=by rw[<-CX6,DQ5]
 rw[this,DM8];lia
theorem BT8 {x:α}{P:α->Prop}(h:l[k]?=some x)(h1:∀y∈l.take k,P y)(h2:P x):∀y∈l.take (k+1),P y:=fun y hy=>by
 rw[DE1,h] at hy
 rcases CZ9.mp hy with hy|hy
 ·exact h1 y hy
 ·obtain rfl:y=x:=by simpa using hy
  exact h2
theorem Z6:∀b:Blk,((toL b).map F2).sum=C0 b
 | .nil=>by simp[toL,C0]
 | .cons d r=>by simp[toL,C0,Z6 r]
theorem QQ:∀b:Bls,((F6 b).map C0).sum=E8 b
 | .nil=>by simp[F6,E8]
 | .cons d r=>by simp[F6,E8,QQ r]
theorem R5 [Pool]:∀b:Blk,E1 b↔∀d∈toL b,J3 d
 | .nil=>by simp[toL,E1]
 | .cons d r=>by simp[toL,E1,R5 r]
theorem EM [Pool]:∀b:Bls,F8 b↔∀d∈F6 b,E1 d
 | .nil=>by simp[F6,F8]
 | .cons d r=>by simp[F6,F8,EM r]
theorem AO (n:Nat):∀b:Blk,dpB b<=n↔∀d∈toL b,dpD d<=n
 | .nil=>by simp[toL,dpB]
 | .cons d r=>by simp only[toL,dpB,List.forall_mem_cons,<-AO n r];lia
theorem LM (n:Nat):∀b:Bls,J1 b<=n↔∀d∈F6 b,1+dpB d<=n
 | .nil=>by simp[F6,J1]
 | .cons d r=>by simp only[F6,J1,List.forall_mem_cons,<-LM n r];lia
theorem AJ0 [Pool]:∀{b:Blk},shB b->∀d∈toL b,shD d
 | .nil,_,d,h=>by simp[toL] at h
 | .cons x r,k,d,h=>by
  simp only[toL,CV0] at h
  rcases h with rfl|h
  ·exact k.1
  ·exact AJ0 k.2 d h
theorem XZ [Pool]:∀{b:Bls},AC1 b->∀d∈F6 b,shB d
 | .nil,_,d,h=>by simp[F6] at h
 | .cons x r,k,d,h=>by
  simp only[F6,CV0] at h
  rcases h with rfl|h
  ·exact k.1
  ·exact XZ k.2 d h
theorem IA:∀n ds M Q,E4 n ds M Q->ds.length=4:=by rintro _ _ _ _ ⟨_,_,_,_,_,_,rfl,_⟩;rfl
theorem QC:∀ds M Q,¬E4 0 ds M Q:=by rintro _ _ _ ⟨_,_,_,_,_,_,_,_,_,h,_,_,h5,_⟩;lia
theorem XM:∀n ds M Q,E4 (n+1) ds M Q->BN (E4 n) {nx:=fun _ M'=>View Q .non M',rt:=View Q} (B3 MA ds) M:=by
 rintro lv _ M Q ⟨P,b,m,lp,a,xs,rfl,ha,hsh,hn,h30,hcnt,hm5,q⟩
 unfold BN
 have hz:CV8=16777216:=CX1
 have hB:=Z6 b
 have bad:∀ys,¬(E1 b/\dpB b+m<=5/\xs.length+C0 b<=30)->View Q (.bl false) (D3 M a (.lst ys)):=fun ys h=>View.of (q false ys (L7 h) (fun z=>(nomatch z)))
 rw[AR6]
 walk_at "w"
 refine⟨fun k σ M'=>(∃s4 s5,σ=[some (.tup ((toL b).map dD)),some (.int m),some (.bl lp),some (.ref a),s4,s5])/\∃ys,M'=D3 M a (.lst ys)/\ys.length=xs.length+(((toL b).take k).map F2).sum/\ys.length<=30 /\
  ∀d∈(toL b).take k,J3 d/\dpD d+m<=5,⟨⟨_,_,rfl⟩,xs,(JH ha).symm,by simp,h30,by simp⟩,?_,?_⟩
 ·rintro k d0 σ M' hd0 ⟨⟨s4,s5,rfl⟩,ys,rfl,hl,h30',hall⟩
  rw[CW8] at hd0
  cases hd:(toL b)[k]? with
  | none=>rw[hd] at hd0;cases hd0
  | some x =>
  rw[hd] at hd0
  cases hd0
  have hxm:=DA1 hd
  have e1:=CP5 F2 hd
  have e2:=BQ5 (toL b) (k+1) F2
  obtain⟨h,bs⟩:=x
  have hs:hSh h (bsl bs)/\AC1 bs:=AJ0 hsh _ hxm
  obtain⟨s1,s2,hd',rest,ed,nl⟩:=sh3 hs.1
  have e3:F2 (.mk h bs)=1+E8 bs:=rfl
  have eB:=QQ bs
  have okx:E1 b->L4 (.mk h bs)/\F8 bs:=fun z=>(R5 b).mp z _ hxm
  have dpx:dpB b+m<=5->J1 bs+m<=5:=fun z=>by have:=(AO (5-m) b).mp (by lia) _ hxm;have e:dpD (.mk h bs)=J1 bs:=rfl;lia
  walk_at "w"
  refine⟨.inl ⟨rfl,_,B4⟩,?_⟩
  walk_at "w"
  refine EO B4 (by lia) ?_
  rw[L5]
  walk_at "w"
  refine UJ B4 ?_
  walk_at "w"
  have el:(ys++[dD (.mk h bs)]).length=ys.length+1:=by simp
  by_cases hc:ys.length+1<=30
  ·refine A8 (decide_eq_false (by rw[el];lia)) ?_
   walk_at "w"
   refine⟨P,_,rfl,s1,fun v hv=>?_⟩
   cases v with
   | false =>
    walk_at "w"
    exact bad _ fun z=>absurd (hv.mpr (okx z.1).1) CV5
   | true =>
    have hv:=hv.mp rfl
    walk_at "w"
    refine UG ed ?_
    walk_at "w"
    rw[nl]
    walk_at "w"
    refine⟨P,h,bs,rfl,s2 hv,?_⟩
    walk_at "w"
    rw[GB]
    refine⟨fun j σ M'=>(∃s5,σ=[some (.tup ((toL b).map dD)),some (.int m),some (.bl lp),some (.ref a),some (dD (.mk h bs)),s5])/\∃zs,M'=D3 M a (.lst zs)/\zs.length=ys.length+1+(((F6 bs).take j).map C0).sum/\zs.length<=30 /\
     ∀c∈(F6 bs).take j,E1 c/\1+dpB c+m<=5,⟨⟨_,rfl⟩,_,rfl,by simp,by rw[el];exact hc,by simp⟩,?_,?_⟩
    ·rintro j c0 σ M' hc0 ⟨⟨s6,rfl⟩,zs,rfl,hzl,hz30,hall2⟩
     rw[CW8] at hc0
     cases hcj:(F6 bs)[j]? with
     | none=>rw[hcj] at hc0;cases hc0
     | some c =>
     rw[hcj] at hc0
     cases hc0
     have hcm:=DA1 hcj
     have f1:=CP5 C0 hcj
     have f2:=BQ5 (F6 bs) (j+1) C0
     walk_at "w"
     by_cases h5:m=5
     ·refine B7 (by rw[h5];rfl) ?_
      walk_at "w"
      exact bad _ fun z=>by have:=(LM (5-m) bs).mp (by have:=dpx z.2.1;lia) c hcm;lia
     refine A8 (beq_eq_false_iff_ne.mpr (by lia)) ?_
     have call:∀(w:Bool) (Qc:DK),(¬(E1 c/\dpB c+(m+1)<=5/\zs.length+C0 c<=30)->∀ws,Qc (.bl false) (D3 M a (.lst ws)))->(∀ws,ws.length=zs.length+C0 c->E1 c/\dpB c+(m+1)<=5/\zs.length+C0 c<=30->Qc (.bl true) (D3 M a (.lst ws))) ->
       E4 lv [tB c,.int ((m:Int)+1),.bl w,.ref a] (D3 M a (.lst zs)) Qc:=fun w Qc hF hT =>
      ⟨P,c,m+1,w,a,zs,rfl,B4,XZ hs.2 c hcm,by lia,hz30,by lia,by lia,fun v ws hv hw=>by
       rw[L5]
       cases v with
       | false=>exact hF (fun z=>absurd (hv.mpr z) CV5) ws
       | true=>exact hT ws (hw rfl) (hv.mp rfl)⟩
     have no:¬(E1 c/\dpB c+(m+1)<=5/\zs.length+C0 c<=30)->¬(E1 b/\dpB b+m<=5/\xs.length+C0 b<=30):=fun h z=>h ⟨(EM bs).mp (okx z.1).2 c hcm,by have:=(LM (5-m) bs).mp (by have:=dpx z.2.1;lia) c hcm;lia,by lia⟩
     walk_at "w"
     cases lp with
     | true =>
      walk_at "w"
      refine call _ _ (fun h ws=>?_) (fun ws hw hg=>?_)
      ·walk_at "w"
       exact bad _ (no h)
      ·walk_at "w"
       exact⟨⟨_,rfl⟩,ws,rfl,by lia,by lia,BT8 hcj hall2 ⟨hg.1,by lia⟩⟩
     | false =>
      walk_at "w"
      refine UG ed ?_
      walk_at "w"
      refine call _ _ (fun h ws=>?_) (fun ws hw hg=>?_)
      ·walk_at "w"
       exact bad _ (no h)
      ·walk_at "w"
       exact⟨⟨_,rfl⟩,ws,rfl,by lia,by lia,BT8 hcj hall2 ⟨hg.1,by lia⟩⟩
    ·rintro σ M' ⟨⟨s6,rfl⟩,zs,rfl,hzl,hz30,hall2⟩
     rw[CV1,DB1] at hzl hall2
     refine⟨⟨_,_,rfl⟩,zs,rfl,by rw[hzl,e1,e3];lia,hz30,BT8 hd hall ⟨⟨hv,(EM bs).mpr fun c hc=>(hall2 c hc).1⟩,?_⟩⟩
     have:=(LM (5-m) bs).mpr fun c hc=>by have:=(hall2 c hc).2;lia
     show J1 bs+m<=5
     lia
  ·refine B7 (decide_eq_true (by rw[el];lia)) ?_
   walk_at "w"
   exact bad _ fun z=>by lia
 ·rintro σ M' ⟨⟨s4,s5,rfl⟩,ys,rfl,hl,h30',hall⟩
  rw[CV1,DB1] at hl hall
  walk_at "w"
  refine View.of (q true ys (EH ⟨(R5 b).mpr fun d hd=>(hall d hd).1,?_,by lia⟩) (fun _=>by lia))
  have:=(AO (5-m) b).mpr fun d hd=>by have:=(hall d hd).2;lia
  lia
end K08
open L3
open K09 (C7 C4)
namespace K08
open PySem L2 L3 PK K10
open K09 (isN nmE O4 exN C2 L4 J3 E1 F8 JH L5 BE1 cntK LJ VZ AJ6 Et fits MV MB)
theorem NQ {ys:List Str}(h1:ys.Nodup)(h2:zs.Nodup)(h:∀x,x∈ys↔x∈zs):ys.length=zs.length :=
 Nat.le_antisymm (K10.AS ys zs h1 fun y hy=>(h y).mp hy) (K10.AS zs ys h2 fun y hy=>(h y).mpr hy)
theorem OZ:∀ds M Q,EA ds M Q->ds.length=1:=by rintro _ _ _ ⟨_,rfl,_⟩;rfl
theorem UI:∀ds M Q,EA ds M Q->Y5 {nx:=fun _ M'=>View Q .non M',rt:=View Q} (B3 KH ds) M:=by
 rintro _ M Q ⟨xs,rfl,hl,hx,hnd,q⟩
 unfold Y5
 walk_at "w"
 rw[CV1]
 by_cases h3:xs.length<=3
 ·refine A8 (decide_eq_false (by lia)) ?_
  walk_at "w"
  refine G4 xs D.str (fun _=>D.bl true) (by rw[CX1];lia) ?_ ?_
  ·intro x hxm M2 R F _ hR
   walk_at "w"
   exact K09.P6 (hx x hxm) hR
  ·rw[MV]
   walk_at "w"
   refine NG ?_
   rw[MB]
   walk_at "w"
   refine⟨_,xs,rfl,rfl,by rw[US];lia,fun ys nd mem=>?_⟩
   walk_at "w"
   rw[CV1,beq_iff_eq.mpr (show((ys.length:Nat):Int)=(xs.length:Nat) by rw[NQ nd hnd mem])]
   exact View.of (q _ (EH h3))
 ·refine B7 (decide_eq_true (by lia)) ?_
  walk_at "w"
  exact View.of (q _ (L7 h3))
mutual
theorem BV0 [Pool]:∀{d:Deed},shD d->J3 d->okD d
 | .mk h bs,s,k=>⟨(sh3 s.1).2.1 k.1,AH7 s.2 k.2⟩
theorem U9 [Pool]:∀{b:Blk},shB b->E1 b->okB b
 | .nil,_,_=>trivial
 | .cons d r,s,k=>⟨BV0 s.1 k.1,U9 s.2 k.2⟩
theorem AH7 [Pool]:∀{b:Bls},AC1 b->F8 b->AW5 b
 | .nil,_,_=>trivial
 | .cons d r,s,k=>⟨U9 s.1 k.1,AH7 s.2 k.2⟩
end
theorem WL:∀ds M Q,NZ ds M Q->ds.length=1:=by rintro _ _ _ ⟨_,_,rfl,_⟩;rfl
theorem AB5:∀ds M Q,NZ ds M Q->FA {nx:=fun _ M'=>View Q .non M',rt:=View Q} (B3 QI ds) M:=by
 rintro _ M Q ⟨P,r,rfl,⟨h1,h2,h3,h4,h6,h8⟩,hP,q⟩
 unfold FA
 rw[show rD r=.tup [.str r.name,.tup (r.pars.map D.str),.tup (dB r.blk)] from rfl]
 walk_at "w"
 refine K09.P6 h1 ?_
 walk_at "w"
 refine⟨r.pars,rfl,h2,h3,h4,fun v hv=>?_⟩
 cases v with
 | false =>
  walk_at "w"
  exact View.of (q _ (L7 fun z=>absurd (hv.mpr z.1) CV5))
 | true =>
  have hv:=hv.mp rfl
  walk_at "w"
  refine EI fun v2 hv2=>?_
  cases v2 with
  | false =>
   walk_at "w"
   exact View.of (q _ (L7 fun z=>absurd (hv2.mpr (BE1 z.2.1)) CV5))
  | true =>
   have hne:r.blk≠.nil:=fun e=>hv2.mp rfl (by rw[e];rfl)
   walk_at "w"
   intro a ha
   walk_at "w"
   refine⟨P,r.blk,1,false,a,[],rfl,B4,h8,by lia,by simp,by lia,by lia,fun v3 ys hv3 _=>?_⟩
   rw[L5]
   have keep:∀x,M x≠none->D3 M a (.lst ys) x=M x:=fun x hx=>D0 (by rintro rfl;exact hx ha)
   have hv3:v3=true↔E1 r.blk/\dpB r.blk+1<=5/\C0 r.blk<=30:=by rw[hv3];simp only[CY0,Nat.zero_add]
   cases v3 with
   | false =>
    walk_at "w"
    exact View.keep keep (q _ (L7 fun z=>absurd (hv3.mpr z.2.2.1) CV5))
   | true =>
    have hg:=hv3.mp rfl
    walk_at "w"
    refine⟨P,r,rfl,U9 h8 hg.1,by lia,hg.2.2,hP,hv,fun zs nd so mem=>?_⟩
    walk_at "w"
    rw[CV1,CW3]
    refine View.keep keep (q _ ?_)
    rw[decide_eq_true_eq]
    constructor
    ·intro hle
     exact⟨hv,hne,hg,fun ys n2 m2=>by rw[NQ n2 nd fun x=>(m2 x).trans (mem x).symm];lia⟩
    ·intro z
     have:=z.2.2.2 zs nd mem
     lia
theorem WH:∀ds M Q,DY ds M Q->ds.length=1:=by rintro _ _ _ ⟨_,_,rfl,_⟩;rfl
open Classical in
theorem AB1:∀ds M Q,DY ds M Q->EW {nx:=fun _ M'=>View Q .non M',rt:=View Q} (B3 QE ds) M:=by
 rintro _ M Q ⟨P,rs,rfl,⟨hl,hr,hP,hn,hf⟩,q⟩
 have hz:CV8=16777216:=CX1
 unfold EW
 walk_at "w"
 rw[CV1]
 by_cases h1:1<=rs.length
 ·refine B7 (decide_eq_true (by lia)) ?_
  walk_at "w"
  by_cases h8:rs.length<=8
  ·refine A8 (by rw[decide_eq_true (show((rs.length:Nat):Int)<=8 by lia)];rfl) ?_
   walk_at "w"
   refine G4 rs rD (fun r=>D.bl (decide (TV r))) (by lia) ?_ ?_
   ·intro r hrm M2 R F _ hR
    walk_at "w"
    exact⟨P,r,rfl,hr r hrm,hP,vdR hR⟩
   ·walk_at "w"
    refine LU fun v hv=>?_
    cases v with
    | false =>
     walk_at "w"
     exact View.of (q _ (L7 fun z=>absurd (hv.mpr z.2.2) CV5))
    | true =>
     have hg:=hv.mp rfl
     walk_at "w"
     refine K09.BB0 ?_
     show Z7 _ _ _ _
     refine X0 (V8 rfl (S0 ?_))
     intro p hp
     refine⟨fun k acc M'=>acc=cntK (rs.take k)/\M'=D3 M p (.dct acc),⟨rfl,rfl⟩,?_,?_⟩
     ·rintro k d0 acc M' hd0 ⟨rfl,rfl⟩
      rw[CW8] at hd0
      cases hd:rs[k]? with
      | none=>rw[hd] at hd0;cases hd0
      | some r =>
      rw[hd] at hd0
      cases hd0
      refine AZ (by rfl) ?_
      walk_at "w"
      rw[CV1]
      have hle:=(LJ (rs.take k)).2.2.1
      have htk:(rs.take k).length<=rs.length:=by rw[DI8];lia
      refine⟨.inr r.name,rfl,B4,by lia,by rw[VZ hd],?_⟩
      rw[L5]
     ·rintro acc M' ⟨rfl,rfl⟩
      rw[CV1,DB1]
      refine⟨B4,?_⟩
      obtain⟨v1,v2,v3,v4⟩:=LJ rs
      walk_at "w"
      refine⟨p,cntK rs,rfl,B4,?_⟩
      walk_at "w"
      rw[CV1]
      have keep:∀x,M x≠none->D3 M p (.dct (cntK rs)) x=M x:=fun x hx=>D0 (by rintro rfl;exact hx hp)
      refine B7 (by rw[v4.mpr hn];exact beq_self_eq_true _) ?_
      walk_at "w"
      refine G4 rs rD (fun _=>D.bl true) (by lia) ?_ ?_
      ·intro r hrm M2 R F hs hR
       have hm2:M2 p=some (.dct (cntK rs)):=by rw[hs p (by rw[B4];simp)];exact B4
       have g:=hg r hrm
       walk_at "w"
       refine⟨r,p,cntK rs,rfl,hm2,⟨g.2.2.1.2.2,by have:=g.2.2.1.2.1;lia,P,U9 (hr r hrm).2.2.2.2.2 g.2.2.1.1⟩,fun z d h=>AJ6 h,fun b hb=>?_⟩
       obtain rfl:b=true:=hb.mpr (hf r hrm)
       exact hR
      ·rw[MV]
       walk_at "w"
       refine NG ?_
       rw[MB]
       exact View.keep keep (q _ (EH ⟨h1,h8,hg⟩))
  ·refine B7 (by rw[decide_eq_false (show¬((rs.length:Nat):Int)<=8 by lia)];rfl) ?_
   walk_at "w"
   exact View.of (q _ (L7 fun z=>h8 z.2.1))
 ·refine A8 (decide_eq_false (by lia)) ?_
  walk_at "w"
  exact View.of (q _ (L7 fun z=>h1 z.1))
end K08
namespace L3
open PySem PySem.Spec PyProof.Rows L2
def Fg (K:CV3)(x:Str)(st:Stmt):Prop:=∃(f:Addr) (oc:Value) (od an:Option Addr) (osl:Array (Option Value)) (kV doc pm cdv ct:Value),
 CZ8 K CY1 x=some (some (.ref f))/\K.lookup f=some ⟨oc,od,.func (DD9 x x (Q5 st) (L9 st) (A7 st) .none kV doc pm an cdv ct),osl⟩ /\
 DK2 K cdv x=true/\DD8 K (.ref f)=true
theorem Fg.of {f:Addr}{kV:Value}
  (a:CZ8 K CY1 x=some (some (.ref f))) (l:K.lookup f=some ⟨oc,od,.func (DD9 x x (Q5 st) (L9 st) (A7 st) .none kV doc pm an cdv ct),osl⟩)
  (c:DK2 K cdv x=true) (k:DD8 K (.ref f)=true):Fg K x st:=⟨f,oc,od,an,osl,kV,doc,pm,cdv,ct,a,l,c,k⟩
def Bd (x:Str)(st:Stmt)(ps:List Str):Prop:=∀(kV doc pm:Value) (an:Option Addr) (cdv ct:Value) (us:List Value),us.length=ps.length->bindArgs (DD9 x x (Q5 st) (L9 st) (A7 st) .none kV doc pm an cdv ct) ⟨us,[]⟩=pure (ps.zip us)
section
variable {K:CV3}{h:Heap}{mg:Str->Option Value}{x:Str}{st:Stmt}{fa:Addr}(X:K.In h)(G:h.Ns CY1 mg)
include X G
theorem Fg.at (hb:Bd x st ps)(p:Fg K x st):∃f fd,FnAt K mg x st ps f fd:=by
 obtain⟨f,oc,od,an,osl,kV,doc,pm,cdv,ct,a,l,c,k⟩:=p
 exact⟨f,_,AF8 X G a l c k hb⟩
theorem Fg.law {q:Str}(hfa:mg x=some (.ref fa))(hb:Bd x st [q])(p:Fg K x st):∃fd,FnAt K mg x st [q] fa fd/\∀(s:CV4) (v:Value),BindsTo s fd ⟨[v],[]⟩ [(q,v)]:=by
 obtain⟨f,oc,od,an,osl,kV,doc,pm,cdv,ct,a,l,c,k⟩:=p
 cases hfa.symm.trans (DJ3 X G a)
 exact⟨_,AF8 X G a l c k hb,fun s v=>.of_eq (hb kV doc pm an cdv ct [v] rfl)⟩
end
abbrev FO (P:DA0)(w:World)(K:CV3)(mg:Str->Option Value)(base:Heap)(r:Nat)(f:Addr)(fd:CX7)(ps:List Str)(sp:Sp3):Prop:=FnOk P w K mg base CX0 r f fd ps (HJ K sp)
def Kc (K:CV3)(x:Str)(v:Tok->Value):Prop:=∃tk,CZ8 K CY1 x=some (some (v tk))
theorem Kc.of {v:Tok->Value}{tk:Tok}(a:CZ8 K CY1 x=some (some (v tk))):Kc K x v:=⟨tk,a⟩
theorem Kc.at {h:Heap}{v:Tok->Value}(X:K.In h)(G:h.Ns CY1 mg)(p:Kc K x v):∃tk,mg x=some (v tk):=p.elim fun tk a=>⟨tk,DJ3 X G a⟩
section
variable {X:Cx}{pos:Pos}{f:Addr}{fd:CX7}{ps:List Str}{k:Nat}{x:Str}{p:Pos}{sp:Sp3}{e:Expr}{es:List Expr}{t:TA3}{st:Stmt}
theorem AM7 (F:FnOk X.prog X.w X.K X.mg X.base CX0 k f fd ps (HJ X.K sp))(A:FnAt X.K X.mg x st ps f fd)(hr:Room k X.A)
  (ha:PA3 X (e::es) t) (hg:Gl X x:=by exact rfl) (hdb:(x==("__debug__":Str))=false:=by decide) (he:CY3 (e::es) X.env=(false,eval e X.env)::CY3 es X.env:=by rfl) (hpl:(DK1 pos (CY3 es X.env)).any (·.1)=false:=by rfl) :
  PE3 X (.Call (.Name x p) (e::es) [] pos) (A4 sp t):=AX6 F hr hg A.gl A.fn.kp A.bd ha hdb he hpl
end
section
variable {X:Cx}{pos p1 p2:Pos}{fs:List Addr}{ps:List Str}{k:Nat}{fx ie e:Expr}{es names:List Expr}
theorem AY4 {sp:Sp}{tf:TE}{t:TA}(hf:∀f∈fs,∃fd,FnOk X.prog X.w X.K X.mg X.base CX0 k f fd ps sp/\DD8 X.K (.ref f)=true/\Binds X.K fd ps [])(hr:Room k X.A)(hc:PE X fx tf)(ha:PA X (e::es) t)
  (ht:eval (.Call fx (e::es) [] pos) X.env=(do
   let f <-eval fx X.env
   callWith pos f [] (DK1 pos (CY3 (e::es) X.env)) (backToKw pos (keywordEach [] X.env))))
  (he:CY3 (e::es) X.env=(false,eval e X.env)::CY3 es X.env) (hpl:(DK1 pos (CY3 es X.env)).any (·.1)=false) :
  PE X (.Call fx (e::es) [] pos) (fun σ H Q=>tf σ H fun v H1=>∃f∈fs,v=.ref f/\t σ H1 fun vs H2=>sp (vs++[]) H2 Q E0):=by
 intro pins s σ H Q I h
 rw[ht]
 refine CU6 (thn (hc pins s σ H _ I h) fun u s1 ⟨x,H1,I1,rx,f,hfm,ex,q⟩=>?_)
 subst ex
 obtain rfl:u=Value.ref f:=rx
 obtain⟨fd,F,hk,hb⟩:=hf f hfm
 refine PySem.W.callWith_K (first:=[]) (h₀:=X.base) I.ok.mod.kin hk (thn (ha pos pins s1 σ H1 _ I1 q) fun us s2 ⟨vs,H2,I2,r,q2⟩=>⟨I2.kIn,?_⟩) he hpl
 exact BC1 F hr hb .nil BP8 I2 r q2
def BO1 (fs:List Addr)(sp:Sp3)(tf:TE3)(t:TA3):TE3:=fun σ M Q=>tf σ M fun d M1=>∃f∈fs,d=.ref f/\t σ M1 fun ds M2=>sp ds M2 Q
theorem AM9 {sp:Sp3}{tf:TE3}{t:TA3}(hf:∀f∈fs,∃fd,FnOk X.prog X.w X.K X.mg X.base CX0 k f fd ps (HJ X.K sp)/\DD8 X.K (.ref f)=true/\Binds X.K fd ps [])(hr:Room k X.A)(hc:PE3 X fx tf)(ha:PA3 X (e::es) t)
  (ht:eval (.Call fx (e::es) [] pos) X.env=(do
   let f <-eval fx X.env
   callWith pos f [] (DK1 pos (CY3 (e::es) X.env)) (backToKw pos (keywordEach [] X.env))))
  (he:CY3 (e::es) X.env=(false,eval e X.env)::CY3 es X.env) (hpl:(DK1 pos (CY3 es X.env)).any (·.1)=false) :
  PE3 X (.Call fx (e::es) [] pos) (BO1 fs sp tf t) :=
 PE3.of (AY4 hf hr hc.dn ha.dn ht he hpl) fun pins s σv H σ M Q I hS hM h=>by
  refine⟨σ,M,_,hS,hM,h,?_⟩
  rintro d v M1 H1 st1 m1 r1 ⟨f,hfm,rfl,q1⟩
  cases r1
  refine⟨f,hfm,rfl,σ,M1,_,hS.mono st1,m1,q1,fun ds vs M2 H2 st2 m2 r2 q2=>?_⟩
  show HJ X.K sp (vs++[]) H2 _ _
  rw[DF7]
  exact⟨ds,M2,Q,r2,m2,q2,fun d v M' H' st m r q=>⟨d,M',(st1.trans st2).trans st,m,r,q⟩⟩
def VG (n:Nat)(sp:Sp3)(ti:TE3)(t:TA3):TE3:=fun σ M Q=>∀fs:List Addr,fs.length=n->ti σ M fun y M2=>C6 (.lst (fs.map D.ref)) y M2 fun d M3=>∃f∈fs,d=.ref f/\t σ M3 fun ds M4=>sp ds M4 Q
theorem XR {sp:Sp3}{ti:TE3}{t:TA3}{Q:DK}(h:∀fs:List Addr,fs.length=4->ti σ M fun y M2=>C6 (.lst (fs.map D.ref)) y M2 fun d M3=>∃f∈fs,d=.ref f/\t σ M3 fun ds M4=>sp ds M4 Q):VG 4 sp ti t σ M Q:=h
theorem AI8 {fs:List Addr}(hi:i<fs.length){Q:DK}(h:∀f∈fs,Q (.ref f) M):C6 (.lst (fs.map D.ref)) (.int i) M Q :=
 L1 (d:=.ref fs[i]) (L2.G3 (by rw[CW8,CX2 hi];rfl)) (h _ (DB2 hi))
def BD5:List Addr->TA3
 | []=>A2
 | f::r=>A0 (tC3 (.ref f)) (BD5 r)
theorem AI9 {σ:Lo}{M:Mem}{Q:List D->Mem->Prop}:∀(fs:List Addr),Q (fs.map D.ref) M->BD5 fs σ M Q
 | [],h=>h
 | f::r,h=>AI9 (Q:=fun xs M2=>Q (.ref f::xs) M2) r h
theorem PE3.less {t u:TE3}(h:PE3 X e t)(hu:∀σ M Q,u σ M Q->t σ M Q):PE3 X e u:=fun pins s σv H σ M Q I hS hM z=>h pins s σv H σ M Q I hS hM (hu _ _ _ z)
theorem BV9 {f:Addr}(A:FnAt X.K X.mg x st ps f fd)(hg:Gl X x:=by exact rfl) (hd:(x==("__debug__":Str))=false:=by decide):PE3 X (.Name x pos) (tC3 (.ref f)) :=
 AA (v:=.ref f) hg A.gl rfl (fun _ _=>.ref) hd
theorem WY {sp:Sp3}{ti:TE3}{t:TA3}(hf:∀f∈fs,∃fd,FnOk X.prog X.w X.K X.mg X.base CX0 k f fd ps (HJ X.K sp)/\DD8 X.K (.ref f)=true/\Binds X.K fd ps [])(hr:Room k X.A)(hn:PA3 X names (BD5 fs))
  (hi:PE3 X ie ti) (hp:AD6 ie) (ha:PA3 X (e::es) t) (he:CY3 (e::es) X.env=(false,eval e X.env)::CY3 es X.env:=by rfl) (hpl:(DK1 pos (CY3 es X.env)).any (·.1)=false:=by rfl) (hl:fs.length<=CV8:=by rw[CX1];exact Nat.le_of_ble_eq_true rfl) :
  PE3 X (.Call (.Subscript (.List names p1) ie p2) (e::es) [] pos) (VG fs.length sp ti t) :=
 PE3.less (AM9 hf hr (AY1 (AH9 hn) hi hp) ha rfl he hpl) fun σ M Q h=>AI9 fs ⟨by rw[CV1];exact hl,h fs rfl⟩
end
end L3
namespace K08
open PySem L2 L3 PK K10
open K09 (isN nmE O4 exN C2 L4 J3 E1 F8 cntK Et fits)
def nt (k:Nat):Deed:=.mk (.leaf "note" [eD (.num k)]) .nil
def ofL:List Deed->Blk
 | []=>.nil
 | d::r=>.cons d (ofL r)
def ntB (n:Nat):Blk:=ofL ((CV7 n).map nt)
def GD (kds:List (Key×D))(d:Deed):Prop:=∀x∈dsD d,∀t,Et t x->fits kds t
def U7 (kds:List (Key×D))(b:Blk):Prop:=∀x∈dsB b,∀t,Et t x->fits kds t
def CU (kds:List (Key×D))(e:Ex):Prop:=∀t∈trE e,fits kds t
def JI (kds:List (Key×D)):Prop:=N7 kds (.inr "one")=some (.int 1)
structure Wr [Pool](d d':Deed)(n:Nat):Prop where
 sh:shD d->shD d'
 ok:J3 d'↔J3 d
 cnt:F2 d'<=F2 d+3*n
 dep:dpD d'=dpD d+n
 fit:∀kds,GD kds d->GD kds d'
theorem Wr.zero [Pool](d:Deed):Wr d d 0:=⟨id,.rfl,by lia,by lia,fun _=>id⟩
theorem Wr.step [Pool]{d' d2:Deed}(a:Wr d d' n)(b:Wr d' d2 1):Wr d d2 (n+1) :=
 ⟨fun g=>b.sh (a.sh g),b.ok.trans a.ok,by have:=a.cnt;have:=b.cnt;lia,by have:=a.dep;have:=b.dep;lia,fun kds h=>b.fit kds (a.fit kds h)⟩
structure Dd [Pool](d:Deed)(G:Prop):Prop where
 sh:shD d
 ok:J3 d↔G
 cnt:F2 d<=25
 dep:dpD d<=8
 fit:∀kds,JI kds->GD kds d
def shown (rs:List Rl):Prop:=BC5 (.tup (rs.map rD))
def JV:Sp3:=fun ds M Q=>∃k:Nat,ds=[.int k]/\Q (dD (nt k)) M
def D8:Sp3:=fun ds M Q=>∃n:Nat,ds=[.int n]/\n<=40/\Q (.tup (dB (ntB n))) M
def DW:Sp3:=fun ds M Q=>∃_:Pool,∃p b d,ds=[.ref p,dD d]/\nS "x"/\Pen M p b/\b+1<2^30/\∀d' M',Wr d d' 1->Pen M' p (b+1)->Same3 p M M'->Q (dD d') M'
def DZ:Sp3:=fun ds M Q=>∃_:Pool,∃p b d,∃n:Nat,ds=[.ref p,dD d,.int n]/\nS "x"/\n<=6/\Pen M p b/\b+6<2^30/\∀d' M',Wr d d' n->Pen M' p (b+6)->Same3 p M M'->Q (dD d') M'
def DX:Sp3:=fun ds M Q=>∃_:Pool,∃p b,∃n:Nat,ds=[.ref p,.int n]/\1<=n/\n<=40/\Pen M p b/\b+2<2^30 /\
 ∀k M',shB k->E1 k->C0 k=n->dpB k<=1->(∀kds,U7 kds k)->Pen M' p (b+2)->Same3 p M M'->Q (.tup (dB k)) M'
def Q7 (n:Nat):Sp3:=fun ds M Q=>∃_:Pool,∃m:Nat,ds=[.int m]/\1<=m/\2*(m+1)<=3*2^n /\
 ∀e,shE e->wf e->nmE e->nd e=m->dp e<=n+1->(∀kds,JI kds->CU kds e)->Q (eD e) M
def NV:Sp3:=fun ds M Q=>∃_:Pool,∃p b,∃m:Nat,ds=[.ref p,.int m]/\nS "x"/\1<=m/\m<=6/\Pen M p b/\b+6<2^30 /\
 ∀e M',shE e->wf e->nmE e->nd e<=2*m->dp e=m->(∀kds,JI kds->CU kds e)->Pen M' p (b+6)->Same3 p M M'->Q (eD e) M'
def JW:Sp3:=fun ds M Q=>∃_:Pool,∃p b e,ds=[.ref p,eD e]/\nS "x"/\S9 (eD e)/\(∀kds,JI kds->CU kds e)/\Pen M p b/\b+1<2^30 /\
 ∀d M',Dd d (exN (eD e))->dpD d<=1->Pen M' p (b+1)->Same3 p M M'->Q (dD d) M'
def T5:Sp3:=fun ds M Q=>∃_:Pool,∃p b d G,ds=[.ref p,dD d]/\Dd d G/\Pool.ps.length<=9/\Pen M p b/\b+3<2^30 /\
 ∀rs M',OP rs->shown rs->(FE rs↔G/\dpD d<=4)->Pen M' p (b+3)->Same3 p M M'->Q (.tup (rs.map rD)) M'
def K1:Sp3:=fun ds M Q=>∃p b,ds=[.ref p]/\Pen M p b/\b+60<2^30 /\
 ∀(_:Pool) (rs:List Rl) (v:Bool) M',OP rs->shown rs->(v=true↔FE rs)->Pen M' p (b+60)->Q (.tup [.tup (rs.map rD),.bl v]) M'
def NT:Sp3:=fun ds M Q=>∃p b,ds=[.ref p]/\Pen M p b/\b+61<2^30 /\
 ∀(_:Pool) (rs:List Rl) (v:Bool) M',OP rs->shown rs->(v=true↔FE rs)->Pen M' p (b+61)->Q (.tup [.tup (rs.map rD),.bl v]) M'
end K08
namespace K08
open PySem L2 L3
abbrev KE:List Str:=["_law_k"]
def Y2:TS3 :=
  (B1 (A5 (A0 (tC3 (.str "note")) (A0 (A5 (A0 (tC3 (.str "number")) (A0 (A1 0) A2))) A2))))
abbrev GZ:List Str:=["_law_many"]
def T8:TS3 :=
  (B1 (C5 M7 (A0 (F9 (FL (A0 (A1 0) A2)) 1 [] (K2 0) J8 (A4 JV (A0 (A1 0) A2))) A2)))
abbrev FI:List Str:=["_law_pen_here","_law_deed","_law_one","_law_some"]
def Q9:TS3 :=
  (A6 (B6 2 (A4 D8 (A0 (tC3 (.int 1)) A2)))
  (A6 (B6 3 (E9 (A0 (A5 (A0 (tC3 (.str "if")) (A0 (A5 (A0 (tC3 (.str "none")) A2)) (A0 (A5 (A0 (A1 1) A2)) (A0 (A5 A2) A2))))) (A0 (A5 (A0 (tC3 (.str "if")) (A0 (A5 (A0 (tC3 (.str "none")) A2)) (A0 (A1 2) (A0 (A5 (A0 (A1 1) A2)) A2))))) (A0 (A5 (A0 (tC3 (.str "while")) (A0 (A5 (A0 (tC3 (.str "none")) A2)) (A0 (A5 (A0 (A1 1) A2)) A2)))) A2)))))
  (A6 (B6 3 (A3 C9 (A1 3) (E9 (A0 (A5 (A0 (tC3 (.str "try")) (A0 (A5 (A0 (A1 1) A2)) (A0 (A5 (A0 (A5 (A0 (tC3 (.str "e")) (A0 (tC3 (.str "x")) (A0 (A1 2) A2)))) A2)) (A0 (A5 A2) A2))))) (A0 (A5 (A0 (tC3 (.str "try")) (A0 (A1 2) (A0 (A5 (A0 (A5 (A0 (tC3 (.str "e")) (A0 (tC3 (.str "x")) (A0 (A5 (A0 (A1 1) A2)) A2)))) A2)) (A0 (A1 2) A2))))) A2)))))
  (B1 (A3 C6 (A3 C9 (A1 3) (E9 (A0 (A5 (A0 (tC3 (.str "try")) (A0 (A1 2) (A0 (A5 A2) (A0 (A5 (A0 (A1 1) A2)) A2))))) A2))) (A4 E5 (A0 (A1 0) (A0 (tC3 (.int 6)) A2))))))))
abbrev FJ:List Str:=["_law_pen_here","_law_deed","_law_many","_law_k"]
def R0:TS3 :=
  (A6 (X9 (FL (A0 (A1 2) A2)) 3 (B6 1 (A4 DW (A0 (A1 0) (A0 (A1 1) A2)))))
  (B1 (A1 1)))
abbrev GY:List Str:=["_law_pen_here","_law_many","_law_way","_law_first"]
def T7:TS3 :=
  (A6 (B6 2 (A4 E5 (A0 (A1 0) (A0 (tC3 (.int 4)) A2))))
  (A6 (C8 (Z1 (A9 (A3 J4 (A1 2) (tC3 (.int 0)))) (A9 (A3 PL (A1 1) (tC3 (.int 4))))) (B1 (A4 D8 (A0 (A1 1) A2))) B9)
  (A6 (B6 3 (A3 C9 (tC3 (.int 1)) (A4 E5 (A0 (A1 0) (A0 (A3 R6 (A1 1) (tC3 (.int 2))) A2)))))
  (A6 (C8 (A9 (A3 J4 (A1 2) (tC3 (.int 1)))) (B1 (A5 (A0 (A5 (A0 (tC3 (.str "if")) (A0 (A5 (A0 (tC3 (.str "none")) A2)) (A0 (A4 D8 (A0 (A1 3) A2)) (A0 (A4 D8 (A0 (A3 R6 (A3 R6 (A1 1) (tC3 (.int 1))) (A1 3)) A2)) A2))))) A2))) B9)
  (A6 (C8 (A9 (A3 J4 (A1 2) (tC3 (.int 2)))) (B1 (A3 C9 (A4 D8 (A0 (A3 R6 (A3 R6 (A1 1) (tC3 (.int 1))) (A1 3)) A2)) (A5 (A0 (A5 (A0 (tC3 (.str "while")) (A0 (A5 (A0 (tC3 (.str "none")) A2)) (A0 (A4 D8 (A0 (A1 3) A2)) A2)))) A2)))) B9)
  (B1 (A5 (A0 (A5 (A0 (tC3 (.str "try")) (A0 (A4 D8 (A0 (A1 3) A2)) (A0 (A5 A2) (A0 (A4 D8 (A0 (A3 R6 (A3 R6 (A1 1) (tC3 (.int 1))) (A1 3)) A2)) A2))))) A2))))))))
abbrev HB:List Str:=["_law_many","_law_half"]
def T9 (q__law_sized:Sp3):TS3 :=
  (A6 (C8 (A9 (A3 J4 (A1 0) (tC3 (.int 1)))) (B1 (A5 (A0 (tC3 (.str "none")) A2))) B9)
  (A6 (C8 (A9 (A3 J4 (A1 0) (tC3 (.int 2)))) (B1 (A5 (A0 (tC3 (.str "make")) (A0 (tC3 (.str "one")) (A0 (A5 (A0 (A5 (A0 (tC3 (.str "none")) A2)) A2)) A2))))) B9)
  (A6 (B6 1 (A3 AV (A3 R6 (A1 0) (tC3 (.int 1))) (tC3 (.int 2))))
  (B1 (A5 (A0 (tC3 (.str "op")) (A0 (tC3 (.str "+")) (A0 (A4 q__law_sized (A0 (A1 1) A2)) (A0 (A4 q__law_sized (A0 (A3 R6 (A3 R6 (A1 0) (tC3 (.int 1))) (A1 1)) A2)) A2)))))))))
abbrev KC:List Str:=["_law_pen_here","_law_many","_law_found","_law_k","_law_some"]
def Y1:TS3 :=
  (A6 (B6 2 (A5 (A0 (tC3 (.str "var")) (A0 (tC3 (.str "x")) A2))))
  (A6 (X9 (FL (A0 (A3 R6 (A1 1) (tC3 (.int 1))) A2)) 3 (A6 (B6 4 (E9 (A0 (A5 (A0 (tC3 (.str "op")) (A0 (tC3 (.str "-")) (A0 (A1 2) (A0 (A5 (A0 (tC3 (.str "none")) A2)) A2))))) (A0 (A5 (A0 (tC3 (.str "op")) (A0 (tC3 (.str "*")) (A0 (A5 (A0 (tC3 (.str "none")) A2)) (A0 (A1 2) A2))))) (A0 (A5 (A0 (tC3 (.str "make")) (A0 (tC3 (.str "one")) (A0 (A5 (A0 (A1 2) A2)) A2)))) A2)))))
  (B6 2 (A3 C6 (A1 4) (A4 E5 (A0 (A1 0) (A0 (tC3 (.int 3)) A2)))))))
  (B1 (A1 2))))
abbrev KG:List Str:=["_law_pen_here","_law_expression","_law_one","_law_bare","_law_some"]
def Y3:TS3 :=
  (A6 (B6 2 (A4 D8 (A0 (tC3 (.int 1)) A2)))
  (A6 (B6 3 (A5 (A0 (tC3 (.str "none")) A2)))
  (A6 (B6 4 (E9 (A0 (A5 (A0 (tC3 (.str "let")) (A0 (tC3 (.str "x")) (A0 (A1 1) A2)))) (A0 (A5 (A0 (tC3 (.str "note")) (A0 (A1 1) A2))) (A0 (A5 (A0 (tC3 (.str "give")) (A0 (tC3 (.str "x")) (A0 (A1 1) A2)))) (A0 (A5 (A0 (tC3 (.str "on")) (A0 (tC3 (.str "x")) (A0 (A1 1) A2)))) A2))))))
  (A6 (B6 4 (A3 C9 (A1 4) (E9 (A0 (A5 (A0 (tC3 (.str "ask")) (A0 (tC3 (.str "x")) (A0 (tC3 (.str "x")) (A0 (A1 1) (A0 (A1 3) A2)))))) (A0 (A5 (A0 (tC3 (.str "ask")) (A0 (tC3 (.str "x")) (A0 (tC3 (.str "x")) (A0 (A1 3) (A0 (A1 1) A2)))))) (A0 (A5 (A0 (tC3 (.str "close")) (A0 (A1 1) A2))) A2))))))
  (A6 (B6 4 (A3 C9 (A1 4) (E9 (A0 (A5 (A0 (tC3 (.str "cast")) (A0 (tC3 (.str "x")) (A0 (tC3 (.str "x")) (A0 (A1 1) (A0 (tC3 (.str "e")) (A0 (A1 3) A2))))))) (A0 (A5 (A0 (tC3 (.str "cast")) (A0 (tC3 (.str "x")) (A0 (tC3 (.str "x")) (A0 (A1 3) (A0 (tC3 (.str "e")) (A0 (A1 1) A2))))))) A2)))))
  (A6 (B6 4 (A3 C9 (A1 4) (E9 (A0 (A5 (A0 (tC3 (.str "end")) (A0 (A1 1) A2))) (A0 (A5 (A0 (tC3 (.str "fault")) (A0 (tC3 (.str "e")) (A0 (A1 1) A2)))) (A0 (A5 (A0 (tC3 (.str "while")) (A0 (A1 1) (A0 (A1 2) A2)))) A2))))))
  (B1 (A3 C6 (A3 C9 (A1 4) (E9 (A0 (A5 (A0 (tC3 (.str "if")) (A0 (A1 1) (A0 (A1 2) (A0 (A5 A2) A2))))) A2))) (A4 E5 (A0 (A1 0) (A0 (tC3 (.int 13)) A2)))))))))))
abbrev GX:List Str:=["_law_pen_here","_law_deed","_law_place","_law_block","_law_some"]
def T6:TS3 :=
  (A6 (B6 2 (A4 E5 (A0 (A1 0) (A0 (tC3 (.int 3)) A2))))
  (A6 (B6 3 (A3 C9 (A3 C9 (A4 D8 (A0 (A1 2) A2)) (A5 (A0 (A1 1) A2))) (A4 D8 (A0 (A4 E5 (A0 (A1 0) (A0 (tC3 (.int 2)) A2))) A2))))
  (A6 (B6 4 (E9 (A0 (A5 (A0 (tC3 (.str "one")) (A0 (A5 (A0 (tC3 (.str "p")) A2)) (A0 (A4 D8 (A0 (tC3 (.int 1)) A2)) A2)))) (A0 (A5 (A0 (tC3 (.str "rest")) (A0 (A5 A2) (A0 (A1 3) A2)))) A2))))
  (B1 (C5 M7 (A0 (A3 C6 (E9 (A0 (A1 4) (A0 (BD6 (A1 4) (EE (CD7 CM7 (tC3 (.int 1))))) A2))) (A4 E5 (A0 (A1 0) (A0 (tC3 (.int 2)) A2)))) A2))))))
abbrev BX:List Str:=["_law_pen_here","_law_many"]
def N1:TS3 :=
  (A6 (B6 1 (A3 C6 (E9 (A0 (tC3 (.int 0)) (A0 (tC3 (.int 1)) (A0 (tC3 (.int 7)) (A0 (tC3 (.int 8)) (A0 (tC3 (.int 9)) (A0 (tC3 (.int 10)) A2))))))) (A4 E5 (A0 (A1 0) (A0 (tC3 (.int 6)) A2)))))
  (B1 (A5 (A0 (C5 M7 (A0 (F9 (FL (A0 (A1 1) A2)) 1 [] (K2 0) J8 (A5 (A0 (A3 C9 (tC3 (.str "r")) (A3 C6 (tC3 (.str "abcdefghij")) (A1 0))) (A0 (A5 A2) (A0 (A4 D8 (A0 (tC3 (.int 1)) A2)) A2))))) A2)) (A0 (X8 FH FH (tC3 (.int 1)) (A1 1) (tC3 (.int 8))) A2)))))
abbrev BW:List Str:=["_law_pen_here","_law_many"]
def N0:TS3 :=
  (A6 (B6 1 (A3 C6 (E9 (A0 (tC3 (.int 0)) (A0 (tC3 (.int 1)) (A0 (tC3 (.int 29)) (A0 (tC3 (.int 30)) (A0 (tC3 (.int 31)) (A0 (tC3 (.int 32)) A2))))))) (A4 E5 (A0 (A1 0) (A0 (tC3 (.int 6)) A2)))))
  (A6 (C8 (A9 (A3 J4 (A1 1) (tC3 (.int 0)))) (B1 (A5 (A0 (A5 (A0 (A5 (A0 (tC3 (.str "a")) (A0 (A5 A2) (A0 (A5 A2) A2)))) A2)) (A0 (tC3 (.bl false)) A2)))) B9)
  (B1 (A5 (A0 (A5 (A0 (A5 (A0 (tC3 (.str "b")) (A0 (A5 A2) (A0 (A4 D8 (A0 (tC3 (.int 2)) A2)) A2)))) (A0 (A5 (A0 (tC3 (.str "a")) (A0 (A5 A2) (A0 (A4 DX (A0 (A1 0) (A0 (A1 1) A2))) A2)))) A2))) (A0 (A3 FH (A1 1) (tC3 (.int 30))) A2))))))
abbrev S5:List Str:=["_law_pen_here","_law_many","_law_names","_law_params","_law_one","_law_block","_law_name","_law_some"]
def I0:TS3 :=
  (A6 (B6 1 (A3 C9 (tC3 (.int 10)) (A4 E5 (A0 (A1 0) (A0 (tC3 (.int 5)) A2)))))
  (A6 (B6 2 (F9 (FL (A0 (A1 1) A2)) 1 [] (K2 0) J8 (A3 C9 (tC3 (.str "v")) (A3 C6 (tC3 (.str "abcdefghijklmn")) (A1 0)))))
  (A6 (B6 3 (C5 M7 (A0 (RS (A1 2) W1 (EE (A4 E5 (A0 (A1 0) (A0 (tC3 (.int 4)) A2))))) A2)))
  (A6 (B6 4 (A4 D8 (A0 (tC3 (.int 1)) A2)))
  (A6 (B6 5 (GU A2))
  (A6 (X9 (S3 (A1 2)) 6 (A6 (B6 7 (E9 (A0 (A5 (A0 (tC3 (.str "let")) (A0 (A1 6) (A0 (A5 (A0 (tC3 (.str "none")) A2)) A2)))) (A0 (A5 (A0 (tC3 (.str "note")) (A0 (A5 (A0 (tC3 (.str "var")) (A0 (A1 6) A2))) A2))) (A0 (A5 (A0 (tC3 (.str "ask")) (A0 (A1 6) (A0 (A1 6) (A0 (A5 (A0 (tC3 (.str "none")) A2)) (A0 (A5 (A0 (tC3 (.str "none")) A2)) A2)))))) A2)))))
  (A6 (B6 7 (A3 C9 (A1 7) (E9 (A0 (A5 (A0 (tC3 (.str "ask")) (A0 (A3 C6 (A1 2) (tC3 (.int 0))) (A0 (A1 6) (A0 (A5 (A0 (tC3 (.str "none")) A2)) (A0 (A5 (A0 (tC3 (.str "none")) A2)) A2)))))) (A0 (A5 (A0 (tC3 (.str "on")) (A0 (A1 6) (A0 (A5 (A0 (tC3 (.str "var")) (A0 (A1 6) A2))) A2)))) A2)))))
  (A6 (B6 7 (A3 C9 (A1 7) (E9 (A0 (A5 (A0 (tC3 (.str "give")) (A0 (A1 6) (A0 (A5 (A0 (tC3 (.str "none")) A2)) A2)))) (A0 (A5 (A0 (tC3 (.str "cast")) (A0 (A1 6) (A0 (A1 6) (A0 (A5 (A0 (tC3 (.str "none")) A2)) (A0 (tC3 (.str "e")) (A0 (A5 (A0 (tC3 (.str "none")) A2)) A2))))))) A2)))))
  (A6 (B6 7 (A3 AA6 (A1 7) (E9 (A0 (A5 (A0 (tC3 (.str "cast")) (A0 (A3 C6 (A1 2) (tC3 (.int 0))) (A0 (A1 6) (A0 (A5 (A0 (tC3 (.str "none")) A2)) (A0 (tC3 (.str "e")) (A0 (A5 (A0 (tC3 (.str "none")) A2)) A2))))))) (A0 (A5 (A0 (tC3 (.str "fault")) (A0 (tC3 (.str "e")) (A0 (A5 (A0 (tC3 (.str "var")) (A0 (A1 6) A2))) A2)))) A2)))))
  (A6 (C8 (A9 (A3 PL (C5 E6 (A0 (A1 5) A2)) (tC3 (.int 6)))) (BD3 (A1 7) (tC3 (.int 4)) (A5 (A0 (tC3 (.str "try")) (A0 (A1 4) (A0 (A5 (A0 (A5 (A0 (tC3 (.str "e")) (A0 (A1 6) (A0 (A1 4) A2)))) A2)) (A0 (A5 A2) A2)))))) B9)
  (BI (PY "list" DD (A1 5) (A0 (A3 C6 (A1 7) (A4 E5 (A0 (A1 0) (A0 (tC3 (.int 9)) A2)))) A2)))))))))
  (B1 (A5 (A0 (A5 (A0 (A5 (A0 (tC3 (.str "a")) (A0 (A1 3) (A0 (C5 M7 (A0 (A1 5) A2)) A2)))) A2)) (A0 (A3 FH (A1 1) (tC3 (.int 12))) A2))))))))))
abbrev Z4:List Str:=["_law_pen_here","_law_many"]
def K7:TS3 :=
  (A6 (B6 1 (A3 C9 (tC3 (.int 2)) (A4 E5 (A0 (A1 0) (A0 (tC3 (.int 5)) A2)))))
  (B1 (A5 (A0 (A4 T5 (A0 (A1 0) (A0 (A4 DZ (A0 (A1 0) (A0 (A4 JV (A0 (tC3 (.int 1)) A2)) (A0 (A1 1) A2)))) A2))) (A0 (A3 PL (A1 1) (tC3 (.int 5))) A2)))))
abbrev P2:List Str:=["_law_pen_here","_law_many","_law_deep_here"]
def G0:TS3 :=
  (A6 (B6 1 (A3 C9 (tC3 (.int 7)) (A4 E5 (A0 (A1 0) (A0 (tC3 (.int 5)) A2)))))
  (A6 (B6 2 (A3 C9 (tC3 (.int 3)) (A4 E5 (A0 (A1 0) (A0 (tC3 (.int 4)) A2)))))
  (A6 (C8 (A9 (A3 J4 (A4 E5 (A0 (A1 0) (A0 (tC3 (.int 2)) A2))) (tC3 (.int 0)))) (B1 (A5 (A0 (A4 T5 (A0 (A1 0) (A0 (A4 JW (A0 (A1 0) (A0 (A4 (Q7 3) (A0 (A1 1) A2)) A2))) A2))) (A0 (A3 FH (A1 1) (tC3 (.int 9))) A2)))) B9)
  (B1 (A5 (A0 (A4 T5 (A0 (A1 0) (A0 (A4 JW (A0 (A1 0) (A0 (A4 NV (A0 (A1 0) (A0 (A1 2) A2))) A2))) A2))) (A0 (A3 FH (A1 2) (tC3 (.int 4))) A2)))))))
abbrev Z5:List Str:=["_law_pen_here","_law_many","_law_params","_law_call"]
def K8:TS3 :=
  (A6 (B6 1 (A3 C9 (tC3 (.int 1)) (A4 E5 (A0 (A1 0) (A0 (tC3 (.int 5)) A2)))))
  (A6 (B6 2 (C5 M7 (A0 (F9 (FL (A0 (A1 1) A2)) 1 [] (K2 0) J8 (A3 C9 (tC3 (.str "p")) (A3 C6 (tC3 (.str "abcde")) (A1 0)))) A2)))
  (A6 (B6 3 (A5 (A0 (tC3 (.str "note")) (A0 (A5 (A0 (tC3 (.str "make")) (A0 (tC3 (.str "many")) (A0 (C5 M7 (A0 (A3 AA8 (E9 (A0 (A5 (A0 (tC3 (.str "none")) A2)) A2)) (A1 1)) A2)) A2)))) A2))))
  (B1 (A5 (A0 (A5 (A0 (A5 (A0 (tC3 (.str "many")) (A0 (A1 2) (A0 (A4 D8 (A0 (tC3 (.int 1)) A2)) A2)))) (A0 (A5 (A0 (tC3 (.str "b")) (A0 (A5 A2) (A0 (A5 (A0 (A1 3) A2)) A2)))) A2))) (A0 (A3 FH (A1 1) (tC3 (.int 3))) A2)))))))
abbrev W2:List Str:=["_law_pen_here","_law_many","_law_lasts","_law_some"]
def K0:TS3 :=
  (A6 (B6 1 (A4 E5 (A0 (A1 0) (A0 (tC3 (.int 6)) A2))))
  (A6 (B6 2 (A3 C6 (E9 (A0 (A5 A2) (A0 (A4 D8 (A0 (tC3 (.int 1)) A2)) A2))) (A4 E5 (A0 (A1 0) (A0 (tC3 (.int 2)) A2)))))
  (A6 (B6 3 (C5 M7 (A0 (F9 (FL (A0 (A1 1) A2)) 1 [] (K2 0) J8 (A5 (A0 (A3 C6 (E9 (A0 (tC3 (.str "any")) (A0 (tC3 (.str "e")) (A0 (tC3 (.str "if")) A2)))) (A3 O0 (A1 0) (tC3 (.int 3)))) (A0 (tC3 (.str "x")) (A0 (A4 D8 (A0 (tC3 (.int 1)) A2)) A2))))) A2)))
  (B1 (A5 (A0 (A4 T5 (A0 (A1 0) (A0 (A5 (A0 (tC3 (.str "try")) (A0 (A4 D8 (A0 (tC3 (.int 1)) A2)) (A0 (A1 3) (A0 (A1 2) A2))))) A2))) (A0 (G8 (A3 FH (A1 1) (tC3 (.int 3))) (YJ (A3 TU (A1 1) (tC3 (.int 0))) (A3 CG (A1 2) (A5 A2)))) A2)))))))
abbrev S2:List Str:=["_law_pen_here","_law_more","_law_figures","_law_word","_law_one","_law_bare","_law_some"]
def N3:TS3 :=
  (A6 (B6 1 (A4 E5 (A0 (A1 0) (A0 (tC3 (.int 2)) A2))))
  (A6 (B6 2 (A3 C9 (A3 R6 (A3 FR (tC3 (.int 10)) (tC3 (.int 30))) (tC3 (.int 1))) (A1 1)))
  (A6 (B6 3 (A3 C9 (tC3 (.str "abcdefgh")) (A3 AA9 (tC3 (.str "i")) (A1 1))))
  (A6 (B6 4 (A4 D8 (A0 (tC3 (.int 1)) A2)))
  (A6 (B6 5 (A5 (A0 (tC3 (.str "none")) A2)))
  (A6 (B6 6 (E9 (A0 (A5 (A0 (tC3 (.str "note")) (A0 (A5 (A0 (tC3 (.str "number")) (A0 (A1 2) A2))) A2))) (A0 (A5 (A0 (tC3 (.str "note")) (A0 (A5 (A0 (tC3 (.str "number")) (A0 (A3 R6 (tC3 (.int 0)) (A1 2)) A2))) A2))) (A0 (A5 (A0 (tC3 (.str "let")) (A0 (A1 3) (A0 (A1 5) A2)))) A2)))))
  (A6 (B6 6 (A3 C9 (A1 6) (E9 (A0 (A5 (A0 (tC3 (.str "fault")) (A0 (A1 3) (A0 (A1 5) A2)))) (A0 (A5 (A0 (tC3 (.str "cast")) (A0 (tC3 (.str "x")) (A0 (tC3 (.str "y")) (A0 (A1 5) (A0 (A1 3) (A0 (A1 5) A2))))))) (A0 (A5 (A0 (tC3 (.str "note")) (A0 (A5 (A0 (tC3 (.str "var")) (A0 (A1 3) A2))) A2))) A2))))))
  (A6 (B6 6 (A3 C9 (A1 6) (E9 (A0 (A5 (A0 (tC3 (.str "try")) (A0 (A1 4) (A0 (A5 (A0 (A5 (A0 (A1 3) (A0 (tC3 (.str "x")) (A0 (A1 4) A2)))) A2)) (A0 (A5 A2) A2))))) (A0 (A5 (A0 (tC3 (.str "on")) (A0 (A1 3) (A0 (A1 5) A2)))) A2)))))
  (A6 (B6 6 (A3 C9 (A1 6) (E9 (A0 (A5 (A0 (tC3 (.str "try")) (A0 (A1 4) (A0 (A5 (A0 (A5 (A0 (tC3 (.str "e")) (A0 (A1 3) (A0 (A1 4) A2)))) A2)) (A0 (A5 A2) A2))))) (A0 (A5 (A0 (tC3 (.str "ask")) (A0 (tC3 (.str "x")) (A0 (A1 3) (A0 (A1 5) (A0 (A1 5) A2)))))) A2)))))
  (B1 (A5 (A0 (A4 T5 (A0 (A1 0) (A0 (A3 C6 (A1 6) (A4 E5 (A0 (A1 0) (A0 (tC3 (.int 10)) A2)))) A2))) (A0 (A3 J4 (A1 1) (tC3 (.int 0))) A2)))))))))))))
theorem JX (d0:D):B3 S2 [d0]=[some d0,none,none,none,none,none,none]:=rfl
abbrev KA:List Str:=["_law_pen_here","_law_way"]
def Y0:TS3 :=
  (A6 (B6 1 (A4 E5 (A0 (A1 0) (A0 (tC3 (.int 8)) A2))))
  (A6 (C8 (A9 (A3 PL (A1 1) (tC3 (.int 4)))) (B1 (VG 4 K1 (A1 1) (A0 (A1 0) A2))) B9)
  (B1 (VG 4 K1 (A3 R6 (A1 1) (tC3 (.int 4))) (A0 (A1 0) A2)))))
abbrev BO5:List Str:=["_law_script","_law_pen_here","_law_turn","_law_thing","_law_due","_law_shown","_law_found"]
def AJ4:TS3 :=
  (A6 (B6 1 (A4 RM (A0 (A1 0) A2)))
  (A6 (X9 (FL (A0 (tC3 (.int 16)) A2)) 2 (A6 (BD1 (CV [3,4]) (A4 NT (A0 (A1 1) A2)))
  (A6 (B6 5 (C5 TX (A0 (A1 3) A2)))
  (A6 (B6 6 (A4 DY (A0 (A1 3) A2)))
  (C8 (Z1 (K4 (A9 (C5 K3 (A0 (A1 6) (A0 (tC3 (.ty "bool")) A2))))) (Z1 (A9 (A3 CG (A1 6) (A1 4))) (A9 (A3 CG (C5 TX (A0 (A1 3) A2)) (A1 5))))) (B1 (tC3 (.bl false))) B9)))))
  (B1 (tC3 (.bl true)))))
end K08
namespace K08
open PySem L2 L3 PK K10
open K09 (isN nmE O4 exN C2 L4 J3 E1 F8 cntK Et fits L8)
def P0:List Blk->Bls
 | []=>.nil
 | b::r=>.cons b (P0 r)
def ifD (e:Ex)(a b:Blk):Deed:=.mk (.ife (eD e)) (.cons a (.cons b .nil))
def whD (e:Ex)(a:Blk):Deed:=.mk (.whl (eD e)) (.cons a .nil)
def trD (a:Blk)(cs:List (Str×Str×Blk))(q:Blk):Deed:=.mk (.tr (cs.map fun c=>(c.1,c.2.1))) (.cons a (P0 (cs.map (·.2.2)++[q])))
def lfD (h:Str)(r:List D):Deed:=.mk (.leaf h r) .nil
def SD (c:Str×Str×Blk):Str×Str×List D:=(c.1,c.2.1,dB c.2.2)
theorem IU:∀l:List Blk,F6 (P0 l)=l
 | []=>rfl
 | b::r=>by simp[P0,F6,IU r]
theorem AQ6:∀l:List Blk,bsl (P0 l)=l.length
 | []=>rfl
 | b::r=>by simp[P0,bsl,AQ6 r]
theorem BS1 (l:List Blk):dTs (P0 l)=l.map PK.tB:=by rw[GB,IU]
theorem AE3:∀(cs:List (Str×Str×Blk)) (q:D),J7 (cs.map fun c=>(c.1,c.2.1)) (cs.map (fun c=>PK.tB c.2.2)++[q])=cs.map fun c=>CC (SD c)
 | [],q=>by simp[J7]
 | c::cs,q=>by
  show D.tup [.str c.1,.str c.2.1,PK.tB c.2.2]::J7 (cs.map fun c=>(c.1,c.2.1)) (cs.map (fun c=>PK.tB c.2.2)++[q])=_
  rw[AE3 cs q];rfl
theorem OG (a:Blk)(cs:List (Str×Str×Blk))(q:Blk):dD (trD a cs q)=.tup [.str "try",.tup (dB a),.tup ((cs.map SD).map CC),.tup (dB q)]:=by
 have e:dTs (Bls.cons a (P0 (cs.map (·.2.2)++[q])))=PK.tB a::(cs.map (fun c=>PK.tB c.2.2)++[PK.tB q]):=by
  show PK.tB a::dTs _=_
  rw[BS1,CX6,DA8];rfl
 unfold trD
 rw[dD,e]
 show D.tup [.str "try",PK.tB a,.tup (J7 (cs.map fun c=>(c.1,c.2.1)) (cs.map (fun c=>PK.tB c.2.2)++[PK.tB q])),(PK.tB a::(cs.map (fun c=>PK.tB c.2.2)++[PK.tB q])).getD ((cs.map fun c=>(c.1,c.2.1)).length+1) (.tup [])]=_
 rw[AE3,DA8,CV1]
 congr 4
 simp[DN0]
 rfl
theorem AT8 (e:Ex)(a b:Blk):dD (ifD e a b)=.tup [.str "if",eD e,.tup (dB a),.tup (dB b)]:=rfl
theorem BE6 (e:Ex)(a:Blk):dD (whD e a)=.tup [.str "while",eD e,.tup (dB a)]:=rfl
theorem AG7 (h:Str)(r:List D):dD (lfD h r)=.tup (.str h::r):=rfl
theorem AR7 {b:Blk}:dB b≠[]↔b≠.nil:=by cases b<;>simp[dB]
local macro_rules | `(tactic| walk_at "pa")=>`(tactic| simp only[DH0,DJ8,CV0,CU9,or_false,forall_eq_or_imp,forall_eq,LP,LQ,po_exp,XA,po_cat,AR7,CV6,CY0,true_and,and_true])
theorem tryk:¬(("if":Str)="try")/\¬(("while":Str)="try"):=by decide +kernel
theorem if_ok [Pool]{e:Ex}{a b:Blk}:J3 (ifD e a b)↔exN (eD e)/\a≠.nil/\E1 a/\E1 b:=by
 show L4 (ifD e a b)/\E1 a/\E1 b/\True↔_
 rw[S8 (AT8 e a b) (sh:=["expression","block","rest"]) (by decide +kernel)]
 walk_at "pa"
 constructor
 ·rintro⟨⟨⟨h1,h2,_⟩,_⟩,h3⟩;exact⟨h1,h2,h3⟩
 ·rintro⟨h1,h2,h3⟩;exact⟨⟨⟨h1,h2,TQ⟩,fun z=>absurd z tryk.1⟩,h3⟩
theorem wh_ok [Pool]{e:Ex}{a:Blk}:J3 (whD e a)↔exN (eD e)/\a≠.nil/\E1 a:=by
 show L4 (whD e a)/\E1 a/\True↔_
 rw[S8 (BE6 e a) (sh:=["expression","block"]) (by decide +kernel)]
 walk_at "pa"
 constructor
 ·rintro⟨⟨⟨h1,h2⟩,_⟩,h3⟩;exact⟨h1,h2,h3⟩
 ·rintro⟨h1,h2,h3⟩;exact⟨⟨⟨h1,h2⟩,fun z=>absurd z tryk.2⟩,h3⟩
theorem tr_ok [Pool]{a:Blk}:J3 (trD a cs q)↔a≠.nil/\(cs.length<=3/\∀c∈cs,nm c.1/\isN c.2.1/\c.2.2≠.nil)/\(cs≠[]\/q≠.nil)/\E1 a/\(∀c∈cs,E1 c.2.2)/\E1 q:=by
 show L4 (trD a cs q)/\E1 a/\F8 (P0 (cs.map (·.2.2)++[q]))↔_
 rw[S8 (OG a cs q) (sh:=["block","catches","rest"]) (by decide +kernel),EM,IU]
 walk_at "pa"
 have hc:(∀c∈cs.map SD,nm c.1/\isN c.2.1/\c.2.2≠[])↔∀c∈cs,nm c.1/\isN c.2.1/\c.2.2≠.nil:=by
  simp only[DQ6,forall_exists_index,and_imp,forall_apply_eq_imp_iff₂,SD,AR7]
 have hb:(∀d∈cs.map (·.2.2)++[q],E1 d)↔(∀c∈cs,E1 c.2.2)/\E1 q:=by
  simp only[CZ9,DQ6,DF1,or_imp,forall_and,forall_exists_index,and_imp,forall_apply_eq_imp_iff₂,forall_eq]
 have hn:(cs≠[]\/q≠.nil)↔0<((cs.map SD).map CC).length+(dB q).length:=by
  rw[<-AR7,<-List.length_pos_iff,<-List.length_pos_iff];simp only[CV1];lia
 rw[hc,hb,hn,CV1]
 constructor
 ·rintro⟨⟨⟨h1,h2,_⟩,h3⟩,h4⟩
  obtain⟨b',cs',q',e,hp⟩:=h3 trivial
  simp only[List.cons.injEq,D.tup.injEq,and_true] at e
  obtain⟨_,rfl,rfl⟩:=e
  exact⟨h1,h2,hp,h4⟩
 ·rintro⟨h1,h2,h3,h4⟩;exact⟨⟨⟨h1,h2,TQ⟩,fun _=>⟨_,_,_,rfl,h3⟩⟩,h4⟩
theorem AG8 [Pool](look:tblS.lookup h=some sh)(hl:r.length=sh.length)(nt:¬h="try"):J3 (lfD h r)↔∀p∈sh.zip r,C2 p.1 p.2:=by
 show L4 (lfD h r)/\True↔_
 rw[S8 (AG7 h r) look]
 exact⟨fun z=>z.1.2.1,fun z=>⟨⟨hl,z,fun y=>absurd y nt⟩,trivial⟩⟩
end K08
open L3
open K09 (C7 C4)
namespace K08
open PySem L2 L3 PK K10
open K09 (isN nmE O4 exN C2 L4 J3 E1 F8 cntK Et fits L8)
theorem AJ1 [Pool]:∀{l:List Blk},(∀b∈l,shB b)->AC1 (P0 l)
 | [],_=>trivial
 | b::r,h=>⟨h b CW4,AJ1 fun x hx=>h x (CW5 _ hx)⟩
theorem AG1 [Pool]{e:Ex}{a b:Blk}(he:S9 (eD e))(ha:shB a)(hb:shB b):shD (ifD e a b):=⟨⟨rfl,he⟩,ha,hb,trivial⟩
theorem BE7 [Pool]{e:Ex}{a:Blk}(he:S9 (eD e))(ha:shB a):shD (whD e a):=⟨⟨rfl,he⟩,ha,trivial⟩
theorem OH [Pool]{a:Blk}(hl:cs.length<=9)(hc:∀c∈cs,wdS c.1/\nS c.2.1/\shB c.2.2)(ha:shB a)(hq:shB q):shD (trD a cs q):=by
 refine⟨⟨?_,by rw[CV1];exact hl,fun c hc'=>?_⟩,ha,AJ1 fun b hb=>?_⟩
 ·show bsl (P0 _)+1=_
  rw[AQ6];simp
 ·obtain⟨c',h1,rfl⟩:=DQ6.mp hc'
  exact⟨(hc c' h1).1,(hc c' h1).2.1⟩
 ·rcases CZ9.mp hb with hb|hb
  ·obtain⟨c',h1,rfl⟩:=DQ6.mp hb
   exact(hc c' h1).2.2
  ·obtain rfl:b=q:=by simpa using hb
   exact hq
theorem AG9 [Pool](k:IW h r):shD (lfD h r):=⟨⟨rfl,k⟩,trivial⟩
theorem F7 (kds:List (Key×D)):U7 kds .nil:=fun x hx=>by simp[dsB] at hx
theorem N9 {r:Blk}(h1:GD kds d)(h2:U7 kds r):U7 kds (.cons d r):=fun x hx=>by
 rcases CZ9.mp (by simpa only [dsB] using hx) with hx|hx
 ·exact h1 x hx
 ·exact h2 x hx
theorem SN {h:Head}{bs:Bls}(own:∀t,Et t (.mk h bs)->fits kds t)(hb:∀b∈F6 bs,U7 kds b):GD kds (.mk h bs):=fun x hx t ht=>by
 rw[dsD] at hx
 rcases CV0.mp hx with rfl|hx
 ·exact own t ht
 ·rw[LN] at hx
  obtain⟨b,h1,h2⟩:=List.mem_flatMap.mp hx
  exact hb b h1 x h2 t ht
theorem TL {es:List Ex}(ed:dD d=.tup (.str hd::rest))(look:tblS.lookup hd=some sh)(pk:pick "expression" sh rest=es.map eD)
  (h:∀e∈es,CU kds e):∀t,Et t d->fits kds t:=by
 rintro t ⟨e,h1,h2⟩
 unfold L8 at h1
 rw[ed] at h1
 simp only[look,DL6,pk] at h1
 obtain⟨e',h3,h4⟩:=DQ6.mp h1
 rw[CS e e' h4.symm] at h2
 exact h e' h3 t h2
theorem SK {e:Ex}{a b:Blk}(he:CU kds e)(ha:U7 kds a)(hb:U7 kds b):GD kds (ifD e a b) :=
 SN (TL (AT8 e a b) (sh:=["expression","block","rest"]) (es:=[e]) (by decide +kernel) (by first|rfl|kernel_rfl) (by simpa using he)) (by simp[F6];exact⟨ha,hb⟩)
theorem ZM {e:Ex}{a:Blk}(he:CU kds e)(ha:U7 kds a):GD kds (whD e a) :=
 SN (TL (BE6 e a) (sh:=["expression","block"]) (es:=[e]) (by decide +kernel) (by first|rfl|kernel_rfl) (by simpa using he)) (by simp[F6];exact ha)
theorem GE {a:Blk}(ha:U7 kds a)(hc:∀c∈cs,U7 kds c.2.2)(hq:U7 kds q):GD kds (trD a cs q) :=
 SN (TL (OG a cs q) (sh:=["block","catches","rest"]) (es:=[]) (by decide +kernel) (by first|rfl|kernel_rfl) (by simp)) (by
  intro b hb
  simp only[F6,IU,CV0,CZ9,DQ6,CU9,or_false] at hb
  rcases hb with rfl|⟨c,h1,rfl⟩|rfl
  ·exact ha
  ·exact hc c h1
  ·exact hq)
theorem SM {es:List Ex}(look:tblS.lookup h=some sh)(pk:pick "expression" sh r=es.map eD)(he:∀e∈es,CU kds e):GD kds (lfD h r) :=
 SN (TL (AG7 h r) look pk he) (by simp[F6])
theorem AF6 (kds:List (Key×D))(k:Int):CU kds (.num k):=fun t ht=>by
 obtain rfl:t=.num k:=by simpa[trE] using ht
 trivial
theorem F4 (kds:List (Key×D)):CU kds .none:=fun t ht=>by
 obtain rfl:t=.none:=by simpa[trE] using ht
 trivial
theorem BU3 [Pool](h:k<100):S9 (eD (.num k)):=⟨.num k,rfl,⟨by unfold PK.G7;lia,by unfold PK.G7;lia⟩,by simp[nd],by simp[dp]⟩
theorem BU2 [Pool](h:k<100):exN (eD (.num k)):=⟨.num k,rfl,by show bnd k;unfold bnd PK.G7;lia,by simp[nd],by simp[dp],trivial⟩
theorem F1 [Pool]:S9 (eD .none):=⟨.none,rfl,trivial,by simp[nd],by simp[dp]⟩
theorem F0 [Pool]:exN (eD .none):=⟨.none,rfl,trivial,by simp[nd],by simp[dp],trivial⟩
theorem note_look:tblS.lookup ("note":Str)=some (["expression"]:List Str)/\¬("note":Str)="try":=by decide +kernel
theorem AW3 [Pool](h:k<100):shD (nt k):=AG9 (.inr (.inl ⟨.inl rfl,_,rfl,BU3 h⟩))
theorem AW2 [Pool](h:k<100):J3 (nt k):=(AG8 note_look.1 rfl note_look.2).mpr (by
 simp only[DH0,DJ8,CV0,CU9,or_false,forall_eq,po_exp];exact BU2 h)
theorem ZS (kds:List (Key×D))(k:Nat):GD kds (nt k):=SM (es:=[.num k]) note_look.1 (by first|rfl|kernel_rfl) (by simpa using AF6 kds k)
theorem CS2 (k:Nat):dD (nt k)=.tup [.str "note",.tup [.str "number",.int k]]:=by
 show D.tup (.str "note"::[eD (.num k)])=_
 simp only[eD]
theorem CO:∀l:List Deed,dB (ofL l)=l.map dD
 | []=>by simp[ofL,dB]
 | d::r=>by simp[ofL,dB,CO r]
theorem J0:∀l:List Deed,toL (ofL l)=l
 | []=>by simp[ofL,toL]
 | d::r=>by simp[ofL,toL,J0 r]
theorem IM [Pool]:∀b:Blk,shB b↔∀d∈toL b,shD d
 | .nil=>by simp[toL,shB]
 | .cons d r=>by simp[toL,shB,IM r]
theorem CT (kds:List (Key×D)):∀b:Blk,(∀d∈toL b,GD kds d)->U7 kds b
 | .nil,_=>F7 kds
 | .cons d r,h=>N9 (h d (by simp[toL])) (CT kds r fun x hx=>h x (by simp[toL,hx]))
structure Nts [Pool](b:Blk)(n:Nat):Prop where
 sh:shB b
 ok:E1 b
 cnt:C0 b=n
 dep:dpB b=0
 fit:∀kds,U7 kds b
theorem OF:∀l:List Deed,(∀d∈l,F2 d=1)->(l.map F2).sum=l.length
 | [],_=>rfl
 | d::r,h=>by simp[h d CW4,OF r fun x hx=>h x (CW5 _ hx)];lia
theorem nts [Pool](h:n<=40):Nts (ntB n) n:=by
 have hm:∀d∈toL (ntB n),∃k,k<100/\d=nt k:=fun d hd=>by
  unfold ntB at hd
  rw[J0] at hd
  obtain⟨k,h1,rfl⟩:=DQ6.mp hd
  exact⟨k,by have:=List.mem_range.mp h1;lia,rfl⟩
 refine⟨(IM _).mpr fun d hd=>?_,(R5 _).mpr fun d hd=>?_,?_,?_,fun kds=>CT kds _ fun d hd=>?_⟩
 ·obtain⟨k,h1,rfl⟩:=hm d hd;exact AW3 h1
 ·obtain⟨k,h1,rfl⟩:=hm d hd;exact AW2 h1
 ·rw[<-Z6,OF _ fun d hd=>by obtain⟨k,h1,rfl⟩:=hm d hd;rfl]
  unfold ntB;rw[J0];simp
 ·have:=(AO 0 (ntB n)).mpr fun d hd=>by obtain⟨k,h1,rfl⟩:=hm d hd;exact CW1 0
  lia
 ·obtain⟨k,h1,rfl⟩:=hm d hd;exact ZS kds k
theorem OW:∀ds M Q,JV ds M Q->ds.length=1:=by rintro _ _ _ ⟨_,rfl,_⟩;rfl
theorem UB:∀ds M Q,JV ds M Q->Y2 {nx:=fun _ M'=>View Q .non M',rt:=View Q} (B3 KE ds) M:=by
 rintro _ M Q ⟨k,rfl,q⟩
 unfold Y2
 walk_at "w"
 rw[<-CS2]
 exact View.of q
theorem MP:∀ds M Q,D8 ds M Q->ds.length=1:=by rintro _ _ _ ⟨_,rfl,_⟩;rfl
theorem PO:∀ds M Q,D8 ds M Q->T8 {nx:=fun _ M'=>View Q .non M',rt:=View Q} (B3 GZ ds) M:=by
 rintro _ M Q ⟨n,rfl,hn,q⟩
 unfold T8
 walk_at "w"
 refine⟨by lia,by lia,?_⟩
 walk_at "w"
 rw[DA6]
 refine G4 (CV7 n) (fun k=>D.int (k:Nat)) (fun k=>dD (nt k)) (by rw[CZ1,CX1];lia) ?_ ?_
 ·intro k hk M2 R F _ hR
  walk_at "w"
  exact⟨k,rfl,hR⟩
 ·walk_at "w"
  have e:(CV7 n).map (fun k=>dD (nt k))=dB (ntB n):=by unfold ntB;rw[CO,DA8];rfl
  rw[e]
  exact View.of q
end K08
open L3
open K09 (C7 C4)
namespace K08
open PySem L2 L3 PK K10
open K09 (isN nmE O4 exN C2 L4 J3 E1 F8 cntK Et fits L8 P4)
theorem BZ (h:(decide (1<=x.length) && (decide (x.length<=8) && x.cps.toList.all fun c=>decide (97<=c) && decide (c<=122)))=true):nm x:=by
 simp only[CX9,decide_eq_true_eq,CX4] at h
 exact⟨h.2.2,h.1,h.2.1⟩
theorem S6 (h:nm x):wdS x:=⟨P4 h,by have:=h.2.2;lia⟩
theorem CD:nm "e":=BZ (by decide +kernel)
theorem x_isN:isN "x":=⟨BZ (by decide +kernel),by decide +kernel⟩
def P1 (d:Deed):Blk:=.cons d .nil
theorem JJ (d:Deed):P1 d≠.nil:=fun h=>by cases h
theorem L0:ntB 1≠.nil:=fun h=>by cases h
theorem GJ [Pool]:E1 (P1 d)↔J3 d:=⟨fun h=>h.1,fun h=>⟨h,trivial⟩⟩
theorem NB (d:Deed):dpB (P1 d)=dpD d:=by simp[P1,dpB]
theorem EN (d:Deed):C0 (P1 d)=F2 d:=by simp[P1,C0]
def fm (d:Deed):Nat->Deed
 | 0=>ifD .none (P1 d) .nil
 | 1=>ifD .none (ntB 1) (P1 d)
 | 2=>whD .none (P1 d)
 | 3=>trD (P1 d) [("e","x",ntB 1)] .nil
 | 4=>trD (ntB 1) [("e","x",P1 d)] (ntB 1)
 | _+5=>trD (ntB 1) [] (P1 d)
theorem CR0 [Pool]{b:Blk}(h:b≠.nil):∀c∈[(("e":Str),("x":Str),b)],nm c.1/\isN c.2.1/\c.2.2≠.nil:=by
 simp only[CV0,CU9,or_false,forall_eq];exact⟨CD,x_isN,h⟩
theorem fmW [Pool](hx:nS "x")(d:Deed):∀i,Wr d (fm d i) 1
 | 0=>⟨fun s=>AG1 F1 ⟨s,trivial⟩ trivial,by
   rw[fm,if_ok,GJ];exact⟨fun h=>h.2.2.1,fun h=>⟨F0,JJ d,h,trivial⟩⟩,
   by simp[fm,ifD,F2,E8,C0,P1];lia,by simp[fm,ifD,dpD,J1,dpB,P1];lia,fun kds h=>SK (F4 kds) (N9 h (F7 kds)) (F7 kds)⟩
 | 1=>by
  have hn:=nts (n:=1) (by decide)
  refine⟨fun s=>AG1 F1 hn.sh ⟨s,trivial⟩,?_,?_,?_,fun kds h=>SK (F4 kds) (hn.fit kds) (N9 h (F7 kds))⟩
  ·rw[fm,if_ok,GJ];exact⟨fun h=>h.2.2.2,fun h=>⟨F0,L0,hn.ok,h⟩⟩
  ·have:=hn.cnt;simp only[fm,ifD,F2,E8,EN];lia
  ·have:=hn.dep;simp only[fm,ifD,dpD,J1,NB];lia
 | 2=>⟨fun s=>BE7 F1 ⟨s,trivial⟩,by
   rw[fm,wh_ok,GJ];exact⟨fun h=>h.2.2,fun h=>⟨F0,JJ d,h⟩⟩,
   by simp[fm,whD,F2,E8,C0,P1];lia,by simp[fm,whD,dpD,J1,dpB,P1];lia,fun kds h=>ZM (F4 kds) (N9 h (F7 kds))⟩
 | 3=>by
  have hn:=nts (n:=1) (by decide)
  refine⟨fun s=>OH (by decide) (by simp only[CV0,CU9,or_false,forall_eq];exact⟨S6 CD,hx,hn.sh⟩) ⟨s,trivial⟩ trivial,?_,?_,?_,fun kds h=>GE (N9 h (F7 kds)) (by simpa using hn.fit kds) (F7 kds)⟩
  ·rw[fm,tr_ok,GJ];exact⟨fun h=>h.2.2.2.1,fun h=>⟨JJ d,⟨by decide,CR0 L0⟩,.inl (by simp),h,by simpa using hn.ok,trivial⟩⟩
  ·have:=hn.cnt;simp only[fm,trD,F2,E8,EN,CW9,CZ3,DD6,DC4,P0,C0];lia
  ·have:=hn.dep;simp only[fm,trD,dpD,J1,NB,CW9,CZ3,DD6,DC4,P0,dpB];lia
 | 4=>by
  have hn:=nts (n:=1) (by decide)
  refine⟨fun s=>OH (by simp) (by simp only[CV0,CU9,or_false,forall_eq];exact⟨S6 CD,hx,s,trivial⟩) hn.sh hn.sh,?_,?_,?_,fun kds h=>GE (hn.fit kds) (by simp only[CV0,CU9,or_false,forall_eq];exact N9 h (F7 kds)) (hn.fit kds)⟩
  ·rw[fm,tr_ok]
   simp only[CV0,CU9,or_false,forall_eq,GJ]
   exact⟨fun h=>h.2.2.2.2.1,fun h=>⟨L0,⟨by simp,CD,x_isN,JJ d⟩,.inl (by simp),hn.ok,h,hn.ok⟩⟩
  ·have:=hn.cnt;simp only[fm,trD,F2,E8,EN,CW9,CZ3,DD6,DC4,P0];lia
  ·have:=hn.dep;simp only[fm,trD,dpD,J1,NB,CW9,CZ3,DD6,DC4,P0];lia
 | _+5=>by
  have hn:=nts (n:=1) (by decide)
  refine⟨fun s=>OH (by decide) (by simp) hn.sh ⟨s,trivial⟩,?_,?_,?_,fun kds h=>GE (hn.fit kds) (by simp) (N9 h (F7 kds))⟩
  ·rw[fm,tr_ok,GJ];exact⟨fun h=>h.2.2.2.2.2,fun h=>⟨L0,⟨by decide,by simp⟩,.inr (JJ d),hn.ok,by simp,h⟩⟩
  ·have:=hn.cnt;simp only[fm,trD,F2,E8,EN,CZ3,DC4,P0];lia
  ·have:=hn.dep;simp only[fm,trD,dpD,J1,NB,CZ3,DC4,P0];lia
theorem dB1:dB (ntB 1)=[dD (nt 0)]:=by unfold ntB;rw[CO];rfl
theorem fmD (d:Deed):dD (fm d 0)=.tup [.str "if",.tup [.str "none"],.tup [dD d],.tup []]/\dD (fm d 1)=.tup [.str "if",.tup [.str "none"],.tup (dB (ntB 1)),.tup [dD d]]/\dD (fm d 2)=.tup [.str "while",.tup [.str "none"],.tup [dD d]] /\
  dD (fm d 3)=.tup [.str "try",.tup [dD d],.tup [.tup [.str "e",.str "x",.tup (dB (ntB 1))]],.tup []]/\dD (fm d 4)=.tup [.str "try",.tup (dB (ntB 1)),.tup [.tup [.str "e",.str "x",.tup [dD d]]],.tup (dB (ntB 1))] /\
  dD (fm d 5)=.tup [.str "try",.tup (dB (ntB 1)),.tup [],.tup [dD d]]:=by
 refine⟨?_,?_,?_,?_,?_,?_⟩<;>simp[fm,AT8,BE6,OG,P1,dB,eD,SD,CC]
theorem LC:∀ds M Q,DW ds M Q->ds.length=2:=by rintro _ _ _ ⟨_,_,_,_,rfl,_⟩;rfl
theorem NE:∀ds M Q,DW ds M Q->Q9 {nx:=fun _ M'=>View Q .non M',rt:=View Q} (B3 FI ds) M:=by
 rintro _ M Q ⟨P,p,b,d,rfl,hx,hP,hb,q⟩
 have hz:CV8=16777216:=CX1
 obtain⟨g0,g1,g2,g3,g4,g5⟩:=fmD d
 unfold Q9
 walk_at "w"
 refine⟨1,rfl,by decide,?_⟩
 walk_at "w"
 rw[<-g0,<-g1,<-g2,<-g3,<-g4]
 refine K6 (by simp only[CV6,CY0];lia) ?_
 walk_at "w"
 rw[<-g5]
 refine K6 (by simp only[CV6,CY0,CW3];lia) ?_
 walk_at "w"
 refine draw hP (by lia) (by decide) (by decide) fun way M1 w0 w1 hP1 e1=>?_
 walk_at "w"
 obtain⟨i,rfl,hi⟩:∃i:Nat,way=i/\i<6:=⟨way.toNat,by lia,by lia⟩
 refine L1 (d:=dD (fm d i)) (L2.G3 ?_) ?_
 ·match i,hi with
  | 0,_|1,_|2,_|3,_|4,_|5,_=>rfl
 ·exact View.of (q _ M1 (fmW hx d i) hP1 e1)
theorem LD:∀ds M Q,DZ ds M Q->ds.length=3:=by rintro _ _ _ ⟨_,_,_,_,_,rfl,_⟩;rfl
theorem NF:∀ds M Q,DZ ds M Q->R0 {nx:=fun _ M'=>View Q .non M',rt:=View Q} (B3 FJ ds) M:=by
 rintro _ M Q ⟨P,p,b,d,n,rfl,hx,hn,hP,hb,q⟩
 unfold R0
 walk_at "w"
 refine⟨by lia,by lia,?_⟩
 walk_at "w"
 rw[DA6]
 refine⟨fun k σ M'=>(∃d' s3,σ=[some (.ref p),some (dD d'),some (.int n),s3]/\Wr d d' k)/\Pen M' p (b+k)/\Same3 p M M',⟨⟨d,none,rfl,Wr.zero d⟩,hP,Same3.refl⟩,?_,?_⟩
 ·rintro k d0 σ M' hk ⟨⟨d',s3,rfl,u⟩,hP',hs⟩
  have hkn:k<n:=by
   have h:=(List.getElem?_eq_some_iff.mp hk).1
   simpa using h
  walk_at "w"
  refine⟨P,p,_,d',rfl,hx,hP',by lia,fun d2 M2 u2 hP2 hs2=>?_⟩
  walk_at "w"
  exact⟨⟨d2,_,rfl,u.step u2⟩,by rw[<-Nat.add_assoc];exact hP2,hs.trans hs2⟩
 ·rintro σ M' ⟨⟨d',s3,rfl,u⟩,hP',hs⟩
  simp only[CV1,CZ1] at u hP'
  walk_at "w"
  exact View.of (q d' M' u (D6 hP' (by lia)) hs)
end K08
open L3
open K09 (C7 C4)
namespace K08
open PySem L2 L3 PK K10
open K09 (isN nmE O4 exN C2 L4 J3 E1 F8 cntK Et fits L8 P4)
def ntL (n:Nat):List Deed:=(CV7 n).map nt
structure Bl [Pool](l:List Deed)(n:Nat):Prop where
 sh:∀d∈l,shD d
 ok:∀d∈l,J3 d
 cnt:(l.map F2).sum=n
 dep:∀d∈l,dpD d<=1
 fit:∀kds,∀d∈l,GD kds d
theorem TC [Pool](h:n<=40):Bl (ntL n) n:=by
 have hm:∀d∈ntL n,∃k,k<100/\d=nt k:=fun d hd=>by
  obtain⟨k,h1,rfl⟩:=DQ6.mp hd
  exact⟨k,by have:=List.mem_range.mp h1;lia,rfl⟩
 refine⟨fun d hd=>?_,fun d hd=>?_,?_,fun d hd=>?_,fun kds d hd=>?_⟩
 ·obtain⟨k,h1,rfl⟩:=hm d hd;exact AW3 h1
 ·obtain⟨k,h1,rfl⟩:=hm d hd;exact AW2 h1
 ·rw[OF _ fun d hd=>by obtain⟨k,h1,rfl⟩:=hm d hd;rfl];simp[ntL]
 ·obtain⟨k,h1,rfl⟩:=hm d hd;exact DC3 _
 ·obtain⟨k,h1,rfl⟩:=hm d hd;exact ZS kds k
theorem Bl.app [Pool]{l r:List Deed}{m:Nat}(a:Bl l m)(b:Bl r n):Bl (l++r) (m+n) :=
 ⟨fun d hd=>(CZ9.mp hd).elim (a.sh d) (b.sh d),fun d hd=>(CZ9.mp hd).elim (a.ok d) (b.ok d),by rw[CX6,DM8,a.cnt,b.cnt],
  fun d hd=>(CZ9.mp hd).elim (a.dep d) (b.dep d),fun kds d hd=>(CZ9.mp hd).elim (a.fit kds d) (b.fit kds d)⟩
theorem Bl.one [Pool](sh:shD d)(ok:J3 d)(dep:dpD d<=1)(fit:∀kds,GD kds d):Bl [d] (F2 d):=by
 refine⟨?_,?_,by simp,?_,fun kds=>?_⟩<;>simp only[CV0,CU9,or_false,forall_eq]
 ·exact sh
 ·exact ok
 ·exact dep
 ·exact fit kds
theorem ZE:(100:Int)<2^200:=by decide +kernel
theorem MN:∀ds M Q,DX ds M Q->ds.length=2:=by rintro _ _ _ ⟨_,_,_,_,rfl,_⟩;rfl
theorem PN:∀ds M Q,DX ds M Q->T7 {nx:=fun _ M'=>View Q .non M',rt:=View Q} (B3 GY ds) M:=by
 rintro _ M Q ⟨P,p,b,n,rfl,h1,h40,hP,hb,q⟩
 have hz:CV8=16777216:=CX1
 have fin:∀l M',Bl l n->Pen M' p (b+2)->Same3 p M M'->View Q (.tup (l.map dD)) M':=fun l M' B hP' hs=>by
  rw[<-CO]
  refine View.of (q (ofL l) M' ((IM _).mpr ?_) ((R5 _).mpr ?_) ?_ ((AO 1 _).mpr ?_) (fun kds=>CT kds _ ?_) hP' hs)
  ·rw[J0];exact B.sh
  ·rw[J0];exact B.ok
  ·rw[<-Z6,J0];exact B.cnt
  ·rw[J0];exact B.dep
  ·rw[J0];exact B.fit kds
 have hnt:∀k,dB (ntB k)=(ntL k).map dD:=fun k=>by unfold ntB;rw[CO];rfl
 unfold T7
 walk_at "w"
 refine draw hP (by lia) (by decide) (by decide) fun way M1 w0 w1 hP1 e1=>?_
 walk_at "w"
 have flat:View Q (.tup (dB (ntB n))) M1:=by rw[hnt];exact fin _ M1 (TC h40) (D6 hP1 (by lia)) e1
 by_cases hw:way=0
 ·refine B7 (by rw[hw];rfl) ?_
  walk_at "w"
  exact⟨n,rfl,h40,flat⟩
 refine A8 (beq_eq_false_iff_ne.mpr hw) ?_
 walk_at "w"
 by_cases h4:n<4
 ·refine B7 (decide_eq_true (by lia)) ?_
  walk_at "w"
  exact⟨n,rfl,h40,flat⟩
 refine A8 (decide_eq_false (by lia)) ?_
 walk_at "w"
 refine draw hP1 (by lia) (show(0:Int)<(n:Int)-2 by lia) (by have:=ZE;lia) fun f M2 f0 f1 hP2 e2=>?_
 obtain⟨i,rfl⟩:∃i:Nat,f=i:=⟨f.toNat,by lia⟩
 have hs2:=e1.trans e2
 walk_at "w"
 have c1:(1:Int)+(i:Int)=((i+1:Nat):Int):=by lia
 have c2:(n:Int)-1-((i+1:Nat):Int)=((n-1-(i+1):Nat):Int):=by lia
 have A:=nts (n:=i+1) (by lia)
 have B:=nts (n:=n-1-(i+1)) (by lia)
 have ne:∀{k},Nts (ntB (k+1)) (k+1)->ntB (k+1)≠.nil:=fun h e=>by have:=h.cnt;rw[e] at this;simp[C0] at this
 obtain⟨j,hj⟩:∃j,n-1-(i+1)=j+1:=⟨n-1-(i+1)-1,by lia⟩
 by_cases hw1:way=1
 ·refine B7 (by rw[hw1];rfl) ?_
  walk_at "w"
  rw[c1]
  refine⟨i+1,rfl,by lia,?_⟩
  walk_at "w"
  rw[c2]
  refine⟨_,rfl,by lia,?_⟩
  walk_at "w"
  have X:=Bl.one (d:=ifD .none (ntB (i+1)) (ntB (n-1-(i+1)))) (AG1 F1 A.sh B.sh) (if_ok.mpr ⟨F0,ne A,A.ok,B.ok⟩) (by simp only[ifD,dpD,J1,A.dep,B.dep];decide) fun kds=>SK (F4 kds) (A.fit kds) (B.fit kds)
  rw[show F2 (ifD .none (ntB (i+1)) (ntB (n-1-(i+1))))=n from by simp only[ifD,F2,E8,A.cnt,B.cnt];lia] at X
  exact fin _ M2 X (D6 hP2 (by lia)) hs2
 refine A8 (beq_eq_false_iff_ne.mpr hw1) ?_
 walk_at "w"
 by_cases hw2:way=2
 ·refine B7 (by rw[hw2];rfl) ?_
  walk_at "w"
  rw[c1,c2]
  refine⟨_,rfl,by lia,?_⟩
  walk_at "w"
  refine⟨i+1,rfl,by lia,?_⟩
  walk_at "w"
  refine LT (by rw[hnt,CV1];simp[ntL];lia) ?_
  have X:=(TC (n:=n-1-(i+1)) (by lia)).app (Bl.one (d:=whD .none (ntB (i+1))) (BE7 F1 A.sh) (wh_ok.mpr ⟨F0,ne A,A.ok⟩) (by simp only[whD,dpD,J1,A.dep];decide) fun kds=>ZM (F4 kds) (A.fit kds))
  rw[show n-1-(i+1)+F2 (whD .none (ntB (i+1)))=n from by simp only[whD,F2,E8,A.cnt];lia] at X
  rw[hnt (n-1-(i+1))]
  have:=fin _ M2 X (D6 hP2 (by lia)) hs2
  rw[CX6] at this
  exact this
 refine A8 (beq_eq_false_iff_ne.mpr hw2) ?_
 walk_at "w"
 rw[c1]
 refine⟨i+1,rfl,by lia,?_⟩
 walk_at "w"
 rw[c2]
 refine⟨_,rfl,by lia,?_⟩
 walk_at "w"
 have X:=Bl.one (d:=trD (ntB (i+1)) [] (ntB (n-1-(i+1)))) (OH (by simp) (by simp) A.sh B.sh) (tr_ok.mpr ⟨ne A,⟨by simp,by simp⟩,.inr (by rw[hj];rw[hj] at B;exact ne B),A.ok,by simp,B.ok⟩)
  (by simp only[trD,dpD,J1,A.dep,B.dep,CZ3,DC4,P0];decide) fun kds=>GE (A.fit kds) (by simp) (B.fit kds)
 rw[show F2 (trD (ntB (i+1)) [] (ntB (n-1-(i+1))))=n from by simp only[trD,F2,E8,A.cnt,B.cnt,CZ3,DC4,P0];lia] at X
 have:=fin _ M2 X (D6 hP2 (by lia)) hs2
 rw[show[trD (ntB (i+1)) [] (ntB (n-1-(i+1)))].map dD=[.tup [.str "try",.tup (dB (ntB (i+1))),.tup [],.tup (dB (ntB (n-1-(i+1))))]] from by simp[OG]] at this
 exact this
end K08
open L3
open K09 (C7 C4)
namespace K08
open PySem L2 L3 PK K10
open K09 (isN nmE O4 exN C2 L4 J3 E1 F8 cntK Et fits L8 P4)
theorem one_isN:isN "one":=⟨BZ (by decide +kernel),by decide +kernel⟩
structure Xp [Pool](e:Ex):Prop where
 sh:shE e
 wf:wf e
 nm:nmE e
 fit:∀kds,JI kds->CU kds e
theorem LX [Pool]:Xp .none:=⟨trivial,trivial,trivial,fun kds _=>F4 kds⟩
theorem BS6 {s:Str}{a b:Ex}(ha:CU kds a)(hb:CU kds b):CU kds (.op s a b):=fun t ht=>by
 simp only[trE,CV0,CZ9] at ht
 rcases ht with rfl|ht|ht
 ·trivial
 ·exact ha t ht
 ·exact hb t ht
theorem AT1 {a:Ex}(h:JI kds)(ha:CU kds a):CU kds (.make "one" (.cons a .nil)):=fun t ht=>by
 simp only[trE,GW,CV0,DF7] at ht
 rcases ht with rfl|ht
 ·exact h
 ·exact ha t ht
theorem BE9 [Pool]{s:Str}{a b:Ex}(hs:sgn s)(ha:Xp a)(hb:Xp b):Xp (.op s a b):=⟨⟨hs,ha.sh,hb.sh⟩,⟨hs,ha.wf,hb.wf⟩,⟨ha.nm,hb.nm⟩,fun kds h=>BS6 (ha.fit kds h) (hb.fit kds h)⟩
theorem AK0 [Pool]{a:Ex}(ha:Xp a):Xp (.make "one" (.cons a .nil)):=⟨⟨S6 one_isN.1,by simp[exl],ha.sh,trivial⟩,⟨one_isN.1,by simp[exl],ha.wf,trivial⟩,⟨one_isN,ha.nm,trivial⟩,fun kds h=>AT1 h (ha.fit kds h)⟩
theorem CY:∀n ds M Q,Q7 n ds M Q->ds.length=1:=by rintro _ _ _ _ ⟨_,_,rfl,_⟩;rfl
theorem LI:∀ds M Q,¬Q7 0 ds M Q:=by rintro _ _ _ ⟨_,_,_,_,h,_⟩;simp at h;lia
theorem PP:∀n ds M Q,Q7 (n+1) ds M Q->T9 (Q7 n) {nx:=fun _ M'=>View Q .non M',rt:=View Q} (B3 HB ds) M:=by
 rintro n _ M Q ⟨P,m,rfl,h1,hm,q⟩
 unfold T9
 have fin:∀e,Xp e->nd e=m->dp e<=n+1+1->View Q (eD e) M:=fun e X a b=>View.of (q e X.sh X.wf X.nm a b X.fit)
 walk_at "w"
 by_cases m1:m=1
 ·refine B7 (by rw[m1];rfl) ?_
  walk_at "w"
  have:=fin .none LX (by rw[m1];simp[nd]) (by simp only[dp];lia)
  simpa only [eD] using this
 refine A8 (beq_eq_false_iff_ne.mpr (by lia)) ?_
 walk_at "w"
 by_cases m2:m=2
 ·refine B7 (by rw[m2];rfl) ?_
  walk_at "w"
  have:=fin (.make "one" (.cons .none .nil)) (AK0 LX) (by rw[m2];simp[nd,nds]) (by simp only[dp,dps];lia)
  simpa only [eD,eDs] using this
 refine A8 (beq_eq_false_iff_ne.mpr (by lia)) ?_
 walk_at "w"
 refine⟨⟨by decide,by decide +kernel⟩,?_⟩
 walk_at "w"
 have c1:((m:Int)-1) / 2=(((m-1) / 2:Nat):Int):=by lia
 have c2:(m:Int)-1-(((m-1) / 2:Nat):Int)=((m-1-(m-1) / 2:Nat):Int):=by lia
 dsimp only
 rw[c1]
 have hp:(2:Nat)^(n+1)=2*2^n:=by rw[Nat.pow_succ];lia
 have half:2*((m-1) / 2+1)<=3*2^n/\2*(m-1-(m-1) / 2+1)<=3*2^n:=by
  rw[hp] at hm
  have par:2^n=1\/∃t,2^n=2*t:=by cases n with|zero=>exact .inl rfl|succ k=>exact .inr ⟨2^k,by rw[Nat.pow_succ];lia⟩
  generalize 2^n=T at par hm ⊢
  rcases par with rfl|⟨t,rfl⟩<;>omega
 refine⟨P,_,rfl,by lia,half.1,fun a a1 a2 a3 a4 a5 a6=>?_⟩
 walk_at "w"
 rw[c2]
 refine⟨P,_,rfl,by omega,half.2,fun b b1 b2 b3 b4 b5 b6=>?_⟩
 walk_at "w"
 have:=fin (.op "+" a b) (BE9 (.inl rfl) ⟨a1,a2,a3,a6⟩ ⟨b1,b2,b3,b6⟩) (by simp only[nd];lia) (by simp only[dp];lia)
 simpa only [eD] using this
theorem CU4 [Pool](hx:nS "x"):Xp (.var "x"):=⟨hx,⟨x_isN.1,hx.2 x_isN.1⟩,x_isN,fun kds _ t ht=>by
 obtain rfl:t=.var "x":=by simpa[trE] using ht
 trivial⟩
theorem OU:∀ds M Q,NV ds M Q->ds.length=2:=by rintro _ _ _ ⟨_,_,_,_,rfl,_⟩;rfl
theorem TZ:∀ds M Q,NV ds M Q->Y1 {nx:=fun _ M'=>View Q .non M',rt:=View Q} (B3 KC ds) M:=by
 rintro _ M Q ⟨P,p,b,m,rfl,hx,h1,h6,hP,hb,q⟩
 unfold Y1
 walk_at "w"
 refine⟨by lia,by lia,?_⟩
 walk_at "w"
 have c1:((m:Int)-1).toNat=m-1:=by lia
 rw[c1]
 refine⟨fun k σ M'=>(∃e s3 s4,σ=[some (.ref p),some (.int m),some (eD e),s3,s4]/\Xp e/\dp e=k+1/\nd e<=2*(k+1))/\Pen M' p (b+k)/\Same3 p M M',
  ⟨⟨.var "x",none,none,by rw[show eD (.var "x")=.tup [.str "var",.str "x"] from by simp only[eD]];rfl,CU4 hx,by simp[dp],by simp[nd]⟩,hP,Same3.refl⟩,?_,?_⟩
 ·rintro k d0 σ M' hk ⟨⟨e,s3,s4,rfl,X,hd,hn⟩,hP',hs⟩
  have hkn:k<m-1:=by
   have h:=(List.getElem?_eq_some_iff.mp hk).1
   simpa using h
  walk_at "w"
  refine draw hP' (by lia) (by decide) (by decide) fun way M2 w0 w1 hP2 e2=>?_
  walk_at "w"
  have hw:way=0\/way=1\/way=2:=by lia
  rcases hw with rfl|rfl|rfl
  ·refine L1 (d:=eD (.op "-" e .none)) (by simp only[eD];rfl) ?_
   walk_at "w"
   exact⟨⟨.op "-" e .none,_,_,rfl,BE9 (.inr (.inl rfl)) X LX,by simp only[dp];lia,by simp only[nd];lia⟩,by rw[<-Nat.add_assoc];exact hP2,hs.trans e2⟩
  ·refine L1 (d:=eD (.op "*" .none e)) (by simp only[eD];rfl) ?_
   walk_at "w"
   exact⟨⟨.op "*" .none e,_,_,rfl,BE9 (.inr (.inr (.inl rfl))) LX X,by simp only[dp];lia,by simp only[nd];lia⟩,by rw[<-Nat.add_assoc];exact hP2,hs.trans e2⟩
  ·refine L1 (d:=eD (.make "one" (.cons e .nil))) (by simp only[eD,eDs];rfl) ?_
   walk_at "w"
   exact⟨⟨.make "one" (.cons e .nil),_,_,rfl,AK0 X,by simp only[dp,dps];lia,by simp only[nd,nds];lia⟩,by rw[<-Nat.add_assoc];exact hP2,hs.trans e2⟩
 ·rintro σ M' ⟨⟨e,s3,s4,rfl,X,hd,hn⟩,hP',hs⟩
  simp only[CV1,CZ1] at hd hn hP'
  walk_at "w"
  exact View.of (q e M' X.sh X.wf X.nm (by lia) (by lia) X.fit (D6 hP' (by lia)) hs)
end K08
open L3
open K09 (C7 C4)
local macro_rules | `(tactic| walk_at "pa")=>`(tactic| simp only[DH0,DJ8,CV0,CU9,or_false,forall_eq_or_imp,forall_eq,K08.LP,K08.LQ,K08.po_exp])
local macro_rules | `(tactic| walk_at "pk")=>`(tactic| first|rfl|kernel_rfl)
namespace K08
open PySem L2 L3 PK K10
open K09 (isN nmE O4 exN C2 L4 J3 E1 F8 cntK Et fits L8 P4)
theorem Z9 [Pool]{es:List Ex}{G:Prop}(look:tblS.lookup h=some sh)(hl:r.length=sh.length)(nt:¬h="try")(k:IW h r)(ok:(∀p∈sh.zip r,C2 p.1 p.2)↔G)
  (pk:pick "expression" sh r=es.map eD) (fit:∀kds,JI kds->∀e∈es,CU kds e):Dd (lfD h r) G/\dpD (lfD h r)<=1 :=
 ⟨⟨AG9 k,(AG8 look hl nt).trans ok,by simp[lfD,F2,E8],by simp[lfD,dpD,J1],fun kds o=>SM look pk (fit kds o)⟩,by simp[lfD,dpD,J1]⟩
theorem MC:¬(("e":Str)="any"):=by decide +kernel
def wth (e:Ex):Nat->Deed
 | 0=>lfD "let" [.str "x",eD e]
 | 1=>lfD "note" [eD e]
 | 2=>lfD "give" [.str "x",eD e]
 | 3=>lfD "on" [.str "x",eD e]
 | 4=>lfD "ask" [.str "x",.str "x",eD e,eD .none]
 | 5=>lfD "ask" [.str "x",.str "x",eD .none,eD e]
 | 6=>lfD "close" [eD e]
 | 7=>lfD "cast" [.str "x",.str "x",eD e,.str "e",eD .none]
 | 8=>lfD "cast" [.str "x",.str "x",eD .none,.str "e",eD e]
 | 9=>lfD "end" [eD e]
 | 10=>lfD "fault" [.str "e",eD e]
 | 11=>whD e (ntB 1)
 | _+12=>ifD e (ntB 1) .nil
section
variable [Pool]{e:Ex}(hx:nS "x")(he:S9 (eD e))(hf:∀kds,JI kds->CU kds e)
include hx he hf
theorem CE7 (hh:h="let"\/h="give"\/h="on"):Dd (lfD h [.str "x",eD e]) (exN (eD e))/\dpD (lfD h [.str "x",eD e])<=1:=by
 have lk:tblS.lookup h=some (["name","expression"]:List Str)/\¬h="try":=by rcases hh with rfl|rfl|rfl<;>decide +kernel
 exact Z9 (es:=[e]) lk.1 rfl lk.2 (.inl ⟨hh,_,_,rfl,hx,he⟩) (by walk_at "pa";exact⟨fun h=>h.2,fun h=>⟨x_isN,h⟩⟩) (by walk_at "pk") (by simpa using hf)
theorem CE8 (hh:h="note"\/h="close"\/h="end"):Dd (lfD h [eD e]) (exN (eD e))/\dpD (lfD h [eD e])<=1:=by
 have lk:tblS.lookup h=some (["expression"]:List Str)/\¬h="try":=by rcases hh with rfl|rfl|rfl<;>decide +kernel
 exact Z9 (es:=[e]) lk.1 rfl lk.2 (.inr (.inl ⟨hh,_,rfl,he⟩)) (by walk_at "pa") (by walk_at "pk") (by simpa using hf)
theorem BE8:∀i,Dd (wth e i) (exN (eD e))/\dpD (wth e i)<=1
 | 0=>CE7 hx he hf (.inl rfl)
 | 1=>CE8 hx he hf (.inl rfl)
 | 2=>CE7 hx he hf (.inr (.inl rfl))
 | 3=>CE7 hx he hf (.inr (.inr rfl))
 | 4=>Z9 (sh:=["name","name","expression","expression"]) (es:=[e,.none]) (by decide +kernel) rfl (by decide +kernel) (.inr (.inr (.inl ⟨rfl,_,_,_,_,rfl,hx,hx,he,F1⟩))) (by walk_at "pa";exact⟨fun h=>h.2.2.1,fun h=>⟨x_isN,x_isN,h,F0⟩⟩) (by walk_at "pk") (by simpa[F4] using hf)
 | 5=>Z9 (sh:=["name","name","expression","expression"]) (es:=[.none,e]) (by decide +kernel) rfl (by decide +kernel) (.inr (.inr (.inl ⟨rfl,_,_,_,_,rfl,hx,hx,F1,he⟩))) (by walk_at "pa";exact⟨fun h=>h.2.2.2,fun h=>⟨x_isN,x_isN,F0,h⟩⟩) (by walk_at "pk") (by simpa[F4] using hf)
 | 6=>CE8 hx he hf (.inr (.inl rfl))
 | 7=>Z9 (sh:=["name","name","expression","word","expression"]) (es:=[e,.none]) (by decide +kernel) rfl (by decide +kernel) (.inr (.inr (.inr (.inl ⟨rfl,_,_,_,_,_,rfl,hx,hx,S6 CD,he,F1⟩)))) (by walk_at "pa";exact⟨fun h=>h.2.2.1,fun h=>⟨x_isN,x_isN,h,⟨CD,MC⟩,F0⟩⟩) (by walk_at "pk") (by simpa[F4] using hf)
 | 8=>Z9 (sh:=["name","name","expression","word","expression"]) (es:=[.none,e]) (by decide +kernel) rfl (by decide +kernel) (.inr (.inr (.inr (.inl ⟨rfl,_,_,_,_,_,rfl,hx,hx,S6 CD,F1,he⟩)))) (by walk_at "pa";exact⟨fun h=>h.2.2.2.2,fun h=>⟨x_isN,x_isN,F0,⟨CD,MC⟩,h⟩⟩) (by walk_at "pk") (by simpa[F4] using hf)
 | 9=>CE8 hx he hf (.inr (.inr rfl))
 | 10=>Z9 (sh:=["word","expression"]) (es:=[e]) (by decide +kernel) rfl (by decide +kernel) (.inr (.inr (.inr (.inr ⟨rfl,_,_,rfl,S6 CD,he⟩)))) (by walk_at "pa";exact⟨fun h=>h.2,fun h=>⟨⟨CD,MC⟩,h⟩⟩) (by walk_at "pk") (by simpa using hf)
 | 11=>by
  have hn:=nts (n:=1) (by decide)
  have e1:dpD (wth e 11)=1:=by simp only[wth,whD,dpD,J1,hn.dep];decide
  refine⟨⟨BE7 he hn.sh,?_,by simp only[wth,whD,F2,E8,hn.cnt];decide,by lia,fun kds o=>ZM (hf kds o) (hn.fit kds)⟩,by lia⟩
  rw[wth,wh_ok];exact⟨fun h=>h.1,fun h=>⟨h,L0,hn.ok⟩⟩
 | _+12=>by
  have hn:=nts (n:=1) (by decide)
  have e1:dpD (ifD e (ntB 1) .nil)=1:=by simp only[ifD,dpD,J1,hn.dep,dpB];decide
  refine⟨⟨AG1 he hn.sh trivial,?_,by simp only[wth,ifD,F2,E8,hn.cnt,C0];decide,by rw[wth];lia,fun kds o=>SK (hf kds o) (hn.fit kds) (F7 kds)⟩,by rw[wth];lia⟩
  rw[wth,if_ok];exact⟨fun h=>h.1,fun h=>⟨h,L0,hn.ok,trivial⟩⟩
end
theorem OX:∀ds M Q,JW ds M Q->ds.length=2:=by rintro _ _ _ ⟨_,_,_,_,rfl,_⟩;rfl
theorem UC:∀ds M Q,JW ds M Q->Y3 {nx:=fun _ M'=>View Q .non M',rt:=View Q} (B3 KG ds) M:=by
 rintro _ M Q ⟨P,p,b,e,rfl,hx,he,hf,hP,hb,q⟩
 have hz:CV8=16777216:=CX1
 have hbare:D.tup [.str "none"]=eD .none:=by simp only[eD]
 unfold Y3
 walk_at "w"
 refine⟨1,rfl,by decide,?_⟩
 walk_at "w"
 refine K6 (by simp only[CV6,CY0];lia) ?_
 walk_at "w"
 refine K6 (by simp only[CV6,CY0,CW3];lia) ?_
 walk_at "w"
 refine K6 (by simp only[CV6,CY0,CW3];lia) ?_
 walk_at "w"
 refine K6 (by simp only[CV6,CY0,CW3];lia) ?_
 walk_at "w"
 refine draw hP (by lia) (by decide) (by decide) fun way M1 w0 w1 hP1 e1=>?_
 walk_at "w"
 rw[hbare]
 obtain⟨i,rfl,hi⟩:∃i:Nat,way=i/\i<13:=⟨way.toNat,by lia,by lia⟩
 refine L1 (d:=dD (wth e i)) (L2.G3 ?_) ?_
 ·match i,hi with
  | 0,_|1,_|2,_|3,_|4,_|5,_|6,_|7,_|8,_|9,_|10,_|11,_|12,_=>rfl
 ·exact View.of (q _ M1 (BE8 hx he hf i).1 (BE8 hx he hf i).2 hP1 e1)
theorem CL (h:wdS x):Sm 9 0 (.str x):=Sm.str (by
 rw[CX4]
 intro c hc
 have:=(h.1.2 x rfl).2 c hc
 simp;lia) 9 h.2
theorem BQ9 {n:Int}(h:-PK.G7<=n/\n<=PK.G7):Sm 101 0 (.int n):=by
 have hn:n.natAbs<2^100:=by unfold PK.G7 at h;lia
 have hd:n.natAbs<10^31:=by unfold PK.G7 at h;lia
 have h2:n.natAbs.log2<100:=by
  by_cases h0:n.natAbs=0
  ·rw[h0];decide +kernel
  ·exact(Nat.log2_lt h0).mpr hn
 refine⟨rfl,by simp[pyD,DQ3];lia,rfl,?_,?_,by simp[pyD,DI5],by simp[pyD,DK5]⟩
 ·simp only[pyD,PyData.leavesShort,decide_eq_true_eq]
  have e:=int_text_length_le10 (k:=31) (by decide) hd
  show(DJ4 (toString n)).length<=40
  rw[ofString_length];lia
 ·simp only[pyD,PyData.weight];split<;>lia
mutual
theorem SJ [Pool]:∀(e:Ex),shE e->Sm (130*nd e) (2*dp e) (eD e)
 | .none,_=>Sm.tup (w:=130) (n:=0) (SmL.cons (Sm.str (by decide +kernel) 4 (by decide +kernel)) SmL.nil (v:=0)) (by simp[dp])
 | .num n,h=>Sm.tup (w:=130) (n:=0) (SmL.cons (Sm.str (by decide +kernel) 6 (by decide +kernel)) (SmL.cons (BQ9 h) SmL.nil (v:=0) (u:=102))) (by simp[dp])
 | .var x,h=>Sm.tup (w:=130) (n:=0) (SmL.cons (Sm.str (by decide +kernel) 3 (by decide +kernel)) (SmL.cons (CL h.1) SmL.nil (v:=0) (u:=102))) (by simp[dp])
 | .op s a b,h=>by
  have ha:=SJ a h.2.1
  have hb:=SJ b h.2.2
  have e1:nd (.op s a b)=1+nd a+nd b:=rfl
  have e2:dp (.op s a b)=1+max (dp a) (dp b):=rfl
  rw[e1,e2]
  exact Sm.tup (n:=2*max (dp a) (dp b)) (SmL.cons ((Sm.str (by decide +kernel) 2 (by decide +kernel)).mono (v:=2)) (SmL.cons ((CC9 h.1).mono (v:=1)) (SmL.cons (ha.mono (v:=130*nd a)) (SmL.cons (hb.mono (v:=130*nd b)) SmL.nil (v:=0) (u:=130*nd b+1)) (u:=130*nd a+130*nd b+2)) (u:=130*nd a+130*nd b+4)))
 | .make r as,h=>by
  have ha:=AF2 as h.2.2
  have hl:=h.2.1
  have e1:nd (.make r as)=1+nds as:=rfl
  have e2:dp (.make r as)=1+dps as:=rfl
  rw[e1,e2]
  exact Sm.tup (n:=2*dps as+1) (SmL.cons ((Sm.str (by decide +kernel) 4 (by decide +kernel)).mono (v:=4)) (SmL.cons ((CL h.1).mono (v:=9)) (SmL.cons (Sm.tup (m:=2*dps as+1) ha) SmL.nil (v:=0) (u:=130*nds as+exl as+1)) (u:=130*nds as+exl as+11)))
theorem AF2 [Pool]:∀(as:Exs),AO8 as->SmL (130*nds as+exl as) (2*dps as) (eDs as)
 | .nil,_=>SmL.nil
 | .cons a r,h=>by
  have ha:=SJ a h.1
  have hr:=AF2 r h.2
  have e1:nds (.cons a r)=nd a+nds r:=rfl
  have e2:dps (.cons a r)=max (dp a) (dps r):=rfl
  have e3:exl (.cons a r)=exl r+1:=rfl
  rw[e1,e2,e3]
  exact SmL.cons (ha.mono (v:=130*nd a)) (hr.mono (v:=130*nds r+exl r))
end
theorem AR [Pool]{d:D}(h:S9 d):Sm 1950 16 d:=by
 obtain⟨e,rfl,h1,h2,h3⟩:=h
 exact(SJ e h1).mono
theorem AV1 [Pool](hl:IW h r):Sm 4000 17 (.tup (.str h::r)):=by
 have hs:Sm 5 16 (.str h):=by
  rcases hl with⟨h1|h1|h1,_⟩|⟨h1|h1|h1,_⟩|⟨h1,_⟩|⟨h1,_⟩|⟨h1,_⟩<;>subst h1<;>exact(Sm.str (by decide +kernel) 5 (by decide +kernel)).mono
 rcases hl with⟨_,x,e,rfl,hx,he⟩|⟨_,e,rfl,he⟩|⟨_,x,y,g,e,rfl,hx,hy,hg,he⟩|⟨_,x,y,g,w,e,rfl,hx,hy,hw,hg,he⟩|⟨_,w,e,rfl,hw,he⟩
 ·exact Sm.tup (n:=16) (SmL.cons hs (SmL.cons ((CL hx.1).mono (v:=9)) (SmL.cons (AR he) SmL.nil (v:=0) (u:=1951)) (u:=1961)))
 ·exact Sm.tup (n:=16) (SmL.cons hs (SmL.cons (AR he) SmL.nil (v:=0) (u:=1951)))
 ·exact Sm.tup (n:=16) (SmL.cons hs (SmL.cons ((CL hx.1).mono (v:=9)) (SmL.cons ((CL hy.1).mono (v:=9)) (SmL.cons (AR hg) (SmL.cons (AR he) SmL.nil (v:=0) (u:=1951)) (u:=3902)) (u:=3912)) (u:=3922)))
 ·exact Sm.tup (n:=16) (SmL.cons hs (SmL.cons ((CL hx.1).mono (v:=9)) (SmL.cons ((CL hy.1).mono (v:=9)) (SmL.cons (AR hg) (SmL.cons ((CL hw).mono (v:=9)) (SmL.cons (AR he) SmL.nil (v:=0) (u:=1951)) (u:=1961)) (u:=3912)) (u:=3922)) (u:=3932)))
 ·exact Sm.tup (n:=16) (SmL.cons hs (SmL.cons ((CL hw).mono (v:=9)) (SmL.cons (AR he) SmL.nil (v:=0) (u:=1951)) (u:=1961)))
theorem AE2:∀(cs:List (Str×Str)) (ts:List D) (w n:Nat),(∀c∈cs,wdS c.1/\wdS c.2)->SmL w n ts->SmL (w+30*cs.length) (n+1) (J7 cs ts)
 | [],ts,w,n,_,_=>by cases ts<;>exact SmL.nil
 | (a,b)::cs,[],w,n,_,_=>SmL.nil
 | (a,b)::cs,t::ts,w,n,hc,h=>by
  have h1:Sm (pyD t).weight n t:=by
   have:=h.pl;have h2:=h.sh;have h3:=h.nd;have h4:=h.lf;have h5:=h.dp;have h6:=h.cl
   simp only[V0,V1,DN3,DO1,DK9,DJ6,DH4,CX9,DH9] at *
   exact⟨this.1,h2.1,h3.1,h4.1,CW1 _,by lia,h6.1⟩
  have h2:SmL (w-(pyD t).weight-1) n ts:=by
   have:=h.pl;have h2:=h.sh;have h3:=h.nd;have h4:=h.lf;have h5:=h.dp;have h6:=h.cl;have h7:=h.wt
   simp only[V0,V1,DN3,DO1,DK9,DJ6,DH4,DP5,CX9,DH9] at *
   exact⟨this.2,h2.2,h3.2,h4.2,by lia,by lia,h6.2⟩
  have h7:=h.wt
  simp only[V1,DP5] at h7
  have h8:=AE2 cs ts _ n (fun c hc'=>hc c (CW5 _ hc')) h2
  obtain⟨ha,hb⟩:=hc (a,b) CW4
  show SmL _ _ (.tup [.str a,.str b,t]::J7 cs ts)
  exact SmL.cons (Sm.tup (w:=(pyD t).weight+22) (n:=n) (SmL.cons ((CL ha).mono (v:=9)) (SmL.cons ((CL hb).mono (v:=9)) (SmL.cons h1 SmL.nil (v:=0) (u:=(pyD t).weight+1)) (u:=(pyD t).weight+11)))) h8 (by simp only[CV6];lia)
def K9:List Blk->Nat
 | []=>0
 | b::l=>4100*C0 b+1+K9 l
theorem RO:∀(l k:List Blk),K9 (l++k)=K9 l+K9 k
 | [],k=>by simp[K9]
 | b::l,k=>by
  show 4100*C0 b+1+K9 (l++k)=4100*C0 b+1+K9 l+K9 k
  rw[RO l k];lia
theorem OE:∀bs:Bls,K9 (F6 bs)=4100*E8 bs+bsl bs
 | .nil=>rfl
 | .cons b r=>by
  show 4100*C0 b+1+K9 (F6 r)=4100*(C0 b+E8 r)+(bsl r+1)
  rw[OE r];lia
theorem ID {n:Nat}:∀(l:List Blk),(∀b∈l,SmL (4100*C0 b) n (dB b))->SmL (K9 l) (n+1) (l.map PK.tB)
 | [],_=>SmL.nil
 | b::l,h=>by
  show SmL (4100*C0 b+1+K9 l) _ (PK.tB b::l.map PK.tB)
  exact SmL.cons (Sm.tup (m:=n+1) (h b CW4)) (ID l fun x hx=>h x (CW5 _ hx))
mutual
theorem BS0 [Pool]:∀(d:Deed),shD d->Sm (4100*F2 d-50) (18+4*dpD d) (dD d)
 | .mk h bs,hk=>by
  have hall:=WC bs hk.2
  have hs:=OE bs
  have hc:F2 (.mk h bs)=1+E8 bs:=rfl
  have hd:dpD (.mk h bs)=J1 bs:=rfl
  have hall2:∀b∈F6 bs,SmL (4100*C0 b) (14+4*J1 bs) (dB b):=fun b hb=>(hall b hb).mono (h2:=by have:=(MW bs b hb).2.1;lia)
  have hk1:=hk.1
  rw[hc,hd]
  show Sm _ _ (QW h (dTs bs))
  rw[GB]
  have hlen:=IT bs
  cases h with
  | leaf h r=>exact(AV1 hk1.2).mono
  | ife e =>
   have h0:=hk1.1
   exact Sm.tup (n:=16+4*J1 bs) (SmL.cons ((Sm.str (by decide +kernel) 2 (by decide +kernel)).mono (v:=2)) (SmL.cons ((AR hk1.2).mono (v:=1950)) ((ID _ hall2).mono (v:=K9 (F6 bs))) (u:=1951+K9 (F6 bs))))
  | whl e =>
   have h0:=hk1.1
   exact Sm.tup (n:=16+4*J1 bs) (SmL.cons ((Sm.str (by decide +kernel) 5 (by decide +kernel)).mono (v:=5)) (SmL.cons ((AR hk1.2).mono (v:=1950)) ((ID _ hall2).mono (v:=K9 (F6 bs))) (u:=1951+K9 (F6 bs))))
  | tr cs =>
   obtain⟨h0,h1,h2⟩:=hk1
   obtain⟨b0,ms,l,he,hml⟩:∃b0 ms l,F6 bs=b0::(ms++[l])/\ms.length=cs.length:=by
    match e:F6 bs with
    | []=>rw[e] at hlen;simp at hlen;lia
    | b0::r =>
     rw[e] at hlen
     simp only[CV6] at hlen
     have hne:r≠[]:=by intro z;rw[z] at hlen;simp at hlen;lia
     exact⟨b0,r.dropLast,r.getLast hne,by rw[List.dropLast_concat_getLast],by rw[List.length_dropLast];lia⟩
   rw[he] at hall2 hs ⊢
   have ex:QW (.tr cs) ((b0::(ms++[l])).map PK.tB)=.tup [.str "try",PK.tB b0,.tup (J7 cs (ms.map PK.tB)),PK.tB l]:=by
    show D.tup [.str "try",PK.tB b0,.tup (J7 cs ((ms++[l]).map PK.tB)),((b0::(ms++[l])).map PK.tB).getD (cs.length+1) (.tup [])]=_
    rw[CX6,VW cs (ms.map PK.tB) _ (by rw[CV1];lia)]
    have hg:((b0::(ms++[l])).map PK.tB).getD (cs.length+1) (.tup [])=PK.tB l:=by
     rw[<-hml]
     simp[DN0]
    rw[hg]
   rw[ex]
   have hb0:=hall2 b0 CW4
   have hl:=hall2 l (by simp)
   have hms:=ID ms fun b hb=>hall2 b (by simp[hb])
   have hcat:=AE2 cs (ms.map PK.tB) _ _ (fun c hc=>⟨(h2 c hc).1,(h2 c hc).2.1⟩) hms
   have hsum:K9 (b0::(ms++[l]))=4100*C0 b0+1+(K9 ms+(4100*C0 l+1+0)):=by
    show 4100*C0 b0+1+K9 (ms++[l])=_
    rw[RO];rfl
   exact Sm.tup (n:=17+4*J1 bs) (SmL.cons ((Sm.str (by decide +kernel) 3 (by decide +kernel)).mono (v:=3)) (SmL.cons (Sm.tup (w:=4100*C0 b0) (m:=17+4*J1 bs) hb0) (SmL.cons (Sm.tup (w:=K9 ms+30*cs.length) (m:=17+4*J1 bs) hcat) (SmL.cons (Sm.tup (w:=4100*C0 l) (m:=17+4*J1 bs) hl) SmL.nil (v:=0) (u:=4100*C0 l+1)) (u:=K9 ms+30*cs.length+4100*C0 l+2)) (u:=4100*C0 b0+K9 ms+30*cs.length+4100*C0 l+3)))
theorem SG [Pool]:∀(b:Blk),shB b->SmL (4100*C0 b) (18+4*dpB b) (dB b)
 | .nil,_=>SmL.nil
 | .cons d r,h=>by
  have h1:=BS0 d h.1
  have h2:=SG r h.2
  have hc:C0 (.cons d r)=F2 d+C0 r:=rfl
  have hd:dpB (.cons d r)=max (dpD d) (dpB r):=rfl
  have hp:=AQ9 d
  rw[hc,hd]
  show SmL _ _ (dD d::dB r)
  exact SmL.cons (h1.mono (v:=4100*F2 d-50)) (h2.mono (v:=4100*C0 r))
theorem WC [Pool]:∀(bs:Bls),AC1 bs->∀b∈F6 bs,SmL (4100*C0 b) (18+4*dpB b) (dB b)
 | .nil,_,b,hb=>by cases hb
 | .cons c r,h,b,hb=>by
  rcases CV0.mp hb with e|hb
  ·rw[e];exact SG c h.1
  ·exact WC r h.2 b hb
end
theorem AJ2:∀{xs:List Str},(∀x∈xs,isN x)->SmL (10*xs.length) 0 (xs.map D.str)
 | [],_=>SmL.nil
 | x::r,h=>by
  show SmL _ _ (.str x::r.map D.str)
  exact SmL.cons (Sm.nm (h x CW4).1) (AJ2 (xs:=r) fun y hy=>h y (CW5 _ hy)) (by simp only[CV6];lia)
theorem CN2 [Pool]{r:Rl}(h:rSh r)(hd:dpB r.blk<=8):Sm (4100*C0 r.blk+150) 52 (rD r):=by
 obtain⟨h1,h2,h3,h4,h5,h6⟩:=h
 exact Sm.tup (n:=51) (SmL.cons ((Sm.nm h1.1).mono (v:=8)) (SmL.cons ((Sm.tup (m:=1) (AJ2 h3)).mono (v:=90)) (SmL.cons ((Sm.tup (m:=51) (SG r.blk h6)).mono (v:=4100*C0 r.blk)) SmL.nil (v:=0) (u:=4100*C0 r.blk+1)) (u:=4100*C0 r.blk+92)))
theorem BB7 [Pool]:∀{rs:List Rl},(∀r∈rs,rSh r/\dpB r.blk<=8)->SmL (4100*(rs.map fun r=>C0 r.blk).sum+151*rs.length) 52 (rs.map rD)
 | [],_=>SmL.nil
 | r::l,h=>by
  have h1:=h r CW4
  show SmL _ _ (rD r::l.map rD)
  exact SmL.cons (CN2 h1.1 h1.2) (BB7 (rs:=l) fun y hy=>h y (CW5 _ hy)) (by simp only[CV6,CW9,DG4];lia)
theorem V9 [Pool](h:∀r∈rs,rSh r/\dpB r.blk<=8)(hl:rs.length<=10)(hc:(rs.map fun r=>C0 r.blk).sum<=90):shown rs :=
 Sm.show (Sm.tup (m:=53) (BB7 h)) (by lia)
end K08
open L3
open K09 (C7 C4)
namespace K08
open PySem L2 L3 PK K10
open K09 (isN nmE O4 exN C2 L4 J3 E1 F8 cntK Et fits L8 P4)
theorem BV [Pool]{r:Rl}(hb:okB r.blk)(hp:Pool.ps.length<=9)(h3:r.pars.length<=3):ZA r:=fun ys nd mem=>by
 have:=K10.AS ys Pool.ps nd fun y hy=>AH5 hb ((mem y).mp hy).1
 lia
theorem BB6:isN "rest":=⟨BZ (by decide +kernel),by decide +kernel⟩
theorem CL7:isN "p":=⟨BZ (by decide +kernel),by decide +kernel⟩
def rOne:Rl:=⟨"one",["p"],ntB 1⟩
def J2 (l:List Deed):Rl:=⟨"rest",[],ofL l⟩
theorem LR [Pool]:rSh rOne:=⟨one_isN,by simp[rOne],by simp only[rOne,CV0,CU9,or_false,forall_eq];exact CL7,by simp[rOne],by rw[show C0 rOne.blk=1 from (nts (n:=1) (by decide)).cnt];decide,(nts (n:=1) (by decide)).sh⟩
theorem AI4 [Pool](hp:Pool.ps.length<=9):TV rOne:=by
 have hn:=nts (n:=1) (by decide)
 exact⟨by simp[rOne],L0,⟨hn.ok,by rw[show dpB rOne.blk=0 from hn.dep];decide,by rw[show C0 rOne.blk=1 from hn.cnt];decide⟩,BV (U9 hn.sh hn.ok) hp (by simp[rOne])⟩
theorem BN7 [Pool]{G:Prop}(h:Dd d G)(hp:Pool.ps.length<=9)(hi:i<=2)(hj:j<=1) :
  rSh (J2 (ntL i++[d]++ntL j))/\dpB (J2 (ntL i++[d]++ntL j)).blk<=8/\C0 (J2 (ntL i++[d]++ntL j)).blk<=28/\(∀kds,JI kds->U7 kds (J2 (ntL i++[d]++ntL j)).blk)/\(TV (J2 (ntL i++[d]++ntL j))↔G/\dpD d<=4):=by
 have A:=TC (n:=i) (by lia)
 have B:=TC (n:=j) (by lia)
 have hl:∀(Pd:Deed->Prop),(∀x∈ntL i,Pd x)->Pd d->(∀x∈ntL j,Pd x)->∀x∈toL (J2 (ntL i++[d]++ntL j)).blk,Pd x:=fun Pd a b c x hx=>by
  rw[show toL (J2 (ntL i++[d]++ntL j)).blk=ntL i++[d]++ntL j from J0 _] at hx
  rcases CZ9.mp hx with hx|hx
  ·rcases CZ9.mp hx with hx|hx
   ·exact a x hx
   ·obtain rfl:x=d:=by simpa using hx
    exact b
  ·exact c x hx
 have hm:d∈toL (J2 (ntL i++[d]++ntL j)).blk:=by rw[show toL (J2 (ntL i++[d]++ntL j)).blk=ntL i++[d]++ntL j from J0 _];simp
 have hc:C0 (J2 (ntL i++[d]++ntL j)).blk=i+F2 d+j:=by
  rw[<-Z6,show toL (J2 (ntL i++[d]++ntL j)).blk=ntL i++[d]++ntL j from J0 _]
  simp only[CX6,DM8,A.cnt,B.cnt,CW9,CZ3,DG4,DL7];lia
 have hs:shB (J2 (ntL i++[d]++ntL j)).blk:=(IM _).mpr (hl _ A.sh h.sh B.sh)
 have h25:=h.cnt
 refine⟨⟨BB6,by simp[J2],by simp[J2],by simp[J2],by lia,hs⟩,(AO 8 _).mpr (hl _ (fun x hx=>by have:=A.dep x hx;lia) h.dep (fun x hx=>by have:=B.dep x hx;lia)),by lia,
  fun kds o=>CT kds _ (hl _ (A.fit kds) (h.fit kds o) (B.fit kds)),fun z=>⟨h.ok.mp ((R5 _).mp z.2.2.1.1 d hm),?_⟩,fun z=>?_⟩
 ·exact(AO 4 _).mp (by have:=z.2.2.1.2.1;lia) d hm
 ·have ok:E1 (J2 (ntL i++[d]++ntL j)).blk:=(R5 _).mpr (hl _ A.ok (h.ok.mpr z.1) B.ok)
  refine⟨by simp[J2],fun e=>?_,⟨ok,?_,by lia⟩,BV (U9 hs ok) hp (by simp[J2])⟩
  ·rw[e] at hm;simp[toL] at hm
  ·have:=(AO 4 _).mpr (hl _ (fun x hx=>by have:=A.dep x hx;lia) z.2 (fun x hx=>by have:=B.dep x hx;lia));lia
theorem KP:¬(("one":Str)="rest")/\¬(("rest":Str)="one"):=by decide +kernel
theorem AW6 (l:List Deed):JI (cntK [rOne,J2 l])/\JI (cntK [J2 l,rOne]):=⟨by unfold JI;first|rfl|kernel_rfl,by unfold JI;first|rfl|kernel_rfl⟩
theorem AE0 [Pool]{G:Prop}(h:Dd d G)(hp:Pool.ps.length<=9)(hi:i<=2)(hj:j<=1)(hr:rs=[rOne,J2 (ntL i++[d]++ntL j)]\/rs=[J2 (ntL i++[d]++ntL j),rOne]) :
  OP rs/\shown rs/\(FE rs↔G/\dpD d<=4):=by
 obtain⟨s1,s2,s3,s4,s5⟩:=BN7 h hp hi hj
 have hn:=nts (n:=1) (by decide)
 have c1:C0 rOne.blk=1:=hn.cnt
 have d1:dpB rOne.blk=0:=hn.dep
 have f1:∀kds,U7 kds rOne.blk:=hn.fit
 have o:=AW6 (ntL i++[d]++ntL j)
 rcases hr with rfl|rfl
 ·refine⟨⟨by simp,by simp only[CV0,CU9,or_false,forall_eq_or_imp,forall_eq];exact⟨LR,s1⟩,by lia,by simp[rOne,J2,KP],by simp only[CV0,CU9,or_false,forall_eq_or_imp,forall_eq];exact⟨f1 _,s4 _ o.1⟩⟩,
   V9 (by simp only[CV0,CU9,or_false,forall_eq_or_imp,forall_eq];exact⟨⟨LR,by lia⟩,s1,s2⟩) (by simp) (by simp only[CW9,CZ3,DG4,DL7];lia),?_⟩
  unfold FE
  simp only[CV0,CU9,or_false,forall_eq_or_imp,forall_eq,s5,AI4 hp,true_and]
  simp
 ·refine⟨⟨by simp,by simp only[CV0,CU9,or_false,forall_eq_or_imp,forall_eq];exact⟨s1,LR⟩,by lia,by simp[rOne,J2,KP],by simp only[CV0,CU9,or_false,forall_eq_or_imp,forall_eq];exact⟨s4 _ o.2,f1 _⟩⟩,
   V9 (by simp only[CV0,CU9,or_false,forall_eq_or_imp,forall_eq];exact⟨⟨s1,s2⟩,LR,by lia⟩) (by simp) (by simp only[CW9,CZ3,DG4,DL7];lia),?_⟩
  unfold FE
  simp only[CV0,CU9,or_false,forall_eq_or_imp,forall_eq,s5,AI4 hp,and_true]
  simp
end K08
open L3
open K09 (C7 C4)
namespace K08
open PySem L2 L3 PK K10
open K09 (isN nmE O4 exN C2 L4 J3 E1 F8 cntK Et fits L8 P4)
theorem hnt (k:Nat):dB (ntB k)=(ntL k).map dD:=by unfold ntB;rw[CO];rfl
theorem BY1:D.tup [.str "one",.tup [.str "p"],.tup (dB (ntB 1))]=rD rOne:=rfl
theorem BM6 (l:List Deed):D.tup [.str "rest",.tup [],.tup (l.map dD)]=rD (J2 l):=by rw[<-CO];rfl
theorem BN5 {x y:D}{Q:DK}(h:Q (.lst [y,x]) M):BA8 (.lst [x,y]) M Q:=h
theorem MM:∀ds M Q,T5 ds M Q->ds.length=2:=by rintro _ _ _ ⟨_,_,_,_,_,rfl,_⟩;rfl
theorem PM:∀ds M Q,T5 ds M Q->T6 {nx:=fun _ M'=>View Q .non M',rt:=View Q} (B3 GX ds) M:=by
 rintro _ M Q ⟨P,p,b,d,G,rfl,h,hp,hP,hb,q⟩
 have hz:CV8=16777216:=CX1
 unfold T6
 walk_at "w"
 refine draw hP (by lia) (by decide) (by decide) fun f M1 f0 f1 hP1 e1=>?_
 obtain⟨i,rfl⟩:∃i:Nat,f=i:=⟨f.toNat,by lia⟩
 walk_at "w"
 refine⟨i,rfl,by lia,?_⟩
 walk_at "w"
 rw[hnt]
 refine LT (by simp[ntL];lia) ?_
 walk_at "w"
 refine draw hP1 (by lia) (by decide) (by decide) fun f M2 g0 g1 hP2 e2=>?_
 obtain⟨j,rfl⟩:∃j:Nat,f=j:=⟨f.toNat,by lia⟩
 walk_at "w"
 refine⟨j,rfl,by lia,?_⟩
 walk_at "w"
 rw[hnt]
 refine LT (by simp[ntL];lia) ?_
 walk_at "w"
 refine⟨1,rfl,by decide,?_⟩
 walk_at "w"
 have el:(ntL i).map dD++[dD d]++(ntL j).map dD=(ntL i++[d]++ntL j).map dD:=by simp
 rw[el,BY1,BM6]
 refine UM ?_
 walk_at "w"
 refine BN5 ?_
 walk_at "w"
 refine draw hP2 (by lia) (by decide) (by decide) fun w M3 w0 w1 hP3 e3=>?_
 have hs:=(e1.trans e2).trans e3
 walk_at "w"
 have hw:w=0\/w=1:=by lia
 rcases hw with rfl|rfl
 ·refine L1 (d:=.lst ([rOne,J2 (ntL i++[d]++ntL j)].map rD)) rfl ?_
  walk_at "w"
  obtain⟨a1,a2,a3⟩:=AE0 h hp (i:=i) (j:=j) (by lia) (by lia) (.inl rfl)
  exact View.of (q _ M3 a1 a2 a3 (D6 hP3 (by lia)) hs)
 ·refine L1 (d:=.lst ([J2 (ntL i++[d]++ntL j),rOne].map rD)) rfl ?_
  walk_at "w"
  obtain⟨a1,a2,a3⟩:=AE0 h hp (i:=i) (j:=j) (by lia) (by lia) (.inr rfl)
  exact View.of (q _ M3 a1 a2 a3 (D6 hP3 (by lia)) hs)
end K08
open L3
open K09 (C7 C4)
namespace K08
open PySem L2 L3 PK K10
open K09 (isN nmE O4 exN C2 L4 J3 E1 F8 cntK Et fits L8 P4)
instance P8:Pool:=⟨["x","y","abcdefgh"]⟩
theorem O5:(@Pool.ps P8).length<=9:=by decide
theorem YV:@nS P8 "x":=⟨S6 x_isN.1,fun _=>by show("x":Str)∈(["x","y","abcdefgh"]:List Str);simp⟩
theorem CZ:∀ds M Q,K1 ds M Q->ds.length=1:=by rintro _ _ _ ⟨_,_,rfl,_⟩;rfl
theorem GH:∀ds M Q,K1 ds M Q->ds.length=1:=CZ
theorem II:∀ds M Q,K1 ds M Q->K7 {nx:=fun _ M'=>View Q .non M',rt:=View Q} (B3 Z4 ds) M:=by
 rintro _ M Q ⟨p,b,rfl,hP,hb,q⟩
 unfold K7
 walk_at "w"
 refine draw hP (by lia) (by decide) (by decide) fun f M1 f0 f1 hP1 e1=>?_
 obtain⟨i,rfl⟩:∃i:Nat,f=i:=⟨f.toNat,by lia⟩
 have c1:(2:Int)+(i:Int)=((i+2:Nat):Int):=by lia
 walk_at "w"
 refine⟨1,rfl,?_⟩
 walk_at "w"
 rw[c1]
 refine⟨P8,p,_,nt 1,i+2,rfl,YV,by lia,hP1,by lia,fun d M2 u hP2 e2=>?_⟩
 walk_at "w"
 have hc:=u.cnt
 have hd:=u.dep
 have h1:F2 (nt 1)=1:=rfl
 have h2:dpD (nt 1)=0:=rfl
 have D:@Dd P8 d True:=⟨u.sh (AW3 (by decide)),u.ok.trans ⟨fun _=>trivial,fun _=>AW2 (by decide)⟩,by lia,by lia,fun kds _=>u.fit kds (ZS kds 1)⟩
 refine⟨P8,p,_,d,True,rfl,D,O5,hP2,by lia,fun rs M3 a1 a2 a3 hP3 e3=>?_⟩
 walk_at "w"
 refine View.of (q P8 rs _ M3 a1 a2 ?_ (D6 hP3 (by lia)))
 rw[a3,decide_eq_true_eq]
 exact⟨fun h=>⟨trivial,by lia⟩,fun h=>by lia⟩
theorem Z8:∀ds M Q,K1 ds M Q->ds.length=1:=CZ
theorem AW:∀ds M Q,K1 ds M Q->G0 {nx:=fun _ M'=>View Q .non M',rt:=View Q} (B3 P2 ds) M:=by
 rintro _ M Q ⟨p,b,rfl,hP,hb,q⟩
 unfold G0
 walk_at "w"
 refine draw hP (by lia) (by decide) (by decide) fun f M1 f0 f1 hP1 e1=>?_
 obtain⟨i,rfl⟩:∃i:Nat,f=i:=⟨f.toNat,by lia⟩
 have c1:(7:Int)+(i:Int)=((i+7:Nat):Int):=by lia
 walk_at "w"
 rw[c1]
 refine draw hP1 (by lia) (by decide) (by decide) fun f M2 g0 g1 hP2 e2=>?_
 obtain⟨j,rfl⟩:∃j:Nat,f=j:=⟨f.toNat,by lia⟩
 have c2:(3:Int)+(j:Int)=((j+3:Nat):Int):=by lia
 walk_at "w"
 rw[c2]
 refine draw hP2 (by lia) (by decide) (by decide) fun w M3 w0 w1 hP3 e3=>?_
 walk_at "w"
 by_cases hw:w=0
 ·refine B7 (by rw[hw];rfl) ?_
  walk_at "w"
  refine⟨P8,i+7,rfl,by lia,by lia,fun e h1 h2 h3 h4 h5 h6=>?_⟩
  walk_at "w"
  refine⟨P8,p,_,e,rfl,YV,⟨e,rfl,h1,by lia,by lia⟩,h6,hP3,by lia,fun d M4 D dd hP4 e4=>?_⟩
  walk_at "w"
  refine⟨P8,p,_,d,_,rfl,D,O5,hP4,by lia,fun rs M5 a1 a2 a3 hP5 e5=>?_⟩
  walk_at "w"
  refine View.of (q P8 rs _ M5 a1 a2 ?_ (D6 hP5 (by lia)))
  rw[a3,decide_eq_true_eq,exN_iff]
  exact⟨fun h=>⟨⟨⟨h2,h3,by lia⟩,by lia⟩,by lia⟩,fun h=>by have:=h.1.2;lia⟩
 ·refine A8 (beq_eq_false_iff_ne.mpr hw) ?_
  walk_at "w"
  refine⟨P8,p,_,j+3,rfl,YV,by lia,by lia,hP3,by lia,fun e M4 h1 h2 h3 h4 h5 h6 hP4 e4=>?_⟩
  walk_at "w"
  refine⟨P8,p,_,e,rfl,YV,⟨e,rfl,h1,by lia,by lia⟩,h6,hP4,by lia,fun d M5 D dd hP5 e5=>?_⟩
  walk_at "w"
  refine⟨P8,p,_,d,_,rfl,D,O5,hP5,by lia,fun rs M6 a1 a2 a3 hP6 e6=>?_⟩
  walk_at "w"
  refine View.of (q P8 rs _ M6 a1 a2 ?_ (D6 hP6 (by lia)))
  rw[a3,decide_eq_true_eq,exN_iff]
  exact⟨fun h=>⟨⟨⟨h2,h3,by lia⟩,by lia⟩,by lia⟩,fun h=>by have:=h.1.1.2.2;lia⟩
end K08
open L3
open K09 (C7 C4)
namespace K08
open PySem L2 L3 PK K10
open K09 (isN nmE O4 exN C2 L4 J3 E1 F8 cntK Et fits L8 P4)
def wds (k:Nat):Str:=(["any","e","if"]:List Str).getD (k % 3) "e"
theorem CE6:((CV7 3).all fun k=>decide (1<=((["any","e","if"]:List Str).getD k "e").length) && (decide (((["any","e","if"]:List Str).getD k "e").length<=8) && ((["any","e","if"]:List Str).getD k "e").cps.toList.all fun c=>decide (97<=c) && decide (c<=122)))=true:=by decide +kernel
theorem BE5 (k:Nat):nm (wds k):=BZ (CX4.mp CE6 (k % 3) (List.mem_range.mpr (Nat.mod_lt _ (by decide))))
def ctL (n:Nat):List (Str×Str×Blk):=(CV7 n).map fun k=>(wds k,("x":Str),ntB 1)
theorem WU:∀l:List Blk,E8 (P0 l)=(l.map C0).sum
 | []=>rfl
 | b::r=>by simp[P0,E8,WU r]
theorem AH6:∀l:List Blk,(∀b∈l,dpB b=0)->J1 (P0 l)<=1
 | [],_=>by simp[P0,J1]
 | b::r,h=>by
  have h1:=h b CW4
  have h2:=AH6 r fun x hx=>h x (CW5 _ hx)
  simp only[P0,J1];lia
theorem BR8 (hn:n<=5)(hq:q=.nil\/q=ntB 1):Dd (trD (ntB 1) (ctL n) q) (n<=3/\(0<n\/q≠.nil))/\dpD (trD (ntB 1) (ctL n) q)<=1:=by
 have A:=nts (n:=1) (by decide)
 have hl:(ctL n).length=n:=by simp[ctL]
 have hm:∀c∈ctL n,∃k,c=(wds k,("x":Str),ntB 1):=fun c hc=>by obtain⟨k,_,rfl⟩:=DQ6.mp hc;exact⟨k,rfl⟩
 have Bq:shB q/\E1 q/\C0 q<=1/\dpB q=0/\∀kds,U7 kds q:=by
  rcases hq with rfl|rfl
  ·exact⟨trivial,trivial,DC3 _,rfl,F7⟩
  ·exact⟨A.sh,A.ok,by rw[A.cnt];exact CW1 _,A.dep,A.fit⟩
 have hd:dpD (trD (ntB 1) (ctL n) q)<=1:=by
  have h1:=AH6 ((ctL n).map (·.2.2)++[q]) fun b hb=>by
   rcases CZ9.mp hb with hb|hb
   ·obtain⟨c,h1,rfl⟩:=DQ6.mp hb
    obtain⟨k,rfl⟩:=hm c h1
    exact A.dep
   ·obtain rfl:b=q:=by simpa using hb
    exact Bq.2.2.2.1
  have:=A.dep
  simp only[trD,dpD,J1];lia
 have hc:F2 (trD (ntB 1) (ctL n) q)<=25:=by
  have e:((ctL n).map (·.2.2)++[q]).map C0=CV2 n 1++[C0 q]:=by
   simp only[ctL,CX6,DA8,CW9,CZ3]
   congr 1
   rw[List.eq_replicate_iff]
   refine⟨by simp,fun b hb=>?_⟩
   obtain⟨k,_,rfl⟩:=DQ6.mp hb
   exact A.cnt
  have h1:=A.cnt
  have h2:=Bq.2.2.1
  simp only[trD,F2,E8,WU,e,DM8,List.sum_replicate_nat,DG4,DL7];lia
 refine⟨⟨OH (by lia) (fun c hc=>by obtain⟨k,rfl⟩:=hm c hc;exact⟨S6 (BE5 k),YV,A.sh⟩) A.sh Bq.1,?_,hc,by lia,fun kds _=>GE (A.fit kds) (fun c hc=>by obtain⟨k,rfl⟩:=hm c hc;exact A.fit kds) (Bq.2.2.2.2 kds)⟩,hd⟩
 rw[tr_ok,hl]
 constructor
 ·rintro⟨_,⟨h1,_⟩,h2,_⟩
  exact⟨h1,h2.imp (fun h=>by rw[<-hl];exact List.length_pos_iff.mpr h) id⟩
 ·rintro⟨h1,h2⟩
  exact⟨L0,⟨h1,fun c hc=>by obtain⟨k,rfl⟩:=hm c hc;exact⟨BE5 k,x_isN,L0⟩⟩,h2.imp (fun h=>by rw[<-hl] at h;exact List.length_pos_iff.mp h) id,A.ok,fun c hc=>by obtain⟨k,rfl⟩:=hm c hc;exact A.ok,Bq.2.1⟩
theorem FG:∀ds M Q,K1 ds M Q->ds.length=1:=CZ
theorem GL:∀ds M Q,K1 ds M Q->K0 {nx:=fun _ M'=>View Q .non M',rt:=View Q} (B3 W2 ds) M:=by
 rintro _ M Q ⟨p,b,rfl,hP,hb,q⟩
 unfold K0
 walk_at "w"
 refine draw hP (by lia) (by decide) (by decide) fun f M1 f0 f1 hP1 e1=>?_
 obtain⟨n,rfl⟩:∃n:Nat,f=n:=⟨f.toNat,by lia⟩
 walk_at "w"
 refine⟨1,rfl,by decide,?_⟩
 walk_at "w"
 refine draw hP1 (by lia) (by decide) (by decide) fun w M2 w0 w1 hP2 e2=>?_
 walk_at "w"
 obtain⟨l,hl,hlx⟩:∃l,(l=.nil\/l=ntB 1)/\atI [D.tup [],.tup (dB (ntB 1))] w=some (.tup (dB l)):=by
  have hw:w=0\/w=1:=by lia
  rcases hw with rfl|rfl
  ·exact⟨.nil,.inl rfl,rfl⟩
  ·exact⟨ntB 1,.inr rfl,rfl⟩
 refine L1 hlx ?_
 walk_at "w"
 refine⟨by lia,by lia,?_⟩
 walk_at "w"
 rw[DA6]
 refine G4 (CV7 n) (fun k=>D.int (k:Nat)) (fun k=>CC (SD (wds k,("x":Str),ntB 1))) (by rw[CZ1,CX1];lia) ?_ ?_
 ·intro k hk M3 R F _ hR
  walk_at "w"
  refine⟨(show(0:Int)<3 by decide),?_⟩
  have e:((k:Int) % 3)=((k % 3:Nat):Int):=by lia
  dsimp only
  rw[e]
  refine L1 (d:=.str (wds k)) (L2.G3 ?_) ?_
  ·unfold wds
   have h3:k % 3<3:=Nat.mod_lt _ (by decide)
   match k % 3,h3 with
   | 0,_|1,_|2,_=>rfl
  walk_at "w"
  refine⟨1,rfl,by decide,?_⟩
  walk_at "w"
  exact hR
 ·walk_at "w"
  refine⟨1,rfl,by decide,?_⟩
  walk_at "w"
  have A:=nts (n:=1) (by decide)
  have ed:D.tup [.str "try",.tup (dB (ntB 1)),.tup ((CV7 n).map fun k=>CC (SD (wds k,("x":Str),ntB 1))),.tup (dB l)]=dD (trD (ntB 1) (ctL n) l):=by
   rw[OG,ctL,DA8,DA8];rfl
  rw[ed]
  obtain⟨c1,c2⟩:=BR8 (n:=n) (by lia) hl
  refine⟨P8,p,_,_,_,rfl,c1,O5,hP2,by lia,fun rs M3 a1 a2 a3 hP3 e3=>?_⟩
  have fin:∀v:Bool,(v=true↔n<=3/\(0<n\/l≠.nil))->View Q (.tup [.tup (rs.map rD),.bl v]) M3:=fun v hv=>View.of (q P8 rs v M3 a1 a2 (by rw[hv,a3];exact⟨fun h=>⟨h,by lia⟩,fun h=>h.1⟩) (D6 hP3 (by lia)))
  walk_at "w"
  by_cases h3:n<=3
  ·refine B7 (decide_eq_true (by lia)) ?_
   walk_at "w"
   by_cases h0:0<n
   ·refine B7 (decide_eq_true (by lia)) ?_
    walk_at "w"
    exact fin _ (EH ⟨h3,.inl h0⟩)
   ·refine A8 (decide_eq_false (by lia)) ?_
    walk_at "w"
    rcases hl with rfl|rfl
    ·refine UL (b:=true) ⟨rfl,rfl,by decide⟩ ⟨rfl,rfl,by decide⟩ rfl ?_
     walk_at "w"
     exact fin _ (L7 fun h=>h.2.elim h0 fun z=>z rfl)
    ·refine UL (b:=false) (Sm.dok (Sm.tup (m:=40) (SG (ntB 1) A.sh) (by rw[A.dep];decide))) ⟨rfl,rfl,by decide⟩ (by rw[dB1];rfl) ?_
     walk_at "w"
     exact fin _ (EH ⟨h3,.inr L0⟩)
  ·refine A8 (decide_eq_false (by lia)) ?_
   walk_at "w"
   exact fin _ (L7 fun h=>h3 h.1)
end K08
open L3
open K09 (C7 C4)
namespace K08
open PySem L2 L3 PK K10
open K09 (isN nmE O4 exN C2 L4 J3 E1 F8 cntK Et fits L8 P4)
def tw (a:Str)(k:Nat):Str:=a++⟨#[97+k]⟩
theorem ZP (h:((decide (1<=x.length) && (decide (x.length<=8) && x.cps.toList.all fun c=>decide (97<=c) && decide (c<=122))) && K06.SQ (.str x))=true):isN x:=by
 rw[CX9] at h
 exact⟨BZ h.1,h.2⟩
theorem ixL (h:((CV7 n).all fun k=>z.cps.toList[k]?==some (97+k))=true)(hk:k<n):atI z.cps.toList (k:Int)=some (97+k) :=
 L2.G3 (by simpa using CX4.mp h k (List.mem_range.mpr hk))
theorem CN3:((CV7 10).all fun k=>(decide (1<=(tw "r" k).length) && (decide ((tw "r" k).length<=8) && (tw "r" k).cps.toList.all fun c=>decide (97<=c) && decide (c<=122))) && K06.SQ (.str (tw "r" k)))=true:=by decide +kernel
theorem rn_nd:((CV7 10).map (tw "r")).Nodup:=by decide +kernel
def rR (k:Nat):Rl:=⟨tw "r" k,[],ntB 1⟩
theorem AI5 (h:k<10):rSh (rR k)/\dpB (rR k).blk<=8/\TV (rR k):=by
 have A:=nts (n:=1) (by decide)
 have c1:C0 (rR k).blk=1:=A.cnt
 have d1:dpB (rR k).blk=0:=A.dep
 exact⟨⟨ZP (CX4.mp CN3 k (List.mem_range.mpr h)),by simp[rR],by simp[rR],by simp[rR],by lia,A.sh⟩,by lia,by simp[rR],L0,⟨A.ok,by lia,by lia⟩,BV (U9 A.sh A.ok) O5 (by simp[rR])⟩
theorem BC0 (h:n<=10):OP ((CV7 n).map rR)/\shown ((CV7 n).map rR)/\(FE ((CV7 n).map rR)↔1<=n/\n<=8):=by
 have A:=nts (n:=1) (by decide)
 have hm:∀r∈(CV7 n).map rR,∃k,k<10/\r=rR k:=fun r hr=>by
  obtain⟨k,h1,rfl⟩:=DQ6.mp hr
  exact⟨k,by have:=List.mem_range.mp h1;lia,rfl⟩
 have hs:(((CV7 n).map rR).map fun r=>C0 r.blk).sum=n:=by
  have:((CV7 n).map rR).map (fun r=>C0 r.blk)=CV2 n 1:=by
   rw[List.eq_replicate_iff]
   refine⟨by simp,fun b hb=>?_⟩
   obtain⟨r,hr,rfl⟩:=DQ6.mp hb
   obtain⟨k,_,rfl⟩:=hm r hr
   exact A.cnt
  rw[this];simp
 refine⟨⟨by simpa using h,fun r hr=>by obtain⟨k,hk,rfl⟩:=hm r hr;exact(AI5 hk).1,by have:=O5;lia,?_,fun r hr=>by obtain⟨k,hk,rfl⟩:=hm r hr;exact A.fit _⟩,
  V9 (fun r hr=>by obtain⟨k,hk,rfl⟩:=hm r hr;exact⟨(AI5 hk).1,(AI5 hk).2.1⟩) (by simpa using h) (by rw[hs];lia),?_⟩
 ·rw[DA8]
  exact(rn_nd.sublist ((List.range_sublist.mpr h).map _))
 ·unfold FE
  rw[CV1,CZ1]
  exact⟨fun z=>⟨z.1,z.2.1⟩,fun z=>⟨z.1,z.2,fun r hr=>by obtain⟨k,hk,rfl⟩:=hm r hr;exact(AI5 hk).2.2⟩⟩
theorem HX:∀ds M Q,K1 ds M Q->ds.length=1:=CZ
theorem JP:∀ds M Q,K1 ds M Q->N1 {nx:=fun _ M'=>View Q .non M',rt:=View Q} (B3 BX ds) M:=by
 rintro _ M Q ⟨p,b,rfl,hP,hb,q⟩
 have hz:CV8=16777216:=CX1
 unfold N1
 walk_at "w"
 refine draw hP (by lia) (by decide) (by decide) fun w M1 w0 w1 hP1 e1=>?_
 walk_at "w"
 obtain⟨n,hn,hx⟩:∃n:Nat,n<=10/\atI [D.int 0,.int 1,.int 7,.int 8,.int 9,.int 10] w=some (.int n):=by
  have hw:w=0\/w=1\/w=2\/w=3\/w=4\/w=5:=by lia
  rcases hw with rfl|rfl|rfl|rfl|rfl|rfl
  ·exact⟨0,by decide,rfl⟩
  ·exact⟨1,by decide,rfl⟩
  ·exact⟨7,by decide,rfl⟩
  ·exact⟨8,by decide,rfl⟩
  ·exact⟨9,by decide,rfl⟩
  ·exact⟨10,by decide,rfl⟩
 refine L1 hx ?_
 walk_at "w"
 refine⟨by lia,by lia,?_⟩
 walk_at "w"
 rw[DA6]
 refine G4 (CV7 n) (fun k=>D.int (k:Nat)) (fun k=>rD (rR k)) (by rw[CZ1];lia) ?_ ?_
 ·intro k hk M3 R F _ hR
  have hk:=List.mem_range.mp hk
  walk_at "w"
  refine AB9 (by rw[hz];decide +kernel) (ixL (n:=10) (by decide +kernel) (by lia)) ?_
  walk_at "w"
  refine LS (by rw[hz,show(("r":Str)).length=1 by decide +kernel];exact(by decide:(1+1:Nat)<=16777216)) ?_
  walk_at "w"
  refine⟨1,rfl,by decide,?_⟩
  walk_at "w"
  exact hR
 ·walk_at "w"
  have e:(CV7 n).map (fun k=>rD (rR k))=((CV7 n).map rR).map rD:=by rw[DA8];rfl
  rw[e]
  obtain⟨a1,a2,a3⟩:=BC0 hn
  have fin:∀v:Bool,(v=true↔1<=n/\n<=8)->View Q (.tup [.tup (((CV7 n).map rR).map rD),.bl v]) M1:=fun v hv=>View.of (q P8 _ v M1 a1 a2 (by rw[hv,a3]) (D6 hP1 (by lia)))
  by_cases h1:1<=n
  ·refine B7 (decide_eq_true (by lia)) ?_
   walk_at "w"
   refine fin _ ?_
   rw[decide_eq_true_eq]
   exact⟨fun h=>⟨h1,by lia⟩,fun h=>by lia⟩
  ·refine A8 (decide_eq_false (by lia)) ?_
   walk_at "w"
   exact fin _ (L7 fun h=>h1 h.1)
end K08
open L3
open K09 (C7 C4)
namespace K08
open PySem L2 L3 PK K10
open K09 (isN nmE O4 exN C2 L4 J3 E1 F8 cntK Et fits L8 P4)
theorem AQ4:isN "a":=⟨BZ (by decide +kernel),by decide +kernel⟩
theorem BO6:isN "b":=⟨BZ (by decide +kernel),by decide +kernel⟩
theorem CF2:¬(("b":Str)="a"):=by decide +kernel
theorem AS1 {k:Blk}(sh:shB k)(ok:E1 k)(hc:C0 k=n)(dp:dpB k<=1)(fit:∀kds,U7 kds k)(h1:1<=n)(hn:n<=40) :
  OP [⟨"b",[],ntB 2⟩,⟨"a",[],k⟩]/\shown [⟨"b",[],ntB 2⟩,⟨"a",[],k⟩]/\(FE [⟨"b",[],ntB 2⟩,⟨"a",[],k⟩]↔n<=30):=by
 have A:=nts (n:=2) (by decide)
 have rb:rSh ⟨"b",[],ntB 2⟩:=⟨BO6,by simp,by simp,by simp,by rw[A.cnt];decide,A.sh⟩
 have ra:rSh ⟨"a",[],k⟩:=⟨AQ4,by simp,by simp,by simp,by rw[hc];lia,sh⟩
 have ne2:ntB 2≠.nil:=fun h=>by cases h
 have kne:k≠.nil:=fun h=>by rw[h] at hc;simp[C0] at hc;lia
 refine⟨⟨by simp,by simp only[CV0,CU9,or_false,forall_eq_or_imp,forall_eq];exact⟨rb,ra⟩,by have:=O5;lia,by simp[CF2],by simp only[CV0,CU9,or_false,forall_eq_or_imp,forall_eq];exact⟨A.fit _,fit _⟩⟩,
  V9 (by simp only[CV0,CU9,or_false,forall_eq_or_imp,forall_eq];exact⟨⟨rb,by rw[A.dep];decide⟩,ra,by show dpB k<=8;lia⟩) (by simp) (by simp only[CW9,CZ3,DG4,DL7,A.cnt,hc];lia),?_⟩
 unfold FE TV
 simp only[CV0,CU9,or_false,forall_eq_or_imp,forall_eq]
 constructor
 ·intro z;have:=z.2.2.2.2.2.1.2.2;lia
 ·intro z
  exact⟨by simp,by simp,⟨by simp,ne2,⟨A.ok,by rw[A.dep];decide,by rw[A.cnt];decide⟩,BV (U9 A.sh A.ok) O5 (by simp)⟩,by simp,kne,⟨ok,by lia,by lia⟩,BV (U9 sh ok) O5 (by simp)⟩
theorem none_book:OP [⟨"a",[],.nil⟩]/\shown [⟨"a",[],.nil⟩]/\¬FE [⟨"a",[],.nil⟩]:=by
 have ra:rSh ⟨"a",[],.nil⟩:=⟨AQ4,by simp,by simp,by simp,by simp[C0],trivial⟩
 refine⟨⟨by simp,by simp only[CV0,CU9,or_false,forall_eq];exact ra,by have:=O5;lia,by simp,by simp only[CV0,CU9,or_false,forall_eq];exact F7 _⟩,
  V9 (by simp only[CV0,CU9,or_false,forall_eq];exact⟨ra,by simp[dpB]⟩) (by simp) (by simp[C0]),fun z=>?_⟩
 exact(z.2.2 ⟨"a",[],.nil⟩ (by simp)).2.1 rfl
theorem HW:∀ds M Q,K1 ds M Q->ds.length=1:=CZ
theorem JO:∀ds M Q,K1 ds M Q->N0 {nx:=fun _ M'=>View Q .non M',rt:=View Q} (B3 BW ds) M:=by
 rintro _ M Q ⟨p,b,rfl,hP,hb,q⟩
 unfold N0
 walk_at "w"
 refine draw hP (by lia) (by decide) (by decide) fun w M1 w0 w1 hP1 e1=>?_
 walk_at "w"
 obtain⟨n,hn,hx⟩:∃n:Nat,n<=32/\atI [D.int 0,.int 1,.int 29,.int 30,.int 31,.int 32] w=some (.int n):=by
  have hw:w=0\/w=1\/w=2\/w=3\/w=4\/w=5:=by lia
  rcases hw with rfl|rfl|rfl|rfl|rfl|rfl
  ·exact⟨0,by decide,rfl⟩
  ·exact⟨1,by decide,rfl⟩
  ·exact⟨29,by decide,rfl⟩
  ·exact⟨30,by decide,rfl⟩
  ·exact⟨31,by decide,rfl⟩
  ·exact⟨32,by decide,rfl⟩
 refine L1 hx ?_
 walk_at "w"
 by_cases h0:n=0
 ·refine B7 (by rw[h0];rfl) ?_
  walk_at "w"
  exact View.of (q P8 [⟨"a",[],.nil⟩] false M1 none_book.1 none_book.2.1 (L7 none_book.2.2) (D6 hP1 (by lia)))
 refine A8 (beq_eq_false_iff_ne.mpr (by lia)) ?_
 walk_at "w"
 refine⟨2,rfl,by decide,?_⟩
 walk_at "w"
 refine⟨P8,p,_,n,rfl,by lia,by lia,hP1,by lia,fun k M2 s1 s2 s3 s4 s5 hP2 e2=>?_⟩
 walk_at "w"
 obtain⟨a1,a2,a3⟩:=AS1 s1 s2 s3 s4 s5 (by lia) (by lia)
 refine View.of (q P8 [⟨"b",[],ntB 2⟩,⟨"a",[],k⟩] _ M2 a1 a2 ?_ (D6 hP2 (by lia)))
 rw[a3,decide_eq_true_eq]
 exact⟨fun h=>by lia,fun h=>by lia⟩
theorem CM3:((CV7 5).all fun k=>(decide (1<=(tw "p" k).length) && (decide ((tw "p" k).length<=8) && (tw "p" k).cps.toList.all fun c=>decide (97<=c) && decide (c<=122))) && K06.SQ (.str (tw "p" k)))=true:=by decide +kernel
theorem pn_nd:((CV7 5).map (tw "p")).Nodup:=by decide +kernel
theorem many_isN:isN "many":=⟨BZ (by decide +kernel),by decide +kernel⟩
theorem BI0:¬(("many":Str)="b"):=by decide +kernel
def J5:Nat->Exs
 | 0=>.nil
 | n+1=>.cons .none (J5 n)
theorem MZ [Pool]:∀n,AO8 (J5 n)/\wfs (J5 n)/\O4 (J5 n)/\exl (J5 n)=n/\nds (J5 n)=n/\dps (J5 n)<=1/\eDs (J5 n)=CV2 n (eD .none)/\∀kds,∀t∈GW (J5 n),fits kds t
 | 0=>⟨trivial,trivial,trivial,rfl,rfl,by simp[J5,dps],by simp[J5,eDs],by simp[J5,GW]⟩
 | n+1=>by
  obtain⟨a,b,c,d,e,f,g,h⟩:=MZ n
  refine⟨⟨trivial,a⟩,⟨trivial,b⟩,⟨trivial,c⟩,by simp[J5,exl,d],by simp[J5,nds,nd,e];lia,by simp only[J5,dps,dp];lia,by simp only[J5,eDs,g,DJ0],fun kds t ht=>?_⟩
  simp only[J5,GW,CZ9] at ht
  rcases ht with ht|ht
  ·exact F4 kds t ht
  ·exact h kds t ht
def call (n:Nat):Deed:=lfD "note" [eD (.make "many" (J5 n))]
theorem AM6 (h1:1<=n)(hn:n<=5) :
  OP [⟨"many",(CV7 n).map (tw "p"),ntB 1⟩,⟨"b",[],P1 (call n)⟩]/\shown [⟨"many",(CV7 n).map (tw "p"),ntB 1⟩,⟨"b",[],P1 (call n)⟩]/\(FE [⟨"many",(CV7 n).map (tw "p"),ntB 1⟩,⟨"b",[],P1 (call n)⟩]↔n<=3):=by
 have A:=nts (n:=1) (by decide)
 obtain⟨x1,x2,x3,x4,x5,x6,x7,x8⟩:=MZ n
 have xs:S9 (eD (.make "many" (J5 n))):=⟨_,rfl,⟨S6 many_isN.1,by lia,x1⟩,by simp only[nd];lia,by simp only[dp];lia⟩
 have xo:exN (eD (.make "many" (J5 n)))↔n<=3:=by
  rw[exN_iff]
  simp only[wf,K09.nmE,nd,dp,x4,x5]
  exact⟨fun h=>h.1.1.2.1,fun h=>⟨⟨⟨many_isN.1,h,x2⟩,⟨many_isN,x3⟩,by lia⟩,by lia⟩⟩
 have cs:shD (call n):=AG9 (.inr (.inl ⟨.inl rfl,_,rfl,xs⟩))
 have co:J3 (call n)↔n<=3:=(AG8 note_look.1 rfl note_look.2).trans (by
  simp only[DH0,DJ8,CV0,CU9,or_false,forall_eq,po_exp];exact xo)
 have rm:rSh ⟨"many",(CV7 n).map (tw "p"),ntB 1⟩:=⟨many_isN,by simp;lia,fun x hx=>by
  obtain⟨k,hk,rfl⟩:=DQ6.mp hx
  exact ZP (CX4.mp CM3 k (List.mem_range.mpr (by have:=List.mem_range.mp hk;lia))),pn_nd.sublist ((List.range_sublist.mpr hn).map _),by rw[A.cnt];decide,A.sh⟩
 have rb:rSh ⟨"b",[],P1 (call n)⟩:=⟨BO6,by simp,by simp,by simp,by rw[EN];show F2 (call n)<=90;simp[call,lfD,F2,E8],⟨cs,trivial⟩⟩
 have cv:N7 (cntK [⟨"many",(CV7 n).map (tw "p"),ntB 1⟩,⟨"b",[],P1 (call n)⟩]) (.inr "many")=some (.int n):=by
  have:N7 (cntK [⟨"many",(CV7 n).map (tw "p"),ntB 1⟩,⟨"b",[],P1 (call n)⟩]) (.inr "many")=some (.int ((CV7 n).map (tw "p")).length):=by first|rfl|kernel_rfl
  rw[this,CV1,CZ1]
 have cf:GD (cntK [⟨"many",(CV7 n).map (tw "p"),ntB 1⟩,⟨"b",[],P1 (call n)⟩]) (call n):=SM (es:=[.make "many" (J5 n)]) note_look.1 (by first|rfl|kernel_rfl) (by
  simp only[CV0,CU9,or_false,forall_eq]
  intro t ht
  simp only[trE,CV0] at ht
  rcases ht with rfl|ht
  ·show N7 _ _=some (.int (exl (J5 n)))
   rw[cv,x4]
  ·exact x8 _ t ht)
 have dc:dpB (P1 (call n))=0:=by rw[NB];simp[call,lfD,dpD,J1]
 have cc:C0 (P1 (call n))=1:=by rw[EN];simp[call,lfD,F2,E8]
 refine⟨⟨by simp,by simp only[CV0,CU9,or_false,forall_eq_or_imp,forall_eq];exact⟨rm,rb⟩,by have:=O5;lia,by simp[BI0],by simp only[CV0,CU9,or_false,forall_eq_or_imp,forall_eq];exact⟨A.fit _,N9 cf (F7 _)⟩⟩,
  V9 (by simp only[CV0,CU9,or_false,forall_eq_or_imp,forall_eq];exact⟨⟨rm,by rw[A.dep];decide⟩,rb,by rw[dc];decide⟩) (by simp) (by simp only[CW9,CZ3,DG4,DL7,A.cnt,cc];decide),?_⟩
 unfold FE TV
 simp only[CV0,CU9,or_false,forall_eq_or_imp,forall_eq,CV1,CZ1,GJ,co]
 constructor
 ·intro z;exact z.2.2.1.1
 ·intro z
  exact⟨by simp,by simp,⟨z,L0,⟨A.ok,by rw[A.dep];decide,by rw[A.cnt];decide⟩,BV (U9 A.sh A.ok) O5 (by simpa using z)⟩,by simp,JJ _,⟨z,by lia,by lia⟩,BV (U9 (b:=P1 (call n)) ⟨cs,trivial⟩ ⟨co.mpr z,trivial⟩) O5 (by simp)⟩
theorem GI:∀ds M Q,K1 ds M Q->ds.length=1:=CZ
theorem IJ:∀ds M Q,K1 ds M Q->K8 {nx:=fun _ M'=>View Q .non M',rt:=View Q} (B3 Z5 ds) M:=by
 rintro _ M Q ⟨p,b,rfl,hP,hb,q⟩
 have hz:CV8=16777216:=CX1
 unfold K8
 walk_at "w"
 refine draw hP (by lia) (by decide) (by decide) fun w M1 w0 w1 hP1 e1=>?_
 obtain⟨i,rfl⟩:∃i:Nat,w=i:=⟨w.toNat,by lia⟩
 have c1:(1:Int)+(i:Int)=((i+1:Nat):Int):=by lia
 walk_at "w"
 rw[c1]
 refine⟨by lia,by lia,?_⟩
 walk_at "w"
 rw[DA6]
 refine G4 (CV7 (i+1)) (fun k=>D.int (k:Nat)) (fun k=>D.str (tw "p" k)) (by rw[CZ1];lia) ?_ ?_
 ·intro k hk M3 R F _ hR
  have hk:=List.mem_range.mp hk
  walk_at "w"
  refine AB9 (by rw[hz];decide +kernel) (ixL (n:=5) (by decide +kernel) (by lia)) ?_
  walk_at "w"
  refine LS (by rw[hz,show(("p":Str)).length=1 by decide +kernel];exact(by decide:(1+1:Nat)<=16777216)) ?_
  exact hR
 ·walk_at "w"
  refine BN3 (by lia) (by lia) (by simp) ?_
  have er:(CV2 (i+1) [D.tup [.str "none"]]).flatten=eDs (J5 (i+1)):=by rw[(MZ (i+1)).2.2.2.2.2.2.1];simp[eD]
  rw[DA6,er]
  walk_at "w"
  refine⟨1,rfl,by decide,?_⟩
  walk_at "w"
  obtain⟨a1,a2,a3⟩:=AM6 (n:=i+1) (by lia) (by lia)
  have fin:=View.of (q P8 [⟨"many",(CV7 (i+1)).map (tw "p"),ntB 1⟩,⟨"b",[],P1 (call (i+1))⟩] (decide (((i+1:Nat):Int)<=3)) M1 a1 a2 (by rw[a3,decide_eq_true_eq];exact⟨fun h=>by lia,fun h=>by lia⟩) (D6 hP1 (by lia)))
  have em:(CV7 (i+1)).map (fun k=>D.str (tw "p" k))=((CV7 (i+1)).map (tw "p")).map D.str:=by rw[DA8];rfl
  have ec:D.tup [.str "make",.str "many",.tup (eDs (J5 (i+1)))]=eD (.make "many" (J5 (i+1))):=by simp only[eD]
  rw[em,ec]
  exact fin
end K08
open L3
open K09 (C7 C4)
namespace K08
open PySem L2 L3 PK K10
open K09 (isN nmE O4 exN C2 L4 J3 E1 F8 cntK Et fits L8 P4)
theorem y_isN:isN "y":=⟨BZ (by decide +kernel),by decide +kernel⟩
theorem CU5:nS "y":=⟨S6 y_isN.1,fun _=>by show("y":Str)∈(["x","y","abcdefgh"]:List Str);simp⟩
def sg (w:Str)(n:Int):Nat->Deed
 | 0=>lfD "note" [eD (.num n)]
 | 1=>lfD "note" [eD (.num (0-n))]
 | 2=>lfD "let" [.str w,eD .none]
 | 3=>lfD "fault" [.str w,eD .none]
 | 4=>lfD "cast" [.str "x",.str "y",eD .none,.str w,eD .none]
 | 5=>lfD "note" [eD (.var w)]
 | 6=>trD (ntB 1) [(w,"x",ntB 1)] .nil
 | 7=>lfD "on" [.str w,eD .none]
 | 8=>trD (ntB 1) [("e",w,ntB 1)] .nil
 | _+9=>lfD "ask" [.str "x",.str w,eD .none,eD .none]
structure Sg (w:Str)(n:Int)(G:Prop):Prop where
 ws:nS w
 wn:isN w↔G
 wm:nm w↔G
 wa:w≠"any"
 ns:-PK.G7<=n/\n<=PK.G7
 nb:bnd n↔G
section
variable {w:Str}{n:Int}{G:Prop}(S:Sg w n G)
include S
theorem AW4 {m:Int}(h1:-PK.G7<=m/\m<=PK.G7)(h2:bnd m↔G):Dd (lfD "note" [eD (.num m)]) G/\dpD (lfD "note" [eD (.num m)])<=1 :=
 Z9 (sh:=["expression"]) (es:=[.num m]) (by decide +kernel) rfl (by decide +kernel) (.inr (.inl ⟨.inl rfl,_,rfl,⟨_,rfl,h1,by simp[nd],by simp[dp]⟩⟩))
  (by walk_at "pa";rw[exN_iff];simp only[wf,K09.nmE,nd,dp];rw[h2];exact⟨fun h=>h.1.1,fun h=>⟨⟨h,trivial,by decide⟩,by decide⟩⟩) (by walk_at "pk") (fun kds _=>by simpa using AF6 kds m)
theorem AV6 (hh:h="let"\/h="give"\/h="on"):Dd (lfD h [.str w,eD .none]) G/\dpD (lfD h [.str w,eD .none])<=1:=by
 have lk:tblS.lookup h=some (["name","expression"]:List Str)/\¬h="try":=by rcases hh with rfl|rfl|rfl<;>decide +kernel
 exact Z9 (es:=[.none]) lk.1 rfl lk.2 (.inl ⟨hh,_,_,rfl,S.ws,F1⟩) (by walk_at "pa";rw[S.wn];exact⟨fun h=>h.1,fun h=>⟨h,F0⟩⟩) (by walk_at "pk") (fun kds _=>by simpa using F4 kds)
theorem AE4 {c:Str}(hc:wdS c)(hx:nS x)(hg:nm c/\isN x↔G):Dd (trD (ntB 1) [(c,x,ntB 1)] .nil) G/\dpD (trD (ntB 1) [(c,x,ntB 1)] .nil)<=1:=by
 have A:=nts (n:=1) (by decide)
 have hd:dpD (trD (ntB 1) [(c,x,ntB 1)] .nil)<=1:=by have:=A.dep;simp only[trD,dpD,J1,CW9,CZ3,DD6,DC4,P0,dpB];lia
 refine⟨⟨OH (by simp) (by simp only[CV0,CU9,or_false,forall_eq];exact⟨hc,hx,A.sh⟩) A.sh trivial,?_,by have:=A.cnt;simp only[trD,F2,E8,CW9,CZ3,DD6,DC4,P0,C0];lia,by lia,
  fun kds _=>GE (A.fit kds) (by simp only[CV0,CU9,or_false,forall_eq];exact A.fit kds) (F7 kds)⟩,hd⟩
 rw[tr_ok,<-hg]
 simp only[CV0,CU9,or_false,forall_eq]
 exact⟨fun h=>⟨h.2.1.2.1,h.2.1.2.2.1⟩,fun h=>⟨L0,⟨by simp,h.1,h.2,L0⟩,.inl (by simp),A.ok,A.ok,trivial⟩⟩
theorem CP2:∀i,Dd (sg w n i) G/\dpD (sg w n i)<=1
 | 0=>AW4 S S.ns S.nb
 | 1=>AW4 S (by have:=S.ns;unfold PK.G7 at *;lia) (by rw[<-S.nb];unfold bnd PK.G7;lia)
 | 2=>AV6 S (.inl rfl)
 | 3=>Z9 (sh:=["word","expression"]) (es:=[.none]) (by decide +kernel) rfl (by decide +kernel) (.inr (.inr (.inr (.inr ⟨rfl,_,_,rfl,S.ws.1,F1⟩)))) (by walk_at "pa";rw[S.wm];exact⟨fun h=>h.1.1,fun h=>⟨⟨h,S.wa⟩,F0⟩⟩) (by walk_at "pk") (fun kds _=>by simpa using F4 kds)
 | 4=>Z9 (sh:=["name","name","expression","word","expression"]) (es:=[.none,.none]) (by decide +kernel) rfl (by decide +kernel) (.inr (.inr (.inr (.inl ⟨rfl,_,_,_,_,_,rfl,YV,CU5,S.ws.1,F1,F1⟩)))) (by walk_at "pa";rw[S.wm];exact⟨fun h=>h.2.2.2.1.1,fun h=>⟨x_isN,y_isN,F0,⟨h,S.wa⟩,F0⟩⟩) (by walk_at "pk") (fun kds _=>by simpa using F4 kds)
 | 5=>Z9 (sh:=["expression"]) (es:=[.var w]) (by decide +kernel) rfl (by decide +kernel) (.inr (.inl ⟨.inl rfl,_,rfl,⟨_,rfl,S.ws,by simp[nd],by simp[dp]⟩⟩))
  (by walk_at "pa";rw[exN_iff];simp only[wf,K09.nmE,nd,dp];rw[S.wn];exact⟨fun h=>h.1.2.1,fun h=>⟨⟨⟨S.wm.mpr h,S.ws.2 (S.wm.mpr h)⟩,h,by decide⟩,by decide⟩⟩) (by walk_at "pk") (fun kds _=>by
   simp only[CV0,CU9,or_false,forall_eq]
   intro t ht
   obtain rfl:t=.var w:=by simpa[trE] using ht
   trivial)
 | 6=>AE4 S S.ws.1 YV (by rw[S.wm];exact⟨fun h=>h.1,fun h=>⟨h,x_isN⟩⟩)
 | 7=>AV6 S (.inr (.inr rfl))
 | 8=>AE4 S (S6 CD) S.ws (by rw[S.wn];exact⟨fun h=>h.2,fun h=>⟨CD,h⟩⟩)
 | _+9=>Z9 (sh:=["name","name","expression","expression"]) (es:=[.none,.none]) (by decide +kernel) rfl (by decide +kernel) (.inr (.inr (.inl ⟨rfl,_,_,_,_,rfl,YV,S.ws,F1,F1⟩))) (by walk_at "pa";rw[S.wn];exact⟨fun h=>h.2.1,fun h=>⟨x_isN,h,F0,F0⟩⟩) (by walk_at "pk") (fun kds _=>by simpa using F4 kds)
end
theorem sg8:Sg "abcdefgh" (10^30-1) True:=by
 have h:isN "abcdefgh":=⟨BZ (by decide +kernel),by decide +kernel⟩
 exact⟨⟨S6 h.1,fun _=>by show("abcdefgh":Str)∈(["x","y","abcdefgh"]:List Str);simp⟩,⟨fun _=>trivial,fun _=>h⟩,⟨fun _=>trivial,fun _=>h.1⟩,by decide +kernel,by unfold PK.G7;lia,⟨fun _=>trivial,fun _=>by unfold bnd PK.G7;lia⟩⟩
theorem wd9:wdS "abcdefghi":=⟨⟨trivial,fun z e=>by
 cases e
 exact⟨by decide +kernel,by decide +kernel⟩⟩,by decide +kernel⟩
theorem sg9:Sg "abcdefghi" (10^30) False:=by
 have h:¬nm "abcdefghi":=fun h=>absurd h.2.2 (by decide +kernel)
 exact⟨⟨wd9,fun z=>absurd z h⟩,⟨fun z=>h z.1,fun z=>z.elim⟩,⟨h,fun z=>z.elim⟩,by decide +kernel,by unfold PK.G7;lia,⟨fun z=>by unfold bnd PK.G7 at z;lia,fun z=>z.elim⟩⟩
theorem sgD (w:Str)(n:Int):[D.tup [.str "note",.tup [.str "number",.int n]],.tup [.str "note",.tup [.str "number",.int (0-n)]],.tup [.str "let",.str w,.tup [.str "none"]]]++[.tup [.str "fault",.str w,.tup [.str "none"]],.tup [.str "cast",.str "x",.str "y",.tup [.str "none"],.str w,.tup [.str "none"]],.tup [.str "note",.tup [.str "var",.str w]]] ++
  [.tup [.str "try",.tup (dB (ntB 1)),.tup [.tup [.str w,.str "x",.tup (dB (ntB 1))]],.tup []],.tup [.str "on",.str w,.tup [.str "none"]]]++[.tup [.str "try",.tup (dB (ntB 1)),.tup [.tup [.str "e",.str w,.tup (dB (ntB 1))]],.tup []],.tup [.str "ask",.str "x",.str w,.tup [.str "none"],.tup [.str "none"]]]=(CV7 10).map fun i=>dD (sg w n i):=by
 simp[CV7,List.range.loop,sg,AG7,OG,eD,SD,CC,dB]
theorem HY:∀ds M Q,K1 ds M Q->ds.length=1:=CZ
theorem JQ:∀ds M Q,K1 ds M Q->N3 {nx:=fun _ M'=>View Q .non M',rt:=View Q} (B3 S2 ds) M:=by
 rintro _ M Q ⟨p,b,rfl,hP,hb,q⟩
 have hz:CV8=16777216:=CX1
 rw[JX]
 unfold N3
 walk_at "w"
 refine draw hP (by lia) (by decide) (by decide) fun m M1 m0 m1 hP1 e1=>?_
 walk_at "w"
 refine⟨⟨by decide,by decide,by decide +kernel⟩,?_⟩
 walk_at "w"
 have key:∃(w:Str) (n:Int) (G:Prop),Sg w n G/\((m==0)=true↔G)/\("abcdefgh":Str)++Txt.mul "i" m=w/\(10:Int)^(30:Int).toNat-1+m=n/\(("abcdefgh":Str)).length+(Txt.mul "i" m).length<=9/\MulOk "i" m:=by
  have hm:m=0\/m=1:=by lia
  rcases hm with rfl|rfl
  ·exact⟨_,_,_,sg8,⟨fun _=>trivial,fun _=>rfl⟩,by decide +kernel,by decide +kernel,by decide +kernel,by unfold MulOk;decide +kernel⟩
  ·exact⟨_,_,_,sg9,⟨fun z=>(nomatch z),fun z=>z.elim⟩,by decide +kernel,by decide +kernel,by decide +kernel,by unfold MulOk;decide +kernel⟩
 obtain⟨w,n,G,S,hv,ew,en,el,ok⟩:=key
 refine BN4 ok ?_
 walk_at "w"
 refine LS (by lia) ?_
 rw[ew]
 dsimp only
 rw[en]
 walk_at "w"
 refine⟨1,rfl,by decide,?_⟩
 walk_at "w"
 refine K6 (by simp only[CV6,CY0];lia) ?_
 walk_at "w"
 refine K6 (by simp only[CV6,CY0,CW3];lia) ?_
 walk_at "w"
 refine K6 (by simp only[CV6,CY0,CW3];lia) ?_
 walk_at "w"
 rw[sgD]
 refine draw hP1 (by lia) (by decide) (by decide) fun f M2 f0 f1 hP2 e2=>?_
 obtain⟨i,rfl⟩:∃i:Nat,f=i:=⟨f.toNat,by lia⟩
 walk_at "w"
 refine L1 (d:=dD (sg w n i)) (L2.G3 (by rw[CW8,DM9 (by lia)];rfl)) ?_
 walk_at "w"
 obtain⟨D1,D2⟩:=CP2 S i
 refine⟨P8,p,_,_,G,rfl,D1,O5,hP2,by lia,fun rs M3 a1 a2 a3 hP3 e3=>?_⟩
 walk_at "w"
 refine View.of (q P8 rs _ M3 a1 a2 ?_ (D6 hP3 (by lia)))
 rw[hv,a3]
 exact⟨fun h=>⟨h,by lia⟩,fun h=>h.1⟩
end K08
open L3
open K09 (C7 C4)
namespace K08
open PySem L2 L3 PK K10
open K09 (isN nmE O4 exN C2 L4 J3 E1 F8 cntK Et fits L8 P4)
def vn (k:Nat):Str:=tw "v" k
theorem CQ4:((CV7 14).all fun k=>(decide (1<=(vn k).length) && (decide ((vn k).length<=8) && (vn k).cps.toList.all fun c=>decide (97<=c) && decide (c<=122))) && K06.SQ (.str (vn k)))=true:=by decide +kernel
theorem vn_nd:((CV7 14).map vn).Nodup:=by decide +kernel
def P14:Pool:=⟨(CV7 14).map vn⟩
theorem JZ (h:k<14):isN (vn k):=ZP (CX4.mp CQ4 k (List.mem_range.mpr h))
theorem AJ8 (h:k<14):@nS P14 (vn k):=⟨S6 (JZ h).1,fun _=>DJ1 (List.mem_range.mpr h)⟩
def Nd (x:Str)(d:Deed):Prop:=∃d'∈dsD d,Ev x d'\/Tg x d'
structure Vd [Pool](d:Deed)(z u:Str)(c:Nat):Prop where
 sh:shD d
 ok:J3 d
 cnt:F2 d<=c
 dep:dpD d<=1
 fit:∀kds,GD kds d
 has:Nd z d
 only:∀x,Nd x d->x=z\/x=u
theorem BS3 (h:Str)(r:List D):dsD (lfD h r)=[lfD h r]:=by simp[lfD,dsD,HK]
theorem nd_lf:Nd x (lfD h r)↔Ev x (lfD h r)\/Tg x (lfD h r):=by
 unfold Nd;rw[BS3];simp
theorem W4 {a b:Ex}:eD a=eD b↔a=b:=⟨CS a b,fun h=>by rw[h]⟩
section
variable [Pool]{z u:Str}(hz:nS z)(hn:isN z)(hu:nS u)(hv:isN u)
include hz hn hu hv
theorem AD3:S9 (eD (.var z)):=⟨_,rfl,hz,by simp[nd],by simp[dp]⟩
theorem AD2:exN (eD (.var z)):=⟨_,rfl,⟨hn.1,hz.2 hn.1⟩,by simp[nd],by simp[dp],hn⟩
theorem WO {es:List Ex}(look:tblS.lookup h=some sh)(hl:r.length=sh.length)(nt:¬h="try")(k:IW h r)(ok:∀p∈sh.zip r,C2 p.1 p.2)
  (pk:pick "expression" sh r=es.map eD) (he:∀e∈es,e=.none\/e=.var z) (has:Ev z (lfD h r)\/Tg z (lfD h r)) (only:∀x,Ev x (lfD h r)\/Tg x (lfD h r)->x=z\/x=u):Vd (lfD h r) z u 1 :=
 ⟨AG9 k,(AG8 look hl nt).mpr ok,by simp[lfD,F2,E8],by simp[lfD,dpD,J1],fun kds=>SM look pk fun e h=>by
  rcases he e h with rfl|rfl
  ·exact F4 kds
  ·intro t ht
   obtain rfl:t=.var z:=by simpa[trE] using ht
   trivial,nd_lf.mpr has,fun x h=>only x (nd_lf.mp h)⟩
theorem v1 (hh:h="let"\/h="give"\/h="on"){e:Ex}(he:e=.none\/e=.var z):Vd (lfD h [.str z,eD e]) z u 1:=by
 have lk:tblS.lookup h=some (["name","expression"]:List Str)/\¬h="try":=by rcases hh with rfl|rfl|rfl<;>decide +kernel
 have es:S9 (eD e)/\exN (eD e):=by rcases he with rfl|rfl;exact⟨F1,F0⟩;exact⟨AD3 hz hn hu hv,AD2 hz hn hu hv⟩
 refine WO hz hn hu hv (es:=[e]) lk.1 rfl lk.2 (.inl ⟨hh,_,_,rfl,hz,es.1⟩) (by walk_at "pa";exact⟨hn,es.2⟩) (by walk_at "pk") (by simpa using he) (.inr (.inl ⟨by rcases hh with h|h|h<;>simp[h],rfl⟩)) ?_
 rintro x (⟨e',h1,h2⟩|⟨_,h1⟩|⟨_,h1⟩)
 ·simp only[CV0,CU9,or_false,G2,false_or,W4] at h1
  subst h1
  rcases he with rfl|rfl
  ·simp[vrE] at h2
  ·left;simpa[vrE] using h2
 ·left;have:D.str z=.str x:=by simpa using h1
  cases this;rfl
 ·exact absurd (by simpa using h1:eD e=.str x) (G2 e x)
theorem v2:Vd (lfD "note" [eD (.var z)]) z u 1:=by
 refine WO hz hn hu hv (sh:=["expression"]) (es:=[.var z]) (by decide +kernel) rfl (by decide +kernel) (.inr (.inl ⟨.inl rfl,_,rfl,AD3 hz hn hu hv⟩)) (by walk_at "pa";exact AD2 hz hn hu hv) (by walk_at "pk") (by simp) (.inl ⟨.var z,by simp,by simp[vrE]⟩) ?_
 rintro x (⟨e',h1,h2⟩|⟨_,h1⟩|⟨_,h1⟩)
 ·simp only[CV0,CU9,or_false,W4] at h1
  subst h1
  left;simpa[vrE] using h2
 ·exact absurd (by simpa using h1:eD (.var z)=.str x) (G2 _ x)
 ·cases h1
theorem v3 {a:Str}(ha:a=z\/a=u):Vd (lfD "ask" [.str a,.str z,eD .none,eD .none]) z u 1:=by
 have as:nS a/\isN a:=by rcases ha with rfl|rfl;exact⟨hz,hn⟩;exact⟨hu,hv⟩
 refine WO hz hn hu hv (sh:=["name","name","expression","expression"]) (es:=[.none,.none]) (by decide +kernel) rfl (by decide +kernel) (.inr (.inr (.inl ⟨rfl,_,_,_,_,rfl,as.1,hz,F1,F1⟩))) (by walk_at "pa";exact⟨as.2,hn,F0,F0⟩) (by walk_at "pk") (by simp) (.inr (.inr ⟨.inl rfl,rfl⟩)) ?_
 rintro x (⟨e',h1,h2⟩|⟨_,h1⟩|⟨_,h1⟩)
 ·simp only[CV0,CU9,or_false,G2,false_or,W4,or_self] at h1
  subst h1
  simp[vrE] at h2
 ·have:D.str a=.str x:=by simpa using h1
  cases this;exact ha
 ·left;have:D.str z=.str x:=by simpa using h1
  cases this;rfl
theorem v4 {a:Str}(ha:a=z\/a=u):Vd (lfD "cast" [.str a,.str z,eD .none,.str "e",eD .none]) z u 1:=by
 have as:nS a/\isN a:=by rcases ha with rfl|rfl;exact⟨hz,hn⟩;exact⟨hu,hv⟩
 refine WO hz hn hu hv (sh:=["name","name","expression","word","expression"]) (es:=[.none,.none]) (by decide +kernel) rfl (by decide +kernel) (.inr (.inr (.inr (.inl ⟨rfl,_,_,_,_,_,rfl,as.1,hz,S6 CD,F1,F1⟩)))) (by walk_at "pa";exact⟨as.2,hn,F0,⟨CD,MC⟩,F0⟩) (by walk_at "pk") (by simp) (.inr (.inr ⟨.inr rfl,rfl⟩)) ?_
 rintro x (⟨e',h1,h2⟩|⟨_,h1⟩|⟨_,h1⟩)
 ·simp only[CV0,CU9,or_false,G2,false_or,W4,or_self] at h1
  subst h1
  simp[vrE] at h2
 ·have:D.str a=.str x:=by simpa using h1
  cases this;exact ha
 ·left;have:D.str z=.str x:=by simpa using h1
  cases this;rfl
theorem fk:¬(("fault":Str)="let"\/("fault":Str)="give"\/("fault":Str)="on"\/("fault":Str)="ask"\/("fault":Str)="cast")/\¬(("fault":Str)="ask"\/("fault":Str)="cast"):=by decide +kernel
theorem v5:Vd (lfD "fault" [.str "e",eD (.var z)]) z u 1:=by
 refine WO hz hn hu hv (sh:=["word","expression"]) (es:=[.var z]) (by decide +kernel) rfl (by decide +kernel) (.inr (.inr (.inr (.inr ⟨rfl,_,_,rfl,S6 CD,AD3 hz hn hu hv⟩)))) (by walk_at "pa";exact⟨⟨CD,MC⟩,AD2 hz hn hu hv⟩) (by walk_at "pk") (by simp) (.inl ⟨.var z,by simp,by simp[vrE]⟩) ?_
 rintro x (⟨e',h1,h2⟩|⟨h,_⟩|⟨h,_⟩)
 ·simp only[CV0,CU9,or_false,G2,false_or,W4] at h1
  subst h1
  left;simpa[vrE] using h2
 ·exact absurd h (fk hz hn hu hv).1
 ·exact absurd h (fk hz hn hu hv).2
theorem v6:Vd (trD (ntB 1) [("e",z,ntB 1)] .nil) z u 3:=by
 have A:=nts (n:=1) (by decide)
 have dsn:dsB (ntB 1)=[nt 0]:=by
  show dsB (.cons (nt 0) .nil)=_
  simp[dsB,dsD,nt,HK]
 have ds:dsD (trD (ntB 1) [("e",z,ntB 1)] .nil)=[trD (ntB 1) [("e",z,ntB 1)] .nil,nt 0,nt 0]:=by
  show trD (ntB 1) [("e",z,ntB 1)] .nil::HK _=_
  rw[LN]
  simp[F6,IU,dsn,dsB]
 have nn:∀x,¬(Ev x (nt 0)\/Tg x (nt 0)):=by
  rintro x (⟨e',h1,h2⟩|⟨_,h1⟩|⟨_,h1⟩)
  ·simp only[CV0,CU9,or_false,W4] at h1
   subst h1
   simp[vrE] at h2
  ·exact absurd (by simpa using h1:eD (.num 0)=.str x) (G2 _ x)
  ·cases h1
 refine⟨OH (by simp) (by simp only[CV0,CU9,or_false,forall_eq];exact⟨S6 CD,hz,A.sh⟩) A.sh trivial,tr_ok.mpr ⟨L0,⟨by simp,by simp only[CV0,CU9,or_false,forall_eq];exact⟨CD,hn,L0⟩⟩,.inl (by simp),A.ok,by simp only[CV0,CU9,or_false,forall_eq];exact A.ok,trivial⟩,
  by have:=A.cnt;simp only[trD,F2,E8,CW9,CZ3,DD6,DC4,P0,C0];lia,by have:=A.dep;simp only[trD,dpD,J1,CW9,CZ3,DD6,DC4,P0,dpB];lia,
  fun kds=>GE (A.fit kds) (by simp only[CV0,CU9,or_false,forall_eq];exact A.fit kds) (F7 kds),⟨trD (ntB 1) [("e",z,ntB 1)] .nil,by rw[ds];exact CW4,.inr (show∃w,(w,z)∈[(("e":Str),z)] from ⟨"e",by simp⟩)⟩,?_⟩
 rintro x ⟨d',h1,h2⟩
 rw[ds] at h1
 simp only[CV0,CU9,or_false,or_self] at h1
 rcases h1 with rfl|rfl
 ·rcases h2 with h2|⟨w,h2⟩
  ·exact h2.elim
  ·left
   have:(w,x)=(("e":Str),z):=by simpa using h2
   cases this;rfl
 ·exact absurd h2 (nn x)
end
end K08
open L3
open K09 (C7 C4)
namespace K08
open PySem L2 L3 PK K10
open K09 (isN nmE O4 exN C2 L4 J3 E1 F8 cntK Et fits L8 P4 L5)
def VL (l:List Deed):Prop:=∀k x,l[k]?=some x->@Vd P14 x (vn k) (vn 0) (if k<6 then 3 else 1)
theorem BD0:∀(l:List Deed) (s:Nat),(∀k x,l[k]?=some x->F2 x<=if k+s<6 then 3 else 1)->(l.map F2).sum<=l.length+2*(6-s)
 | [],_,_=>by simp
 | d::r,s,h=>by
  have h0:=h 0 d rfl
  have ih:=BD0 r (s+1) fun k x hx=>by have:=h (k+1) x (by simpa using hx);rw[show k+(s+1)=k+1+s by lia];exact this
  simp only[CW9,DG4,CV6]
  split at h0<;>lia
theorem BO3 {l:List Deed}(hl:l.length=n)(h10:10<=n)(h14:n<=14)(hj:j<=3)(hv:VL l) :
  @OP P14 [⟨"a",((CV7 n).map vn).take j,ofL l⟩]/\shown [⟨"a",((CV7 n).map vn).take j,ofL l⟩]/\(@FE P14 [⟨"a",((CV7 n).map vn).take j,ofL l⟩]↔n<=12):=by
 letI:=P14
 have hm:∀d∈toL (ofL l),∃k,k<n/\Vd d (vn k) (vn 0) (if k<6 then 3 else 1):=fun d hd=>by
  rw[J0] at hd
  obtain⟨k,hk,e⟩:=List.mem_iff_getElem.mp hd
  exact⟨k,by lia,hv k d (by rw[CX2 hk,e])⟩
 have nd:((CV7 n).map vn).Nodup:=vn_nd.sublist ((List.range_sublist.mpr h14).map _)
 have sh:shB (ofL l):=(IM _).mpr fun d hd=>by obtain⟨k,_,V⟩:=hm d hd;exact V.sh
 have ok:E1 (ofL l):=(R5 _).mpr fun d hd=>by obtain⟨k,_,V⟩:=hm d hd;exact V.ok
 have dp:dpB (ofL l)<=1:=(AO 1 _).mpr fun d hd=>by obtain⟨k,_,V⟩:=hm d hd;exact V.dep
 have fit:∀kds,U7 kds (ofL l):=fun kds=>CT kds _ fun d hd=>by obtain⟨k,_,V⟩:=hm d hd;exact V.fit kds
 have cnt:C0 (ofL l)<=26:=by
  rw[<-Z6,J0]
  have:=BD0 l 0 fun k x hx=>(hv k x hx).cnt
  lia
 have tl:(((CV7 n).map vn).take j).length=j:=by simp;lia
 have ra:rSh ⟨"a",((CV7 n).map vn).take j,ofL l⟩:=⟨AQ4,by show(List.take _ _).length<=9;lia,fun x hx=>by
  obtain⟨k,hk,rfl⟩:=DQ6.mp (List.mem_of_mem_take hx)
  exact JZ (by have:=List.mem_range.mp hk;lia),nd.sublist (List.take_sublist _ _),by show C0 (ofL l)<=90;lia,sh⟩
 have mem:∀x,Nm x (ofL l)↔x∈(CV7 n).map vn:=fun x=>by
  have e:dsB (ofL l)=l.flatMap dsD:=by rw[ZL,J0]
  constructor
  ·rintro⟨d',h1,h2⟩
   rw[e] at h1
   obtain⟨d,h3,h4⟩:=List.mem_flatMap.mp h1
   obtain⟨k,hk,V⟩:=hm d (by rw[J0];exact h3)
   rcases V.only x ⟨d',h4,h2⟩ with rfl|rfl
   ·exact DJ1 (List.mem_range.mpr hk)
   ·exact DJ1 (List.mem_range.mpr (by lia))
  ·intro hx
   obtain⟨k,hk,rfl⟩:=DQ6.mp hx
   have hk:=List.mem_range.mp hk
   obtain⟨d',h1,h2⟩:=(hv k l[k] (CX2 (by lia))).has
   exact⟨d',by rw[e];exact List.mem_flatMap.mpr ⟨_,DB2 _,h1⟩,h2⟩
 have dm:∀z,z∈((CV7 n).map vn).drop j↔Nm z (ofL l)/\z∉((CV7 n).map vn).take j:=fun z=>by
  rw[mem z]
  have e:=DQ5 j ((CV7 n).map vn)
  have nd2:=nd
  rw[<-e] at nd2
  have dis:=(List.nodup_append.mp nd2).2.2
  constructor
  ·intro h;exact⟨List.mem_of_mem_drop h,fun h2=>dis z h2 z h rfl⟩
  ·rintro⟨h1,h2⟩
   rw[<-e] at h1
   exact(CZ9.mp h1).resolve_left h2
 have dnd:(((CV7 n).map vn).drop j).Nodup:=nd.sublist (List.drop_sublist _ _)
 have dl:(((CV7 n).map vn).drop j).length=n-j:=by simp
 have vo:ZA ⟨"a",((CV7 n).map vn).take j,ofL l⟩↔n<=12:=by
  constructor
  ·intro h
   have:=h _ dnd dm
   rw[dl] at this
   have e:(⟨"a",((CV7 n).map vn).take j,ofL l⟩:Rl).pars.length=j:=tl
   lia
  ·intro h ys n2 m2
   have e:=NQ n2 dnd fun x=>(m2 x).trans (dm x).symm
   rw[e,dl]
   have e:(⟨"a",((CV7 n).map vn).take j,ofL l⟩:Rl).pars.length=j:=tl
   lia
 have ne:ofL l≠.nil:=fun e=>by have:=congrArg (fun b=>(toL b).length) e;simp[J0,toL] at this;rw[this] at hl;simp at hl;lia
 refine⟨⟨by simp,by simp only[CV0,CU9,or_false,forall_eq];exact ra,by show((CV7 14).map vn).length<=15;simp,by simp,by simp only[CV0,CU9,or_false,forall_eq];exact fit _⟩,
  V9 (by simp only[CV0,CU9,or_false,forall_eq];exact⟨ra,by show dpB (ofL l)<=8;lia⟩) (by simp) (by simp only[CW9,CZ3,DG4,DL7];lia),?_⟩
 unfold FE TV
 simp only[CV0,CU9,or_false,forall_eq,vo]
 exact⟨fun z=>z.2.2.2.2.2,fun z=>⟨by simp,by simp,by rw[tl];exact hj,ne,⟨ok,by lia,by lia⟩,z⟩⟩
def vl (z u:Str):List Deed:=[lfD "let" [.str z,eD .none],lfD "note" [eD (.var z)],lfD "ask" [.str z,.str z,eD .none,eD .none],lfD "ask" [.str u,.str z,eD .none,eD .none],lfD "on" [.str z,eD (.var z)],lfD "give" [.str z,eD .none],
 lfD "cast" [.str z,.str z,eD .none,.str "e",eD .none],lfD "cast" [.str u,.str z,eD .none,.str "e",eD .none],lfD "fault" [.str "e",eD (.var z)]]
theorem Vd.more [Pool]{d:Deed}{z u:Str}{c c':Nat}(V:Vd d z u c)(h:c<=c'):Vd d z u c':=⟨V.sh,V.ok,CY4 V.cnt h,V.dep,V.fit,V.has,V.only⟩
theorem CE5 [Pool]{z u:Str}(hz:nS z)(hn:isN z)(hu:nS u)(hv:isN u):∀d∈vl z u,Vd d z u 1:=by
 unfold vl
 simp only[CV0,CU9,or_false,forall_eq_or_imp,forall_eq]
 exact⟨v1 hz hn hu hv (.inl rfl) (.inl rfl),v2 hz hn hu hv,v3 hz hn hu hv (.inl rfl),v3 hz hn hu hv (.inr rfl),v1 hz hn hu hv (.inr (.inr rfl)) (.inr rfl),v1 hz hn hu hv (.inr (.inl rfl)) (.inl rfl),v4 hz hn hu hv (.inl rfl),v4 hz hn hu hv (.inr rfl),v5 hz hn hu hv⟩
theorem vlD (z u:Str):[D.tup [.str "let",.str z,.tup [.str "none"]],.tup [.str "note",.tup [.str "var",.str z]],.tup [.str "ask",.str z,.str z,.tup [.str "none"],.tup [.str "none"]]]++[.tup [.str "ask",.str u,.str z,.tup [.str "none"],.tup [.str "none"]],.tup [.str "on",.str z,.tup [.str "var",.str z]]] ++
  [.tup [.str "give",.str z,.tup [.str "none"]],.tup [.str "cast",.str z,.str z,.tup [.str "none"],.str "e",.tup [.str "none"]]]++[.tup [.str "cast",.str u,.str z,.tup [.str "none"],.str "e",.tup [.str "none"]],.tup [.str "fault",.str "e",.tup [.str "var",.str z]]]=(vl z u).map dD:=by
 simp[vl,AG7,eD]
end K08
open L3
open K09 (C7 C4)
namespace K08
open PySem L2 L3 PK K10
open K09 (isN nmE O4 exN C2 L4 J3 E1 F8 cntK Et fits L8 P4 L5)
theorem BR9 {l:List D}(h:n<=l.length):cutD l none (some (n:Int))=l.take n:=by
 unfold cutD
 rw[HT.BC2,HT.BN8,Nat.min_eq_left h]
 simp
theorem CF:∀ds M Q,K1 ds M Q->ds.length=1:=CZ
theorem DG:∀ds M Q,K1 ds M Q->I0 {nx:=fun _ M'=>View Q .non M',rt:=View Q} (B3 S5 ds) M:=by
 rintro _ M Q ⟨p,b,rfl,hP,hb,q⟩
 have hz:CV8=16777216:=CX1
 unfold I0
 walk_at "w"
 refine draw hP (by lia) (by decide) (by decide) fun w M1 w0 w1 hP1 e1=>?_
 obtain⟨n,hn,rfl⟩:∃n:Nat,(10<=n/\n<=14)/\w=(n:Int)-10:=⟨w.toNat+10,by lia,by lia⟩
 have c1:(10:Int)+((n:Int)-10)=(n:Int):=by lia
 walk_at "w"
 rw[c1]
 refine⟨by lia,by lia,?_⟩
 walk_at "w"
 rw[DA6]
 refine G4 (CV7 n) (fun k=>D.int (k:Nat)) (fun k=>D.str (vn k)) (by rw[CZ1];lia) ?_ ?_
 ·intro k hk M3 R F _ hR
  have hk:=List.mem_range.mp hk
  walk_at "w"
  refine AB9 (by rw[hz];decide +kernel) (ixL (n:=14) (by decide +kernel) (by lia)) ?_
  walk_at "w"
  refine LS (by rw[hz,show(("v":Str)).length=1 by decide +kernel];exact(by decide:(1+1:Nat)<=16777216)) ?_
  exact hR
 ·have em:(CV7 n).map (fun k=>D.str (vn k))=((CV7 n).map vn).map D.str:=by rw[DA8];rfl
  rw[em]
  walk_at "w"
  refine draw hP1 (by lia) (by decide) (by decide) fun f M2 f0 f1 hP2 e2=>?_
  obtain⟨j,rfl⟩:∃j:Nat,f=j:=⟨f.toNat,by lia⟩
  walk_at "w"
  refine UO ?_
  rw[BR9 (by rw[CV1,CV1,CZ1];lia),<-List.map_take]
  walk_at "w"
  refine⟨1,rfl,by decide,?_⟩
  walk_at "w"
  intro a ha
  have hpa:p≠a:=AY6 hP2 ha
  walk_at "w"
  refine⟨fun k σ M'=>(∃s6 s7,σ=[some (.ref p),some (.int n),some (.lst (((CV7 n).map vn).map D.str)),some (.tup ((((CV7 n).map vn).take j).map D.str)),some (.tup (dB (ntB 1))),some (.ref a),s6,s7]) /\
   ∃l,M' a=some (.lst (l.map dD))/\l.length=k/\VL l/\Pen M' p (b+2+k),⟨⟨_,_,rfl⟩,[],B4,rfl,fun k x hx=>by simp at hx,D6 (IH hP2 hpa) (by lia)⟩,?_,?_⟩
  ·rintro k d0 σ M' hd0 ⟨⟨s6,s7,rfl⟩,l,hm,hl,hv,hP'⟩
   have hk:k<n:=by
    have h:=(List.getElem?_eq_some_iff.mp hd0).1
    simpa using h
   have hd:d0=.str (vn k):=by
    rw[CW8,CW8,DM9 hk] at hd0
    simpa using hd0.symm
   subst hd
   have h0:atI (((CV7 n).map vn).map D.str) 0=some (.str (vn 0)):=L2.G3 (j:=0) (by rw[CW8,CW8,DM9 (by lia)];rfl)
   walk_at "w"
   refine L1 h0 ?_
   walk_at "w"
   refine K6 (by simp only[CV6,CY0];lia) ?_
   walk_at "w"
   refine K6 (by simp only[CV6,CY0,CW3];lia) ?_
   walk_at "w"
   refine L1 h0 ?_
   walk_at "w"
   refine BM8 (.inl rfl) (.inl rfl) (by simp only[CV6,CY0,CW3];lia) fun c hc=>?_
   rw[vlD]
   have hca:a≠c:=by rintro rfl;rw[hm] at hc;cases hc
   have hpc:p≠c:=AY6 hP' hc
   have hk14:k<14:=by lia
   have all:=@CE5 P14 _ _ (AJ8 hk14) (JZ hk14) (AJ8 (k:=0) (by lia)) (JZ (k:=0) (by lia))
   have HA:D3 M' c (.lst ((vl (vn k) (vn 0)).map dD)) a=some (.lst (l.map dD)):=by rw[D0 hca];exact hm
   walk_at "w"
   refine UJ HA ?_
   walk_at "w"
   rw[CV1]
   by_cases h6:l.length<6
   ·refine B7 (decide_eq_true (by lia)) ?_
    show(A5 _) _ _ _
    walk_at "w"
    refine⟨c,_,4,4,rfl,rfl,B4,by rw[CV1];rfl,?_⟩
    have et:D.tup [.str "try",.tup (dB (ntB 1)),.tup [.tup [.str "e",.str (vn k),.tup (dB (ntB 1))]],.tup []]=dD (trD (ntB 1) [("e",vn k,ntB 1)] .nil):=by rw[OG];rfl
    rw[L5,et,<-List.map_set]
    have HA:D3 M' c (.lst (((vl (vn k) (vn 0)).set 4 (trD (ntB 1) [("e",vn k,ntB 1)] .nil)).map dD)) a=some (.lst (l.map dD)):=by rw[D0 hca];exact hm
    have HC:D3 M' c (.lst (((vl (vn k) (vn 0)).set 4 (trD (ntB 1) [("e",vn k,ntB 1)] .nil)).map dD)) c=some (.lst (((vl (vn k) (vn 0)).set 4 (trD (ntB 1) [("e",vn k,ntB 1)] .nil)).map dD)):=B4
    have HP:=IH hP' hpc (o:=.lst (((vl (vn k) (vn 0)).set 4 (trD (ntB 1) [("e",vn k,ntB 1)] .nil)).map dD))
    have HL:((vl (vn k) (vn 0)).set 4 (trD (ntB 1) [("e",vn k,ntB 1)] .nil)).length=9:=by rw[List.length_set];rfl
    have HV:∀d∈(vl (vn k) (vn 0)).set 4 (trD (ntB 1) [("e",vn k,ntB 1)] .nil),@Vd P14 d (vn k) (vn 0) (if k<6 then 3 else 1):=fun d hd=>by
     rw[if_pos (by lia)]
     rcases List.mem_or_eq_of_mem_set hd with h|rfl
     ·exact @Vd.more P14 _ _ _ _ _ (all d h) (by decide)
     ·exact @v6 P14 _ _ (AJ8 hk14) (JZ hk14) (AJ8 (k:=0) (by lia)) (JZ (k:=0) (by lia))
    walk_at "w"
    refine⟨.inl ⟨rfl,_,HA⟩,?_⟩
    walk_at "w"
    refine draw HP (by lia) (by decide) (by decide) fun g M3 g0 g1 hP3 e3=>?_
    obtain⟨i,rfl⟩:∃i:Nat,g=i:=⟨g.toNat,by lia⟩
    have ha3:M3 a=some (.lst (l.map dD)):=by rw[e3 a hpa.symm];exact HA
    have hc3:M3 c=some (.lst (((vl (vn k) (vn 0)).set 4 (trD (ntB 1) [("e",vn k,ntB 1)] .nil)).map dD)):=by rw[e3 c hpc.symm];exact HC
    have hi:i<((vl (vn k) (vn 0)).set 4 (trD (ntB 1) [("e",vn k,ntB 1)] .nil)).length:=by rw[HL];lia
    refine⟨_,dD ((vl (vn k) (vn 0)).set 4 (trD (ntB 1) [("e",vn k,ntB 1)] .nil))[i],hc3,L2.G3 (by rw[CW8,CX2 hi];rfl),?_⟩
    walk_at "w"
    refine EO ha3 (by rw[CV1];lia) ?_
    walk_at "w"
    refine⟨⟨_,_,rfl⟩,l++[((vl (vn k) (vn 0)).set 4 (trD (ntB 1) [("e",vn k,ntB 1)] .nil))[i]],by rw[B4,CX6];rfl,by simp[hl],fun k' x hx=>?_,D6 (IH hP3 hpa) (by lia)⟩
    rcases Nat.lt_trichotomy k' l.length with h|h|h
    ·rw[CZ0 h] at hx
     exact hv k' x hx
    ·subst h
     rw[CX8 (CW1 _)] at hx
     obtain rfl:((vl (vn k) (vn 0)).set 4 (trD (ntB 1) [("e",vn k,ntB 1)] .nil))[i]=x:=by simpa using hx
     rw[hl]
     exact HV _ (DB2 hi)
    ·rw[CX8 (by lia)] at hx
     rw[DQ8 (by simp;lia)] at hx
     cases hx
   ·refine A8 (decide_eq_false (by lia)) ?_
    have HC:D3 M' c (.lst ((vl (vn k) (vn 0)).map dD)) c=some (.lst ((vl (vn k) (vn 0)).map dD)):=B4
    have HP:=IH hP' hpc (o:=.lst ((vl (vn k) (vn 0)).map dD))
    have HL:(vl (vn k) (vn 0)).length=9:=rfl
    have HV:∀d∈vl (vn k) (vn 0),@Vd P14 d (vn k) (vn 0) (if k<6 then 3 else 1):=fun d hd=>by rw[if_neg (by lia)];exact all d hd
    walk_at "w"
    refine⟨.inl ⟨rfl,_,HA⟩,?_⟩
    walk_at "w"
    refine draw HP (by lia) (by decide) (by decide) fun g M3 g0 g1 hP3 e3=>?_
    obtain⟨i,rfl⟩:∃i:Nat,g=i:=⟨g.toNat,by lia⟩
    have ha3:M3 a=some (.lst (l.map dD)):=by rw[e3 a hpa.symm];exact HA
    have hc3:M3 c=some (.lst ((vl (vn k) (vn 0)).map dD)):=by rw[e3 c hpc.symm];exact HC
    have hi:i<(vl (vn k) (vn 0)).length:=by rw[HL];lia
    refine⟨_,dD (vl (vn k) (vn 0))[i],hc3,L2.G3 (by rw[CW8,CX2 hi];rfl),?_⟩
    walk_at "w"
    refine EO ha3 (by rw[CV1];lia) ?_
    walk_at "w"
    refine⟨⟨_,_,rfl⟩,l++[(vl (vn k) (vn 0))[i]],by rw[B4,CX6];rfl,by simp[hl],fun k' x hx=>?_,D6 (IH hP3 hpa) (by lia)⟩
    rcases Nat.lt_trichotomy k' l.length with h|h|h
    ·rw[CZ0 h] at hx
     exact hv k' x hx
    ·subst h
     rw[CX8 (CW1 _)] at hx
     obtain rfl:(vl (vn k) (vn 0))[i]=x:=by simpa using hx
     rw[hl]
     exact HV _ (DB2 hi)
    ·rw[CX8 (by lia)] at hx
     rw[DQ8 (by simp;lia)] at hx
     cases hx
  ·rintro σ M' ⟨⟨s6,s7,rfl⟩,l,hm,hl,hv,hP'⟩
   rw[CV1,CV1,CZ1] at hl hP'
   walk_at "w"
   refine BN6 hm ?_
   walk_at "w"
   obtain⟨a1,a2,a3⟩:=BO3 hl hn.1 hn.2 (j:=j) (by lia) hv
   have fin:=View.of (q P14 [⟨"a",((CV7 n).map vn).take j,ofL l⟩] (decide ((n:Int)<=12)) M' a1 a2 (by rw[a3,decide_eq_true_eq];exact⟨fun h=>by lia,fun h=>by lia⟩) (D6 hP' (by lia)))
   rw[show[(⟨"a",((CV7 n).map vn).take j,ofL l⟩:Rl)].map rD=[.tup [.str "a",.tup ((((CV7 n).map vn).take j).map D.str),.tup (l.map dD)]] from by rw[<-CO];rfl] at fin
   exact fin
end K08
open L3
open K09 (C7 C4)
namespace K08
open PySem L2 L3 PK K10
open K09 (isN nmE O4 exN C2 L4 J3 E1 F8 cntK Et fits L8 P4 L5)
theorem OT:∀ds M Q,NT ds M Q->ds.length=1:=by rintro _ _ _ ⟨_,_,rfl,_⟩;rfl
theorem TY:∀ds M Q,NT ds M Q->Y0 {nx:=fun _ M'=>View Q .non M',rt:=View Q} (B3 KA ds) M:=by
 rintro _ M Q ⟨p,b,rfl,hP,hb,q⟩
 unfold Y0
 walk_at "w"
 refine draw hP (by lia) (by decide) (by decide) fun w M1 w0 w1 hP1 e1=>?_
 obtain⟨i,rfl⟩:∃i:Nat,w=i:=⟨w.toNat,by lia⟩
 have fin:K1 [.ref p] M1 (View Q):=⟨p,_,rfl,hP1,by lia,fun Pl rs v M2 a1 a2 a3 hP2=>View.of (q Pl rs v M2 a1 a2 a3 (D6 hP2 (by lia)))⟩
 walk_at "w"
 by_cases h4:i<4
 ·refine B7 (decide_eq_true (by lia)) ?_
  walk_at "w"
  refine XR fun fs hfs=>?_
  walk_at "w"
  refine AI8 (by lia) fun f hf=>⟨f,hf,rfl,?_⟩
  walk_at "w"
  exact fin
 ·refine A8 (decide_eq_false (by lia)) ?_
  walk_at "w"
  refine XR fun fs hfs=>?_
  walk_at "w"
  rw[show(i:Int)-4=((i-4:Nat):Int) by lia]
  refine AI8 (by lia) fun f hf=>⟨f,hf,rfl,?_⟩
  walk_at "w"
  exact fin
theorem BH6:∀ds M Q,L3.GS ds M Q->ds.length=1:=by rintro _ _ _ ⟨_,rfl,_⟩;rfl
theorem BY6:∀ds M Q,L3.GS ds M Q->AJ4 {nx:=fun _ M'=>View Q .non M',rt:=View Q} (B3 BO5 ds) M:=by
 rintro _ M Q ⟨ns,rfl,hl,hM,q⟩
 unfold AJ4
 walk_at "w"
 refine⟨ns,rfl,hl,fun p M1 hp hP0 _=>?_⟩
 walk_at "w"
 refine⟨fun k σ M=>(∃x2 x3 x4 x5 x6:Option D,σ=[some (.lst (ns.map D.int)),some (.ref p),x2,x3,x4,x5,x6])/\Pen M p (61*k),⟨⟨_,_,_,_,_,rfl⟩,hP0⟩,?_,?_⟩
 ·rintro k d σ M2 hk ⟨⟨x2,x3,x4,x5,x6,rfl⟩,hP⟩
  have hk16:k<16:=by
   have h:=(List.getElem?_eq_some_iff.mp hk).1
   simpa using h
  walk_at "w"
  refine⟨p,_,rfl,hP,by lia,fun Pl rs v M3 a1 a2 a3 hP3=>?_⟩
  walk_at "w"
  refine AZ (by rfl) ?_
  walk_at "w"
  refine⟨a2,?_⟩
  walk_at "w"
  refine⟨Pl,rs,rfl,a1,fun v2 hv2=>?_⟩
  obtain rfl:v2=v:=by rw[DE5,hv2,a3]
  walk_at "w"
  refine GO trivial (.inl rfl) ?_
  walk_at "w"
  refine A8 (by rw[beq_self_eq_true];rfl) ?_
  walk_at "w"
  refine⟨a2,?_⟩
  walk_at "w"
  refine A8 (by rw[beq_self_eq_true];rfl) ?_
  walk_at "w"
  exact⟨⟨_,_,_,_,_,rfl⟩,by rw[Nat.mul_succ];exact hP3⟩
 ·rintro σ M2 ⟨⟨x2,x3,x4,x5,x6,rfl⟩,hP⟩
  walk_at "w"
  exact View.of (q _)
end K08
namespace L3
open PySem PySem.Spec PyProof.Rows L2
theorem AN2 {X:Cx}
  (hc:X.calm=true) (hi:HE X tg iter ti) (hkind:scope.kind=.function) (hcell:∀y∈scope.names,y.2≠.cell)
  (hnames:∀y∈scope.names,y.2=.local->scope.names.lookup y.1=some .local)
  (hfree:∀y∈scope.names,y.2=.free->X.env.kindOf y.1=some .cell\/X.env.kindOf y.1=some .free)
  (hcf:∀y∈caps,scope.names.lookup y=some .free) (hcaps:slots.map (fun j=>X.N[j]?)=caps.map some)
  (hgk:∀d M Q (cs:Lo),g d (CV2 tns.length none++cs) M Q->g d (CV2 tns.length none++cs) M (fun σ' M'=>σ'.drop tns.length=cs/\Q σ' M'))
  (hg:∀cl s₀ H₀ ex,PG3 (B0 X scope cl s₀ H₀ ex (tns++caps)) tg g)
  (ht:∀cl s₀ H₀ ex,AN (B0 X scope cl s₀ H₀ ex (tns++caps)) ifs tt) (he:∀cl s₀ H₀ ex,PE3 (B0 X scope cl s₀ H₀ ex (tns++caps)) kx tk) (hv:∀cl s₀ H₀ ex,PE3 (B0 X scope cl s₀ H₀ ex (tns++caps)) vx tv)
  (hs:∀y,CY5 iter X.env y=pure y:=by intro _;rfl) :
  PE3 X (.DictComp kx vx [⟨tg,iter,ifs,0⟩] scope pos) (LW ti tns.length slots g tt tk tv):=by
 intro pins s σv H σ M Q I hS hM h
 rw[arm_eval_DictComp]
 refine ZH hc hi hkind hcell hnames hfree hcf hcaps hgk hg ht he hv hs (use:=none) (F:=fun p _ M=>Q (.ref p) M) I hS hM h fun D C acc H5 M5 s6 m hn I7 c1 c2 c3 c4 c5 c6 st m5 hp hq=>?_
 exact⟨m,hn,fun h' sb=>⟨.ref D,.ref D,M5,H5,I7.turned (t':=s6.toks) (it:=C) (fun b o hb e=>(sb.2 b hb).trans e) c1 c2 (.inr c4) c5 c6,st,m5,rfl,.ref,hq⟩⟩
theorem AA0 {X:Cx}(tns caps:List Str)(slots:List Nat)
  (hc:X.calm=true) (hi:HE X tg iter ti) (hkind:scope.kind=.function) (hok:N5 X.env scope caps=true) (hcaps:slots.map (fun j=>X.N[j]?)=caps.map some)
  (hgk:∀d M Q (cs:Lo),g d (CV2 tns.length none++cs) M Q->g d (CV2 tns.length none++cs) M (fun σ' M'=>σ'.drop tns.length=cs/\Q σ' M'))
  (hg:∀cl s₀ H₀ ex,PG3 (B0 X scope cl s₀ H₀ ex (tns++caps)) tg g)
  (ht:∀cl s₀ H₀ ex,AN (B0 X scope cl s₀ H₀ ex (tns++caps)) ifs tt) (he:∀cl s₀ H₀ ex,PE3 (B0 X scope cl s₀ H₀ ex (tns++caps)) kx tk) (hv:∀cl s₀ H₀ ex,PE3 (B0 X scope cl s₀ H₀ ex (tns++caps)) vx tv)
  (hs:∀y,CY5 iter X.env y=pure y:=by intro _;rfl) :
  PE3 X (.DictComp kx vx [⟨tg,iter,ifs,0⟩] scope pos) (LW ti tns.length slots g tt tk tv):=by
 unfold N5 at hok
 rw[CX9,CX4,CX4] at hok
 obtain⟨h1,h2⟩:=hok
 refine AN2 hc hi hkind (fun y hy e=>?_) (fun y hy e=>?_) (fun y hy e=>?_) (fun y hy=>?_) hcaps hgk hg ht he hv hs
 ·have:=h1 y hy;rw[e] at this;cases this
 ·have:=h1 y hy
  rw[e] at this
  dsimp only at this
  split at this
  ·assumption
  ·cases this
 ·have:=h1 y hy
  rw[e] at this
  dsimp only at this
  split at this
  ·exact .inl (by assumption)
  ·exact .inr (by assumption)
  ·cases this
 ·have:=h2 y hy
  split at this
  ·assumption
  ·cases this
end L3
namespace K08
open PySem PySem.Spec PyProof.Rows L2 L3
open L3 renaming BJ1->zA,BP7->zB,BJ4->zC,AO3->zD,AM7->zE,BJ9->zF,BA5->zG,BL4->zH,AM8->zI,AI0->zJ,BL5->zK,BW1->zL,CL8->zM,BA4->zN,AY1->zO,BL7->zP,BX3->zQ,AH9->zR,BU4->zS,BJ3->zT,AN8->zU,BR7->zV,BP4->zW,BL8->zX,BL9->zY,AZ3->zZ,BV7->yA,BJ2->yB,AX5->yC,BJ7->yD,ZW->yE,AN1->yF,BM2->yG,AY8->yH,AN4->yI,BX8->yJ,BU9->yK,AA2->yL,BL3->yM,BR6->yN,AQ7->yO,CG8->yP,AY9->yQ,BA0->yR,BK6->yS,CH0->yT,BV8->yU,BR5->yV,BU6->yW,BV9->yX,AZ6->yY,CM2->yZ,AY3->wA,CM0->wB,AX9->wC,AX8->wD,AL9->wE,AZ5->wF,CG5->wG,AL8->wH,AN0->wI,CG9->wJ,AO1->wK,BI5->wL,AZ4->wM,AZ9->wN,BR4->wO,BU5->wP,BU7->wQ,BU8->wR
def top (i:Nat):Stmt:=PySem.Challenge.pw_handedon_k08_books_at_their_bounds.main.body.getD i (.Pass ⟨0,0,0,0⟩)
structure Blt (mg:Str->Option Value):Prop where
 abs_:mg "abs"=none
 all_:mg "all"=none
 bool_:mg "bool"=none
 int_:mg "int"=none
 isinstance_:mg "isinstance"=none
 len_:mg "len"=none
 list_:mg "list"=none
 range_:mg "range"=none
 repr_:mg "repr"=none
 set_:mg "set"=none
 sorted_:mg "sorted"=none
 str_:mg "str"=none
 tuple_:mg "tuple"=none
 zip_:mg "zip"=none
structure Cst (K:CV3)(P:Params)(mg:Str->Option Value):Prop where
 BEYOND_NUMBERS_:∃tk,mg "BEYOND_NUMBERS"=some (Value.int 1000000000000000000000000000000 tk)
 LETTERS_:∃tk,mg "LETTERS"=some (Value.str "abcdefghijklmnopqrstuvwxyz" tk)
 MOST_ARGS_:∃tk,mg "MOST_ARGS"=some (Value.int 3 tk)
 MOST_BLOCKS_:∃tk,mg "MOST_BLOCKS"=some (Value.int 5 tk)
 MOST_CATCHES_:∃tk,mg "MOST_CATCHES"=some (Value.int 3 tk)
 MOST_DEEDS_:∃tk,mg "MOST_DEEDS"=some (Value.int 30 tk)
 MOST_DEPTH_:∃tk,mg "MOST_DEPTH"=some (Value.int 4 tk)
 MOST_LETTERS_:∃tk,mg "MOST_LETTERS"=some (Value.int 8 tk)
 MOST_PARAMS_:∃tk,mg "MOST_PARAMS"=some (Value.int 3 tk)
 MOST_RULES_:∃tk,mg "MOST_RULES"=some (Value.int 8 tk)
 MOST_TREES_:∃tk,mg "MOST_TREES"=some (Value.int 9 tk)
 MOST_VARIABLES_:∃tk,mg "MOST_VARIABLES"=some (Value.int 12 tk)
 SHAPES_:∃a,mg "SHAPES"=some (.ref a)/\VP K P a K10.tblS
 SHAPES_g:∃a,mg "SHAPES"=some (.ref a)/\VP K P a K10.tblS/\(a==DG6)=false
 SHUT_NAMES_:∃a,mg "SHUT_NAMES"=some (.ref a)/\YY K a ((["any","ask","cast","catch","close","else","end","fault","give","if","last","leave","make","none","note","on","rule","try","while"]:List Str).map V.str)
 SIGNS_:∃a,mg "SIGNS"=some (.ref a)/\YY K a ((["+","-","*","<","="]:List Str).map V.str)
section
variable {P:DA0}{w:World}{K:CV3}{mg:Str->Option Value}{base:Heap}(B:Blt mg)(C:Cst K w.params mg)
local macro_rules | `(tactic| walk_at "s")=>`(tactic| exact⟨rfl,rfl,rfl,by decide +kernel,rfl,by decide +kernel,by decide +kernel⟩)
abbrev p0x:List Str:=["deed","kind"]
abbrev p1x:List Str:=["deed"]
abbrev p2x:List Str:=["block"]
abbrev p3x:List Str:=["expression"]
abbrev p4x:List Str:=["rule"]
abbrev p5x:List Str:=["thing"]
abbrev p6x:List Str:=["text","signs"]
abbrev p7x:List Str:=["number"]
abbrev p8x:List Str:=["thing","many"]
abbrev p9x:List Str:=["thing","depth"]
abbrev AW9:List Str:=["kind","part"]
abbrev ZV:List Str:=["block","depth","looped","counted"]
abbrev AX0:List Str:=["rule","counts"]
abbrev TM:List Str:=["_law_script"]
abbrev GK:List Str:=["_law_pen_here","_law_many"]
abbrev AX1:List Str:=["_law_k"]
abbrev LG:List Str:=["_law_many"]
abbrev PJ:List Str:=["_law_pen_here","_law_deed"]
abbrev AX2:List Str:=["_law_pen_here","_law_deed","_law_many"]
abbrev AX3:List Str:=["_law_pen_here","_law_expression"]
abbrev G1:List Str:=["_law_pen_here"]
abbrev s0x:Stmt:=top 2
abbrev s1x:Stmt:=top 3
abbrev s2x:Stmt:=top 4
abbrev s3x:Stmt:=top 5
abbrev s4x:Stmt:=top 6
abbrev s5x:Stmt:=top 7
abbrev s6x:Stmt:=top 8
abbrev s7x:Stmt:=top 13
abbrev s8x:Stmt:=top 14
abbrev s9x:Stmt:=top 15
abbrev BY8:Stmt:=top 16
abbrev BY9:Stmt:=top 17
abbrev BZ0:Stmt:=top 18
abbrev BZ1:Stmt:=top 31
abbrev BZ2:Stmt:=top 32
abbrev BZ3:Stmt:=top 33
abbrev BZ4:Stmt:=top 34
abbrev BZ5:Stmt:=top 35
abbrev BZ6:Stmt:=top 36
abbrev BZ7:Stmt:=top 37
abbrev BZ8:Stmt:=top 38
abbrev BZ9:Stmt:=top 39
abbrev CA0:Stmt:=top 40
abbrev CA1:Stmt:=top 41
abbrev CA2:Stmt:=top 45
abbrev CA3:Stmt:=top 42
abbrev CA4:Stmt:=top 43
abbrev CA5:Stmt:=top 44
abbrev CA6:Stmt:=top 47
abbrev CA7:Stmt:=top 48
abbrev CA8:Stmt:=top 49
abbrev CA9:Stmt:=top 50
abbrev CB0:Stmt:=top 51
abbrev CB1:Stmt:=top 52
abbrev CB2:Stmt:=top 53
abbrev CB3:Stmt:=top 54
abbrev CB4:Stmt:=top 55
abbrev CB5:Stmt:=top 56
abbrev CB6:Stmt:=top 57
abbrev CB7:Stmt:=top 58
abbrev CB8:Stmt:=top 59
abbrev CB9:Stmt:=top 60
abbrev CC0:Stmt:=top 61
abbrev CC1:Stmt:=top 62
abbrev CC2:Stmt:=top 63
abbrev CC3:Stmt:=top 64
abbrev CC4:Stmt:=top 65
abbrev CC5:Stmt:=top 66
abbrev CC6:Stmt:=top 67
theorem CT4:B5 K10.FX p0x (A7 s0x):=by walk_at "s"
theorem CT5:B5 K10.CH p1x (A7 s1x):=by walk_at "s"
theorem sc2x:B5 K10.FT p2x (A7 s2x):=by walk_at "s"
theorem CT6:B5 K10.Y9 p1x (A7 s3x):=by walk_at "s"
theorem CT7:B5 K10.Y8 p3x (A7 s4x):=by walk_at "s"
theorem sc5x:B5 K10.FZ p3x (A7 s5x):=by walk_at "s"
theorem sc6x:B5 K09.FY p4x (A7 s6x):=by walk_at "s"
theorem CT8:B5 K01.FV p5x (A7 s7x):=by walk_at "s"
theorem CT9:B5 K01.FU p6x (A7 s8x):=by walk_at "s"
theorem CU0:B5 K01.AM p5x (A7 s9x):=by walk_at "s"
theorem CN5:B5 K01.JB p5x (A7 BY8):=by walk_at "s"
theorem CN6:B5 K01.AL p7x (A7 BY9):=by walk_at "s"
theorem CN7:B5 K01.FW p8x (A7 BZ0):=by walk_at "s"
theorem CN8:B5 K06.IY p5x (A7 BZ1):=by walk_at "s"
theorem CN9:B5 K09.IX p9x (A7 BZ2):=by walk_at "s"
theorem CO0:B5 K09.JA p9x (A7 BZ3):=by walk_at "s"
theorem CO1:B5 K08.BY p5x (A7 BZ4):=by walk_at "s"
theorem CO2:B5 K09.IZ p5x (A7 BZ5):=by walk_at "s"
theorem CO3:B5 K08.LZ p5x (A7 BZ6):=by walk_at "s"
theorem CO4:B5 K08.HD p5x (A7 BZ7):=by walk_at "s"
theorem CO5:B5 K08.QH AW9 (A7 BZ8):=by walk_at "s"
theorem sc21x:B5 K08.QF p5x (A7 BZ9):=by walk_at "s"
theorem sc22x:B5 K08.MA ZV (A7 CA0):=by walk_at "s"
theorem CO6:B5 K08.KH p5x (A7 CA1):=by walk_at "s"
theorem sc24x:B5 K10.CJ p4x (A7 CA2):=by walk_at "s"
theorem CO7:B5 K08.QI p5x (A7 CA3):=by walk_at "s"
theorem sc26x:B5 K09.CI AX0 (A7 CA4):=by walk_at "s"
theorem sc27x:B5 K08.QE p5x (A7 CA5):=by walk_at "s"
theorem CO8:B5 PK.LY TM (A7 CA6):=by walk_at "s"
theorem sc29x:B5 PK.KD GK (A7 CA7):=by walk_at "s"
theorem CO9:B5 KE AX1 (A7 CA8):=by walk_at "s"
theorem CP0:B5 GZ LG (A7 CA9):=by walk_at "s"
theorem sc32x:B5 FI PJ (A7 CB0):=by walk_at "s"
theorem sc33x:B5 FJ AX2 (A7 CB1):=by walk_at "s"
theorem sc34x:B5 GY GK (A7 CB2):=by walk_at "s"
theorem sc35x:B5 HB LG (A7 CB3):=by walk_at "s"
theorem sc36x:B5 KC GK (A7 CB4):=by walk_at "s"
theorem sc37x:B5 KG AX3 (A7 CB5):=by walk_at "s"
theorem sc38x:B5 GX PJ (A7 CB6):=by walk_at "s"
theorem sc39x:B5 BX G1 (A7 CB7):=by walk_at "s"
theorem sc40x:B5 BW G1 (A7 CB8):=by walk_at "s"
theorem sc41x:B5 S5 G1 (A7 CB9):=by walk_at "s"
theorem sc42x:B5 Z4 G1 (A7 CC0):=by walk_at "s"
theorem sc43x:B5 P2 G1 (A7 CC1):=by walk_at "s"
theorem sc44x:B5 Z5 G1 (A7 CC2):=by walk_at "s"
theorem sc45x:B5 W2 G1 (A7 CC3):=by walk_at "s"
theorem sc46x:B5 S2 G1 (A7 CC4):=by walk_at "s"
theorem sc47x:B5 KA G1 (A7 CC5):=by walk_at "s"
theorem sc48x:B5 BO5 TM (A7 CC6):=by walk_at "s"
variable {f0x:Addr}{fd0x:CX7}(A0x:FnAt K mg "parts_of" s0x p0x f0x fd0x)(G0x:FO P w K mg base 1 f0x fd0x p0x K10.ET)
variable {f1x:Addr}{fd1x:CX7}(A1x:FnAt K mg "blocks_of" s1x p1x f1x fd1x)(G1x:FO P w K mg base 1 f1x fd1x p1x PK.ES)
variable {f2x:Addr}{fd2x:CX7}(A2x:FnAt K mg "deeds_of" s2x p2x f2x fd2x)(G2x:FO P w K mg base 10 f2x fd2x p2x (K10.E4 8))
variable {f3x:Addr}{fd3x:CX7}(A3x:FnAt K mg "names_given" s3x p1x f3x fd3x)(G3x:FO P w K mg base 2 f3x fd3x p1x K10.IQ)
variable {f4x:Addr}{fd4x:CX7}(A4x:FnAt K mg "branches_of" s4x p3x f4x fd4x)(G4x:FO P w K mg base 1 f4x fd4x p3x K10.W0)
variable {f5x:Addr}{fd5x:CX7}(A5x:FnAt K mg "trees_of" s5x p3x f5x fd5x)(G5x:FO P w K mg base 7 f5x fd5x p3x (K10.O9 5))
variable {f6x:Addr}{fd6x:CX7}(A6x:FnAt K mg "trees_in" s6x p4x f6x fd6x)(G6x:FO P w K mg base 11 f6x fd6x p4x K09.N6)
variable {f7x:Addr}{fd7x:CX7}(A7x:FnAt K mg "is_whole" s7x p5x f7x fd7x)(G7x:FO P w K mg base 1 f7x fd7x p5x K01.IR)
variable {f8x:Addr}{fd8x:CX7}(A8x:FnAt K mg "has_only" s8x p6x f8x fd8x)(G8x:FO P w K mg base 1 f8x fd8x p6x K01.NX)
variable {f9x:Addr}{fd9x:CX7}(A9x:FnAt K mg "is_letters" s9x p5x f9x fd9x)(G9x:FO P w K mg base 2 f9x fd9x p5x K01.O2)
variable {f10x:Addr}{fd10x:CX7}(A10x:FnAt K mg "is_word" BY8 p5x f10x fd10x)(G10x:FO P w K mg base 3 f10x fd10x p5x K01.AF)
variable {f11x:Addr}{fd11x:CX7}(A11x:FnAt K mg "has_thirty" BY9 p7x f11x fd11x)(G11x:FO P w K mg base 1 f11x fd11x p7x K01.EB)
variable {f12x:Addr}{fd12x:CX7}(A12x:FnAt K mg "is_worth" BZ0 p8x f12x fd12x)(G12x:FO P w K mg base 2 f12x fd12x p8x K01.AG)
variable {f13x:Addr}{fd13x:CX7}(A13x:FnAt K mg "is_name" BZ1 p5x f13x fd13x)(G13x:FO P w K mg base 3 f13x fd13x p5x K06.J6)
variable {f14x:Addr}{fd14x:CX7}(A14x:FnAt K mg "is_args" BZ2 p9x f14x fd14x)(G14x:FO P w K mg base 13 f14x fd14x p9x (S4 9))
variable {f15x:Addr}{fd15x:CX7}(A15x:FnAt K mg "is_tree" BZ3 p9x f15x fd15x)(G15x:FO P w K mg base 13 f15x fd15x p9x (Q4 9))
variable {f16x:Addr}{fd16x:CX7}(A16x:FnAt K mg "is_expression" BZ4 p5x f16x fd16x)(G16x:FO P w K mg base 14 f16x fd16x p5x NW)
variable {f17x:Addr}{fd17x:CX7}(A17x:FnAt K mg "is_some" BZ5 p5x f17x fd17x)(G17x:FO P w K mg base 1 f17x fd17x p5x K09.BG)
variable {f18x:Addr}{fd18x:CX7}(A18x:FnAt K mg "is_catch" BZ6 p5x f18x fd18x)(G18x:FO P w K mg base 4 f18x fd18x p5x IP)
variable {f19x:Addr}{fd19x:CX7}(A19x:FnAt K mg "is_catches" BZ7 p5x f19x fd19x)(G19x:FO P w K mg base 5 f19x fd19x p5x AE)
variable {f20x:Addr}{fd20x:CX7}(A20x:FnAt K mg "is_part" BZ8 AW9 f20x fd20x)(G20x:FO P w K mg base 15 f20x fd20x AW9 NY)
variable {f21x:Addr}{fd21x:CX7}(A21x:FnAt K mg "is_deed" BZ9 p5x f21x fd21x)(G21x:FO P w K mg base 16 f21x fd21x p5x NU)
variable {f22x:Addr}{fd22x:CX7}(A22x:FnAt K mg "is_deeds" CA0 ZV f22x fd22x)(G22x:FO P w K mg base 23 f22x fd22x ZV (E4 6))
variable {f23x:Addr}{fd23x:CX7}(A23x:FnAt K mg "is_params" CA1 p5x f23x fd23x)(G23x:FO P w K mg base 4 f23x fd23x p5x EA)
variable {f24x:Addr}{fd24x:CX7}(A24x:FnAt K mg "variables" CA2 p4x f24x fd24x)(G24x:FO P w K mg base 12 f24x fd24x p4x K10.S1)
variable {f25x:Addr}{fd25x:CX7}(A25x:FnAt K mg "is_rule" CA3 p5x f25x fd25x)(G25x:FO P w K mg base 24 f25x fd25x p5x NZ)
variable {f26x:Addr}{fd26x:CX7}(A26x:FnAt K mg "makes_fit" CA4 AX0 f26x fd26x)(G26x:FO P w K mg base 12 f26x fd26x AX0 K09.YA)
variable {f27x:Addr}{fd27x:CX7}(A27x:FnAt K mg "is_book" CA5 p5x f27x fd27x)(G27x:FO P w K mg base 25 f27x fd27x p5x DY)
variable {f28x:Addr}{fd28x:CX7}(A28x:FnAt K mg "_law_pen" CA6 TM f28x fd28x)(G28x:FO P w K mg base 1 f28x fd28x TM RM)
variable {f29x:Addr}{fd29x:CX7}(A29x:FnAt K mg "_law_draw" CA7 GK f29x fd29x)(G29x:FO P w K mg base 1 f29x fd29x GK E5)
variable {f30x:Addr}{fd30x:CX7}(A30x:FnAt K mg "_law_note" CA8 AX1 f30x fd30x)(G30x:FO P w K mg base 1 f30x fd30x AX1 JV)
variable {f31x:Addr}{fd31x:CX7}(A31x:FnAt K mg "_law_notes" CA9 LG f31x fd31x)(G31x:FO P w K mg base 2 f31x fd31x LG D8)
variable {f32x:Addr}{fd32x:CX7}(A32x:FnAt K mg "_law_around" CB0 PJ f32x fd32x)(G32x:FO P w K mg base 3 f32x fd32x PJ DW)
variable {f33x:Addr}{fd33x:CX7}(A33x:FnAt K mg "_law_nested" CB1 AX2 f33x fd33x)(G33x:FO P w K mg base 4 f33x fd33x AX2 DZ)
variable {f34x:Addr}{fd34x:CX7}(A34x:FnAt K mg "_law_deeds" CB2 GK f34x fd34x)(G34x:FO P w K mg base 3 f34x fd34x GK DX)
variable {f35x:Addr}{fd35x:CX7}(A35x:FnAt K mg "_law_sized" CB3 LG f35x fd35x)(G35x:FO P w K mg base 4 f35x fd35x LG (Q7 3))
variable {f36x:Addr}{fd36x:CX7}(A36x:FnAt K mg "_law_deep" CB4 GK f36x fd36x)(G36x:FO P w K mg base 2 f36x fd36x GK NV)
variable {f37x:Addr}{fd37x:CX7}(A37x:FnAt K mg "_law_with" CB5 AX3 f37x fd37x)(G37x:FO P w K mg base 3 f37x fd37x AX3 JW)
variable {f38x:Addr}{fd38x:CX7}(A38x:FnAt K mg "_law_books" CB6 PJ f38x fd38x)(G38x:FO P w K mg base 3 f38x fd38x PJ T5)
variable {f39x:Addr}{fd39x:CX7}(A39x:FnAt K mg "_law_of_rules" CB7 G1 f39x fd39x)(G39x:FO P w K mg base 6 f39x fd39x G1 K1)
variable {f40x:Addr}{fd40x:CX7}(A40x:FnAt K mg "_law_of_deeds" CB8 G1 f40x fd40x)(G40x:FO P w K mg base 6 f40x fd40x G1 K1)
variable {f41x:Addr}{fd41x:CX7}(A41x:FnAt K mg "_law_of_variables" CB9 G1 f41x fd41x)(G41x:FO P w K mg base 6 f41x fd41x G1 K1)
variable {f42x:Addr}{fd42x:CX7}(A42x:FnAt K mg "_law_of_blocks" CC0 G1 f42x fd42x)(G42x:FO P w K mg base 6 f42x fd42x G1 K1)
variable {f43x:Addr}{fd43x:CX7}(A43x:FnAt K mg "_law_of_expressions" CC1 G1 f43x fd43x)(G43x:FO P w K mg base 6 f43x fd43x G1 K1)
variable {f44x:Addr}{fd44x:CX7}(A44x:FnAt K mg "_law_of_params" CC2 G1 f44x fd44x)(G44x:FO P w K mg base 6 f44x fd44x G1 K1)
variable {f45x:Addr}{fd45x:CX7}(A45x:FnAt K mg "_law_of_catches" CC3 G1 f45x fd45x)(G45x:FO P w K mg base 6 f45x fd45x G1 K1)
variable {f46x:Addr}{fd46x:CX7}(A46x:FnAt K mg "_law_of_signs" CC4 G1 f46x fd46x)(G46x:FO P w K mg base 6 f46x fd46x G1 K1)
variable {f47x:Addr}{fd47x:CX7}(A47x:FnAt K mg "_law_case" CC5 G1 f47x fd47x)(G47x:FO P w K mg base 7 f47x fd47x G1 NT)
variable {f48x:Addr}{fd48x:CX7}(A48x:FnAt K mg "law" CC6 TM f48x fd48x)(G48x:FO P w K mg base 26 f48x fd48x TM L3.GS)
set_option maxHeartbeats 4000000
include B C
include A0x in
theorem CS3:FO P w K mg base 1 f0x fd0x p0x K10.ET:=by
  refine Fun.ok3 A0x.fn CT4 K10.SX fun cdv A outer s H E hr=>⟨K10.BQ,?_,K10.XQ⟩
  unfold K10.BQ
  exact zG (zH (WX ["shape","part"] ["kind"] [1] rfl (AI1 rfl B.zip_ (zB (BW0 rfl C.SHAPES_ (zO (pv3 0) zC (fun _ _=>rfl)) (fun _ _=>rfl)) (zB (TN (pv3 0) (yY zC) wF) zA))) rfl (by first|rfl|kernel_rfl) rfl (JD (by decide)) (fun cl s₀ H₀ ex=>(yS rfl (zU (i:=0) (show CZ6 (["shape","part","kind"]:List Str) by decide +kernel) rfl (Or.inl rfl) (zU (i:=1) (show CZ6 (["shape","part","kind"]:List Str) by decide +kernel) rfl (Or.inl rfl) yQ (Or.inr rfl)) (Or.inr rfl)))) (fun cl s₀ H₀ ex=>(wM (zP (zW hr) (pv3 0) (pv3 2) (B2 _)))) (fun cl s₀ H₀ ex=>(pv3 1))))
include A1x in
theorem CS4:FO P w K mg base 1 f1x fd1x p1x PK.ES:=by
  refine Fun.ok3 A1x.fn CT5 K10.OY fun cdv A outer s H E hr=>⟨K10.Y4,?_,K10.UD⟩
  unfold K10.Y4
  refine zD ?_ ?_
  ·exact(zQ (zP (zW hr) (zO (pv3 0) zC (fun _ _=>rfl)) zJ (B2 _)) (zG (zH (zR (zB (zO (pv3 0) zC (fun _ _=>rfl)) (zB (zO (pv3 0) zC (fun _ _=>rfl)) zA))))) zN)
  refine zD ?_ ?_
  ·exact(zQ (zP (zW hr) (zO (pv3 0) zC (fun _ _=>rfl)) zJ (B2 _)) (zG (zH (zR (zB (zO (pv3 0) zC (fun _ _=>rfl)) zA)))) zN)
  refine zD ?_ ?_
  ·exact(zQ (zP (zW hr) (zO (pv3 0) zC (fun _ _=>rfl)) zJ (B2 _)) (zG (zH (zL zS (zL zS (zR (zB (zO (pv3 0) zC (fun _ _=>rfl)) zA)) (yF ["caught","name","block"] [] [] rfl (yZ (zO (pv3 0) zC (fun _ _=>rfl))) rfl (by first|rfl|kernel_rfl) rfl (JD (by decide)) (fun cl s₀ H₀ ex=>(yS rfl (zU (i:=0) (show CZ6 (["caught","name","block"]:List Str) by decide +kernel) rfl (Or.inl rfl) (zU (i:=1) (show CZ6 (["caught","name","block"]:List Str) by decide +kernel) rfl (Or.inl rfl) (zU (i:=2) (show CZ6 (["caught","name","block"]:List Str) by decide +kernel) rfl (Or.inl rfl) yQ (Or.inr rfl)) (Or.inr rfl)) (Or.inr rfl)))) (fun cl s₀ H₀ ex=>zZ) (fun cl s₀ H₀ ex=>(pv3 2)))) (zR (zB (zO (pv3 0) zC (fun _ _=>rfl)) zA))))) zN)
  exact zG (zH (zR zA))
include A1x G1x A2x in
theorem CS5 (G2x:FO P w K mg base kr f2x fd2x p2x (K10.E4 lv))(hkr:2<=kr):FO P w K mg base (kr+1) f2x fd2x p2x (K10.E4 (lv+1)):=by
  refine Fun.ok3 A2x.fn sc2x (K10.HZ (lv+1)) fun cdv A outer s H E hr=>⟨K10.BK (K10.E4 lv),?_,K10.XH lv⟩
  unfold K10.BK
  refine zD ?_ ?_
  ·exact(zK (i:=1) sc2x.nd rfl (Or.inl rfl) (wA zA))
  refine zD ?_ ?_
  ·exact(yM DC2 rfl (yZ (pv3 0)) sc2x.nd rfl (Or.inl rfl) (zD (yR (yU DG1 DP2 F.type_list_append wH (pv3 1) (zB (pv3 2) zA)))
  (zG (yM DC2 rfl (wB (zE G1x A1x (hr.mono (by omega)) (zB (pv3 2) zA))) sc2x.nd rfl (Or.inl rfl) (zG (yR (yU DG1 DK7 DP1 wE (pv3 1) (zB (zE G2x A2x hr (zB (pv3 3) zA)) zA))))))))
  exact zG (zH (pv3 1))
include A1x G1x A2x in
theorem BP0:∀lv:Nat,FO P w K mg base (2+lv) f2x fd2x p2x (K10.E4 lv)
 | 0=>U4 K10.HZ K10.PZ
 | lv+1=>by
  obtain G2x:=BP0 lv
  exact CS5 B C A1x G1x A2x G2x (DF0 _ _)
include A0x G0x A3x in
theorem CS6:FO P w K mg base 2 f3x fd3x p1x K10.IQ:=by
  refine Fun.ok3 A3x.fn CT6 K10.LF fun cdv A outer s H E hr=>⟨K10.R4,?_,K10.NK⟩
  unfold K10.R4
  refine zD ?_ ?_
  ·exact(zQ (zP (zW hr) (zO (pv3 0) zC (fun _ _=>rfl)) zJ (B2 _)) (zG (zH (ZZ ["caught","name","block"] [] [] rfl (yZ (zO (pv3 0) zC (fun _ _=>rfl))) rfl (by first|rfl|kernel_rfl) rfl (JD (by decide)) (fun cl s₀ H₀ ex=>(yS rfl (zU (i:=0) (show CZ6 (["caught","name","block"]:List Str) by decide +kernel) rfl (Or.inl rfl) (zU (i:=1) (show CZ6 (["caught","name","block"]:List Str) by decide +kernel) rfl (Or.inl rfl) (zU (i:=2) (show CZ6 (["caught","name","block"]:List Str) by decide +kernel) rfl (Or.inl rfl) yQ (Or.inr rfl)) (Or.inr rfl)) (Or.inr rfl)))) (fun cl s₀ H₀ ex=>zZ) (fun cl s₀ H₀ ex=>(pv3 1))))) zN)
  exact zG (zH (zE G0x A0x (hr.mono (by decide)) (zB (pv3 0) (zB zJ zA))))
include A4x in
theorem CS7:FO P w K mg base 1 f4x fd4x p3x K10.W0:=by
  refine Fun.ok3 A4x.fn CT7 K10.LE fun cdv A outer s H E hr=>⟨K10.R1,?_,K10.NI⟩
  unfold K10.R1
  refine zD ?_ ?_
  ·exact(zQ (zP (zW hr) (zO (pv3 0) zC (fun _ _=>rfl)) zJ (B2 _)) (zG (zH (zR (zB (zO (pv3 0) zC (fun _ _=>rfl)) (zB (zO (pv3 0) zC (fun _ _=>rfl)) zA))))) zN)
  refine zD ?_ ?_
  ·exact(zQ (zP (zW hr) (zO (pv3 0) zC (fun _ _=>rfl)) zJ (B2 _)) (zG (zH (yE AE1 rfl B.list_ AD8 (zB (zO (pv3 0) zC (fun _ _=>rfl)) zA)))) zN)
  exact zG (zH (zR zA))
include A4x G4x A5x in
theorem CS8 (G5x:FO P w K mg base kr f5x fd5x p3x (K10.O9 lv))(hkr:2<=kr):FO P w K mg base (kr+1) f5x fd5x p3x (K10.O9 (lv+1)):=by
  refine Fun.ok3 A5x.fn sc5x (K10.IC (lv+1)) fun cdv A outer s H E hr=>⟨K10.BS (K10.O9 lv),?_,K10.XT lv⟩
  unfold K10.BS
  refine zD ?_ ?_
  ·exact(zK (i:=1) sc5x.nd rfl (Or.inl rfl) (wA (zB (pv3 0) zA)))
  refine zD ?_ ?_
  ·exact(yM DC2 rfl (wB (zE G4x A4x (hr.mono (by omega)) (zB (pv3 0) zA))) sc5x.nd rfl (Or.inl rfl) (zG (yR (yU DG1 DK7 DP1 wE (pv3 1) (zB (zE G5x A5x hr (zB (pv3 2) zA)) zA)))))
  exact zG (zH (pv3 1))
include A4x G4x A5x in
theorem BP1:∀lv:Nat,FO P w K mg base (2+lv) f5x fd5x p3x (K10.O9 lv)
 | 0=>U4 K10.IC K10.QD
 | lv+1=>by
  obtain G5x:=BP1 lv
  exact CS8 B C A4x G4x A5x G5x (DF0 _ _)
include A0x G0x A2x G2x A5x G5x A6x in
theorem CS9:FO P w K mg base 11 f6x fd6x p4x K09.N6:=by
  refine Fun.ok3 A6x.fn sc6x K09.SY fun cdv A outer s H E hr=>⟨K09.BR,?_,K09.XS⟩
  unfold K09.BR
  refine zD ?_ ?_
  ·exact(zK (i:=1) sc6x.nd rfl (Or.inl rfl) (wA zA))
  refine zD ?_ ?_
  ·exact(yM DC2 rfl (wB (wC (zE G2x A2x (hr.mono (by decide)) (zB (zO (pv3 0) zC (fun _ _=>rfl)) zA)))) sc6x.nd rfl (Or.inl rfl) (zG (yM DC2 rfl (wB (wC (zE G0x A0x (hr.mono (by decide)) (zB (pv3 2) (zB zJ zA))))) sc6x.nd rfl (Or.inl rfl) (zG (yR (yU DG1 DK7 DP1 wE (pv3 1) (zB (zE G5x A5x (hr.mono (by decide)) (zB (pv3 3) zA)) zA)))))))
  exact zG (zH (pv3 1))
include A7x in
theorem CT0:FO P w K mg base 1 f7x fd7x p5x K01.IR:=by
  refine Fun.ok3 A7x.fn CT8 K01.SV fun cdv A outer s H E hr=>⟨K01.BO,?_,K01.XN⟩
  unfold K01.BO
  exact zG (zH (yB (zI yN rfl B.isinstance_ C1 (zB (pv3 0) (zB (yC (d:=.ty "int") (v:=.ty "int") rfl B.int_ BR2 rfl (fun _ _ _=>.ty)) zA))) (yD (BJ6 (zI yN rfl B.isinstance_ C1 (zB (pv3 0) (zB (yC (d:=.ty "bool") (v:=.ty "bool") rfl B.bool_ AD7 rfl (fun _ _ _=>.ty)) zA)))))))
include A8x in
theorem CT1:FO P w K mg base 1 f8x fd8x p6x K01.NX:=by
  refine Fun.ok3 A8x.fn CT9 K01.ST fun cdv A outer s H E hr=>⟨K01.BL,?_,K01.XI⟩
  unfold K01.BL
  exact zG (zH (zI (yV rfl) rfl B.all_ CM (zB (yF ["sign"] ["signs"] [1] rfl (CM1 (pv3 0)) rfl (by first|rfl|kernel_rfl) rfl (K5 (by decide)) (fun cl s₀ H₀ ex=>(yH (i:=0) (show CZ6 (["sign","signs"]:List Str) by decide +kernel) rfl (Or.inl rfl) (Or.inr rfl))) (fun cl s₀ H₀ ex=>zZ) (fun cl s₀ H₀ ex=>(zT CG6 (pv3 0) (pv3 1) rfl))) zA)))
include A8x G8x A9x in
theorem CT2:FO P w K mg base 2 f9x fd9x p5x K01.O2:=by
  refine Fun.ok3 A9x.fn CU0 K01.MS fun cdv A outer s H E hr=>⟨K01.U2,?_,K01.PT⟩
  unfold K01.U2
  exact zG (zH (yB (zI yN rfl B.isinstance_ C1 (zB (pv3 0) (zB (yC (d:=.ty "str") (v:=.ty "str") rfl B.str_ AQ5 rfl (fun _ _ _=>.ty)) zA))) (yB (wI yP yP zC (zI zV rfl B.len_ D9 (zB (pv3 0) zA)) (yI rfl C.MOST_LETTERS_)) (yD (zE G8x A8x (hr.mono (by decide)) (zB (pv3 0) (zB (AN5 rfl C.LETTERS_) zA)))))))
include A9x G9x A10x in
theorem CH1:FO P w K mg base 3 f10x fd10x p5x K01.AF:=by
  refine Fun.ok3 A10x.fn CN5 K01.WN fun cdv A outer s H E hr=>⟨K01.FD,?_,K01.AB8⟩
  unfold K01.FD
  exact zG (zH (yB (zE G9x A9x (hr.mono (by decide)) (zB (pv3 0) zA)) (yD (zT (yT hr) (pv3 0) zJ (B2 _)))))
include A11x in
theorem CH2:FO P w K mg base 1 f11x fd11x p7x K01.EB:=by
  refine Fun.ok3 A11x.fn CN6 K01.MQ fun cdv A outer s H E hr=>⟨K01.U0,?_,K01.PQ⟩
  unfold K01.U0
  exact zG (zH (zT wJ (zI wO rfl B.abs_ RX (zB (pv3 0) zA)) (yI rfl C.BEYOND_NUMBERS_) (B2 _)))
include A7x G7x A11x G11x A12x in
theorem CH3:FO P w K mg base 2 f12x fd12x p8x K01.AG:=by
  refine Fun.ok3 A12x.fn CN7 K01.SW fun cdv A outer s H E hr=>⟨K01.BP,?_,K01.XO⟩
  unfold K01.BP
  refine zD ?_ ?_
  ·exact(zQ (zX (zY (zI yN rfl B.isinstance_ C1 (zB (pv3 0) (zB (yC (d:=.ty "tuple") (v:=.ty "tuple") rfl B.tuple_ E2 rfl (fun _ _ _=>.ty)) zA))))) (zG (zH yA)) zN)
  refine zD ?_ ?_
  ·exact(zQ (zP (wP hr) (zI zV rfl B.len_ D9 (zB (pv3 0) zA)) zC (B2 _)) (zG (zH (zT (wP hr) (zO (pv3 0) zC (fun _ _=>rfl)) zJ (B2 _)))) zN)
  refine zD ?_ ?_
  ·exact(zQ (PW3.pt (yJ (zP (yT hr) (zI zV rfl B.len_ D9 (zB (pv3 0) zA)) zC (B2 _)) (yG (zX (zY (zE G7x A7x (hr.mono (by decide)) (zB (zO (pv3 0) zC (fun _ _=>rfl)) zA))))))) (zG (zH yA)) zN)
  refine zD ?_ ?_
  ·exact(zQ (zP (wP hr) (zO (pv3 0) zC (fun _ _=>rfl)) zJ (B2 _)) (zG (zH (zE G11x A11x (hr.mono (by decide)) (zB (zO (pv3 0) zC (fun _ _=>rfl)) zA)))) zN)
  exact zG (zH (yB (zT (wP hr) (zO (pv3 0) zC (fun _ _=>rfl)) zJ (B2 _)) (yD (wI yP wJ zC (zO (pv3 0) zC (fun _ _=>rfl)) (pv3 1)))))
include A9x G9x A13x in
theorem CH4:FO P w K mg base 3 f13x fd13x p5x K06.J6:=by
  refine Fun.ok3 A13x.fn CN8 K06.WJ fun cdv A outer s H E hr=>⟨K06.EY,?_,K06.AB3⟩
  unfold K06.EY
  exact zG (zH (yB (zE G9x A9x (hr.mono (by decide)) (zB (pv3 0) zA)) (yD (zT WT (pv3 0) (RG rfl C.SHUT_NAMES_) rfl))))
include A14x A15x in
theorem CH5 (G14x:FO P w K mg base kr f14x fd14x p9x (S4 lv))(G15x:FO P w K mg base kr f15x fd15x p9x (Q4 lv))(hkr:4<=kr):FO P w K mg base (kr+1) f14x fd14x p9x (S4 (lv+1)):=by
  refine Fun.ok3 A14x.fn CN9 (K08.KL (lv+1)) fun cdv A outer s H E hr=>⟨K09.AI (S4 lv) (Q4 lv),?_,K08.AB0 lv⟩
  unfold K09.AI
  refine zD ?_ ?_
  ·exact(zQ (PW3.pt (yJ (zX (zY (zI yN rfl B.isinstance_ C1 (zB (pv3 0) (zB (yC (d:=.ty "tuple") (v:=.ty "tuple") rfl B.tuple_ E2 rfl (fun _ _ _=>.ty)) zA))))) (yG (zP wG (zI zV rfl B.len_ D9 (zB (pv3 0) zA)) (yI rfl C.MOST_ARGS_) (B2 _))))) (zG (zH yA)) zN)
  exact zG (zH (zI (yV rfl) rfl B.all_ CM (zB (yF ["arg"] ["depth"] [1] rfl (yZ (pv3 0)) rfl (by first|rfl|kernel_rfl) rfl (K5 (by decide)) (fun cl s₀ H₀ ex=>(yH (i:=0) (show CZ6 (["arg","depth"]:List Str) by decide +kernel) rfl (Or.inl rfl) (Or.inr rfl))) (fun cl s₀ H₀ ex=>zZ) (fun cl s₀ H₀ ex=>(zE G15x A15x hr (zB (pv3 0) (zB (pv3 1) zA))))) zA)))
include A12x G12x A13x G13x A14x A15x in
theorem CH6 (G14x:FO P w K mg base kr f14x fd14x p9x (S4 lv))(G15x:FO P w K mg base kr f15x fd15x p9x (Q4 lv))(hkr:4<=kr):FO P w K mg base (kr+1) f15x fd15x p9x (Q4 (lv+1)):=by
  refine Fun.ok3 A15x.fn CO0 (K08.KN (lv+1)) fun cdv A outer s H E hr=>⟨K09.AJ (S4 lv) (Q4 lv),?_,K08.AB7 lv⟩
  unfold K09.AJ
  refine zD ?_ ?_
  ·exact(zQ (PW3.pt (yJ (zP (zW hr) (pv3 1) zC (B2 _)) (yJ (zX (zY (zI yN rfl B.isinstance_ C1 (zB (pv3 0) (zB (yC (d:=.ty "tuple") (v:=.ty "tuple") rfl B.tuple_ E2 rfl (fun _ _ _=>.ty)) zA))))) (yG (zP (zW hr) (zI zV rfl B.len_ D9 (zB (pv3 0) zA)) zC (B2 _)))))) (zG (zH yA)) zN)
  refine zD ?_ ?_
  ·exact(zQ (zP (zW hr) (zO (pv3 0) zC (fun _ _=>rfl)) zJ (B2 _)) (zD (zQ (PW3.pt (yJ (zP (yT hr) (zI zV rfl B.len_ D9 (zB (pv3 0) zA)) zC (B2 _)) (yG (zP WT (zO (pv3 0) zC (fun _ _=>rfl)) (RG rfl C.SIGNS_) rfl)))) (zG (zH yA)) zN)
  (zG (zH (yB (zE G15x A15x hr (zB (zO (pv3 0) zC (fun _ _=>rfl)) (zB (zL yK (pv3 1) zC) zA))) (yD (zE G15x A15x hr (zB (zO (pv3 0) zC (fun _ _=>rfl)) (zB (zL yK (pv3 1) zC) zA)))))))) zN)
  refine zD ?_ ?_
  ·exact(zQ (zP (zW hr) (zO (pv3 0) zC (fun _ _=>rfl)) zJ (B2 _)) (zG (zH (yB (zT (zW hr) (zI zV rfl B.len_ D9 (zB (pv3 0) zA)) zC (B2 _)) (yB (zE G13x A13x (hr.mono (by omega)) (zB (zO (pv3 0) zC (fun _ _=>rfl)) zA)) (yD (zE G14x A14x hr (zB (zO (pv3 0) zC (fun _ _=>rfl)) (zB (zL yK (pv3 1) zC) zA)))))))) zN)
  refine zD ?_ ?_
  ·exact(zQ (zP (zW hr) (zO (pv3 0) zC (fun _ _=>rfl)) zJ (B2 _)) (zG (zH (yB (zT (zW hr) (zI zV rfl B.len_ D9 (zB (pv3 0) zA)) zC (B2 _)) (yD (zE G13x A13x (hr.mono (by omega)) (zB (zO (pv3 0) zC (fun _ _=>rfl)) zA)))))) zN)
  exact zG (zH (zE G12x A12x (hr.mono (by omega)) (zB (pv3 0) (zB zC zA))))
include A12x G12x A13x G13x A14x A15x in
theorem AT3:∀lv:Nat,FO P w K mg base (4+lv) f14x fd14x p9x (S4 lv)/\FO P w K mg base (4+lv) f15x fd15x p9x (Q4 lv)
 | 0=>⟨U4 K08.KL K08.VJ,U4 K08.KN K08.VM⟩
 | lv+1=>by
  obtain⟨G14x,G15x⟩:=AT3 lv
  exact⟨CH5 B C A14x A15x G14x G15x (DF0 _ _),CH6 B C A12x G12x A13x G13x A14x A15x G14x G15x (DF0 _ _)⟩
include A5x G5x A15x G15x A16x in
theorem CH7:FO P w K mg base 14 f16x fd16x p5x NW:=by
  refine Fun.ok3 A16x.fn CO1 K08.IB fun cdv A outer s H E hr=>⟨K08.N4,?_,K08.JS⟩
  unfold K08.N4
  exact zG (zH (yB (zE G15x A15x (hr.mono (by decide)) (zB (pv3 0) (zB (yI rfl C.MOST_DEPTH_) zA))) (yD (zT yP (zI zV rfl B.len_ D9 (zB (zE G5x A5x (hr.mono (by decide)) (zB (pv3 0) zA)) zA)) (yI rfl C.MOST_TREES_) (B2 _)))))
include A17x in
theorem CH8:FO P w K mg base 1 f17x fd17x p5x K09.BG:=by
  refine Fun.ok3 A17x.fn CO2 K09.WM fun cdv A outer s H E hr=>⟨K09.FC,?_,K09.AB6⟩
  unfold K09.FC
  exact zG (zH (yB (zI yN rfl B.isinstance_ C1 (zB (pv3 0) (zB (yC (d:=.ty "tuple") (v:=.ty "tuple") rfl B.tuple_ E2 rfl (fun _ _ _=>.ty)) zA))) (yD (zT wG (zI zV rfl B.len_ D9 (zB (pv3 0) zA)) zC (B2 _)))))
include A9x G9x A13x G13x A17x G17x A18x in
theorem CH9:FO P w K mg base 4 f18x fd18x p5x IP:=by
  refine Fun.ok3 A18x.fn CO3 K08.SU fun cdv A outer s H E hr=>⟨K08.BM,?_,K08.XJ⟩
  unfold K08.BM
  refine zD ?_ ?_
  ·exact(zQ (PW3.pt (yJ (zX (zY (zI yN rfl B.isinstance_ C1 (zB (pv3 0) (zB (yC (d:=.ty "tuple") (v:=.ty "tuple") rfl B.tuple_ E2 rfl (fun _ _ _=>.ty)) zA))))) (yG (zP (yT hr) (zI zV rfl B.len_ D9 (zB (pv3 0) zA)) zC (B2 _))))) (zG (zH yA)) zN)
  exact zG (zH (yB (zE G9x A9x (hr.mono (by decide)) (zB (zO (pv3 0) zC (fun _ _=>rfl)) zA)) (yB (zE G13x A13x (hr.mono (by decide)) (zB (zO (pv3 0) zC (fun _ _=>rfl)) zA)) (yD (zE G17x A17x (hr.mono (by decide)) (zB (zO (pv3 0) zC (fun _ _=>rfl)) zA))))))
include A18x G18x A19x in
theorem CI0:FO P w K mg base 5 f19x fd19x p5x AE:=by
  refine Fun.ok3 A19x.fn CO4 K08.MR fun cdv A outer s H E hr=>⟨K08.U1,?_,K08.PR⟩
  unfold K08.U1
  refine zD ?_ ?_
  ·exact(zQ (PW3.pt (yJ (zX (zY (zI yN rfl B.isinstance_ C1 (zB (pv3 0) (zB (yC (d:=.ty "tuple") (v:=.ty "tuple") rfl B.tuple_ E2 rfl (fun _ _ _=>.ty)) zA))))) (yG (zP wG (zI zV rfl B.len_ D9 (zB (pv3 0) zA)) (yI rfl C.MOST_CATCHES_) (B2 _))))) (zG (zH yA)) zN)
  exact zG (zH (zI (yV rfl) rfl B.all_ CM (zB (yF ["catch"] [] [] rfl (yZ (pv3 0)) rfl (by first|rfl|kernel_rfl) rfl (K5 (by decide)) (fun cl s₀ H₀ ex=>(yH (i:=0) (show CZ6 (["catch"]:List Str) by decide +kernel) rfl (Or.inl rfl) (Or.inr rfl))) (fun cl s₀ H₀ ex=>zZ) (fun cl s₀ H₀ ex=>(zE G18x A18x (hr.mono (by decide)) (zB (pv3 0) zA)))) zA)))
include A10x G10x A13x G13x A16x G16x A17x G17x A19x G19x A20x in
theorem CI1:FO P w K mg base 15 f20x fd20x AW9 NY:=by
  refine Fun.ok3 A20x.fn CO5 K08.WK fun cdv A outer s H E hr=>⟨K08.EZ,?_,K08.AB4⟩
  unfold K08.EZ
  refine zD ?_ ?_
  ·exact(zQ (zP (zW hr) (pv3 0) zJ (B2 _)) (zG (zH (zE G13x A13x (hr.mono (by decide)) (zB (pv3 1) zA)))) zN)
  refine zD ?_ ?_
  ·exact(zQ (zP (zW hr) (pv3 0) zJ (B2 _)) (zG (zH (zE G10x A10x (hr.mono (by decide)) (zB (pv3 1) zA)))) zN)
  refine zD ?_ ?_
  ·exact(zQ (zP (zW hr) (pv3 0) zJ (B2 _)) (zG (zH (zE G16x A16x (hr.mono (by decide)) (zB (pv3 1) zA)))) zN)
  refine zD ?_ ?_
  ·exact(zQ (zP (zW hr) (pv3 0) zJ (B2 _)) (zG (zH (zE G19x A19x (hr.mono (by decide)) (zB (pv3 1) zA)))) zN)
  refine zD ?_ ?_
  ·exact(zQ (zP (zW hr) (pv3 0) zJ (B2 _)) (zG (zH (zE G17x A17x (hr.mono (by decide)) (zB (pv3 1) zA)))) zN)
  exact zG (zH (zI yN rfl B.isinstance_ C1 (zB (pv3 1) (zB (yC (d:=.ty "tuple") (v:=.ty "tuple") rfl B.tuple_ E2 rfl (fun _ _ _=>.ty)) zA))))
include A17x G17x A20x G20x A21x in
theorem CI2:FO P w K mg base 16 f21x fd21x p5x NU:=by
  refine Fun.ok3 A21x.fn sc21x K08.WI fun cdv A outer s H E hr=>⟨K08.EX,?_,K08.AB2⟩
  unfold K08.EX
  refine zD ?_ ?_
  ·exact(zQ (PW3.pt (yJ (zX (zY (zE G17x A17x (hr.mono (by decide)) (zB (pv3 0) zA)))) (yG (zX (zY (zI yN rfl B.isinstance_ C1 (zB (zO (pv3 0) zC (fun _ _=>rfl)) (zB (yC (d:=.ty "str") (v:=.ty "str") rfl B.str_ AQ5 rfl (fun _ _ _=>.ty)) zA)))))))) (zG (zH yA)) zN)
  refine zD ?_ ?_
  ·exact(zK (i:=1) sc21x.nd rfl (Or.inl rfl) (AY0 rfl C.SHAPES_g (zB (zO (pv3 0) zC (fun _ _=>rfl)) zA)))
  refine zD ?_ ?_
  ·exact(zQ (PW3.pt (yJ (zP CG7 (pv3 1) BJ5 (B2 _)) (yG (zP (yT hr) (zI zV rfl B.len_ D9 (zB (pv3 0) zA)) (zL zS (zI zV rfl B.len_ D9 (zB (pv3 1) zA)) zC) (B2 _))))) (zG (zH yA)) zN)
  refine zD ?_ ?_
  ·exact(zQ (zX (zY (zI (yV rfl) rfl B.all_ CM (zB (ZX ["kind","part"] [] [] rfl (AI1 rfl B.zip_ (zB (pv3 1) (zB (TN (pv3 0) (yY zC) wF) zA))) rfl (by first|rfl|kernel_rfl) rfl (JD (by decide)) (fun cl s₀ H₀ ex=>(yS rfl (zU (i:=0) (show CZ6 (["kind","part"]:List Str) by decide +kernel) rfl (Or.inl rfl) (zU (i:=1) (show CZ6 (["kind","part"]:List Str) by decide +kernel) rfl (Or.inl rfl) yQ (Or.inr rfl)) (Or.inr rfl)))) (fun cl s₀ H₀ ex=>zZ) (fun cl s₀ H₀ ex=>(zE G20x A20x (hr.mono (by decide)) (zB (pv3 0) (zB (pv3 1) zA))))) zA)))) (zG (zH yA)) zN)
  exact zG (zH (AA1 (zT (yT hr) (zO (pv3 0) zC (fun _ _=>rfl)) zJ (B2 _)) (yD (zT wG (zL zS (zI zV rfl B.len_ D9 (zB (zO (pv3 0) zC (fun _ _=>rfl)) zA)) (zI zV rfl B.len_ D9 (zB (zO (pv3 0) zC (fun _ _=>rfl)) zA))) zC (B2 _)))))
include A1x G1x A21x G21x A22x in
theorem CI3 (G22x:FO P w K mg base kr f22x fd22x ZV (E4 lv))(hkr:17<=kr):FO P w K mg base (kr+1) f22x fd22x ZV (E4 (lv+1)):=by
  refine Fun.ok3 A22x.fn sc22x (K08.IA (lv+1)) fun cdv A outer s H E hr=>⟨K08.BN (E4 lv),?_,K08.XM lv⟩
  unfold K08.BN
  refine zD ?_ ?_
  ·exact(yM DC2 rfl (yZ (pv3 0)) sc22x.nd rfl (Or.inl rfl) (zD (yR (yU DG1 DP2 F.type_list_append wH (pv3 3) (zB (pv3 4) zA)))
  (zD (zQ (PW3.pt (yJ (zP wG (zI zV rfl B.len_ D9 (zB (pv3 3) zA)) (yI rfl C.MOST_DEEDS_) (B2 _)) (yG (zX (zY (zE G21x A21x (hr.mono (by omega)) (zB (pv3 4) zA))))))) (zG (zH yA)) zN)
  (zD (zQ (PW3.pt (AI3 (zP (zW hr) (zO (pv3 4) zC (fun _ _=>rfl)) zJ (B2 _)) (XC (zX (zY (pv3 2)))))) (zG (zH yA)) zN)
  (zG (yM DC2 rfl (wB (zE G1x A1x (hr.mono (by omega)) (zB (pv3 4) zA))) sc22x.nd rfl (Or.inl rfl) (zG (zQ (PW3.pt (yJ (zP (zW hr) (pv3 1) (yI rfl C.MOST_BLOCKS_) (B2 _)) (yG (zX (zY (zE G22x A22x hr (zB (pv3 5) (zB (zL zS (pv3 1) zC) (zB (AA1 (pv3 2) (yD (zT (zW hr) (zO (pv3 4) zC (fun _ _=>rfl)) zJ (B2 _)))) (zB (pv3 3) zA)))))))))) (zG (zH yA)) zN))))))))
  exact zG (zH yA)
include A1x G1x A21x G21x A22x in
theorem AT4:∀lv:Nat,FO P w K mg base (17+lv) f22x fd22x ZV (E4 lv)
 | 0=>U4 K08.IA K08.QC
 | lv+1=>by
  obtain G22x:=AT4 lv
  exact CI3 B C A1x G1x A21x G21x A22x G22x (DF0 _ _)
include A13x G13x A23x in
theorem CI4:FO P w K mg base 4 f23x fd23x p5x EA:=by
  refine Fun.ok3 A23x.fn CO6 K08.OZ fun cdv A outer s H E hr=>⟨K08.Y5,?_,K08.UI⟩
  unfold K08.Y5
  refine zD ?_ ?_
  ·exact(zQ (PW3.pt (yJ (zX (zY (zI yN rfl B.isinstance_ C1 (zB (pv3 0) (zB (yC (d:=.ty "tuple") (v:=.ty "tuple") rfl B.tuple_ E2 rfl (fun _ _ _=>.ty)) zA))))) (yG (zP wG (zI zV rfl B.len_ D9 (zB (pv3 0) zA)) (yI rfl C.MOST_PARAMS_) (B2 _))))) (zG (zH yA)) zN)
  exact zG (zH (yB (zI (yV rfl) rfl B.all_ CM (zB (yF ["name"] [] [] rfl (yZ (pv3 0)) rfl (by first|rfl|kernel_rfl) rfl (K5 (by decide)) (fun cl s₀ H₀ ex=>(yH (i:=0) (show CZ6 (["name"]:List Str) by decide +kernel) rfl (Or.inl rfl) (Or.inr rfl))) (fun cl s₀ H₀ ex=>zZ) (fun cl s₀ H₀ ex=>(zE G13x A13x (hr.mono (by decide)) (zB (pv3 0) zA)))) zA)) (yD (zT (zW hr) (AY2 rfl B.len_ (TR rfl rfl B.set_ ZD (zB (pv3 0) zA))) (zI zV rfl B.len_ D9 (zB (pv3 0) zA)) (B2 _)))))
include A2x G2x A3x G3x A6x A24x in
theorem CI5 (G6x:FO P w K mg base 11 f6x fd6x p4x K10.EU):FO P w K mg base 12 f24x fd24x p4x K10.S1:=by
  refine Fun.ok3 A24x.fn sc24x K10.PC fun cdv A outer s H E hr=>⟨K10.Y7,?_,K10.UQ⟩
  unfold K10.Y7
  refine zD ?_ ?_
  ·exact(AA5 1 ["tree"] [] [] rfl (PI3.toE (wB (wC (zE G6x A6x (hr.mono (by decide)) (zB (pv3 0) zA))))) rfl (by first|rfl|kernel_rfl) rfl (K5 (by decide)) (fun cl s₀ H₀ ex=>(yH (i:=0) (show CZ6 (["tree"]:List Str) by decide +kernel) rfl (Or.inl rfl) (Or.inr rfl))) (fun cl s₀ H₀ ex=>(wM (zP (zW hr) (zO (pv3 0) zC (fun _ _=>rfl)) zJ (B2 _)))) (fun cl s₀ H₀ ex=>(zO (pv3 0) zC (fun _ _=>rfl))) sc24x.nd rfl (Or.inl rfl) (Or.inl rfl))
  refine zD ?_ ?_
  ·exact(yM DC2 rfl (wB (wC (zE G2x A2x (hr.mono (by decide)) (zB (zO (pv3 0) zC (fun _ _=>rfl)) zA)))) sc24x.nd rfl (Or.inl rfl) (zG (yR (yU DG1 DK7 DP1 wE (pv3 1) (zB (zE G3x A3x (hr.mono (by decide)) (zB (pv3 2) zA)) zA)))))
  exact zG (zH (zL zS (zO (pv3 0) zC (fun _ _=>rfl)) (yE yO rfl B.tuple_ E2 (zB (AN7 rfl rfl B.sorted_ (BM3 (TR rfl rfl B.set_ ZD (zB (pv3 1) zA)) (TR rfl rfl B.set_ ZD (zB (zO (pv3 0) zC (fun _ _=>rfl)) zA)))) zA))))
include A13x G13x A17x G17x A22x G22x A23x G23x A24x G24x A25x in
theorem CI6:FO P w K mg base 24 f25x fd25x p5x NZ:=by
  refine Fun.ok3 A25x.fn CO7 K08.WL fun cdv A outer s H E hr=>⟨K08.FA,?_,K08.AB5⟩
  unfold K08.FA
  refine zD ?_ ?_
  ·exact(zQ (PW3.pt (yJ (zX (zY (zI yN rfl B.isinstance_ C1 (zB (pv3 0) (zB (yC (d:=.ty "tuple") (v:=.ty "tuple") rfl B.tuple_ E2 rfl (fun _ _ _=>.ty)) zA))))) (yG (zP (yT hr) (zI zV rfl B.len_ D9 (zB (pv3 0) zA)) zC (B2 _))))) (zG (zH yA)) zN)
  refine zD ?_ ?_
  ·exact(zQ (PW3.pt (yJ (zX (zY (zE G13x A13x (hr.mono (by decide)) (zB (zO (pv3 0) zC (fun _ _=>rfl)) zA)))) (yJ (zX (zY (zE G23x A23x (hr.mono (by decide)) (zB (zO (pv3 0) zC (fun _ _=>rfl)) zA)))) (yG (zX (zY (zE G17x A17x (hr.mono (by decide)) (zB (zO (pv3 0) zC (fun _ _=>rfl)) zA)))))))) (zG (zH yA)) zN)
  exact zG (zH (yB (zE G22x A22x (hr.mono (by decide)) (zB (zO (pv3 0) zC (fun _ _=>rfl)) (zB zC (zB yA (zB (wA zA) zA))))) (yD (zT yP (zI zV rfl B.len_ D9 (zB (zE G24x A24x (hr.mono (by decide)) (zB (pv3 0) zA)) zA)) (yI rfl C.MOST_VARIABLES_) (B2 _)))))
include A6x G6x A26x in
theorem CI7:FO P w K mg base 12 f26x fd26x AX0 K09.YA:=by
  refine Fun.ok3 A26x.fn sc26x K09.PB fun cdv A outer s H E hr=>⟨K09.Y6,?_,K09.UK⟩
  unfold K09.Y6
  refine zD ?_ ?_
  ·exact(RH 2 ["tree"] [] [] rfl (wB (wC (zE G6x A6x (hr.mono (by decide)) (zB (pv3 0) zA)))) rfl (by first|rfl|kernel_rfl) rfl (K5 (by decide)) (fun cl s₀ H₀ ex=>(yH (i:=0) (show CZ6 (["tree"]:List Str) by decide +kernel) rfl (Or.inl rfl) (Or.inr rfl))) (fun cl s₀ H₀ ex=>(wM (zP (zW hr) (zO (pv3 0) zC (fun _ _=>rfl)) zJ (B2 _)))) (fun cl s₀ H₀ ex=>(pv3 0)) sc26x.nd rfl (Or.inl rfl) (Or.inl rfl))
  exact zG (zH (zI (yV rfl) rfl B.all_ CM (zB (yF ["word","name","args"] ["counts"] [1] rfl (wB (pv3 2)) rfl (by first|rfl|kernel_rfl) rfl (JD (by decide)) (fun cl s₀ H₀ ex=>(yS rfl (zU (i:=0) (show CZ6 (["word","name","args","counts"]:List Str) by decide +kernel) rfl (Or.inl rfl) (zU (i:=1) (show CZ6 (["word","name","args","counts"]:List Str) by decide +kernel) rfl (Or.inl rfl) (zU (i:=2) (show CZ6 (["word","name","args","counts"]:List Str) by decide +kernel) rfl (Or.inl rfl) yQ (Or.inr rfl)) (Or.inr rfl)) (Or.inr rfl)))) (fun cl s₀ H₀ ex=>zZ) (fun cl s₀ H₀ ex=>(zT (zW hr) (yU F.plainAttrs_dict F.slot_dict_get F.type_dict_get (BH9 (hu3 hr)) (pv3 3) (zB (pv3 1) zA)) (zI zV rfl B.len_ D9 (zB (pv3 2) zA)) (B2 _)))) zA)))
include A25x G25x A26x G26x A27x in
theorem CI8:FO P w K mg base 25 f27x fd27x p5x DY:=by
  refine Fun.ok3 A27x.fn sc27x K08.WH fun cdv A outer s H E hr=>⟨K08.EW,?_,K08.AB1⟩
  unfold K08.EW
  refine zD ?_ ?_
  ·exact(zQ (PW3.pt (yJ (zX (zY (zI yN rfl B.isinstance_ C1 (zB (pv3 0) (zB (yC (d:=.ty "tuple") (v:=.ty "tuple") rfl B.tuple_ E2 rfl (fun _ _ _=>.ty)) zA))))) (yG (zX (AO4 yP yP zC (zI zV rfl B.len_ D9 (zB (pv3 0) zA)) (yI rfl C.MOST_RULES_)))))) (zG (zH yA)) zN)
  refine zD ?_ ?_
  ·exact(zQ (zX (zY (zI (yV rfl) rfl B.all_ CM (zB (yF ["rule"] [] [] rfl (yZ (pv3 0)) rfl (by first|rfl|kernel_rfl) rfl (K5 (by decide)) (fun cl s₀ H₀ ex=>(yH (i:=0) (show CZ6 (["rule"]:List Str) by decide +kernel) rfl (Or.inl rfl) (Or.inr rfl))) (fun cl s₀ H₀ ex=>zZ) (fun cl s₀ H₀ ex=>(zE G25x A25x (hr.mono (by decide)) (zB (pv3 0) zA)))) zA)))) (zG (zH yA)) zN)
  refine zD ?_ ?_
  ·exact(zK (i:=1) sc27x.nd rfl (Or.inr rfl) (AA0 ["name","params","block"] [] [] rfl (PI3.toE (yZ (pv3 0))) rfl (by first|rfl|kernel_rfl) rfl (JD (by decide)) (fun cl s₀ H₀ ex=>(yS rfl (zU (i:=0) (show CZ6 (["name","params","block"]:List Str) by decide +kernel) rfl (Or.inl rfl) (zU (i:=1) (show CZ6 (["name","params","block"]:List Str) by decide +kernel) rfl (Or.inl rfl) (zU (i:=2) (show CZ6 (["name","params","block"]:List Str) by decide +kernel) rfl (Or.inl rfl) yQ (Or.inr rfl)) (Or.inr rfl)) (Or.inr rfl)))) (fun cl s₀ H₀ ex=>zZ) (fun cl s₀ H₀ ex=>(pv3 0)) (fun cl s₀ H₀ ex=>(zI zV rfl B.len_ D9 (zB (pv3 1) zA)))))
  exact zG (zH (yB (zT (zW hr) (zI BG0 rfl B.len_ D9 (zB (pv3 1) zA)) (zI zV rfl B.len_ D9 (zB (pv3 0) zA)) (B2 _)) (yD (zI (yV rfl) rfl B.all_ CM (zB (yF ["rule"] ["counts"] [1] rfl (yZ (pv3 0)) rfl (by first|rfl|kernel_rfl) rfl (K5 (by decide)) (fun cl s₀ H₀ ex=>(yH (i:=0) (show CZ6 (["rule","counts"]:List Str) by decide +kernel) rfl (Or.inl rfl) (Or.inr rfl))) (fun cl s₀ H₀ ex=>zZ) (fun cl s₀ H₀ ex=>(zE G26x A26x (hr.mono (by decide)) (zB (pv3 0) (zB (pv3 1) zA))))) zA)))))
include A28x in
theorem CI9:FO P w K mg base 1 f28x fd28x TM RM:=by
  refine Fun.ok3 A28x.fn CO8 PK.SS fun cdv A outer s H E hr=>⟨PK.GV,?_,PK.XF⟩
  unfold PK.GV
  exact zG (zH (AN3 (wK zJ (yE AE1 rfl B.list_ AD8 (zB (BW2 (pv3 0) wF (yY zC)) zA)) (wK zJ zC (wK zJ zC AZ7))) rfl rfl (by simp) (by decide)))
include A29x in
theorem CJ0:FO P w K mg base 1 f29x fd29x GK E5:=by
  refine Fun.ok3 A29x.fn sc29x PK.OV fun cdv A outer s H E hr=>⟨PK.EF,?_,PK.UA⟩
  unfold PK.EF
  refine zD ?_ ?_
  ·exact(zQ (zP wG (wD (hu3 hr) (pv3 0) zJ (fun _ _=>rfl)) zC (B2 _)) (zD (zK (i:=2) sc29x.nd rfl (Or.inl rfl) (zL yW (wD (hu3 hr) (pv3 0) zJ (fun _ _=>rfl)) (pv3 1)))
  (zD (wN (hu3 hr) (pv3 0) zJ (zL wL (wD (hu3 hr) (pv3 0) zJ (fun _ _=>rfl)) (pv3 1)) rfl)
  (zG (zH (pv3 2))))) zN)
  refine zD ?_ ?_
  ·exact(zK (i:=3) sc29x.nd rfl (Or.inl rfl) (wD (hu3 hr) (pv3 0) zJ (fun _ _=>rfl)))
  refine zD ?_ ?_
  ·exact(zK (i:=4) sc29x.nd rfl (Or.inl rfl) (wD (hu3 hr) (pv3 0) zJ (fun _ _=>rfl)))
  refine zD ?_ ?_
  ·exact(wN (hu3 hr) (pv3 0) zJ (zL zS (pv3 4) zC) rfl)
  refine zD ?_ ?_
  ·exact(zK (i:=5) sc29x.nd rfl (Or.inl rfl) (zL zS (zL wQ zC (pv3 4)) zC))
  refine zD ?_ ?_
  ·exact(zQ (zP (yT hr) (pv3 3) (zR zA) (B2 _)) (zG (zK (i:=5) sc29x.nd rfl (Or.inl rfl) (zO (pv3 3) (zL yW (pv3 4) (zI zV rfl B.len_ D9 (zB (pv3 3) zA))) (fun _ _=>rfl)))) zN)
  refine zD ?_ ?_
  ·exact(zQ (PW3.pt (AI3 (zP wJ (pv3 4) (zI zV rfl B.len_ D9 (zB (pv3 3) zA)) (B2 _)) (XC (zP CG4 (zI wO rfl B.abs_ RX (zB (pv3 5) zA)) (zL wR zC zC) (B2 _))))) (zD (wN (hu3 hr) (pv3 0) zJ (zL wL (zI wO rfl B.abs_ RX (zB (pv3 5) zA)) (pv3 1)) rfl)
  (zG (zH (zL yW (zI wO rfl B.abs_ RX (zB (pv3 5) zA)) (pv3 1))))) zN)
  refine zD ?_ ?_
  ·exact(zK (i:=6) sc29x.nd rfl (Or.inl rfl) (zL yW (zL wR (zL zS (zL zS (zL yW (pv3 5) zC) (zL wQ zC (pv3 4))) zC) zC) zC))
  refine zD ?_ ?_
  ·exact(zK (i:=6) sc29x.nd rfl (Or.inl rfl) (zL yW (zL wR (zL zS (zL wQ (pv3 6) (zL zS (zL wQ zC (pv3 4)) zC)) zC) zC) zC))
  exact zG (zH (zL yW (zL wL (pv3 6) zC) (pv3 1)))
include A30x in
theorem CJ1:FO P w K mg base 1 f30x fd30x AX1 JV:=by
  refine Fun.ok3 A30x.fn CO9 OW fun cdv A outer s H E hr=>⟨Y2,?_,UB⟩
  unfold Y2
  exact zG (zH (zF (zB zJ (zB (zF (zB zJ (zB (pv3 0) zA))) zA))))
include A30x G30x A31x in
theorem CJ2:FO P w K mg base 2 f31x fd31x LG D8:=by
  refine Fun.ok3 A31x.fn CP0 MP fun cdv A outer s H E hr=>⟨T8,?_,PO⟩
  unfold T8
  exact zG (zH (yE yO rfl B.tuple_ E2 (zB (yF ["_law_k"] [] [] rfl (yL rfl B.range_ (zB (pv3 0) zA)) rfl (by first|rfl|kernel_rfl) rfl (K5 (by decide)) (fun cl s₀ H₀ ex=>(yH (i:=0) (show CZ6 (["_law_k"]:List Str) by decide +kernel) rfl (Or.inl rfl) (Or.inr rfl))) (fun cl s₀ H₀ ex=>zZ) (fun cl s₀ H₀ ex=>(zE G30x A30x (hr.mono (by decide)) (zB (pv3 0) zA)))) zA)))
include A29x G29x A31x G31x A32x in
theorem CJ3:FO P w K mg base 3 f32x fd32x PJ DW:=by
  refine Fun.ok3 A32x.fn sc32x LC fun cdv A outer s H E hr=>⟨Q9,?_,NE⟩
  unfold Q9
  refine zD ?_ ?_
  ·refine zK (i:=2) ?a ?b ?c ?d
   case a=>exact sc32x.nd
   case b=>exact rfl
   case c=>exact(Or.inl rfl)
   case d =>
    exact(zE G31x A31x (hr.mono (by decide)) (zB zC zA))
  refine zD ?_ ?_
  ·refine zK (i:=3) ?a ?b ?c ?d
   case a=>exact sc32x.nd
   case b=>exact rfl
   case c=>exact(Or.inl rfl)
   case d =>
    refine zR ?_
    refine zB ?_ ?_
    ·refine zF ?_
     refine zM ?_
     refine zB ?_ ?_
     ·refine zF ?_
      refine zM ?_
      exact zA
     refine zB ?_ ?_
     ·refine zF ?_
      refine zB ?_ ?_
      ·exact(pv3 1)
      exact zA
     refine zB ?_ ?_
     ·refine zF ?_
      exact zA
     exact zA
    refine zB ?_ ?_
    ·refine zF ?_
     refine zM ?_
     refine zB ?_ ?_
     ·refine zF ?_
      refine zM ?_
      exact zA
     refine zB ?_ ?_
     ·exact(pv3 2)
     refine zB ?_ ?_
     ·refine zF ?_
      refine zB ?_ ?_
      ·exact(pv3 1)
      exact zA
     exact zA
    refine zB ?_ ?_
    ·refine zF ?_
     refine zM ?_
     refine zB ?_ ?_
     ·refine zF ?_
      refine zM ?_
      exact zA
     refine zB ?_ ?_
     ·refine zF ?_
      refine zB ?_ ?_
      ·exact(pv3 1)
      exact zA
     exact zA
    exact zA
  refine zD ?_ ?_
  ·refine zK (i:=3) ?a ?b ?c ?d
   case a=>exact sc32x.nd
   case b=>exact rfl
   case c=>exact(Or.inl rfl)
   case d =>
    refine zL zS ?_ ?_
    ·exact(pv3 3)
    ·refine zR ?_
     refine zB ?_ ?_
     ·refine zF ?_
      refine zM ?_
      refine zB ?_ ?_
      ·refine zF ?_
       refine zB ?_ ?_
       ·exact(pv3 1)
       exact zA
      refine zB ?_ ?_
      ·refine zF ?_
       refine zB ?_ ?_
       ·refine zF ?_
        refine zM ?_
        refine zM ?_
        refine zB ?_ ?_
        ·exact(pv3 2)
        exact zA
       exact zA
      refine zB ?_ ?_
      ·refine zF ?_
       exact zA
      exact zA
     refine zB ?_ ?_
     ·refine zF ?_
      refine zM ?_
      refine zB ?_ ?_
      ·exact(pv3 2)
      refine zB ?_ ?_
      ·refine zF ?_
       refine zB ?_ ?_
       ·refine zF ?_
        refine zM ?_
        refine zM ?_
        refine zB ?_ ?_
        ·refine zF ?_
         refine zB ?_ ?_
         ·exact(pv3 1)
         exact zA
        exact zA
       exact zA
      refine zB ?_ ?_
      ·exact(pv3 2)
      exact zA
     exact zA
  exact zG (zH (zO (zL zS (pv3 3) (zR (zB (zF (zB zJ (zB (pv3 2) (zB (zF zA) (zB (zF (zB (pv3 1) zA)) zA))))) zA))) (zE G29x A29x (hr.mono (by decide)) (zB (pv3 0) (zB zC zA))) (fun _ _=>rfl)))
include A32x G32x A33x in
theorem CJ4:FO P w K mg base 4 f33x fd33x AX2 DZ:=by
  refine Fun.ok3 A33x.fn sc33x LD fun cdv A outer s H E hr=>⟨R0,?_,NF⟩
  unfold R0
  refine zD ?_ ?_
  ·exact(yM DC2 rfl (yL rfl B.range_ (zB (pv3 2) zA)) sc33x.nd rfl (Or.inl rfl) (zG (zK (i:=1) sc33x.nd rfl (Or.inl rfl) (zE G32x A32x (hr.mono (by decide)) (zB (pv3 0) (zB (pv3 1) zA))))))
  exact zG (zH (pv3 1))
include A29x G29x A31x G31x A34x in
theorem CJ5:FO P w K mg base 3 f34x fd34x GK DX:=by
  refine Fun.ok3 A34x.fn sc34x MN fun cdv A outer s H E hr=>⟨T7,?_,PN⟩
  unfold T7
  refine zD ?_ ?_
  ·refine zK (i:=2) ?a ?b ?c ?d
   case a=>exact sc34x.nd
   case b=>exact rfl
   case c=>exact(Or.inl rfl)
   case d =>
    exact(zE G29x A29x (hr.mono (by decide)) (zB (pv3 0) (zB zC zA)))
  refine zD ?_ ?_
  ·refine zQ (PW3.pt (yJ (zP (zW hr) (pv3 2) zC (B2 _)) (yG (zP wJ (pv3 1) zC (B2 _))))) ?_ ?_
   ·refine zG ?_
    exact(zH (zE G31x A31x (hr.mono (by decide)) (zB (pv3 1) zA)))
   ·exact zN
  refine zD ?_ ?_
  ·refine zK (i:=3) ?a ?b ?c ?d
   case a=>exact sc34x.nd
   case b=>exact rfl
   case c=>exact(Or.inl rfl)
   case d =>
    refine zL zS ?_ ?_
    ·exact zC
    ·exact(zE G29x A29x (hr.mono (by decide)) (zB (pv3 0) (zB (zL yK (pv3 1) zC) zA)))
  refine zD ?_ ?_
  ·refine zQ (zP (zW hr) (pv3 2) zC (B2 _)) ?_ ?_
   ·refine zG ?_
    exact(zH (zF (zB (zF (zB zJ (zB (zF (zB zJ zA)) (zB (zE G31x A31x (hr.mono (by decide)) (zB (pv3 3) zA)) (zB (zE G31x A31x (hr.mono (by decide)) (zB (zL yK (zL yK (pv3 1) zC) (pv3 3)) zA)) zA))))) zA)))
   ·exact zN
  refine zD ?_ ?_
  ·refine zQ (zP (zW hr) (pv3 2) zC (B2 _)) ?_ ?_
   ·refine zG ?_
    exact(zH (zL zS (zE G31x A31x (hr.mono (by decide)) (zB (zL yK (zL yK (pv3 1) zC) (pv3 3)) zA)) (zF (zB (zF (zB zJ (zB (zF (zB zJ zA)) (zB (zE G31x A31x (hr.mono (by decide)) (zB (pv3 3) zA)) zA)))) zA))))
   ·exact zN
  exact zG (zH (zF (zB (zF (zB zJ (zB (zE G31x A31x (hr.mono (by decide)) (zB (pv3 3) zA)) (zB (zF zA) (zB (zE G31x A31x (hr.mono (by decide)) (zB (zL yK (zL yK (pv3 1) zC) (pv3 3)) zA)) zA))))) zA)))
include A35x in
theorem CJ6 (G35x:FO P w K mg base kr f35x fd35x LG (Q7 lv))(hkr:1<=kr):FO P w K mg base (kr+1) f35x fd35x LG (Q7 (lv+1)):=by
  refine Fun.ok3 A35x.fn sc35x (CY (lv+1)) fun cdv A outer s H E hr=>⟨T9 (Q7 lv),?_,PP lv⟩
  unfold T9
  refine zD ?_ ?_
  ·exact(zQ (zP (zW hr) (pv3 0) zC (B2 _)) (zG (zH (zF (zB zJ zA)))) zN)
  refine zD ?_ ?_
  ·exact(zQ (zP (zW hr) (pv3 0) zC (B2 _)) (zG (zH (zF (zB zJ (zB zJ (zB (zF (zB (zF (zB zJ zA)) zA)) zA)))))) zN)
  refine zD ?_ ?_
  ·exact(zK (i:=1) sc35x.nd rfl (Or.inl rfl) (zL wL (zL yK (pv3 0) zC) zC))
  exact zG (zH (zF (zB zJ (zB zJ (zB (zE G35x A35x hr (zB (pv3 1) zA)) (zB (zE G35x A35x hr (zB (zL yK (zL yK (pv3 0) zC) (pv3 1)) zA)) zA))))))
include A35x in
theorem AT5:∀lv:Nat,FO P w K mg base (1+lv) f35x fd35x LG (Q7 lv)
 | 0=>U4 CY LI
 | lv+1=>by
  obtain G35x:=AT5 lv
  exact CJ6 B C A35x G35x (DF0 _ _)
include A29x G29x A36x in
theorem CJ7:FO P w K mg base 2 f36x fd36x GK NV:=by
  refine Fun.ok3 A36x.fn sc36x OU fun cdv A outer s H E hr=>⟨Y1,?_,TZ⟩
  unfold Y1
  refine zD ?_ ?_
  ·refine zK (i:=2) ?a ?b ?c ?d
   case a=>exact sc36x.nd
   case b=>exact rfl
   case c=>exact(Or.inl rfl)
   case d =>
    refine zF ?_
    refine zM ?_
    refine zM ?_
    exact zA
  refine zD ?_ ?_
  ·refine yM DC2 rfl (yL rfl B.range_ (zB (zL yK (pv3 1) zC) zA)) sc36x.nd rfl (Or.inl rfl) ?_
   refine zD ?_ ?_
   ·refine zK (i:=4) ?a ?b ?c ?d
    case a=>exact sc36x.nd
    case b=>exact rfl
    case c=>exact(Or.inl rfl)
    case d =>
     refine zR ?_
     refine zB ?_ ?_
     ·refine zF ?_
      refine zM ?_
      refine zM ?_
      refine zB ?_ ?_
      ·exact(pv3 2)
      refine zB ?_ ?_
      ·refine zF ?_
       refine zM ?_
       exact zA
      exact zA
     refine zB ?_ ?_
     ·refine zF ?_
      refine zM ?_
      refine zM ?_
      refine zB ?_ ?_
      ·refine zF ?_
       refine zM ?_
       exact zA
      refine zB ?_ ?_
      ·exact(pv3 2)
      exact zA
     refine zB ?_ ?_
     ·refine zF ?_
      refine zM ?_
      refine zM ?_
      refine zB ?_ ?_
      ·refine zF ?_
       refine zB ?_ ?_
       ·exact(pv3 2)
       exact zA
      exact zA
     exact zA
   ·refine zG ?_
    refine zK (i:=2) ?a ?b ?c ?d
    case a=>exact sc36x.nd
    case b=>exact rfl
    case c=>exact(Or.inl rfl)
    case d =>
     refine zO ?_ ?_ (fun _ _=>rfl)
     ·exact(pv3 4)
     ·exact(zE G29x A29x (hr.mono (by decide)) (zB (pv3 0) (zB zC zA)))
  exact zG (zH (pv3 2))
include A29x G29x A31x G31x A37x in
theorem CJ8:FO P w K mg base 3 f37x fd37x AX3 JW:=by
  refine Fun.ok3 A37x.fn sc37x OX fun cdv A outer s H E hr=>⟨Y3,?_,UC⟩
  unfold Y3
  refine zD ?_ ?_
  ·refine zK (i:=2) ?a ?b ?c ?d
   case a=>exact sc37x.nd
   case b=>exact rfl
   case c=>exact(Or.inl rfl)
   case d =>
    exact(zE G31x A31x (hr.mono (by decide)) (zB zC zA))
  refine zD ?_ ?_
  ·refine zK (i:=3) ?a ?b ?c ?d
   case a=>exact sc37x.nd
   case b=>exact rfl
   case c=>exact(Or.inl rfl)
   case d =>
    refine zF ?_
    refine zM ?_
    exact zA
  refine zD ?_ ?_
  ·refine zK (i:=4) ?a ?b ?c ?d
   case a=>exact sc37x.nd
   case b=>exact rfl
   case c=>exact(Or.inl rfl)
   case d =>
    refine zR ?_
    refine zB ?_ ?_
    ·refine zF ?_
     refine zM ?_
     refine zM ?_
     refine zB ?_ ?_
     ·exact(pv3 1)
     exact zA
    refine zB ?_ ?_
    ·refine zF ?_
     refine zM ?_
     refine zB ?_ ?_
     ·exact(pv3 1)
     exact zA
    refine zB ?_ ?_
    ·refine zF ?_
     refine zM ?_
     refine zM ?_
     refine zB ?_ ?_
     ·exact(pv3 1)
     exact zA
    refine zB ?_ ?_
    ·refine zF ?_
     refine zM ?_
     refine zM ?_
     refine zB ?_ ?_
     ·exact(pv3 1)
     exact zA
    exact zA
  refine zD ?_ ?_
  ·refine zK (i:=4) ?a ?b ?c ?d
   case a=>exact sc37x.nd
   case b=>exact rfl
   case c=>exact(Or.inl rfl)
   case d =>
    refine zL zS ?_ ?_
    ·exact(pv3 4)
    ·refine zR ?_
     refine zB ?_ ?_
     ·refine zF ?_
      refine zM ?_
      refine zM ?_
      refine zM ?_
      refine zB ?_ ?_
      ·exact(pv3 1)
      refine zB ?_ ?_
      ·exact(pv3 3)
      exact zA
     refine zB ?_ ?_
     ·refine zF ?_
      refine zM ?_
      refine zM ?_
      refine zM ?_
      refine zB ?_ ?_
      ·exact(pv3 3)
      refine zB ?_ ?_
      ·exact(pv3 1)
      exact zA
     refine zB ?_ ?_
     ·refine zF ?_
      refine zM ?_
      refine zB ?_ ?_
      ·exact(pv3 1)
      exact zA
     exact zA
  refine zD ?_ ?_
  ·refine zK (i:=4) ?a ?b ?c ?d
   case a=>exact sc37x.nd
   case b=>exact rfl
   case c=>exact(Or.inl rfl)
   case d =>
    refine zL zS ?_ ?_
    ·exact(pv3 4)
    ·refine zR ?_
     refine zB ?_ ?_
     ·refine zF ?_
      refine zM ?_
      refine zM ?_
      refine zM ?_
      refine zB ?_ ?_
      ·exact(pv3 1)
      refine zM ?_
      refine zB ?_ ?_
      ·exact(pv3 3)
      exact zA
     refine zB ?_ ?_
     ·refine zF ?_
      refine zM ?_
      refine zM ?_
      refine zM ?_
      refine zB ?_ ?_
      ·exact(pv3 3)
      refine zM ?_
      refine zB ?_ ?_
      ·exact(pv3 1)
      exact zA
     exact zA
  refine zD ?_ ?_
  ·refine zK (i:=4) ?a ?b ?c ?d
   case a=>exact sc37x.nd
   case b=>exact rfl
   case c=>exact(Or.inl rfl)
   case d =>
    refine zL zS ?_ ?_
    ·exact(pv3 4)
    ·refine zR ?_
     refine zB ?_ ?_
     ·refine zF ?_
      refine zM ?_
      refine zB ?_ ?_
      ·exact(pv3 1)
      exact zA
     refine zB ?_ ?_
     ·refine zF ?_
      refine zM ?_
      refine zM ?_
      refine zB ?_ ?_
      ·exact(pv3 1)
      exact zA
     refine zB ?_ ?_
     ·refine zF ?_
      refine zM ?_
      refine zB ?_ ?_
      ·exact(pv3 1)
      refine zB ?_ ?_
      ·exact(pv3 2)
      exact zA
     exact zA
  exact zG (zH (zO (zL zS (pv3 4) (zR (zB (zF (zB zJ (zB (pv3 1) (zB (pv3 2) (zB (zF zA) zA))))) zA))) (zE G29x A29x (hr.mono (by decide)) (zB (pv3 0) (zB zC zA))) (fun _ _=>rfl)))
include A29x G29x A31x G31x A38x in
theorem CJ9:FO P w K mg base 3 f38x fd38x PJ T5:=by
  refine Fun.ok3 A38x.fn sc38x MM fun cdv A outer s H E hr=>⟨T6,?_,PM⟩
  unfold T6
  refine zD ?_ ?_
  ·exact(zK (i:=2) sc38x.nd rfl (Or.inl rfl) (zE G29x A29x (hr.mono (by decide)) (zB (pv3 0) (zB zC zA))))
  refine zD ?_ ?_
  ·exact(zK (i:=3) sc38x.nd rfl (Or.inl rfl) (zL zS (zL zS (zE G31x A31x (hr.mono (by decide)) (zB (pv3 2) zA)) (zF (zB (pv3 1) zA))) (zE G31x A31x (hr.mono (by decide)) (zB (zE G29x A29x (hr.mono (by decide)) (zB (pv3 0) (zB zC zA))) zA))))
  refine zD ?_ ?_
  ·refine zK (i:=4) ?a ?b ?c ?d
   case a=>exact sc38x.nd
   case b=>exact rfl
   case c=>exact(Or.inl rfl)
   case d =>
    refine zR ?_
    refine zB ?_ ?_
    ·refine zF ?_
     refine zM ?_
     refine zB ?_ ?_
     ·refine zF ?_
      refine zM ?_
      exact zA
     refine zB ?_ ?_
     ·exact(zE G31x A31x (hr.mono (by decide)) (zB zC zA))
     exact zA
    refine zB ?_ ?_
    ·refine zF ?_
     refine zM ?_
     refine zB ?_ ?_
     ·refine zF ?_
      exact zA
     refine zB ?_ ?_
     ·exact(pv3 3)
     exact zA
    exact zA
  exact zG (zH (yE yO rfl B.tuple_ E2 (zB (zO (zR (zB (pv3 4) (zB (BJ8 (pv3 4) (yY (BW3 CE1 zC))) zA))) (zE G29x A29x (hr.mono (by decide)) (zB (pv3 0) (zB zC zA))) (fun _ _=>rfl)) zA)))
include A29x G29x A31x G31x A39x in
theorem CK0:FO P w K mg base 6 f39x fd39x G1 K1:=by
  refine Fun.ok3 A39x.fn sc39x HX fun cdv A outer s H E hr=>⟨N1,?_,JP⟩
  unfold N1
  refine zD ?_ ?_
  ·exact(zK (i:=1) sc39x.nd rfl (Or.inl rfl) (zO (zR (zB zC (zB zC (zB zC (zB zC (zB zC (zB zC zA))))))) (zE G29x A29x (hr.mono (by decide)) (zB (pv3 0) (zB zC zA))) (fun _ _=>rfl)))
  exact zG (zH (zF (zB (yE yO rfl B.tuple_ E2 (zB (yF ["_law_k"] [] [] rfl (yL rfl B.range_ (zB (pv3 1) zA)) rfl (by first|rfl|kernel_rfl) rfl (K5 (by decide)) (fun cl s₀ H₀ ex=>(yH (i:=0) (show CZ6 (["_law_k"]:List Str) by decide +kernel) rfl (Or.inl rfl) (Or.inr rfl))) (fun cl s₀ H₀ ex=>zZ) (fun cl s₀ H₀ ex=>(zF (zB (zL zS zJ (zO zJ (pv3 0) (fun _ _=>rfl))) (zB (zF zA) (zB (zE G31x A31x (hr.mono (by decide)) (zB zC zA)) zA)))))) zA)) (zB (wI yP yP zC (pv3 1) zC) zA))))
include A29x G29x A31x G31x A34x G34x A40x in
theorem CK1:FO P w K mg base 6 f40x fd40x G1 K1:=by
  refine Fun.ok3 A40x.fn sc40x HW fun cdv A outer s H E hr=>⟨N0,?_,JO⟩
  unfold N0
  refine zD ?_ ?_
  ·exact(zK (i:=1) sc40x.nd rfl (Or.inl rfl) (zO (zR (zB zC (zB zC (zB zC (zB zC (zB zC (zB zC zA))))))) (zE G29x A29x (hr.mono (by decide)) (zB (pv3 0) (zB zC zA))) (fun _ _=>rfl)))
  refine zD ?_ ?_
  ·exact(zQ (zP (zW hr) (pv3 1) zC (B2 _)) (zG (zH (zF (zB (zF (zB (zF (zB zJ (zB (zF zA) (zB (zF zA) zA)))) zA)) (zB yA zA))))) zN)
  exact zG (zH (zF (zB (zF (zB (zF (zB zJ (zB (zF zA) (zB (zE G31x A31x (hr.mono (by decide)) (zB zC zA)) zA)))) (zB (zF (zB zJ (zB (zF zA) (zB (zE G34x A34x (hr.mono (by decide)) (zB (pv3 0) (zB (pv3 1) zA))) zA)))) zA))) (zB (zT yP (pv3 1) zC (B2 _)) zA))))
include A29x G29x A31x G31x A41x in
theorem CK2:FO P w K mg base 6 f41x fd41x G1 K1:=by
  refine Fun.ok3 A41x.fn sc41x CF fun cdv A outer s H E hr=>⟨I0,?_,DG⟩
  unfold I0
  refine zD ?_ ?_
  ·refine zK (i:=1) ?a ?b ?c ?d
   case a=>exact sc41x.nd
   case b=>exact rfl
   case c=>exact(Or.inl rfl)
   case d =>
    refine zL zS ?_ ?_
    ·exact zC
    ·exact(zE G29x A29x (hr.mono (by decide)) (zB (pv3 0) (zB zC zA)))
  refine zD ?_ ?_
  ·exact(RH 2 ["_law_k"] [] [] rfl (yL rfl B.range_ (zB (pv3 1) zA)) rfl (by first|rfl|kernel_rfl) rfl (K5 (by decide)) (fun cl s₀ H₀ ex=>(yH (i:=0) (show CZ6 (["_law_k"]:List Str) by decide +kernel) rfl (Or.inl rfl) (Or.inr rfl))) (fun cl s₀ H₀ ex=>zZ) (fun cl s₀ H₀ ex=>(zL zS zJ (zO zJ (pv3 0) (fun _ _=>rfl)))) sc41x.nd rfl (Or.inl rfl) (Or.inl rfl))
  refine zD ?_ ?_
  ·refine zK (i:=3) ?a ?b ?c ?d
   case a=>exact sc41x.nd
   case b=>exact rfl
   case c=>exact(Or.inl rfl)
   case d =>
    exact(yE yO rfl B.tuple_ E2 (zB (TN (pv3 2) wF (yY (zE G29x A29x (hr.mono (by decide)) (zB (pv3 0) (zB zC zA))))) zA))
  refine zD ?_ ?_
  ·refine zK (i:=4) ?a ?b ?c ?d
   case a=>exact sc41x.nd
   case b=>exact rfl
   case c=>exact(Or.inl rfl)
   case d =>
    exact(zE G31x A31x (hr.mono (by decide)) (zB zC zA))
  refine zD ?_ ?_
  ·refine zK (i:=5) ?a ?b ?c ?d
   case a=>exact sc41x.nd
   case b=>exact rfl
   case c=>exact(Or.inl rfl)
   case d =>
    refine wA ?_
    exact zA
  refine zD ?_ ?_
  ·refine yM DC2 rfl (wB (pv3 2)) sc41x.nd rfl (Or.inl rfl) ?_
   refine zD ?_ ?_
   ·refine zK (i:=7) ?a ?b ?c ?d
    case a=>exact sc41x.nd
    case b=>exact rfl
    case c=>exact(Or.inl rfl)
    case d =>
     refine zR ?_
     refine zB ?_ ?_
     ·refine zF ?_
      refine zM ?_
      refine zB ?_ ?_
      ·exact(pv3 6)
      refine zB ?_ ?_
      ·refine zF ?_
       refine zM ?_
       exact zA
      exact zA
     refine zB ?_ ?_
     ·refine zF ?_
      refine zM ?_
      refine zB ?_ ?_
      ·refine zF ?_
       refine zM ?_
       refine zB ?_ ?_
       ·exact(pv3 6)
       exact zA
      exact zA
     refine zB ?_ ?_
     ·refine zF ?_
      refine zM ?_
      refine zB ?_ ?_
      ·exact(pv3 6)
      refine zB ?_ ?_
      ·exact(pv3 6)
      refine zB ?_ ?_
      ·refine zF ?_
       refine zM ?_
       exact zA
      refine zB ?_ ?_
      ·refine zF ?_
       refine zM ?_
       exact zA
      exact zA
     exact zA
   ·refine zD ?_ ?_
    ·refine zK (i:=7) ?a ?b ?c ?d
     case a=>exact sc41x.nd
     case b=>exact rfl
     case c=>exact(Or.inl rfl)
     case d =>
      refine zL zS ?_ ?_
      ·exact(pv3 7)
      ·refine zR ?_
       refine zB ?_ ?_
       ·refine zF ?_
        refine zM ?_
        refine zB ?_ ?_
        ·refine zO ?_ ?_ (fun _ _=>rfl)
         ·exact(pv3 2)
         ·exact zC
        refine zB ?_ ?_
        ·exact(pv3 6)
        refine zB ?_ ?_
        ·refine zF ?_
         refine zM ?_
         exact zA
        refine zB ?_ ?_
        ·refine zF ?_
         refine zM ?_
         exact zA
        exact zA
       refine zB ?_ ?_
       ·refine zF ?_
        refine zM ?_
        refine zB ?_ ?_
        ·exact(pv3 6)
        refine zB ?_ ?_
        ·refine zF ?_
         refine zM ?_
         refine zB ?_ ?_
         ·exact(pv3 6)
         exact zA
        exact zA
       exact zA
    ·refine zD ?_ ?_
     ·refine zK (i:=7) ?a ?b ?c ?d
      case a=>exact sc41x.nd
      case b=>exact rfl
      case c=>exact(Or.inl rfl)
      case d =>
       refine zL zS ?_ ?_
       ·exact(pv3 7)
       ·refine zR ?_
        refine zB ?_ ?_
        ·refine zF ?_
         refine zM ?_
         refine zB ?_ ?_
         ·exact(pv3 6)
         refine zB ?_ ?_
         ·refine zF ?_
          refine zM ?_
          exact zA
         exact zA
        refine zB ?_ ?_
        ·refine zF ?_
         refine zM ?_
         refine zB ?_ ?_
         ·exact(pv3 6)
         refine zB ?_ ?_
         ·exact(pv3 6)
         refine zB ?_ ?_
         ·refine zF ?_
          refine zM ?_
          exact zA
         refine zM ?_
         refine zB ?_ ?_
         ·refine zF ?_
          refine zM ?_
          exact zA
         exact zA
        exact zA
     ·refine zD ?_ ?_
      ·refine zK (i:=7) ?a ?b ?c ?d
       case a=>exact sc41x.nd
       case b=>exact rfl
       case c=>exact(Or.inl rfl)
       case d =>
        refine zL BI4 ?_ ?_
        ·exact(pv3 7)
        ·refine zR ?_
         refine zB ?_ ?_
         ·refine zF ?_
          refine zM ?_
          refine zB ?_ ?_
          ·refine zO ?_ ?_ (fun _ _=>rfl)
           ·exact(pv3 2)
           ·exact zC
          refine zB ?_ ?_
          ·exact(pv3 6)
          refine zB ?_ ?_
          ·refine zF ?_
           refine zM ?_
           exact zA
          refine zM ?_
          refine zB ?_ ?_
          ·refine zF ?_
           refine zM ?_
           exact zA
          exact zA
         refine zB ?_ ?_
         ·refine zF ?_
          refine zM ?_
          refine zM ?_
          refine zB ?_ ?_
          ·refine zF ?_
           refine zM ?_
           refine zB ?_ ?_
           ·exact(pv3 6)
           exact zA
          exact zA
         exact zA
      ·refine zD ?_ ?_
       ·refine zQ (zP wJ (zI zV rfl B.len_ D9 (zB (pv3 5) zA)) zC (B2 _)) ?_ ?_
        ·refine zG ?_
         exact(BA1 (pv3 7) zC (zF (zB zJ (zB (pv3 4) (zB (zF (zB (zF (zB zJ (zB (pv3 6) (zB (pv3 4) zA)))) zA)) (zB (zF zA) zA))))))
        ·exact zN
       ·refine zG ?_
        exact(yR (yU DG1 DP2 F.type_list_append wH (pv3 5) (zB (zO (pv3 7) (zE G29x A29x (hr.mono (by decide)) (zB (pv3 0) (zB zC zA))) (fun _ _=>rfl)) zA)))
  exact zG (zH (zF (zB (zF (zB (zF (zB zJ (zB (pv3 3) (zB (yE yO rfl B.tuple_ E2 (zB (pv3 5) zA)) zA)))) zA)) (zB (zT yP (pv3 1) zC (B2 _)) zA))))
include A29x G29x A30x G30x A33x G33x A38x G38x A42x in
theorem CK3:FO P w K mg base 6 f42x fd42x G1 K1:=by
  refine Fun.ok3 A42x.fn sc42x GH fun cdv A outer s H E hr=>⟨K7,?_,II⟩
  unfold K7
  refine zD ?_ ?_
  ·exact(zK (i:=1) sc42x.nd rfl (Or.inl rfl) (zL zS zC (zE G29x A29x (hr.mono (by decide)) (zB (pv3 0) (zB zC zA)))))
  exact zG (zH (zF (zB (zE G38x A38x (hr.mono (by decide)) (zB (pv3 0) (zB (zE G33x A33x (hr.mono (by decide)) (zB (pv3 0) (zB (zE G30x A30x (hr.mono (by decide)) (zB zC zA)) (zB (pv3 1) zA)))) zA))) (zB (zT wJ (pv3 1) zC (B2 _)) zA))))
include A29x G29x A35x G35x A36x G36x A37x G37x A38x G38x A43x in
theorem CK4:FO P w K mg base 6 f43x fd43x G1 K1:=by
  refine Fun.ok3 A43x.fn sc43x Z8 fun cdv A outer s H E hr=>⟨G0,?_,AW⟩
  unfold G0
  refine zD ?_ ?_
  ·exact(zK (i:=1) sc43x.nd rfl (Or.inl rfl) (zL zS zC (zE G29x A29x (hr.mono (by decide)) (zB (pv3 0) (zB zC zA)))))
  refine zD ?_ ?_
  ·exact(zK (i:=2) sc43x.nd rfl (Or.inl rfl) (zL zS zC (zE G29x A29x (hr.mono (by decide)) (zB (pv3 0) (zB zC zA)))))
  refine zD ?_ ?_
  ·exact(zQ (zP (zW hr) (zE G29x A29x (hr.mono (by decide)) (zB (pv3 0) (zB zC zA))) zC (B2 _)) (zG (zH (zF (zB (zE G38x A38x (hr.mono (by decide)) (zB (pv3 0) (zB (zE G37x A37x (hr.mono (by decide)) (zB (pv3 0) (zB (zE G35x A35x (hr.mono (by decide)) (zB (pv3 1) zA)) zA))) zA))) (zB (zT yP (pv3 1) zC (B2 _)) zA))))) zN)
  exact zG (zH (zF (zB (zE G38x A38x (hr.mono (by decide)) (zB (pv3 0) (zB (zE G37x A37x (hr.mono (by decide)) (zB (pv3 0) (zB (zE G36x A36x (hr.mono (by decide)) (zB (pv3 0) (zB (pv3 2) zA))) zA))) zA))) (zB (zT yP (pv3 2) zC (B2 _)) zA))))
include A29x G29x A31x G31x A44x in
theorem CK5:FO P w K mg base 6 f44x fd44x G1 K1:=by
  refine Fun.ok3 A44x.fn sc44x GI fun cdv A outer s H E hr=>⟨K8,?_,IJ⟩
  unfold K8
  refine zD ?_ ?_
  ·exact(zK (i:=1) sc44x.nd rfl (Or.inl rfl) (zL zS zC (zE G29x A29x (hr.mono (by decide)) (zB (pv3 0) (zB zC zA)))))
  refine zD ?_ ?_
  ·exact(zK (i:=2) sc44x.nd rfl (Or.inl rfl) (yE yO rfl B.tuple_ E2 (zB (yF ["_law_k"] [] [] rfl (yL rfl B.range_ (zB (pv3 1) zA)) rfl (by first|rfl|kernel_rfl) rfl (K5 (by decide)) (fun cl s₀ H₀ ex=>(yH (i:=0) (show CZ6 (["_law_k"]:List Str) by decide +kernel) rfl (Or.inl rfl) (Or.inr rfl))) (fun cl s₀ H₀ ex=>zZ) (fun cl s₀ H₀ ex=>(zL zS zJ (zO zJ (pv3 0) (fun _ _=>rfl))))) zA)))
  refine zD ?_ ?_
  ·refine zK (i:=3) ?a ?b ?c ?d
   case a=>exact sc44x.nd
   case b=>exact rfl
   case c=>exact(Or.inl rfl)
   case d =>
    refine zF ?_
    refine zM ?_
    refine zB ?_ ?_
    ·refine zF ?_
     refine zM ?_
     refine zM ?_
     refine zB ?_ ?_
     ·exact(yE yO rfl B.tuple_ E2 (zB (zL BI6 (zR (zB (zF (zB zJ zA)) zA)) (pv3 1)) zA))
     exact zA
    exact zA
  exact zG (zH (zF (zB (zF (zB (zF (zB zJ (zB (pv3 2) (zB (zE G31x A31x (hr.mono (by decide)) (zB zC zA)) zA)))) (zB (zF (zB zJ (zB (zF zA) (zB (zF (zB (pv3 3) zA)) zA)))) zA))) (zB (zT yP (pv3 1) zC (B2 _)) zA))))
include A29x G29x A31x G31x A38x G38x A45x in
theorem CK6:FO P w K mg base 6 f45x fd45x G1 K1:=by
  refine Fun.ok3 A45x.fn sc45x FG fun cdv A outer s H E hr=>⟨K0,?_,GL⟩
  unfold K0
  refine zD ?_ ?_
  ·exact(zK (i:=1) sc45x.nd rfl (Or.inl rfl) (zE G29x A29x (hr.mono (by decide)) (zB (pv3 0) (zB zC zA))))
  refine zD ?_ ?_
  ·exact(zK (i:=2) sc45x.nd rfl (Or.inl rfl) (zO (zR (zB (zF zA) (zB (zE G31x A31x (hr.mono (by decide)) (zB zC zA)) zA))) (zE G29x A29x (hr.mono (by decide)) (zB (pv3 0) (zB zC zA))) (fun _ _=>rfl)))
  refine zD ?_ ?_
  ·exact(zK (i:=3) sc45x.nd rfl (Or.inl rfl) (yE yO rfl B.tuple_ E2 (zB (yF ["_law_k"] [] [] rfl (yL rfl B.range_ (zB (pv3 1) zA)) rfl (by first|rfl|kernel_rfl) rfl (K5 (by decide)) (fun cl s₀ H₀ ex=>(yH (i:=0) (show CZ6 (["_law_k"]:List Str) by decide +kernel) rfl (Or.inl rfl) (Or.inr rfl))) (fun cl s₀ H₀ ex=>zZ) (fun cl s₀ H₀ ex=>(zF (zB (zO (zR (zB zJ (zB zJ (zB zJ zA)))) (zL yW (pv3 0) zC) (fun _ _=>rfl)) (zB zJ (zB (zE G31x A31x (hr.mono (by decide)) (zB zC zA)) zA)))))) zA)))
  exact zG (zH (zF (zB (zE G38x A38x (hr.mono (by decide)) (zB (pv3 0) (zB (zF (zB zJ (zB (zE G31x A31x (hr.mono (by decide)) (zB zC zA)) (zB (pv3 3) (zB (pv3 2) zA))))) zA))) (zB (yB (zT yP (pv3 1) zC (B2 _)) (yD (AA1 (zT wG (pv3 1) zC (B2 _)) (yD (zT (yT hr) (pv3 2) (zF zA) (B2 _)))))) zA))))
include A29x G29x A31x G31x A38x G38x A46x in
theorem CK7:FO P w K mg base 6 f46x fd46x G1 K1:=by
  refine Fun.ok3 A46x.fn sc46x HY fun cdv A outer s H E hr=>⟨N3,?_,JQ⟩
  unfold N3
  refine zD ?_ ?_
  ·refine zK (i:=1) ?a ?b ?c ?d
   case a=>exact sc46x.nd
   case b=>exact rfl
   case c=>exact(Or.inl rfl)
   case d =>
    exact(zE G29x A29x (hr.mono (by decide)) (zB (pv3 0) (zB zC zA)))
  refine zD ?_ ?_
  ·refine zK (i:=2) ?a ?b ?c ?d
   case a=>exact sc46x.nd
   case b=>exact rfl
   case c=>exact(Or.inl rfl)
   case d =>
    refine zL zS ?_ ?_
    ·refine zL yK ?_ ?_
     ·refine zL wR ?_ ?_
      ·exact zC
      ·exact zC
     ·exact zC
    ·exact(pv3 1)
  refine zD ?_ ?_
  ·refine zK (i:=3) ?a ?b ?c ?d
   case a=>exact sc46x.nd
   case b=>exact rfl
   case c=>exact(Or.inl rfl)
   case d =>
    refine zL zS ?_ ?_
    ·exact zJ
    ·refine zL BI7 ?_ ?_
     ·exact zJ
     ·exact(pv3 1)
  refine zD ?_ ?_
  ·refine zK (i:=4) ?a ?b ?c ?d
   case a=>exact sc46x.nd
   case b=>exact rfl
   case c=>exact(Or.inl rfl)
   case d =>
    exact(zE G31x A31x (hr.mono (by decide)) (zB zC zA))
  refine zD ?_ ?_
  ·refine zK (i:=5) ?a ?b ?c ?d
   case a=>exact sc46x.nd
   case b=>exact rfl
   case c=>exact(Or.inl rfl)
   case d =>
    refine zF ?_
    refine zM ?_
    exact zA
  refine zD ?_ ?_
  ·refine zK (i:=6) ?a ?b ?c ?d
   case a=>exact sc46x.nd
   case b=>exact rfl
   case c=>exact(Or.inl rfl)
   case d =>
    refine zR ?_
    refine zB ?_ ?_
    ·refine zF ?_
     refine zM ?_
     refine zB ?_ ?_
     ·refine zF ?_
      refine zM ?_
      refine zB ?_ ?_
      ·exact(pv3 2)
      exact zA
     exact zA
    refine zB ?_ ?_
    ·refine zF ?_
     refine zM ?_
     refine zB ?_ ?_
     ·refine zF ?_
      refine zM ?_
      refine zB ?_ ?_
      ·refine zL yK ?_ ?_
       ·exact zC
       ·exact(pv3 2)
      exact zA
     exact zA
    refine zB ?_ ?_
    ·refine zF ?_
     refine zM ?_
     refine zB ?_ ?_
     ·exact(pv3 3)
     refine zB ?_ ?_
     ·exact(pv3 5)
     exact zA
    exact zA
  refine zD ?_ ?_
  ·refine zK (i:=6) ?a ?b ?c ?d
   case a=>exact sc46x.nd
   case b=>exact rfl
   case c=>exact(Or.inl rfl)
   case d =>
    refine zL zS ?_ ?_
    ·exact(pv3 6)
    ·refine zR ?_
     refine zB ?_ ?_
     ·refine zF ?_
      refine zM ?_
      refine zB ?_ ?_
      ·exact(pv3 3)
      refine zB ?_ ?_
      ·exact(pv3 5)
      exact zA
     refine zB ?_ ?_
     ·refine zF ?_
      refine zM ?_
      refine zM ?_
      refine zM ?_
      refine zB ?_ ?_
      ·exact(pv3 5)
      refine zB ?_ ?_
      ·exact(pv3 3)
      refine zB ?_ ?_
      ·exact(pv3 5)
      exact zA
     refine zB ?_ ?_
     ·refine zF ?_
      refine zM ?_
      refine zB ?_ ?_
      ·refine zF ?_
       refine zM ?_
       refine zB ?_ ?_
       ·exact(pv3 3)
       exact zA
      exact zA
     exact zA
  refine zD ?_ ?_
  ·refine zK (i:=6) ?a ?b ?c ?d
   case a=>exact sc46x.nd
   case b=>exact rfl
   case c=>exact(Or.inl rfl)
   case d =>
    refine zL zS ?_ ?_
    ·exact(pv3 6)
    ·refine zR ?_
     refine zB ?_ ?_
     ·refine zF ?_
      refine zM ?_
      refine zB ?_ ?_
      ·exact(pv3 4)
      refine zB ?_ ?_
      ·refine zF ?_
       refine zB ?_ ?_
       ·refine zF ?_
        refine zB ?_ ?_
        ·exact(pv3 3)
        refine zM ?_
        refine zB ?_ ?_
        ·exact(pv3 4)
        exact zA
       exact zA
      refine zB ?_ ?_
      ·refine zF ?_
       exact zA
      exact zA
     refine zB ?_ ?_
     ·refine zF ?_
      refine zM ?_
      refine zB ?_ ?_
      ·exact(pv3 3)
      refine zB ?_ ?_
      ·exact(pv3 5)
      exact zA
     exact zA
  refine zD ?_ ?_
  ·refine zK (i:=6) ?a ?b ?c ?d
   case a=>exact sc46x.nd
   case b=>exact rfl
   case c=>exact(Or.inl rfl)
   case d =>
    refine zL zS ?_ ?_
    ·exact(pv3 6)
    ·refine zR ?_
     refine zB ?_ ?_
     ·refine zF ?_
      refine zM ?_
      refine zB ?_ ?_
      ·exact(pv3 4)
      refine zB ?_ ?_
      ·refine zF ?_
       refine zB ?_ ?_
       ·refine zF ?_
        refine zM ?_
        refine zB ?_ ?_
        ·exact(pv3 3)
        refine zB ?_ ?_
        ·exact(pv3 4)
        exact zA
       exact zA
      refine zB ?_ ?_
      ·refine zF ?_
       exact zA
      exact zA
     refine zB ?_ ?_
     ·refine zF ?_
      refine zM ?_
      refine zM ?_
      refine zB ?_ ?_
      ·exact(pv3 3)
      refine zB ?_ ?_
      ·exact(pv3 5)
      refine zB ?_ ?_
      ·exact(pv3 5)
      exact zA
     exact zA
  exact zG (zH (zF (zB (zE G38x A38x (hr.mono (by decide)) (zB (pv3 0) (zB (zO (pv3 6) (zE G29x A29x (hr.mono (by decide)) (zB (pv3 0) (zB zC zA))) (fun _ _=>rfl)) zA))) (zB (zT (zW hr) (pv3 1) zC (B2 _)) zA))))
include A29x G29x A39x G39x A40x G40x A41x G41x A42x G42x A43x G43x A44x G44x A45x G45x A46x G46x A47x in
theorem CK8:FO P w K mg base 7 f47x fd47x G1 NT:=by
  refine Fun.ok3 A47x.fn sc47x OT fun cdv A outer s H E hr=>⟨Y0,?_,TY⟩
  unfold Y0
  refine zD ?_ ?_
  ·exact(zK (i:=1) sc47x.nd rfl (Or.inl rfl) (zE G29x A29x (hr.mono (by decide)) (zB (pv3 0) (zB zC zA))))
  refine zD ?_ ?_
  ·exact(zQ (zP wJ (pv3 1) zC (B2 _)) (zG (zH (WY (fs:=[f39x,f40x,f41x,f42x]) (by simp only[CV0,CU9,or_false,forall_eq_or_imp,forall_eq];exact⟨⟨_,G39x,A39x.fn.kp,A39x.bd⟩,⟨_,G40x,A40x.fn.kp,A40x.bd⟩,⟨_,G41x,A41x.fn.kp,A41x.bd⟩,⟨_,G42x,A42x.fn.kp,A42x.bd⟩⟩) (hr.mono (by decide)) (zB (yX A39x) (zB (yX A40x) (zB (yX A41x) (zB (yX A42x) zA)))) (pv3 1) (fun _ _=>rfl) (zB (pv3 0) zA)))) zN)
  exact zG (zH (WY (fs:=[f43x,f44x,f45x,f46x]) (by simp only[CV0,CU9,or_false,forall_eq_or_imp,forall_eq];exact⟨⟨_,G43x,A43x.fn.kp,A43x.bd⟩,⟨_,G44x,A44x.fn.kp,A44x.bd⟩,⟨_,G45x,A45x.fn.kp,A45x.bd⟩,⟨_,G46x,A46x.fn.kp,A46x.bd⟩⟩) (hr.mono (by decide)) (zB (yX A43x) (zB (yX A44x) (zB (yX A45x) (zB (yX A46x) zA)))) (zL yK (pv3 1) zC) (fun _ _=>rfl) (zB (pv3 0) zA)))
include A27x G27x A28x G28x A47x G47x A48x in
theorem CK9:FO P w K mg base 26 f48x fd48x TM L3.GS:=by
  refine Fun.ok3 A48x.fn sc48x BH6 fun cdv A outer s H E hr=>⟨AJ4,?_,BY6⟩
  unfold AJ4
  refine zD ?_ ?_
  ·exact(zK (i:=1) sc48x.nd rfl (Or.inl rfl) (zE G28x A28x (hr.mono (by decide)) (zB (pv3 0) zA)))
  refine zD ?_ ?_
  ·exact(yM DC2 rfl (yL rfl B.range_ (zB zC zA)) sc48x.nd rfl (Or.inl rfl) (zD (BL2 (zE G47x A47x (hr.mono (by decide)) (zB (pv3 1) zA)) (yS rfl (zU (i:=3) sc48x.nd rfl (Or.inl rfl) (zU (i:=4) sc48x.nd rfl (Or.inl rfl) yQ (Or.inl rfl)) (Or.inl rfl))))
  (zD (zK (i:=5) sc48x.nd rfl (Or.inl rfl) (zI (VS hr) rfl B.repr_ AD9 (zB (pv3 3) zA)))
  (zD (zK (i:=6) sc48x.nd rfl (Or.inl rfl) (zE G27x A27x (hr.mono (by decide)) (zB (pv3 3) zA)))
  (zG (zQ (PW3.pt (yJ (zX (zY (zI yN rfl B.isinstance_ C1 (zB (pv3 6) (zB (yC (d:=.ty "bool") (v:=.ty "bool") rfl B.bool_ AD7 rfl (fun _ _ _=>.ty)) zA))))) (yJ (zP (yT hr) (pv3 6) (pv3 4) (B2 _)) (yG (zP (yT hr) (zI (VS hr) rfl B.repr_ AD9 (zB (pv3 3) zA)) (pv3 5) (B2 _)))))) (zG (zH yA)) zN))))))
  exact zG (zH yA)
end
local macro_rules | `(tactic| walk_at "b1")=>`(tactic| exact fun _ _ _ _ _ _ us hl=>by obtain⟨_,e⟩:=us1 hl;cases e;rfl)
local macro_rules | `(tactic| walk_at "b2")=>`(tactic| exact fun _ _ _ _ _ _ us hl=>by obtain⟨_,_,e⟩:=us2 hl;cases e;rfl)
local macro_rules | `(tactic| walk_at "b3")=>`(tactic| exact fun _ _ _ _ _ _ us hl=>by obtain⟨_,_,_,e⟩:=us3 hl;cases e;rfl)
local macro_rules | `(tactic| walk_at "b4")=>`(tactic| exact fun _ _ _ _ _ _ us hl=>by obtain⟨_,_,_,_,e⟩:=us4 hl;cases e;rfl)
theorem BR0 {l:PySem.W.OpenLaw}{h:Heap}{fa:Addr}(X:K.In h)(G:h.Ns CY1 mg)(hfa:mg "law"=some (.ref fa))
  {ac12:Addr}
  {ac12_0 ac12_1 ac12_2 ac12_3 ac12_4 ac12_5 ac12_6 ac12_7 ac12_8 ac12_9 ac12_10 ac12_11 ac12_12:Addr} {qc12_0 qc12_1 qc12_2 qc12_3 qc12_4 qc12_5 qc12_6 qc12_7 qc12_8 qc12_9 qc12_10 qc12_11 qc12_12:Tok} {ec12:Nat}
  {kc12_0_0 kc12_0_1:Tok} {oc12_0:Option Addr} {nc12_0:Nat} {sc12_0:Array (Option Value)}
  {kc12_1_0:Tok} {oc12_1:Option Addr} {nc12_1:Nat} {sc12_1:Array (Option Value)}
  {kc12_2_0 kc12_2_1:Tok} {oc12_2:Option Addr} {nc12_2:Nat} {sc12_2:Array (Option Value)}
  {kc12_3_0 kc12_3_1:Tok} {oc12_3:Option Addr} {nc12_3:Nat} {sc12_3:Array (Option Value)}
  {kc12_4_0 kc12_4_1 kc12_4_2 kc12_4_3:Tok} {oc12_4:Option Addr} {nc12_4:Nat} {sc12_4:Array (Option Value)}
  {kc12_5_0 kc12_5_1 kc12_5_2 kc12_5_3 kc12_5_4:Tok} {oc12_5:Option Addr} {nc12_5:Nat} {sc12_5:Array (Option Value)}
  {kc12_6_0:Tok} {oc12_6:Option Addr} {nc12_6:Nat} {sc12_6:Array (Option Value)}
  {kc12_7_0:Tok} {oc12_7:Option Addr} {nc12_7:Nat} {sc12_7:Array (Option Value)}
  {kc12_8_0 kc12_8_1:Tok} {oc12_8:Option Addr} {nc12_8:Nat} {sc12_8:Array (Option Value)}
  {oc12_9:Option Addr} {nc12_9:Nat} {sc12_9:Array (Option Value)}
  {kc12_10_0 kc12_10_1 kc12_10_2:Tok} {oc12_10:Option Addr} {nc12_10:Nat} {sc12_10:Array (Option Value)}
  {kc12_11_0 kc12_11_1:Tok} {oc12_11:Option Addr} {nc12_11:Nat} {sc12_11:Array (Option Value)}
  {kc12_12_0 kc12_12_1 kc12_12_2:Tok} {oc12_12:Option Addr} {nc12_12:Nat} {sc12_12:Array (Option Value)}
  {ac13:Addr}
  {kc13_0 kc13_1 kc13_2 kc13_3 kc13_4 kc13_5 kc13_6 kc13_7 kc13_8 kc13_9 kc13_10 kc13_11 kc13_12 kc13_13 kc13_14 kc13_15 kc13_16 kc13_17 kc13_18:Tok} {oc13:Option Addr} {nc13:Nat} {sc13:Array (Option Value)}
  {ac14:Addr}
  {kc14_0 kc14_1 kc14_2 kc14_3 kc14_4:Tok} {oc14:Option Addr} {nc14:Nat} {sc14:Array (Option Value)}
  (a0x:Fg K "parts_of" s0x)
  (a1x:Fg K "blocks_of" s1x)
  (a2x:Fg K "deeds_of" s2x)
  (a3x:Fg K "names_given" s3x)
  (a4x:Fg K "branches_of" s4x)
  (a5x:Fg K "trees_of" s5x)
  (a6x:Fg K "trees_in" s6x)
  (a7x:Fg K "is_whole" s7x)
  (a8x:Fg K "has_only" s8x)
  (a9x:Fg K "is_letters" s9x)
  (a10x:Fg K "is_word" BY8)
  (a11x:Fg K "has_thirty" BY9)
  (a12x:Fg K "is_worth" BZ0)
  (a13x:Fg K "is_name" BZ1)
  (a14x:Fg K "is_args" BZ2)
  (a15x:Fg K "is_tree" BZ3)
  (a16x:Fg K "is_expression" BZ4)
  (a17x:Fg K "is_some" BZ5)
  (a18x:Fg K "is_catch" BZ6)
  (a19x:Fg K "is_catches" BZ7)
  (a20x:Fg K "is_part" BZ8)
  (a21x:Fg K "is_deed" BZ9)
  (a22x:Fg K "is_deeds" CA0)
  (a23x:Fg K "is_params" CA1)
  (a24x:Fg K "variables" CA2)
  (a25x:Fg K "is_rule" CA3)
  (a26x:Fg K "makes_fit" CA4)
  (a27x:Fg K "is_book" CA5)
  (a28x:Fg K "_law_pen" CA6)
  (a29x:Fg K "_law_draw" CA7)
  (a30x:Fg K "_law_note" CA8)
  (a31x:Fg K "_law_notes" CA9)
  (a32x:Fg K "_law_around" CB0)
  (a33x:Fg K "_law_nested" CB1)
  (a34x:Fg K "_law_deeds" CB2)
  (a35x:Fg K "_law_sized" CB3)
  (a36x:Fg K "_law_deep" CB4)
  (a37x:Fg K "_law_with" CB5)
  (a38x:Fg K "_law_books" CB6)
  (a39x:Fg K "_law_of_rules" CB7)
  (a40x:Fg K "_law_of_deeds" CB8)
  (a41x:Fg K "_law_of_variables" CB9)
  (a42x:Fg K "_law_of_blocks" CC0)
  (a43x:Fg K "_law_of_expressions" CC1)
  (a44x:Fg K "_law_of_params" CC2)
  (a45x:Fg K "_law_of_catches" CC3)
  (a46x:Fg K "_law_of_signs" CC4)
  (a47x:Fg K "_law_case" CC5)
  (a48x:Fg K "law" CC6)
  (z0:CZ8 K CY1 "abs"=some none)
  (z1:CZ8 K CY1 "all"=some none)
  (z2:CZ8 K CY1 "bool"=some none)
  (z3:CZ8 K CY1 "int"=some none)
  (z4:CZ8 K CY1 "isinstance"=some none)
  (z5:CZ8 K CY1 "len"=some none)
  (z6:CZ8 K CY1 "list"=some none)
  (z7:CZ8 K CY1 "range"=some none)
  (z8:CZ8 K CY1 "repr"=some none)
  (z9:CZ8 K CY1 "set"=some none)
  (z10:CZ8 K CY1 "sorted"=some none)
  (z11:CZ8 K CY1 "str"=some none)
  (z12:CZ8 K CY1 "tuple"=some none)
  (z13:CZ8 K CY1 "zip"=some none)
  (u0:Kc K "BEYOND_NUMBERS" (Value.int 1000000000000000000000000000000))
  (u1:Kc K "LETTERS" (Value.str "abcdefghijklmnopqrstuvwxyz"))
  (u2:Kc K "MOST_ARGS" (Value.int 3))
  (u3:Kc K "MOST_BLOCKS" (Value.int 5))
  (u4:Kc K "MOST_CATCHES" (Value.int 3))
  (u5:Kc K "MOST_DEEDS" (Value.int 30))
  (u6:Kc K "MOST_DEPTH" (Value.int 4))
  (u7:Kc K "MOST_LETTERS" (Value.int 8))
  (u8:Kc K "MOST_PARAMS" (Value.int 3))
  (u9:Kc K "MOST_RULES" (Value.int 8))
  (u10:Kc K "MOST_TREES" (Value.int 9))
  (u11:Kc K "MOST_VARIABLES" (Value.int 12))
  (uc12:CZ8 K CY1 "SHAPES"=some (some (.ref ac12)))
  (lc12:K.lookup ac12=some ⟨.type "dict",none,.dict #[⟨DB7 w.params "let",.str "let" qc12_0,.ref ac12_0⟩,⟨DB7 w.params "note",.str "note" qc12_1,.ref ac12_1⟩,⟨DB7 w.params "give",.str "give" qc12_2,.ref ac12_2⟩,⟨DB7 w.params "on",.str "on" qc12_3,.ref ac12_3⟩,⟨DB7 w.params "ask",.str "ask" qc12_4,.ref ac12_4⟩,⟨DB7 w.params "cast",.str "cast" qc12_5,.ref ac12_5⟩,⟨DB7 w.params "close",.str "close" qc12_6,.ref ac12_6⟩,⟨DB7 w.params "end",.str "end" qc12_7,.ref ac12_7⟩,⟨DB7 w.params "fault",.str "fault" qc12_8,.ref ac12_8⟩,⟨DB7 w.params "leave",.str "leave" qc12_9,.ref ac12_9⟩,⟨DB7 w.params "if",.str "if" qc12_10,.ref ac12_10⟩,⟨DB7 w.params "while",.str "while" qc12_11,.ref ac12_11⟩,⟨DB7 w.params "try",.str "try" qc12_12,.ref ac12_12⟩] ec12,#[]⟩)
  (lc12_0:K.lookup ac12_0=some ⟨.type "tuple",oc12_0,.seq #[.str "name" kc12_0_0,.str "expression" kc12_0_1] nc12_0,sc12_0⟩)
  (lc12_1:K.lookup ac12_1=some ⟨.type "tuple",oc12_1,.seq #[.str "expression" kc12_1_0] nc12_1,sc12_1⟩)
  (lc12_2:K.lookup ac12_2=some ⟨.type "tuple",oc12_2,.seq #[.str "name" kc12_2_0,.str "expression" kc12_2_1] nc12_2,sc12_2⟩)
  (lc12_3:K.lookup ac12_3=some ⟨.type "tuple",oc12_3,.seq #[.str "name" kc12_3_0,.str "expression" kc12_3_1] nc12_3,sc12_3⟩)
  (lc12_4:K.lookup ac12_4=some ⟨.type "tuple",oc12_4,.seq #[.str "name" kc12_4_0,.str "name" kc12_4_1,.str "expression" kc12_4_2,.str "expression" kc12_4_3] nc12_4,sc12_4⟩)
  (lc12_5:K.lookup ac12_5=some ⟨.type "tuple",oc12_5,.seq #[.str "name" kc12_5_0,.str "name" kc12_5_1,.str "expression" kc12_5_2,.str "word" kc12_5_3,.str "expression" kc12_5_4] nc12_5,sc12_5⟩)
  (lc12_6:K.lookup ac12_6=some ⟨.type "tuple",oc12_6,.seq #[.str "expression" kc12_6_0] nc12_6,sc12_6⟩)
  (lc12_7:K.lookup ac12_7=some ⟨.type "tuple",oc12_7,.seq #[.str "expression" kc12_7_0] nc12_7,sc12_7⟩)
  (lc12_8:K.lookup ac12_8=some ⟨.type "tuple",oc12_8,.seq #[.str "word" kc12_8_0,.str "expression" kc12_8_1] nc12_8,sc12_8⟩)
  (lc12_9:K.lookup ac12_9=some ⟨.type "tuple",oc12_9,.seq #[] nc12_9,sc12_9⟩)
  (lc12_10:K.lookup ac12_10=some ⟨.type "tuple",oc12_10,.seq #[.str "expression" kc12_10_0,.str "block" kc12_10_1,.str "rest" kc12_10_2] nc12_10,sc12_10⟩)
  (lc12_11:K.lookup ac12_11=some ⟨.type "tuple",oc12_11,.seq #[.str "expression" kc12_11_0,.str "block" kc12_11_1] nc12_11,sc12_11⟩)
  (lc12_12:K.lookup ac12_12=some ⟨.type "tuple",oc12_12,.seq #[.str "block" kc12_12_0,.str "catches" kc12_12_1,.str "rest" kc12_12_2] nc12_12,sc12_12⟩)
  (gc12:(ac12==DG6)=false)
  (uc13:CZ8 K CY1 "SHUT_NAMES"=some (some (.ref ac13)))
  (lc13:K.lookup ac13=some ⟨.type "tuple",oc13,.seq #[.str "any" kc13_0,.str "ask" kc13_1,.str "cast" kc13_2,.str "catch" kc13_3,.str "close" kc13_4,.str "else" kc13_5,.str "end" kc13_6,.str "fault" kc13_7,.str "give" kc13_8,.str "if" kc13_9,.str "last" kc13_10,.str "leave" kc13_11,.str "make" kc13_12,.str "none" kc13_13,.str "note" kc13_14,.str "on" kc13_15,.str "rule" kc13_16,.str "try" kc13_17,.str "while" kc13_18] nc13,sc13⟩)
  (uc14:CZ8 K CY1 "SIGNS"=some (some (.ref ac14)))
  (lc14:K.lookup ac14=some ⟨.type "tuple",oc14,.seq #[.str "+" kc14_0,.str "-" kc14_1,.str "*" kc14_2,.str "<" kc14_3,.str "=" kc14_4] nc14,sc14⟩) :
  ∃fd:CX7,(∀(s:CV4) (v:Value),BindsTo s fd ⟨[v],[]⟩ [("_law_script",v)])/\∀base:Heap,K.In base->base.Ns CY1 mg->FnOk l.prog w K mg base CX0 26 fa fd ["_law_script"] (HJ K L3.GS):=by
 have B:Blt mg:=⟨CZ2 X G z0,CZ2 X G z1,CZ2 X G z2,CZ2 X G z3,CZ2 X G z4,CZ2 X G z5,CZ2 X G z6,CZ2 X G z7,CZ2 X G z8,CZ2 X G z9,CZ2 X G z10,CZ2 X G z11,CZ2 X G z12,CZ2 X G z13⟩
 have dc12:VP K w.params ac12 K10.tblS:=⟨[("let",qc12_0,ac12_0),("note",qc12_1,ac12_1),("give",qc12_2,ac12_2),("on",qc12_3,ac12_3),("ask",qc12_4,ac12_4),("cast",qc12_5,ac12_5),("close",qc12_6,ac12_6),("end",qc12_7,ac12_7),("fault",qc12_8,ac12_8),("leave",qc12_9,ac12_9),("if",qc12_10,ac12_10),("while",qc12_11,ac12_11),("try",qc12_12,ac12_12)],ec12,lc12,(show(["let","note","give","on","ask","cast","close","end","fault","leave","if","while","try"]:List Str).Nodup by decide +kernel),(.cons ⟨_,_,_,lc12_0,rfl,rfl,(show(2:Nat)<=CV8 by decide),(.cons ⟨_,rfl⟩ (.cons ⟨_,rfl⟩ .nil))⟩ (.cons ⟨_,_,_,lc12_1,rfl,rfl,(show(1:Nat)<=CV8 by decide),(.cons ⟨_,rfl⟩ .nil)⟩ (.cons ⟨_,_,_,lc12_2,rfl,rfl,(show(2:Nat)<=CV8 by decide),(.cons ⟨_,rfl⟩ (.cons ⟨_,rfl⟩ .nil))⟩ (.cons ⟨_,_,_,lc12_3,rfl,rfl,(show(2:Nat)<=CV8 by decide),(.cons ⟨_,rfl⟩ (.cons ⟨_,rfl⟩ .nil))⟩ (.cons ⟨_,_,_,lc12_4,rfl,rfl,(show(4:Nat)<=CV8 by decide),(.cons ⟨_,rfl⟩ (.cons ⟨_,rfl⟩ (.cons ⟨_,rfl⟩ (.cons ⟨_,rfl⟩ .nil))))⟩ (.cons ⟨_,_,_,lc12_5,rfl,rfl,(show(5:Nat)<=CV8 by decide),(.cons ⟨_,rfl⟩ (.cons ⟨_,rfl⟩ (.cons ⟨_,rfl⟩ (.cons ⟨_,rfl⟩ (.cons ⟨_,rfl⟩ .nil)))))⟩ (.cons ⟨_,_,_,lc12_6,rfl,rfl,(show(1:Nat)<=CV8 by decide),(.cons ⟨_,rfl⟩ .nil)⟩ (.cons ⟨_,_,_,lc12_7,rfl,rfl,(show(1:Nat)<=CV8 by decide),(.cons ⟨_,rfl⟩ .nil)⟩ (.cons ⟨_,_,_,lc12_8,rfl,rfl,(show(2:Nat)<=CV8 by decide),(.cons ⟨_,rfl⟩ (.cons ⟨_,rfl⟩ .nil))⟩ (.cons ⟨_,_,_,lc12_9,rfl,rfl,(show(0:Nat)<=CV8 by decide),.nil⟩ (.cons ⟨_,_,_,lc12_10,rfl,rfl,(show(3:Nat)<=CV8 by decide),(.cons ⟨_,rfl⟩ (.cons ⟨_,rfl⟩ (.cons ⟨_,rfl⟩ .nil)))⟩ (.cons ⟨_,_,_,lc12_11,rfl,rfl,(show(2:Nat)<=CV8 by decide),(.cons ⟨_,rfl⟩ (.cons ⟨_,rfl⟩ .nil))⟩ (.cons ⟨_,_,_,lc12_12,rfl,rfl,(show(3:Nat)<=CV8 by decide),(.cons ⟨_,rfl⟩ (.cons ⟨_,rfl⟩ (.cons ⟨_,rfl⟩ .nil)))⟩ .nil)))))))))))))⟩
 have C:Cst K w.params mg:=⟨u0.at X G,u1.at X G,u2.at X G,u3.at X G,u4.at X G,u5.at X G,u6.at X G,u7.at X G,u8.at X G,u9.at X G,u10.at X G,u11.at X G,⟨_,DJ3 X G uc12,dc12⟩,⟨_,DJ3 X G uc12,dc12,gc12⟩,⟨_,DJ3 X G uc13,⟨_,_,_,lc13,rfl,rfl,(show(19:Nat)<=CV8 by decide),(.cons ⟨_,rfl⟩ (.cons ⟨_,rfl⟩ (.cons ⟨_,rfl⟩ (.cons ⟨_,rfl⟩ (.cons ⟨_,rfl⟩ (.cons ⟨_,rfl⟩ (.cons ⟨_,rfl⟩ (.cons ⟨_,rfl⟩ (.cons ⟨_,rfl⟩ (.cons ⟨_,rfl⟩ (.cons ⟨_,rfl⟩ (.cons ⟨_,rfl⟩ (.cons ⟨_,rfl⟩ (.cons ⟨_,rfl⟩ (.cons ⟨_,rfl⟩ (.cons ⟨_,rfl⟩ (.cons ⟨_,rfl⟩ (.cons ⟨_,rfl⟩ (.cons ⟨_,rfl⟩ .nil)))))))))))))))))))⟩⟩,⟨_,DJ3 X G uc14,⟨_,_,_,lc14,rfl,rfl,(show(5:Nat)<=CV8 by decide),(.cons ⟨_,rfl⟩ (.cons ⟨_,rfl⟩ (.cons ⟨_,rfl⟩ (.cons ⟨_,rfl⟩ (.cons ⟨_,rfl⟩ .nil)))))⟩⟩⟩
 obtain⟨f0x,fd0x,A0x⟩:=a0x.at (ps:=p0x) X G (by walk_at "b2")
 obtain⟨f1x,fd1x,A1x⟩:=a1x.at (ps:=p1x) X G (by walk_at "b1")
 obtain⟨f2x,fd2x,A2x⟩:=a2x.at (ps:=p2x) X G (by walk_at "b1")
 obtain⟨f3x,fd3x,A3x⟩:=a3x.at (ps:=p1x) X G (by walk_at "b1")
 obtain⟨f4x,fd4x,A4x⟩:=a4x.at (ps:=p3x) X G (by walk_at "b1")
 obtain⟨f5x,fd5x,A5x⟩:=a5x.at (ps:=p3x) X G (by walk_at "b1")
 obtain⟨f6x,fd6x,A6x⟩:=a6x.at (ps:=p4x) X G (by walk_at "b1")
 obtain⟨f7x,fd7x,A7x⟩:=a7x.at (ps:=p5x) X G (by walk_at "b1")
 obtain⟨f8x,fd8x,A8x⟩:=a8x.at (ps:=p6x) X G (by walk_at "b2")
 obtain⟨f9x,fd9x,A9x⟩:=a9x.at (ps:=p5x) X G (by walk_at "b1")
 obtain⟨f10x,fd10x,A10x⟩:=a10x.at (ps:=p5x) X G (by walk_at "b1")
 obtain⟨f11x,fd11x,A11x⟩:=a11x.at (ps:=p7x) X G (by walk_at "b1")
 obtain⟨f12x,fd12x,A12x⟩:=a12x.at (ps:=p8x) X G (by walk_at "b2")
 obtain⟨f13x,fd13x,A13x⟩:=a13x.at (ps:=p5x) X G (by walk_at "b1")
 obtain⟨f14x,fd14x,A14x⟩:=a14x.at (ps:=p9x) X G (by walk_at "b2")
 obtain⟨f15x,fd15x,A15x⟩:=a15x.at (ps:=p9x) X G (by walk_at "b2")
 obtain⟨f16x,fd16x,A16x⟩:=a16x.at (ps:=p5x) X G (by walk_at "b1")
 obtain⟨f17x,fd17x,A17x⟩:=a17x.at (ps:=p5x) X G (by walk_at "b1")
 obtain⟨f18x,fd18x,A18x⟩:=a18x.at (ps:=p5x) X G (by walk_at "b1")
 obtain⟨f19x,fd19x,A19x⟩:=a19x.at (ps:=p5x) X G (by walk_at "b1")
 obtain⟨f20x,fd20x,A20x⟩:=a20x.at (ps:=AW9) X G (by walk_at "b2")
 obtain⟨f21x,fd21x,A21x⟩:=a21x.at (ps:=p5x) X G (by walk_at "b1")
 obtain⟨f22x,fd22x,A22x⟩:=a22x.at (ps:=ZV) X G (by walk_at "b4")
 obtain⟨f23x,fd23x,A23x⟩:=a23x.at (ps:=p5x) X G (by walk_at "b1")
 obtain⟨f24x,fd24x,A24x⟩:=a24x.at (ps:=p4x) X G (by walk_at "b1")
 obtain⟨f25x,fd25x,A25x⟩:=a25x.at (ps:=p5x) X G (by walk_at "b1")
 obtain⟨f26x,fd26x,A26x⟩:=a26x.at (ps:=AX0) X G (by walk_at "b2")
 obtain⟨f27x,fd27x,A27x⟩:=a27x.at (ps:=p5x) X G (by walk_at "b1")
 obtain⟨f28x,fd28x,A28x⟩:=a28x.at (ps:=TM) X G (by walk_at "b1")
 obtain⟨f29x,fd29x,A29x⟩:=a29x.at (ps:=GK) X G (by walk_at "b2")
 obtain⟨f30x,fd30x,A30x⟩:=a30x.at (ps:=AX1) X G (by walk_at "b1")
 obtain⟨f31x,fd31x,A31x⟩:=a31x.at (ps:=LG) X G (by walk_at "b1")
 obtain⟨f32x,fd32x,A32x⟩:=a32x.at (ps:=PJ) X G (by walk_at "b2")
 obtain⟨f33x,fd33x,A33x⟩:=a33x.at (ps:=AX2) X G (by walk_at "b3")
 obtain⟨f34x,fd34x,A34x⟩:=a34x.at (ps:=GK) X G (by walk_at "b2")
 obtain⟨f35x,fd35x,A35x⟩:=a35x.at (ps:=LG) X G (by walk_at "b1")
 obtain⟨f36x,fd36x,A36x⟩:=a36x.at (ps:=GK) X G (by walk_at "b2")
 obtain⟨f37x,fd37x,A37x⟩:=a37x.at (ps:=AX3) X G (by walk_at "b2")
 obtain⟨f38x,fd38x,A38x⟩:=a38x.at (ps:=PJ) X G (by walk_at "b2")
 obtain⟨f39x,fd39x,A39x⟩:=a39x.at (ps:=G1) X G (by walk_at "b1")
 obtain⟨f40x,fd40x,A40x⟩:=a40x.at (ps:=G1) X G (by walk_at "b1")
 obtain⟨f41x,fd41x,A41x⟩:=a41x.at (ps:=G1) X G (by walk_at "b1")
 obtain⟨f42x,fd42x,A42x⟩:=a42x.at (ps:=G1) X G (by walk_at "b1")
 obtain⟨f43x,fd43x,A43x⟩:=a43x.at (ps:=G1) X G (by walk_at "b1")
 obtain⟨f44x,fd44x,A44x⟩:=a44x.at (ps:=G1) X G (by walk_at "b1")
 obtain⟨f45x,fd45x,A45x⟩:=a45x.at (ps:=G1) X G (by walk_at "b1")
 obtain⟨f46x,fd46x,A46x⟩:=a46x.at (ps:=G1) X G (by walk_at "b1")
 obtain⟨f47x,fd47x,A47x⟩:=a47x.at (ps:=G1) X G (by walk_at "b1")
 obtain⟨fd48x,A48x,e⟩:=a48x.law X G hfa (by walk_at "b1")
 refine⟨_,e,fun base _ _=>?_⟩
 have G0x:=CS3 (P:=l.prog) (base:=base) B C A0x
 have G1x:=CS4 (P:=l.prog) (base:=base) B C A1x
 have GG2x:=BP0 (P:=l.prog) (base:=base) B C A1x G1x A2x
 have G2x:=(GG2x 8)
 have G3x:=CS6 (P:=l.prog) (base:=base) B C A0x G0x A3x
 have G4x:=CS7 (P:=l.prog) (base:=base) B C A4x
 have GG5x:=BP1 (P:=l.prog) (base:=base) B C A4x G4x A5x
 have G5x:=(GG5x 5)
 have G6x:=CS9 (P:=l.prog) (base:=base) B C A0x G0x A2x G2x A5x G5x A6x
 have G7x:=CT0 (P:=l.prog) (base:=base) B C A7x
 have G8x:=CT1 (P:=l.prog) (base:=base) B C A8x
 have G9x:=CT2 (P:=l.prog) (base:=base) B C A8x G8x A9x
 have G10x:=CH1 (P:=l.prog) (base:=base) B C A9x G9x A10x
 have G11x:=CH2 (P:=l.prog) (base:=base) B C A11x
 have G12x:=CH3 (P:=l.prog) (base:=base) B C A7x G7x A11x G11x A12x
 have G13x:=CH4 (P:=l.prog) (base:=base) B C A9x G9x A13x
 have GG15x:=AT3 (P:=l.prog) (base:=base) B C A12x G12x A13x G13x A14x A15x
 have G14x:=(GG15x 9).1
 have G15x:=(GG15x 9).2
 have G16x:=CH7 (P:=l.prog) (base:=base) B C A5x G5x A15x G15x A16x
 have G17x:=CH8 (P:=l.prog) (base:=base) B C A17x
 have G18x:=CH9 (P:=l.prog) (base:=base) B C A9x G9x A13x G13x A17x G17x A18x
 have G19x:=CI0 (P:=l.prog) (base:=base) B C A18x G18x A19x
 have G20x:=CI1 (P:=l.prog) (base:=base) B C A10x G10x A13x G13x A16x G16x A17x G17x A19x G19x A20x
 have G21x:=CI2 (P:=l.prog) (base:=base) B C A17x G17x A20x G20x A21x
 have GG22x:=AT4 (P:=l.prog) (base:=base) B C A1x G1x A21x G21x A22x
 have G22x:=(GG22x 6)
 have G23x:=CI4 (P:=l.prog) (base:=base) B C A13x G13x A23x
 have G_trees_in10:=K09.AD4 G6x
 have G24x:=CI5 (P:=l.prog) (base:=base) B C A2x G2x A3x G3x A6x A24x G_trees_in10
 have G25x:=CI6 (P:=l.prog) (base:=base) B C A13x G13x A17x G17x A22x G22x A23x G23x A24x G24x A25x
 have G26x:=CI7 (P:=l.prog) (base:=base) B C A6x G6x A26x
 have G27x:=CI8 (P:=l.prog) (base:=base) B C A25x G25x A26x G26x A27x
 have G28x:=CI9 (P:=l.prog) (base:=base) B C A28x
 have G29x:=CJ0 (P:=l.prog) (base:=base) B C A29x
 have G30x:=CJ1 (P:=l.prog) (base:=base) B C A30x
 have G31x:=CJ2 (P:=l.prog) (base:=base) B C A30x G30x A31x
 have G32x:=CJ3 (P:=l.prog) (base:=base) B C A29x G29x A31x G31x A32x
 have G33x:=CJ4 (P:=l.prog) (base:=base) B C A32x G32x A33x
 have G34x:=CJ5 (P:=l.prog) (base:=base) B C A29x G29x A31x G31x A34x
 have GG35x:=AT5 (P:=l.prog) (base:=base) B C A35x
 have G35x:=(GG35x 3)
 have G36x:=CJ7 (P:=l.prog) (base:=base) B C A29x G29x A36x
 have G37x:=CJ8 (P:=l.prog) (base:=base) B C A29x G29x A31x G31x A37x
 have G38x:=CJ9 (P:=l.prog) (base:=base) B C A29x G29x A31x G31x A38x
 have G39x:=CK0 (P:=l.prog) (base:=base) B C A29x G29x A31x G31x A39x
 have G40x:=CK1 (P:=l.prog) (base:=base) B C A29x G29x A31x G31x A34x G34x A40x
 have G41x:=CK2 (P:=l.prog) (base:=base) B C A29x G29x A31x G31x A41x
 have G42x:=CK3 (P:=l.prog) (base:=base) B C A29x G29x A30x G30x A33x G33x A38x G38x A42x
 have G43x:=CK4 (P:=l.prog) (base:=base) B C A29x G29x A35x G35x A36x G36x A37x G37x A38x G38x A43x
 have G44x:=CK5 (P:=l.prog) (base:=base) B C A29x G29x A31x G31x A44x
 have G45x:=CK6 (P:=l.prog) (base:=base) B C A29x G29x A31x G31x A38x G38x A45x
 have G46x:=CK7 (P:=l.prog) (base:=base) B C A29x G29x A31x G31x A38x G38x A46x
 have G47x:=CK8 (P:=l.prog) (base:=base) B C A29x G29x A39x G39x A40x G40x A41x G41x A42x G42x A43x G43x A44x G44x A45x G45x A46x G46x A47x
 have G48x:=CK9 (P:=l.prog) (base:=base) B C A27x G27x A28x G28x A47x G47x A48x
 exact G48x
end K08
local macro_rules | `(tactic| walk_at "kf")=>`(tactic| (refine' L3.Fg.of ?a ?l ?c ?k;(case a=>k_is);(case l=>k_is);(case c=>k_is);(case k=>k_is)))
local macro_rules | `(tactic| walk_at "kk")=>`(tactic| (refine' L3.Kc.of ?a;(case a=>k_is)))
open PySem PySem.W PyProof.Rows
set_option maxRecDepth 100000 in
set_option maxHeartbeats 0 in
theorem PySem.Challenge.cw_handedon_k08_books_at_their_bounds_holds : PySem.Challenge.rw_handedon_k08_books_at_their_bounds.Holds := by
 w_on;o_law;k_head;(case hw=>w_witness2)
 k_fill
 refine L3.CQ5 (l:=PySem.Challenge.rw_handedon_k08_books_at_their_bounds) (k:=26) (x:="_law_script") rfl rfl ⟨rfl,by decide,by decide,rfl⟩ (fun w h Y=>PySem.W.kIn_of Y) ?F
 case F =>
  intro w mg fa h KX G hmg
  refine' K08.BR0 KX G hmg ?a0x ?a1x ?a2x ?a3x ?a4x ?a5x ?a6x ?a7x ?a8x ?a9x ?a10x ?a11x ?a12x ?a13x ?a14x ?a15x ?a16x ?a17x ?a18x ?a19x ?a20x ?a21x ?a22x ?a23x ?a24x ?a25x ?a26x ?a27x ?a28x ?a29x ?a30x ?a31x ?a32x ?a33x ?a34x ?a35x ?a36x ?a37x ?a38x ?a39x ?a40x ?a41x ?a42x ?a43x ?a44x ?a45x ?a46x ?a47x ?a48x ?z0 ?z1 ?z2 ?z3 ?z4 ?z5 ?z6 ?z7 ?z8 ?z9 ?z10 ?z11 ?z12 ?z13 ?u0 ?u1 ?u2 ?u3 ?u4 ?u5 ?u6 ?u7 ?u8 ?u9 ?u10 ?u11 ?uc12 ?lc12 ?lc12_0 ?lc12_1 ?lc12_2 ?lc12_3 ?lc12_4 ?lc12_5 ?lc12_6 ?lc12_7 ?lc12_8 ?lc12_9 ?lc12_10 ?lc12_11 ?lc12_12 ?gc12 ?uc13 ?lc13 ?uc14 ?lc14
  (case a0x=>walk_at "kf")
  (case a1x=>walk_at "kf")
  (case a2x=>walk_at "kf")
  (case a3x=>walk_at "kf")
  (case a4x=>walk_at "kf")
  (case a5x=>walk_at "kf")
  (case a6x=>walk_at "kf")
  (case a7x=>walk_at "kf")
  (case a8x=>walk_at "kf")
  (case a9x=>walk_at "kf")
  (case a10x=>walk_at "kf")
  (case a11x=>walk_at "kf")
  (case a12x=>walk_at "kf")
  (case a13x=>walk_at "kf")
  (case a14x=>walk_at "kf")
  (case a15x=>walk_at "kf")
  (case a16x=>walk_at "kf")
  (case a17x=>walk_at "kf")
  (case a18x=>walk_at "kf")
  (case a19x=>walk_at "kf")
  (case a20x=>walk_at "kf")
  (case a21x=>walk_at "kf")
  (case a22x=>walk_at "kf")
  (case a23x=>walk_at "kf")
  (case a24x=>walk_at "kf")
  (case a25x=>walk_at "kf")
  (case a26x=>walk_at "kf")
  (case a27x=>walk_at "kf")
  (case a28x=>walk_at "kf")
  (case a29x=>walk_at "kf")
  (case a30x=>walk_at "kf")
  (case a31x=>walk_at "kf")
  (case a32x=>walk_at "kf")
  (case a33x=>walk_at "kf")
  (case a34x=>walk_at "kf")
  (case a35x=>walk_at "kf")
  (case a36x=>walk_at "kf")
  (case a37x=>walk_at "kf")
  (case a38x=>walk_at "kf")
  (case a39x=>walk_at "kf")
  (case a40x=>walk_at "kf")
  (case a41x=>walk_at "kf")
  (case a42x=>walk_at "kf")
  (case a43x=>walk_at "kf")
  (case a44x=>walk_at "kf")
  (case a45x=>walk_at "kf")
  (case a46x=>walk_at "kf")
  (case a47x=>walk_at "kf")
  (case a48x=>walk_at "kf")
  (case z0=>k_is)
  (case z1=>k_is)
  (case z2=>k_is)
  (case z3=>k_is)
  (case z4=>k_is)
  (case z5=>k_is)
  (case z6=>k_is)
  (case z7=>k_is)
  (case z8=>k_is)
  (case z9=>k_is)
  (case z10=>k_is)
  (case z11=>k_is)
  (case z12=>k_is)
  (case z13=>k_is)
  (case u0=>walk_at "kk")
  (case u1=>walk_at "kk")
  (case u2=>walk_at "kk")
  (case u3=>walk_at "kk")
  (case u4=>walk_at "kk")
  (case u5=>walk_at "kk")
  (case u6=>walk_at "kk")
  (case u7=>walk_at "kk")
  (case u8=>walk_at "kk")
  (case u9=>walk_at "kk")
  (case u10=>walk_at "kk")
  (case u11=>walk_at "kk")
  (case uc12=>k_is)
  (case lc12=>k_is)
  (case lc12_0=>k_is)
  (case lc12_1=>k_is)
  (case lc12_2=>k_is)
  (case lc12_3=>k_is)
  (case lc12_4=>k_is)
  (case lc12_5=>k_is)
  (case lc12_6=>k_is)
  (case lc12_7=>k_is)
  (case lc12_8=>k_is)
  (case lc12_9=>k_is)
  (case lc12_10=>k_is)
  (case lc12_11=>k_is)
  (case lc12_12=>k_is)
  (case gc12=>rfl)
  (case uc13=>k_is)
  (case lc13=>k_is)
  (case uc14=>k_is)
  (case lc14=>k_is)
