import PyProof.Rows.All
import Wide.All
import OpenK.AllK
import Wide.FinOn
import PyProof.EqAt
import PyProof.EqKinds
import PyProof.TupleCall
import PyProof.NeData
import PyProof.ReprRoads
import PyProof.MeetsStr2
import PyProof.DictCompW
import PySem.Challenge.RW_handedon_k54_codes_followed
def PySem.W.Fast.tw14336623590881714371 := 0
def PySem.W.Fast.tw11899267360954450092 := 0
def PySem.W.Fast.tw1959736458773416510 := 0
def PySem.W.Fast.tw4846648223848678164 := 0
def PySem.W.Fast.tw7206373064945301161 := 0
def PySem.W.Fast.tw9311969593914435522 := 0
def PySem.W.Fast.tw1316106681016637221 := 0
def PySem.W.Fast.tw17315642075480609173 := 0
def PySem.W.Fast.tw629361815952570587 := 0
def PySem.W.Fast.tw14419412891926324910 := 0
def PySem.W.Fast.tw18421746826701034381 := 0
def PySem.W.Fast.tw9354732838058798005 := 0
def PySem.W.Fast.tw14587808203713270234 := 0
def PySem.W.Fast.tw13144389415632495918 := 0
def PySem.W.Fast.tw17049531020245732979 := 0
def PySem.W.Fast.tw10569641827132026163 := 0
def PySem.W.Fast.tw8103267242194963790 := 0
def PySem.W.Fast.tw15886851722320050087 := 0
def PySem.W.Fast.tw8114795393925927368 := 0
def PySem.W.Fast.tw7461142865768515560 := 0
def PySem.W.Fast.tw59759623445938636 := 0
def PySem.W.Fast.tw16468877377573803496 := 0
def PySem.W.Fast.tw5450770784980549139 := 0
def PySem.W.Fast.tw18382795553580060316 := 0
def PySem.W.Fast.tw3684928291281795817 := 0
def PySem.W.Fast.tw1308204398765193275 := 0
def PySem.W.Fast.tw4009408028844597192 := 0
def PySem.W.Fast.tw695714846493118950 := 0
def PySem.W.Fast.tw16155600554423062591 := 0
def PySem.W.Fast.tw4533215728632968745 := 0
def PySem.W.Fast.tw805933071693911684 := 0
def PySem.W.Fast.tw786383148557286279 := 0
def PySem.W.Fast.tw5387200157828257328 := 0
def PySem.W.Fast.tw6019769348404439319 := 0
def PySem.W.Fast.tw2033011811974257452 := 0
def PySem.W.Fast.tw16355782724313855229 := 0
def PySem.W.Fast.tw13312198221622684620 := 0
def PySem.W.Fast.tw2156013676470442249 := 0
def PySem.W.Fast.tw8916615945317922799 := 0
def PySem.W.Fast.tw5591125632216909870 := 0
def PySem.W.Fast.tw7183276500155206077 := 0
def PySem.W.Fast.tw16190078690338171943 := 0
def PySem.W.Fast.tw58742460764066300 := 0
def PySem.W.Fast.tw13966520681229897801 := 0
def PySem.W.Fast.tw5360880965781613340 := 0
def PySem.W.Fast.tw9846314448129745562 := 0
def PySem.W.Fast.tw10112646925476179871 := 0
def PySem.W.Fast.tw6490849888779272801 := 0
def PySem.W.Fast.tw14082856915881592523 := 0
def PySem.W.Fast.tw3927016411308867365 := 0
def PySem.W.Fast.tw4117017500282629134 := 0
def PySem.W.Fast.tw7399941721495295856 := 0
def PySem.W.Fast.tw13998371123946888805 := 0
def PySem.W.Fast.tw5760272739725516156 := 0
def PySem.W.Fast.tw9071050035444020782 := 0
def PySem.W.Fast.tw831034084064945147 := 0
def PySem.W.Fast.tw17749397410897796960 := 0
def PySem.W.Fast.tw493730907191860286 := 0
def PySem.W.Fast.tw18160330745736238379 := 0
def PySem.W.Fast.tw1622368936250879655 := 0
def PySem.W.Fast.tw13818140622264152307 := 0
def PySem.W.Fast.tw8393542351637544389 := 0
def PySem.W.Fast.tw1141348525935327037 := 0
def PySem.W.Fast.tw6968529933919934191 := 0
def PySem.W.Fast.tw10038345463345381024 := 0
def PySem.W.Fast.tw18126581103409109782 := 0
def PySem.W.Fast.tw8302944785592088 := 0
def PySem.W.Fast.tw12695717461462936847 := 0
def PySem.W.Fast.tw558466511394884087 := 0
def PySem.W.Fast.tw7082205723752048190 := 0
def PySem.W.Fast.tw17824644687355807370 := 0
def PySem.W.Fast.tw5681891012600682847 := 0
def PySem.W.Fast.tw12250048387656782597 := 0
def PySem.W.Fast.tw17839798067992757249 := 0
def PySem.W.Fast.tw9263756286217489396 := 0
def PySem.W.Fast.tw10366559841770848208 := 0
def PySem.W.Fast.tw5912983058306977946 := 0
def PySem.W.Fast.tw16255551379825466746 := 0
def PySem.W.Fast.tw15398837181534658470 := 0
def PySem.W.Fast.tw8252887932509380814 := 0
def PySem.W.Fast.tw6578724140774747002 := 0
def PySem.W.Fast.tw4012052888064414816 := 0
def PySem.W.Fast.tw3129420475315340389 := 0
def PySem.W.Fast.tw15234460661967756796 := 0
def PySem.W.Fast.tw13357181249341915186 := 0
def PySem.W.Fast.tw15467175024004752818 := 0
def PySem.W.Fast.tw17178793054837097057 := 0
def PySem.W.Fast.tw7269953494728345557 := 0
def PySem.W.Fast.tw11307629223037441807 := 0
def PySem.W.Fast.tw11568316248164831375 := 0
def PySem.W.Fast.tw5656017608307551057 := 0
def PySem.W.Fast.tw3820974448695757665 := 0
def PySem.W.Fast.tw1301080634178202888 := 0
def PySem.W.Fast.tw9387295454969942745 := 0
def PySem.W.Fast.tw904935242024651998 := 0
def PySem.W.Fast.tw7013480091882611582 := 0
def PySem.W.Fast.tw17895147439323224995 := 0
def PySem.W.Fast.tw3918173565344382469 := 0
def PySem.W.Fast.tw9471184817407957306 := 0
def PySem.W.Fast.tw11285383708237790831 := 0
def PySem.W.Fast.tw15039174744208861358 := 0
def PySem.W.Fast.tw11340787957848782935 := 0
def PySem.W.Fast.tw16993148069395899482 := 0
def PySem.W.Fast.tw4481820812602059984 := 0
def PySem.W.Fast.tw7482258581492749063 := 0
def PySem.W.Fast.tw1452623912727050894 := 0
def PySem.W.Fast.tw17918315173271553687 := 0
def PySem.W.Fast.tw13861145238250775808 := 0
def PySem.W.Fast.tw14839559069027293478 := 0
def PySem.W.Fast.tw4715912735611050638 := 0
def PySem.W.Fast.tw6044584366048626325 := 0
open List renaming length_map->BP1,length_append->BP7,length_cons->BP8,mem_of_getElem?->BQ1,getElem?_eq_getElem->BQ2,getElem?_map->BQ3,mem_cons_of_mem->BQ4,mem_cons_self->BQ7,size_toArray->BR1,lookup->BR3,map_append->BR4,mem_append_right->BR5,replicate->BR6,map_cons->BR7,length_nil->BR8,not_mem_nil->BS1,getElem?_append_left->BS2,getElem?_append_right->BS6,range->BS8,append_assoc->BS9,length_take->BT3,any_cons->BT6,mem_cons->BU1,drop->BU6,append_nil->BV1,all_eq_true->BV2,getD->BV4,getElem?_take_of_lt->BV8,length->BW0,take->BW8,map_map->BW9,getElem?_drop->BX0,getElem?_replicate->BX5,getElem?_range->BX6,flatMap_append->BX7,take_length->BX8,getElem_mem->BX9,eq_nil_of_length_eq_zero->BY0,take_succ->BY3,length_replicate->BZ0,find?_cons->BZ1,length_range->BZ3,flatMap_cons->BZ4,length_drop->CA0,flatMap->CA2,getElem?_cons_succ->CA4,map_nil->CB8,length_filter_le->CB9,mem_append_left->CC1,length_reverse->CC5,filter_eq_self->CC6,filterMap_cons->CC7,filter_append->CD3,mem_of_find?_eq_some->CD7,reverse_cons->CE2,take_append_drop->CF0
open PySem renaming wpAny_bind->BP2,wpAny_pure->BP6,Shared->BP9,sizeLine->BQ6,sizeLine_eq->BR0,starEach->BR9,mem_of_lookup->BS4,compareOp->BT0,mainGlobals->BT1,wpAny_newObj_type->BT4,Program->BT5,bootBuiltins->BU2,Spec->BU3,wpAny_holding->BU9,wpAny_mono->BV0,wpAny_truthy_bool->BV5,assignEach->BV6,sysModules->BW5,Value->BX3,Around->BY4,wpAny_callSpecial?_slot->BY5,binaryOp->BY6,wpAny_passesOwn->BZ6,wpAny_field->BZ7,foldedSetIterable->BZ8,NameKind->BZ9,wpAny_specialOf->CB1,wpAny_Call_Name_kw->CB2,letOwnedTupleGo->CB3,Str->CB4,sliceBounds->CC0,Addr->CC2,wpAny_call_entry->CC8,wpAny_standAt->CD1,FuncData->CD4,backTo->CD9,Expr->CE1,wpAny_pyIter_tuple->CE5,getItem->CE6,wpAny_pyIter_enum->CE8,swapsWith->CE9
open PySem.W renaming Frag->BP3,keepIn->BV3,fnOf->BW1,nsIn->BW6,mg_none_of->BW7,codeIn->CA6
open PySem.Heap renaming get?_push_of_some->BP4,lt_size->BQ9,get?_push_size->BR2,SameBut->BX4,get?_update_other->CA8
open Nat renaming le_refl->BP5,zero_add->BS0,ne_of_lt->BS3,lt_of_lt_of_le->BS5,le_trans->BS7,add_assoc->BU7,add_comm->BV7,add_left_comm->BW2,zero_le->BW4,lt_irrefl->BZ5,le_add_right->CA1,eq_zero_or_pos->CA5,lt_or_ge->CD6
open Bool renaming and_eq_true->BQ0,false_ne_true->BQ5,or_eq_false_iff->BU0,not_eq_true'->BU8,false_eq_true->BY7,false_xor->CB7,not_true->CC3,eq_iff_iff->CF2
open PySem.Builtin.Range renaming rangeSize->BQ8,small->BY9
open PySem.Builtin.Tuple renaming tupleHashOf->BT2,tupleExact->BT9,tupleItemsOf->BY2
open PySem.Builtin.Slice renaming slicePlaces->BT7,sliceAdjust->BW3
open PySem.PyData renaming keyHash->BT8,eqv->BU5,canLayAll0->BX2,depthAll->BY8,canLay0->CA7,leavesShortAll->CA9,depth->CB0,showableAll->CC9,hasDictAll->CD5,weightAll->CE4
open PyProof.Rows renaming slot_tuple_getitem->BU4,callWith_type1->BV9,slot_tupleiter_next->CD8
open Int renaming emod_lt_of_pos->BX1,emod_nonneg->BZ2
open PySem.Builtin renaming divisionGoesByPylong->BY1
open Option renaming map_some->CA3
open PySem.Heap.IsSliceOf renaming new->CB5
open PySem.Builtin.Int renaming intBits->CB6
open Array renaming length_toList->CC4
open PySem.Builtin.Str renaming occurrences->CD0
open PySem.F renaming args_tuple_add_2->CD2,entry_tuple_add->CE0,slot_tuple_add->CE3
open PySem.Calls renaming callWith_builtin->CE7
open PySem.Builtin.SmallTypes renaming nextOf->CF1
set_option Elab.async false
set_option linter.all false
set_option maxRecDepth 100000
variable {us:List BX3}{u:BX3}{α:Type}{P:PySem.Program}{w:PySem.World}{h:PySem.Heap}{o:PySem.Obj}{t':Nat}{it:CC2}{x:CB4}{N:List CB4}{i:Nat}{j:Nat}{A:PySem.Around}{Q:BX3->PySem.Shared->Prop}{s':PySem.Shared}{s:PySem.Shared}{pos:PySem.Pos}{pins:List (CC2×PySem.Obj)}{e:CE1}{es:List CE1}{tg:CE1}{body:List PySem.Stmt}{K:BP3}{l:CE1}{p:List Int}{fp:List CC2}{iter:CE1}{C:Int->Int->Prop}{fd:PySem.FuncData}{ps:List CB4}{mg:CB4->Option BX3}{qual:CB4}{scope:PySem.Scope}{doc:BX3}{cdv:BX3}{oc:BX3}{an:Option CC2}{od:Option CC2}{osl:Array (Option BX3)}{sl:CC2}{lo:Option Int}{hi:Option Int}{t:CC2}{items:Array BX3}{its:List BX3}{loose:List CB4}{st:PySem.Stmt}{h':PySem.Heap}{prog:PySem.Program}{env:PySem.Env}{op:PySem.CmpOp}{ifs:List CE1}{is:List Nat}{R:Prop}{ys:List CB4}{neg:Bool}{elts:List CE1}{r:List Int}{ks:List Int}{q:List Int}{cs:List (CB4×CB4)}{caps:List CB4}{gens:List PySem.Comprehension}{ah:List Int}
namespace L2
open PySem PySem.Spec PyProof.Rows
abbrev Key:=Sum Int Str
def DI:Key->Value->Bool
 | .inl k,v=>Value.isInt k v
 | .inr x,v=>Value.isStrOf x v
def AL5 (w:World):Key->Int
 | .inl k=>hashInt k
 | .inr x=>hashStr w x
theorem E6:∀{k:Key} {v:Value},DI k v=true->(∃i t,k=Sum.inl i/\v=Value.int i t)\/(∃x t,k=Sum.inr x/\v=Value.str x t)
 | .inl i,v,h=>by
  obtain⟨t,e⟩:=Value.isInt_shape (k:=i) (v:=v) h
  exact .inl ⟨i,t,rfl,e⟩
 | .inr x,v,h=>by
  obtain⟨t,e⟩:=Value.isStrOf_shape (x:=x) (v:=v) h
  exact .inr ⟨x,t,rfl,e⟩
theorem WQ (i:Int)(t:Tok):DI (.inl i) (.int i t)=true:=by simp[DI,Value.isInt]
theorem WR (x:Str)(t:Tok):DI (.inr x) (.str x t)=true:=by simp[DI,Value.isStrOf]
theorem AZ6 (a b:Int):decide ((Sum.inl a:Key)=Sum.inl b)=(a==b):=by
 by_cases e:a=b
 ·subst e;simp
 ·have h:¬(Sum.inl a:Key)=Sum.inl b:=fun q=>e (Sum.inl.inj q)
  rw[decide_eq_false h]
  exact(beq_eq_false_iff_ne.mpr e).symm
theorem AZ7 (a b:Str):decide ((Sum.inr a:Key)=Sum.inr b)=decide (a=b):=by
 by_cases e:a=b
 ·simp
 ·have h:¬(Sum.inr a:Key)=Sum.inr b:=fun q=>e (Sum.inr.inj q)
  rw[decide_eq_false h,decide_eq_false e]
def D9 (prog:BT5)(w:World):PySem.KeyKind prog w Key where
 is:=DI
 hash:=AL5 w
 inj:=fun v a b ha hb=>by
  rcases E6 ha with⟨i,t,rfl,rfl⟩|⟨x,t,rfl,rfl⟩
  ·rcases E6 hb with⟨j,u,rfl,e⟩|⟨y,u,rfl,e⟩
   ·injection e with e1 _;rw[e1]
   ·exact nomatch e
  ·rcases E6 hb with⟨j,u,rfl,e⟩|⟨y,u,rfl,e⟩
   ·exact nomatch e
   ·injection e with e1 _;rw[e1]
 byValue:=fun k v h=>by
  rcases E6 h with⟨i,t,rfl,rfl⟩|⟨x,t,rfl,rfl⟩<;>rfl
 pyHash:=fun hv h=>by
  rcases E6 hv with⟨i,t,rfl,rfl⟩|⟨x,t,rfl,rfl⟩
  ·exact wpAny_pyHash_int h
  ·exact wpAny_pyHash_str h
 eqBool:=fun hu hv h=>by
  rcases E6 hu with⟨i,t,rfl,rfl⟩|⟨x,t,rfl,rfl⟩
  ·rcases E6 hv with⟨j,u,rfl,rfl⟩|⟨y,u,rfl,rfl⟩
   ·rw[AZ6] at h;exact wpAny_eqBool_int h
   ·exact SeqAt.EqAt.int_str i t y u _ _ _ _ h
  ·rcases E6 hv with⟨j,u,rfl,rfl⟩|⟨y,u,rfl,rfl⟩
   ·exact SeqAt.EqAt.str_int x t j u _ _ _ _ h
   ·rw[AZ7] at h;exact wpAny_eqBool_str h
 «strs»:=fun k x t v h=>by
  rcases E6 h with⟨i,u,rfl,e⟩|⟨y,u,rfl,e⟩
  ·exact nomatch e
  ·injection e with e1 _
   subst e1
   cases v<;>rfl
theorem OV (prog:BT5)(w:World)(i:Int)(t:Tok):(D9 prog w).is (.inl i) (.int i t)=true:=WQ i t
theorem N8 (prog:BT5)(w:World)(x:Str)(t:Tok):(D9 prog w).is (.inr x) (.str x t)=true:=WR x t
inductive V where
 | non|bl (b:Bool)|int (i:Int)|str (x:Str)|byt (b:Array UInt8)|flt (b:UInt64)|ref (a:Addr)|ty (n:String)
 deriving DecidableEq
def RelV:V->Value->Prop
 | .non,u=>u=Value.none
 | .bl b,u=>u=Value.bool b
 | .int i,u=>∃t,u=Value.int i t
 | .str x,u=>∃t,u=Value.str x t
 | .byt b,u=>∃t,u=Value.bytes b t
 | .flt b,u=>∃t,u=Value.float b t
 | .ref a,u=>u=Value.ref a
 | .ty n,u=>u=Value.type n
abbrev Vals:List V->List Value->Prop:=Paired RelV
theorem Vals.length {xs:List V}(r:Vals xs us):xs.length=us.length:=Paired.length r
theorem Vals.get:∀{xs:List V} {us:List Value} {i:Nat} {x:V},Vals xs us->xs[i]?=some x->∃u,us[i]?=some u/\RelV x u
 | _,_,_,_,.nil,e=>by simp at e
 | _,_,0,_,.cons r _,e=>by simp at e;subst e;exact⟨_,rfl,r⟩
 | _,_,i+1,x,.cons _ t,e=>by
  obtain⟨u,a,b⟩:=Vals.get (i:=i) (x:=x) t (by simpa using e)
  exact⟨u,by simpa using a,b⟩
theorem Vals.set {x:V}(r:RelV x u):∀{xs:List V} {us:List Value} (i:Nat),Vals xs us->Vals (xs.set i x) (us.set i u)
 | _,_,_,.nil=>.nil
 | _,_,0,.cons _ t=>.cons r t
 | _,_,i+1,.cons q t=>.cons q (Vals.set r i t)
theorem Vals.append:∀{xs ys:List V} {us a:List Value},Vals xs us->Vals ys a->Vals (xs++ys) (us++a)
 | _,_,_,_,.nil,s=>s
 | _,_,_,_,.cons r t,s=>.cons r (Vals.append t s)
theorem Vals.take:∀{xs:List V} {us:List Value} (n:Nat),Vals xs us->Vals (xs.take n) (us.take n)
 | _,_,0,_=>.nil
 | _,_,_+1,.nil=>.nil
 | _,_,n+1,.cons r t=>.cons r (Vals.take n t)
theorem Vals.drop:∀{xs:List V} {us:List Value} (n:Nat),Vals xs us->Vals (xs.drop n) (us.drop n)
 | _,_,0,r=>r
 | _,_,_+1,.nil=>.nil
 | _,_,n+1,.cons _ t=>Vals.drop n t
def RelO:Option V->Option Value->Prop
 | some v,some u=>RelV v u
 | none,none=>True
 | _,_=>False
def KV {κ:Type}:List (κ×V)->List (κ×Value)->Prop:=Paired fun(p:κ×V) (q:κ×Value)=>p.1=q.1/\RelV p.2 q.2
def kV:Key->V
 | .inl i=>.int i
 | .inr x=>.str x
inductive HO where
 | lst (xs:List V)
 | tup (xs:List V)
 | dK (kvs:List (Key×V))|dT (kvs:List (List Key×V))
 | set (S:Int->Bool) (n:Nat)
 | ins (C dx:Addr) (fs:List (Str×V))
 | own (x:Addr)
 | xd (fs:List (Str×V))
 | met (f x:Addr)
 | rng (lo hi:Int)
 | frz (o:Obj) (u:HO)
 | tbl (ps:Array Value)
 | ext (φ:BT5->World->Addr->Heap->Prop)
abbrev Hp:=Addr->Option HO
def upd (H:Hp)(a:Addr)(o:HO):Hp:=fun b=>if b=a then some o else H b
theorem D5 {H:Hp}{a:Addr}{o:HO}:upd H a o a=some o:=by unfold upd;rw[if_pos rfl]
theorem D7 {H:Hp}{a b:Addr}{o:HO}(h:b≠a):upd H a o b=H b:=by unfold upd;rw[if_neg h]
theorem BI5 {H:Hp}{a b:Addr}{o u:HO}(h:H a=some o)(h':H b=some u)(d:o≠u):a≠b:=by
 intro e;subst e;rw[h] at h';exact d (Option.some.inj h')
theorem K1 {H:Hp}{a b:Addr}{o:HO}(h:H a=some o)(h':H b=none):a≠b:=by
 intro e;subst e;rw[h] at h';cases h'
section
variable (P:BT5)(w:World)
def ObjOk (H:Hp)(h:Heap)(a:Addr):HO->Prop
 | .lst xs=>xs.length<=BQ6/\∃(its:List Value) (n:Nat),Vals xs its/\h.get? a=some {cls:=.type "list",data:=.seq its.toArray n}
 | .tup xs=>xs.length<=BQ6/\∃its:List Value,Vals xs its/\IsTup h a its.toArray
 | .dK kvs=>kvs.length<=BQ6/\(a==BW5)=false/\∃vs,KV kvs vs/\h.DictOf (D9 P w) a vs
 | .dT kvs=>kvs.length<=BQ6/\(a==BW5)=false/\∃xs:List (List Key×Addr×Value),
   Paired (fun(p:List Key×V) (q:List Key×Addr×Value)=>p.1=q.1/\H q.2.1=some (.tup (p.1.map kV))/\RelV p.2 q.2.2) kvs xs /\
   ∃o es ep,h.get? a=some o/\o.ExactDict/\o.data=.dict es ep/\es.toList=xs.map (entryOfKey (tupleKind (D9 P w)))/\(xs.map (·.1)).Nodup
 | .set S n=>h.SetOf (intKind P w) a S n
 | .ins C dx fs=>H dx=some (.own a)/\fs.length<=1000/\dx≠a/\h.get? a=some (PySem.W.instObj C dx) /\
   ∃mA,h.Ns1 dx mA/\(∀f,RelO (fs.lookup f) (mA f))/\PySem.Within mA (fs.map (·.1))
 | .own _=>∃o,h.get? a=some o
 | .xd fs=>∃mA,h.Ns1 a mA/\∀f,RelO (fs.lookup f) (mA f)
 | .rng lo hi=>∃t u v,h.get? a=some {cls:=.type "range",data:=.fields #[.int lo t,.int hi u,.int 1 v]}
 | .frz o u=>h.get? a=some o/\ObjOk H h a u
 | .tbl ps=>h.get? a=some {cls:=.none,data:=.fields ps}
 | .met f x=>h.get? a=some (PySem.W.methodObj (.ref f) (.ref x))
 | .ext φ=>φ P w a h/\(∃o,h.get? a=some o)/\∀h1 h2:Heap,φ P w a h1->(∀o,h1.get? a=some o->h2.get? a=some o)->φ P w a h2
def HOk (H:Hp)(h:Heap):Prop:=∀a o,H a=some o->ObjOk P w H h a o
end
section
variable {P:BT5}{w:World}{H H':Hp}{h h':Heap}{a:Addr}{o:HO}
theorem ObjOk.lt (x:ObjOk P w H h a o):a<h.objs.size:=by
 cases o with
 | lst c=>obtain⟨_,_,_,_,e⟩:=x;exact BQ9 e
 | tup c=>obtain⟨_,_,_,p⟩:=x;exact p.lt
 | dK b=>obtain⟨_,_,_,_,o,_,_,e,_⟩:=x;exact BQ9 e
 | dT b=>obtain⟨_,_,_,_,o,_,_,e,_⟩:=x;exact BQ9 e
 | set S n=>obtain⟨o,_,_,_,e,_⟩:=x;exact BQ9 e
 | ins C d fs=>obtain⟨_,_,_,e,_⟩:=x;exact BQ9 e
 | own y=>obtain⟨_,e⟩:=x;exact BQ9 e
 | xd fs=>obtain⟨_,⟨_,_,_,e,_⟩,_⟩:=x;exact BQ9 e
 | rng lo g=>obtain⟨_,_,_,e⟩:=x;exact BQ9 e
 | frz i u=>obtain⟨e,_⟩:=x;exact BQ9 e
 | tbl j=>exact BQ9 (show h.get? a=some _ from x)
 | met f y=>exact BQ9 (show h.get? a=some _ from x)
 | ext k=>obtain⟨_,⟨_,e⟩,_⟩:=x;exact BQ9 e
theorem Paired.mapP {e:Type}{F G:α->e->Prop}:∀{c:List α} {d:List e},Paired F c d->(∀a b,F a b->G a b)->Paired G c d
 | _,_,.nil,_=>.nil
 | _,_,.cons r t,f=>.cons (f _ _ r) (Paired.mapP t f)
theorem ObjOk.stay (x:ObjOk P w H h a o)(k:∀b u,(b=a\/H b=some (.own a))->h.get? b=some u->h'.get? b=some u)
  (ho:∀b,H b=some (.own a)->H' b=some (.own a)) (B:∀b xs,H b=some (.tup xs)->H' b=some (.tup xs)):ObjOk P w H' h' a o:=by
 induction o with
 | lst xs=>obtain⟨z,l,n,r,e⟩:=x;exact⟨z,l,n,r,k _ _ (.inl rfl) e⟩
 | tup xs=>obtain⟨z,l,r,g,e,c⟩:=x;exact⟨z,l,r,g,k _ _ (.inl rfl) e,c⟩
 | dK m=>obtain⟨z,y,D,r,g,i,j,e,c⟩:=x;exact⟨z,y,D,r,g,i,j,k _ _ (.inl rfl) e,c⟩
 | dT m =>
  obtain⟨z,y,xs,r,g,i,j,e,c⟩:=x
  exact⟨z,y,xs,Paired.mapP r fun p q z=>⟨z.1,B _ _ z.2.1,z.2.2⟩,g,i,j,k _ _ (.inl rfl) e,c⟩
 | set S n=>obtain⟨g,i,j,t,e,c⟩:=x;exact⟨g,i,j,t,k _ _ (.inl rfl) e,c⟩
 | ins C G fs =>
  obtain⟨d,z,ne,e,s,⟨A,i,j,E,c⟩,r⟩:=x
  exact⟨ho _ d,z,ne,k _ _ (.inl rfl) e,s,⟨A,i,j,k _ _ (.inr d) E,c⟩,r⟩
 | own y=>obtain⟨g,e⟩:=x;exact⟨g,k _ _ (.inl rfl) e⟩
 | xd fs=>obtain⟨s,⟨A,i,j,e,c⟩,r⟩:=x;exact⟨s,⟨A,i,j,k _ _ (.inl rfl) e,c⟩,r⟩
 | rng lo I=>obtain⟨t,u,v,e⟩:=x;exact⟨t,u,v,k _ _ (.inl rfl) e⟩
 | frz g u F=>obtain⟨e,q⟩:=x;exact⟨k _ _ (.inl rfl) e,F q⟩
 | tbl J =>
  have e:=x
  exact k a _ (.inl rfl) e
 | met f y =>
  have e:=x
  exact k a _ (.inl rfl) e
 | ext K=>obtain⟨p,⟨o,e⟩,st⟩:=x;exact⟨st _ _ p fun o q=>k _ _ (.inl rfl) q,⟨o,k _ _ (.inl rfl) e⟩,st⟩
theorem HOk.lt (x:HOk P w H h)(e:H a=some o):a<h.objs.size:=(x a o e).lt
theorem HOk.fresh (x:HOk P w H h)(e:h.objs.size<=a):H a=none:=by
 cases q:H a with
 | none=>rfl
 | some u=>exact absurd (BS5 (x.lt q) e) (BZ5 _)
theorem HOk.kept (x:HOk P w H h)(k:∀b u,h.get? b=some u->h'.get? b=some u):HOk P w H h':=fun a o e =>
 (x a o e).stay (fun b u _ q=>k b u q) (fun _ q=>q) fun _ _ q=>q
theorem HOk.laid (x:HOk P w H h)(k:∀b u,h.get? b=some u->h'.get? b=some u)(g:h.objs.size<=a)(new:ObjOk P w (upd H a o) h' a o):HOk P w (upd H a o) h':=fun b u e=>by
 have d:=x.fresh g
 by_cases f:b=a
 ·subst f;rw[D5] at e;cases e;exact new
 ·rw[D7 f] at e
  exact(x b u e).stay (fun c v _ q=>k c v q) (fun c q=>by rw[D7 (K1 q d)];exact q) fun c i q=>by rw[D7 (K1 q d)];exact q
end
def Rd (H:Hp)(a:Addr)(u:HO):Prop:=H a=some u\/∃o,H a=some (.frz o u)
theorem Rd.ok {H:Hp}{a:Addr}{u:HO}(r:Rd H a u)(x:HOk P w H h):ObjOk P w H h a u:=by
 rcases r with r|⟨o,r⟩
 ·exact x a u r
 ·obtain⟨_,q⟩:=x a _ r
  exact q
def Mut:Option HO->Prop
 | some (.lst _)=>True
 | some (.dK _)=>True
 | some (.dT _)=>True
 | some (.set _ _)=>True
 | some (.ins _ _ _)=>True
 | some (.ext _)=>True
 | _=>False
section
variable {P:BT5}{w:World}{H:Hp}{h h':Heap}{x e:Addr}{o':HO}
theorem HOk.write (ok:HOk P w H h)(g:Mut (H x))(m:e=x\/H e=some (.own x))(k:∀b u,b≠e->h.get? b=some u->h'.get? b=some u)(l:∃u,h'.get? e=some u)
  (new:ObjOk P w (upd H x o') h' x o'):HOk P w (upd H x o') h':=fun b u q=>by
 have d:∀c y,H c=some (.own y)->c≠x:=fun c y r z=>by subst z;rw[r] at g;exact g
 have f:∀c i,H c=some (.tup i)->c≠x:=fun c i r z=>by subst z;rw[r] at g;exact g
 by_cases j:b=x
 ·subst j;rw[D5] at q;cases q;exact new
 ·rw[D7 j] at q
  by_cases a:b=e
  ·have n:H b=some (.own x):=by
    rcases m with z|z
    ·exact absurd (a.trans z) j
    ·rw[a];exact z
   rw[q] at n;cases n
   obtain⟨v,o⟩:=l
   exact⟨v,by rw[a];exact o⟩
  ·refine(ok b u q).stay (fun c v hc r=>k c v ?_ r) (fun c r=>by rw[D7 (d c b r)];exact r) fun c i r=>by rw[D7 (f c i r)];exact r
   rcases hc with rfl|hc
   ·exact a
   ·rintro rfl
    rcases m with z|z
    ·exact d c b hc z
    ·rw[hc] at z;cases z;exact j rfl
end
structure Un (fs ex:List Addr)(H H':Hp)(h h':Heap):Prop where
 keep:∀b o,h.get? b=some o->H b=none->b∉fs->b∉ex->h'.get? b=some o
 slot:∀b o,h.get? b=some o->H b=none->b∈fs->b∉ex->∃sl,h'.get? b=some {o with slots:=sl}
 free:∀b o,h.get? b=some o->H b=none->b∉ex->H' b=none
 there:∀b o,h.get? b=some o->b∉ex->∃o',h'.get? b=some o'
 tups:∀b xs,H b=some (.tup xs)->H' b=some (.tup xs)
 frzs:∀b o u,H b=some (.frz o u)->H' b=some (.frz o u)
 tbls:∀b ps,H b=some (.tbl ps)->∃more,H' b=some (.tbl (ps++more))
section
variable {fs fs' ex ex':List Addr}{H H1 H2:Hp}{h h1 h2 h':Heap}{a x e:Addr}{o:HO}
theorem Un.any (u:Un fs ex H H1 h h1){b:Addr}{a:Obj}(q:h.get? b=some a)(n:H b=none)(c:b∉ex):∃sl,h1.get? b=some {a with slots:=sl}:=by
 by_cases d:b∈fs
 ·exact u.slot b a q n d c
 ·exact⟨a.slots,u.keep b a q n d c⟩
theorem Un.kept (k:∀b u,h.get? b=some u->h'.get? b=some u):Un fs ex H H h h' :=
 ⟨fun b a q _ _ _=>k b a q,fun b a q _ _ _=>⟨a.slots,k b a q⟩,fun _ _ _ n _=>n,fun b a q _=>⟨a,k b a q⟩,fun _ _ q=>q,fun _ _ _ q=>q,fun _ c q=>⟨#[],by rw[q];simp⟩⟩
theorem Un.refl:Un fs ex H H h h:=Un.kept fun _ _ q=>q
theorem Un.laid (k:∀b u,h.get? b=some u->h'.get? b=some u)(d:h.objs.size<=a)(c:H a=none):Un fs ex H (upd H a o) h h' where
 keep:=fun b u q _ _ _=>k b u q
 slot:=fun b u q _ _ _=>⟨u.slots,k b u q⟩
 free:=fun b u q n _=>by rw[D7 (BS3 (BS5 (BQ9 q) d))];exact n
 there:=fun b u q _=>⟨u,k b u q⟩
 tups:=fun b e q=>by rw[D7 (K1 q c)];exact q
 frzs:=fun b u e q=>by rw[D7 (K1 q c)];exact q
 tbls:=fun b f q=>⟨#[],by rw[D7 (K1 q c),q];simp⟩
theorem Un.write (c:Mut (H x))(j:e=x\/H e=some (.own x))(k:∀b u,b≠e->h.get? b=some u->h'.get? b=some u)(d:∃u,h'.get? e=some u):Un fs ex H (upd H x o) h h':=by
 have g:∀b,H b=none->b≠x:=fun b n z=>by subst z;rw[n] at c;exact c
 have i:∀b,H b=none->b≠e:=fun b n z=>by
  subst z
  rcases j with r|r
  ·exact g b n r
  ·rw[n] at r;cases r
 have f:∀b u,H b=some u->¬Mut (some u)->b≠x:=fun b u q nm z=>by subst z;rw[q] at c;exact nm c
 refine⟨fun b u q n _ _=>k b u (i b n) q,fun b u q n _ _=>⟨u.slots,k b u (i b n) q⟩,fun b u q n _=>by rw[D7 (g b n)];exact n,fun b u q _=>?_,
  fun b l q=>by rw[D7 (f b _ q fun z=>z)];exact q,fun b u l q=>by rw[D7 (f b _ q fun z=>z)];exact q,fun b m q=>⟨#[],by rw[D7 (f b _ q fun z=>z),q];simp⟩⟩
 by_cases a:b=e
 ·subst a;exact d
 ·exact⟨u,k b u a q⟩
end
def trk (h:Heap)(H:Hp):List Addr:=(BS8 h.objs.size).filter fun a=>(H a).isSome
def LK (h:Heap)(H:Hp):Heap:=PySem.W.hideAll h (trk h H)
theorem WO (h:Heap)(H:Hp):(LK h H).objs.size=h.objs.size:=PySem.W.hideAll_size _ _
theorem AA3 {H:Hp}{b:Addr}(e:h.get? b=some o)(n:H b=none):(LK h H).get? b=some o :=
 PySem.W.hideAll_get _ e fun a=>by
  have q:=(List.mem_filter.mp a).2
  rw[n] at q;simp at q
theorem AM9 {H:Hp}{b:Addr}(e:(LK h H).get? b=some o):h.get? b=some o/\H b=none:=by
 have a:=PySem.W.of_hideAll (trk h H) e
 refine⟨a,?_⟩
 cases q:H b with
 | none=>rfl
 | some x =>
  have c:b∈trk h H:=List.mem_filter.mpr ⟨List.mem_range.mpr (BQ9 a),by simp[q]⟩
  have z:(LK h H).get? b=none:=PySem.W.hideAll_none (trk h H) c
  rw[z] at e;cases e
structure Mod (K:BP3)(mg:Str->Option Value)(base:Heap):Prop where
 kin:K.In base
 glob:base.Ns BT1 mg
 blt:∃mb,base.Ns builtinsNs mb/\∀x:Str,x≠"__name__"->mb x=BU2 x
 nolimit:base.NoLimit
structure Cx where
 prog:BT5
 w:World
 K:BP3
 mg:Str->Option Value
 base:Heap
 A:BY4
 N:List Str
 s₀:BP9
 H₀:Hp
 env:Env
 outer:List Env
 stack:List Env
 ex:List Addr
 fn:Str->Bool
 calm:Bool
 pn:List (Addr×Obj)
 xe:Value->BP9->Prop
def frs (l:List Env):List Addr:=l.filterMap (·.frame)
abbrev Cx.fs (X:Cx):List Addr:=frs X.outer
def Vis (sc:Scope)(x:Str):Prop:=sc.names.lookup x=some .local\/sc.names.lookup x=some .cell\/sc.names.lookup x=some .free
def Loc (sc:Scope)(x:Str):Prop:=sc.names.lookup x=some .local\/sc.names.lookup x=some .cell
def BN0 (env:Env)(h:Heap)(m:Str->Option Value)(x:Str)(u:Value):Prop :=
 (env.kindOf x=some .local/\m x=some u)\/((env.kindOf x=some .cell\/env.kindOf x=some .free)/\∃c,env.cells.lookup x=some c/\h.IsCell c (some u))
structure Cx.Ok (X:Cx):Prop where
 mod:Mod X.K X.mg X.base
 kind:X.env.scope.kind=.function
 glob:X.env.globals=BT1
 blt:X.env.builtins=builtinsNs
 above:X.s₀.heap.objs.size<=X.env.locals
 inj:∀x y c,X.env.cells.lookup x=some c->X.env.cells.lookup y=some c->x=y
 has:∀x,(X.env.kindOf x=some .cell\/X.env.kindOf x=some .free)->∃c,X.env.cells.lookup x=some c
 cab:∀x c,X.fn x=true->X.env.cells.lookup x=some c->X.s₀.heap.objs.size<=c
 hd:X.calm=true->X.A.handled=none
 frames:X.A.frames=some X.stack
 stk:X.stack=X.outer\/(X.stack=X.env::X.outer/\X.env.frame=some X.env.locals)
 exf:∀b∈X.ex,b≠X.env.locals/\∀x c,X.env.cells.lookup x=some c->c≠b
 bs:∀b o,X.base.get? b=some o->X.s₀.heap.get? b=some o/\X.H₀ b=none
 bsz:X.base.objs.size<=X.s₀.heap.objs.size
 noex:∀b o,X.base.get? b=some o->b∉X.ex
 exfs:∀b∈X.ex,b∉X.fs
 funs:X.s₀.heap.FunFrames X.base X.outer
 frf:∀b∈X.fs,X.H₀ b=none
structure Inv (X:Cx)(pins:List (Addr×Obj))(σ:List (Option V))(H:Hp)(s:BP9):Prop where
 ok:X.Ok
 os:s.os=X.s₀.os
 bare:AllBare s.gens
 base:Un X.fs X.ex X.H₀ H X.s₀.heap s.heap
 loc:∃m,s.heap.Ns X.env.locals m/\∀(i:Nat) (x:Str) (v:V),X.N[i]?=some x->σ[i]?=some (some v)->Vis X.env.scope x->∃u,RelV v u/\BN0 X.env s.heap m x u
 cell:∀x c,X.env.cells.lookup x=some c->∃v,s.heap.IsCell c v
 free:H X.env.locals=none
 freeC:∀x c,X.env.cells.lookup x=some c->H c=none
 pin:∀p∈X.pn++pins,s.heap.get? p.1=some p.2/\H p.1=none/\p.1≠X.env.locals/\p.1∉X.fs/\∀v,p.2.data≠.cell v
 hok:HOk X.prog X.w H s.heap
 len:σ.length=X.N.length
section
variable {X:Cx}{pins:List (Addr×Obj)}{σ:List (Option V)}{H H':Hp}{s:BP9}{h':Heap}
theorem Cx.Ok.nofr (ok:X.Ok){b:Addr}(e:X.base.get? b=some o):b∉X.fs:=fun a=>by
 have:=(ok.funs.mem a).1
 rw[e] at this;cases this
theorem Inv.bs (I:Inv X pins σ H s):∀b o,X.base.get? b=some o->s.heap.get? b=some o/\H b=none:=fun b o e =>
 ⟨I.base.keep b o (I.ok.bs b o e).1 (I.ok.bs b o e).2 (I.ok.nofr e) (I.ok.noex b o e),I.base.free b o (I.ok.bs b o e).1 (I.ok.bs b o e).2 (I.ok.noex b o e)⟩
theorem Inv.bk (I:Inv X pins σ H s):∀b o,X.base.get? b=some o->s.heap.get? b=some o:=fun b o e=>(I.bs b o e).1
theorem Inv.mod (I:Inv X pins σ H s):Mod X.K X.mg X.base:=I.ok.mod
theorem Inv.kIn (I:Inv X pins σ H s):X.K.In s.heap:=I.ok.mod.kin.keeps I.bk
theorem Inv.lt (I:Inv X pins σ H s):X.env.locals<s.heap.objs.size:=let ⟨_,hn,_⟩:=I.loc;hn.lt
theorem Inv.sz (I:Inv X pins σ H s):X.s₀.heap.objs.size<=s.heap.objs.size:=BS7 I.ok.above (Nat.le_of_lt I.lt)
theorem Inv.nofs (I:Inv X pins σ H s){a:Addr}(h:s.heap.objs.size<=a):a∉X.fs:=fun b=>by
 obtain⟨_,o,c,_⟩:=I.ok.funs.mem b
 exact absurd (BS5 (BQ9 c) (BS7 I.sz h)) (BZ5 _)
theorem Inv.cne (I:Inv X pins σ H s):∀x c,X.env.cells.lookup x=some c->c≠X.env.locals:=fun x c e z=>by
 obtain⟨v,o,d,f⟩:=I.cell x c e
 obtain⟨m,⟨g,h,i,a,b,_⟩,_⟩:=I.loc
 rw[z,a] at d;cases d;rw[b] at f;cases f
theorem Inv.funs (I:Inv X pins σ H s):s.heap.FunFrames X.base X.outer:=by
 have all:∀(l:List Env),(∀b∈frs l,b∈X.fs)->X.s₀.heap.FunFrames X.base l->s.heap.FunFrames X.base l:=by
  intro l
  induction l with
  | nil=>intro _ _;trivial
  | cons g r h =>
   intro f i
   obtain⟨j,⟨L,o,a,k,m,n⟩,p⟩:=i
   have c:=f L (by unfold frs;rw[CC7,a];exact BQ7)
   obtain⟨q,e⟩:=I.base.slot L o m (I.ok.frf L c) c fun z=>I.ok.exfs L z c
   exact⟨j,⟨L,_,a,k,e,n⟩,h (fun b d=>f b (by unfold frs;rw[CC7,a];exact BQ4 _ d)) p⟩
 exact all X.outer (fun _ d=>d) I.ok.funs
theorem Inv.stack (I:Inv X pins σ H s):s.heap.FunFrames X.base X.stack:=by
 rcases I.ok.stk with e|⟨e,a⟩
 ·rw[e];exact I.funs
 ·rw[e]
  obtain⟨m,b,_⟩:=I.loc
  refine .cons (by rw[I.ok.kind];decide) a b ?_ I.funs
  exact Heap.get?_none_of_le (BS7 I.ok.bsz I.ok.above)
theorem Inv.stkSub (I:Inv X pins σ H s):∀b∈frs X.stack,b∈X.env.locals::X.fs:=fun b a=>by
 rcases I.ok.stk with e|⟨e,c⟩
 ·rw[e] at a;exact BQ4 _ a
 ·rw[e] at a
  unfold frs at a
  rw[CC7,c] at a
  exact a
theorem Inv.stkFree (I:Inv X pins σ H s):∀b∈frs X.stack,H b=none:=fun b hb=>by
 rcases BU1.mp (I.stkSub b hb) with e|hb
 ·rw[e];exact I.free
 ·obtain⟨_,o,a,_⟩:=I.ok.funs.mem hb
  exact I.base.free b o a (I.ok.frf b hb) fun z=>I.ok.exfs b z hb
theorem Inv.step {g':Array GenState}{t':Nat}{d':Drawn}{ch:List Addr}(I:Inv X pins σ H s)
  (f:∀b∈ch,(b∈X.ex\/X.s₀.heap.objs.size<=b)/\b≠X.env.locals/\(∀x c,X.env.cells.lookup x=some c->c≠b)/\∀p∈X.pn++pins,p.1≠b)
  (keep:∀b o,b≠X.env.locals->b∉X.fs->b∉ch->s.heap.get? b=some o->H b=none->h'.get? b=some o)
  (slot:∀b o,b≠X.env.locals->b∈X.fs->b∉ch->s.heap.get? b=some o->H b=none->∃sl,h'.get? b=some {o with slots:=sl}) (free:∀b o,b∉ch->s.heap.get? b=some o->H b=none->H' b=none)
  (there:∀b o,b∉ch->s.heap.get? b=some o->∃o',h'.get? b=some o')
  (tups:∀b xs,H b=some (.tup xs)->H' b=some (.tup xs)) (frzs:∀b o u,H b=some (.frz o u)->H' b=some (.frz o u)) (tbls:∀b ps,H b=some (.tbl ps)->∃more,H' b=some (.tbl (ps++more)))
  (ns:∀m,s.heap.Ns X.env.locals m->h'.Ns X.env.locals m) (hok:HOk X.prog X.w H' h') (K:AllBare g') :
  Inv X pins σ H' {s with heap:=h',gens:=g',drawn:=d',toks:=t'}:=by
 have B:∀b o,X.s₀.heap.get? b=some o->b≠X.env.locals:=fun b o e=>BS3 (BS5 (BQ9 e) I.ok.above)
 have j:∀b o,X.s₀.heap.get? b=some o->b∉X.ex->b∉ch:=fun b o e a y=>by
  rcases(f b y).1 with z|z
  ·exact a z
  ·exact absurd (BS5 (BQ9 e) z) (BZ5 _)
 have g:∀x c,X.env.cells.lookup x=some c->∀v,s.heap.IsCell c v->h'.IsCell c v:=fun x c e v ⟨o,A,D⟩=>by
  have h:=fun z=>(f c z).2.2.1 x c e rfl
  by_cases F:c∈X.fs
  ·obtain⟨sl,q⟩:=slot c o (I.cne x c e) F h A (I.freeC x c e)
   exact⟨_,q,D⟩
  ·exact⟨o,keep c o (I.cne x c e) F h A (I.freeC x c e),D⟩
 refine⟨I.ok,I.os,K,⟨fun b o e n y a=>?_,fun b o e n y a=>?_,fun b o e n a=>?_,fun b o e a=>?_,fun b xs e=>tups b xs (I.base.tups b xs e),fun b o xs e=>frzs b o xs (I.base.frzs b o xs e),fun b ps e=>?_⟩,?_,fun x c e=>?_,?_,fun x c e=>?_,fun p G=>?_,hok,I.len⟩
 ·exact keep b o (B b o e) y (j b o e a) (I.base.keep b o e n y a) (I.base.free b o e n a)
 ·obtain⟨sl,t⟩:=I.base.slot b o e n y a
  obtain⟨E,C⟩:=slot b _ (B b o e) y (j b o e a) t (I.base.free b o e n a)
  exact⟨E,C⟩
 ·obtain⟨o',t⟩:=I.base.there b o e a
  exact free b o' (j b o e a) t (I.base.free b o e n a)
 ·obtain⟨o',t⟩:=I.base.there b o e a
  exact there b o' (j b o e a) t
 ·obtain⟨m1,t⟩:=I.base.tbls b ps e
  obtain⟨m2,C⟩:=tbls b _ t
  exact⟨m1++m2,by rw[C,Array.append_assoc]⟩
 ·obtain⟨m,L,M⟩:=I.loc
  refine⟨m,ns m L,fun i x v t C N=>?_⟩
  obtain⟨u,r,l⟩:=M i x v t C N
  refine⟨u,r,?_⟩
  rcases l with l|⟨k,c,e,z⟩
  ·exact .inl l
  ·exact .inr ⟨k,c,e,g x c e _ z⟩
 ·obtain⟨v,z⟩:=I.cell x c e
  exact⟨v,g x c e v z⟩
 ·obtain⟨m,⟨o,_,_,A,_⟩,_⟩:=I.loc
  exact free _ o (fun z=>(f _ z).2.1 rfl) A I.free
 ·obtain⟨v,o,A,D⟩:=I.cell x c e
  exact free c o (fun z=>(f c z).2.2.1 x c e rfl) A (I.freeC x c e)
 ·obtain⟨e,n,ne,J,d⟩:=I.pin p G
  have h:=fun z=>(f p.1 z).2.2.2 p G rfl
  exact⟨keep p.1 p.2 ne J h e n,free p.1 p.2 h e n,ne,J,d⟩
theorem Inv.un {t':Nat}(I:Inv X pins σ H s)(u:Un X.fs [] H H' s.heap h')(hok:HOk X.prog X.w H' h'):Inv X pins σ H' {s with heap:=h',toks:=t'}:=by
 obtain⟨m,⟨o,k,l,g,r⟩,_⟩:=id I.loc
 obtain⟨p,h⟩:=u.any g I.free (by simp)
 exact I.step (g':=s.gens) (d':=s.drawn) (ch:=[]) (fun _ z=>nomatch z) (fun b o _ c _ e n=>u.keep b o e n c (by simp)) (fun b o _ c _ e n=>u.slot b o e n c (by simp)) (fun b o _ e n=>u.free b o e n (by simp)) (fun b o _ e=>u.there b o e (by simp)) u.tups u.frzs u.tbls (fun q i=>by
  obtain⟨t,d,f,a,j⟩:=i
  rw[g] at a;cases a
  exact⟨_,d,f,h,j⟩) hok I.bare
theorem Inv.call {g':Array GenState}{t':Nat}{d':Drawn}{ch:List Addr}(I:Inv X pins σ H s)(u:Un (frs X.stack) ch H H' s.heap h')(hok:HOk X.prog X.w H' h')(k:AllBare g')
  (d:∀b∈ch,(b∈X.ex\/X.s₀.heap.objs.size<=b)/\b≠X.env.locals/\(∀x c,X.env.cells.lookup x=some c->c≠b)/\∀p∈X.pn++pins,p.1≠b) :
  Inv X pins σ H' {s with heap:=h',gens:=g',drawn:=d',toks:=t'}:=by
 obtain⟨m,⟨o,v,y,j,r⟩,_⟩:=id I.loc
 obtain⟨A,g⟩:=u.any j I.free fun z=>(d _ z).2.1 rfl
 exact I.step (ch:=ch) d (fun b o g l a e n=>u.keep b o e n (fun z=>(BU1.mp (I.stkSub b z)).elim g l) a) (fun b o _ _ a e n=>u.any e n a) (fun b o a e n=>u.free b o e n a) (fun b o a e=>u.there b o e a) u.tups u.frzs u.tbls (fun B q=>by
  obtain⟨C,h,i,f,t⟩:=q
  rw[j] at f;cases f
  exact⟨_,h,i,g,t⟩) hok k
theorem Inv.turned {t':Nat}(I:Inv X pins σ H s)(k:∀b o,b≠it->s.heap.get? b=some o->h'.get? b=some o)(g:H it=none)(f:it≠X.env.locals)
  (h1:it∈X.ex\/X.s₀.heap.objs.size<=it) (h2:∀x c,X.env.cells.lookup x=some c->c≠it) (h:∀p∈X.pn++pins,p.1≠it):Inv X pins σ H {s with heap:=h',toks:=t'}:=by
 have d:∀b u,H b=some u->b≠it:=fun b u e z=>by rw[z,g] at e;cases e
 refine I.step (g':=s.gens) (d':=s.drawn) (ch:=[it]) (fun b i=>?_) (fun b o _ _ a e _=>k b o (fun z=>a (by simp[z])) e) (fun b o _ _ a e _=>⟨o.slots,k b o (fun z=>a (by simp[z])) e⟩) (fun _ _ _ _ n=>n)
  (fun b o a e=>⟨o,k b o (fun z=>a (by simp[z])) e⟩) (fun _ _ e=>e) (fun _ _ _ e=>e) (fun b y e=>⟨#[],by rw[e];simp⟩) (fun m j=>?_) (fun b u e=>?_) I.bare
 ·have e:b=it:=by simpa using i
  subst e
  exact⟨h1,f,h2,h⟩
 ·obtain⟨o,l,t,w,r⟩:=j
  exact⟨o,l,t,k _ o (Ne.symm f) w,r⟩
 ·refine(I.hok b u e).stay (fun c v a q=>k c v ?_ q) (fun _ q=>q) fun _ _ q=>q
  rcases a with z|z
  ·rw[z];exact d b u e
  ·exact d c _ z
theorem Inv.tok (I:Inv X pins σ H s)(t:Nat):Inv X pins σ H {s with toks:=t}:=I.un (h':=s.heap) (t':=t) Un.refl I.hok
theorem Inv.kept {t':Nat}(I:Inv X pins σ H s)(k:∀b u,s.heap.get? b=some u->h'.get? b=some u):Inv X pins σ H {s with heap:=h',toks:=t'}:=I.un (Un.kept k) (I.hok.kept k)
theorem Inv.laid {a:Addr}{o:HO}{t':Nat}(I:Inv X pins σ H s)(k:∀b u,s.heap.get? b=some u->h'.get? b=some u)(c:s.heap.objs.size<=a)(new:ObjOk X.prog X.w (upd H a o) h' a o) :
  Inv X pins σ (upd H a o) {s with heap:=h',toks:=t'}:=I.un (Un.laid k c (I.hok.fresh c)) (I.hok.laid k c new)
theorem Inv.write {x e:Addr}{o:HO}{t':Nat}(I:Inv X pins σ H s)(c:Mut (H x))(d:e=x\/H e=some (.own x))(k:∀b u,b≠e->s.heap.get? b=some u->h'.get? b=some u)(a:∃u,h'.get? e=some u)
  (new:ObjOk X.prog X.w (upd H x o) h' x o):Inv X pins σ (upd H x o) {s with heap:=h',toks:=t'}:=I.un (Un.write c d k a) (I.hok.write c d k a new)
theorem Inv.pins_of {a:List (Addr×Obj)}(I:Inv X pins σ H s)(h:∀p∈a,s.heap.get? p.1=some p.2/\H p.1=none/\p.1≠X.env.locals/\p.1∉X.fs/\∀v,p.2.data≠.cell v):Inv X a σ H s :=
 ⟨I.ok,I.os,I.bare,I.base,I.loc,I.cell,I.free,I.freeC,fun p b=>(List.mem_append.mp b).elim (fun z=>I.pin p (CC1 _ z)) (h p),I.hok,I.len⟩
theorem OX (c:N.Nodup)(a:N[i]?=some x)(b:N[j]?=some x):i=j:=by
 obtain⟨f,d⟩:=List.getElem?_eq_some_iff.mp a
 obtain⟨g,e⟩:=List.getElem?_eq_some_iff.mp b
 exact(List.getElem_inj c).mp (d.trans e.symm)
theorem YG {M:Model}{E:Value->BP9->Prop}{v:V}{Q:Unit->BP9->Prop}(I:Inv X pins σ H s)(hN:X.N.Nodup)(hi:X.N[i]?=some x)(t:Loc X.env.scope x)(r:RelV v u)
  (h:∀s',Inv X pins (σ.set i (some v)) H s'->(∃a,BX4 a s.heap s'.heap/\(a=X.env.locals\/X.env.cells.lookup x=some a))->Q () s') (hf:X.fn x=true\/X.env.scope.names.lookup x=some .local:=by first|exact .inl rfl|exact .inr rfl|assumption):wpAny M A (storeName X.env x u) Q E s:=by
 obtain⟨m,U,hl⟩:=id I.loc
 have K:(X.env.scope.kind==.class || (X.env.scope.kind==.module && X.env.locals != X.env.globals))=false:=by rw[I.ok.kind];rfl
 have D:i<σ.length:=by rw[I.len];exact(List.getElem?_eq_some_iff.mp hi).1
 have cne:=I.cne
 have g:∀{a:Addr} {h':Heap},(∃o,s.heap.get? a=some o/\H a=none)->BX4 a s.heap h'->HOk X.prog X.w H h':=fun{a h'} ha f b ob e=>by
  obtain⟨_,_,B⟩:=ha
  refine(I.hok b ob e).stay (fun c S hc q=>(f.2 c ?_).trans q) (fun _ q=>q) fun _ _ q=>q
  rintro rfl
  rcases hc with rfl|hc
  ·rw[B] at e;cases e
  ·rw[B] at hc;cases hc
 rcases t with hk|hk
 ·refine wpAny_storeName_local hk U (fun h' W f=>?_) K
  obtain⟨oL,_,_,Y,_⟩:=id U
  refine h _ ⟨I.ok,I.os,I.bare,⟨fun b o e n F t=>?_,fun b o e n F t=>?_,I.base.free,fun b o e t=>?_,I.base.tups,I.base.frzs,I.base.tbls⟩,⟨_,W,fun j y Z l C e3=>?_⟩,fun y c e=>?_,I.free,I.freeC,fun p hp=>?_,g ⟨oL,Y,I.free⟩ f,by simpa using I.len⟩ ⟨_,f,.inl rfl⟩
  ·exact(f.2 b (BS3 (BS5 (BQ9 e) I.ok.above))).trans (I.base.keep b o e n F t)
  ·obtain⟨sl,l⟩:=I.base.slot b o e n F t
   exact⟨sl,(f.2 b (BS3 (BS5 (BQ9 e) I.ok.above))).trans l⟩
  ·obtain⟨o',l⟩:=I.base.there b o e t
   exact⟨o',(f.2 b (BS3 (BS5 (BQ9 e) I.ok.above))).trans l⟩
  ·by_cases G:j=i
   ·subst G
    rw[hi] at l;cases l
    rw[List.getElem?_set_self D] at C
    cases C
    exact⟨u,r,.inl ⟨hk,by simp⟩⟩
   ·rw[List.getElem?_set_ne (Ne.symm G)] at C
    obtain⟨u',r',q⟩:=hl j y Z l C e3
    refine⟨u',r',?_⟩
    rcases q with⟨k,e⟩|⟨k,c,e,z⟩
    ·refine .inl ⟨k,?_⟩
     have:y≠x:=fun e=>G (OX hN l (e ▸ hi))
     simp[this,e]
    ·exact .inr ⟨k,c,e,z.sameBut f (cne y c e)⟩
  ·obtain⟨S,z⟩:=I.cell y c e
   exact⟨S,z.sameBut f (cne y c e)⟩
  ·obtain⟨e,n,ne,nf,d⟩:=I.pin p hp
   exact⟨(f.2 p.1 ne).trans e,n,ne,nf,d⟩
 ·have J:X.fn x=true:=by
   rcases hf with z|z
   ·exact z
   ·rw[z] at hk;cases hk
  obtain⟨c,hc⟩:=I.ok.has x (.inl hk)
  obtain⟨S,z⟩:=I.cell x c hc
  refine wpAny_storeName_cell I.ok.kind hk hc z (fun h' L f=>?_)
  obtain⟨oc,O,P⟩:=id z
  refine h {s with heap:=h'} ⟨I.ok,I.os,I.bare,⟨fun b o e n F t=>?_,fun b o e n F t=>?_,I.base.free,fun b o e t=>?_,I.base.tups,I.base.frzs,I.base.tbls⟩,⟨m,U.sameBut f (Ne.symm (cne x c hc)),fun j y Z l C e3=>?_⟩,fun y T e=>?_,I.free,I.freeC,fun p hp=>?_,g ⟨oc,O,I.freeC x c hc⟩ f,by simpa using I.len⟩ ⟨c,f,.inr hc⟩
  ·exact(f.2 b (BS3 (BS5 (BQ9 e) (I.ok.cab x c J hc)))).trans (I.base.keep b o e n F t)
  ·obtain⟨sl,l⟩:=I.base.slot b o e n F t
   exact⟨sl,(f.2 b (BS3 (BS5 (BQ9 e) (I.ok.cab x c J hc)))).trans l⟩
  ·obtain⟨o',l⟩:=I.base.there b o e t
   exact⟨o',(f.2 b (BS3 (BS5 (BQ9 e) (I.ok.cab x c J hc)))).trans l⟩
  ·by_cases G:j=i
   ·subst G
    rw[hi] at l;cases l
    rw[List.getElem?_set_self D] at C
    cases C
    exact⟨u,r,.inr ⟨.inl hk,c,hc,L⟩⟩
   ·rw[List.getElem?_set_ne (Ne.symm G)] at C
    obtain⟨u',r',q⟩:=hl j y Z l C e3
    refine⟨u',r',?_⟩
    rcases q with q|⟨k,T,e,z'⟩
    ·exact .inl q
    ·refine .inr ⟨k,T,e,z'.sameBut f ?_⟩
     rintro rfl
     exact G (OX hN l (I.ok.inj _ _ _ e hc ▸ hi))
  ·by_cases R:T=c
   ·subst R;exact⟨_,L⟩
   ·obtain⟨w2,z2⟩:=I.cell y T e
    exact⟨w2,z2.sameBut f R⟩
  ·obtain⟨e,n,ne,nf,d⟩:=I.pin p hp
   refine⟨(f.2 p.1 ?_).trans e,n,ne,nf,d⟩
   intro q
   rw[q,O] at e
   have q':=Option.some.inj e
   exact d S (by rw[<-q'];exact P)
theorem BN {M:Model}{E:Value->BP9->Prop}{v:V}{Q:Unit->BP9->Prop}(I:Inv X pins σ H s)(a:X.N.Nodup)(hi:X.N[i]?=some x)(b:Loc X.env.scope x)(r:RelV v u)
  (h:∀s',Inv X pins (σ.set i (some v)) H s'->Q () s') (c:X.fn x=true\/X.env.scope.names.lookup x=some .local:=by first|exact .inl rfl|exact .inr rfl|assumption):wpAny M A (storeName X.env x u) Q E s :=
 YG I a hi b r (fun s' d _=>h s' d) c
theorem Inv.call' {ch:List Addr}(I:Inv X pins σ H s)(ho:s'.os=s.os)(u:Un (frs X.stack) ch H H' s.heap s'.heap)(hok:HOk X.prog X.w H' s'.heap)(d:AllBare s'.gens)
  (a:∀b∈ch,(b∈X.ex\/X.s₀.heap.objs.size<=b)/\b≠X.env.locals/\(∀x c,X.env.cells.lookup x=some c->c≠b)/\∀p∈X.pn++pins,p.1≠b):Inv X pins σ H' s':=by
 obtain⟨f,g',d',t',g⟩:=s'
 have e:=ho
 subst e
 exact I.call (g':=g') (t':=t') (d':=d') u hok d a
end
abbrev XK:=Value->Option Addr->Hp->Prop
abbrev St:=List (Option V)
abbrev VK:=V->Hp->Prop
abbrev TE:=St->Hp->VK->Prop
abbrev TT:=St->Hp->(Bool->Hp->Prop)->Prop
abbrev TA:=St->Hp->(List V->Hp->Prop)->Prop
structure Ends where
 nx:St->Hp->Prop
 rt:VK
 bk:St->Hp->Prop:=fun _ _=>False
 ct:St->Hp->Prop:=fun _ _=>False
abbrev TS:=Ends->St->Hp->Prop
def EP (X:Cx)(pins:List (Addr×Obj))(σ:St)(Q:VK)(u:Value)(s':BP9):Prop:=∃v H',Inv X pins σ H' s'/\RelV v u/\Q v H'
def TP (X:Cx)(pins:List (Addr×Obj))(σ:St)(Q:Bool->Hp->Prop)(b:Bool)(s':BP9):Prop:=∃H',Inv X pins σ H' s'/\Q b H'
def AP (X:Cx)(pins:List (Addr×Obj))(σ:St)(Q:List V->Hp->Prop)(us:List Value)(s':BP9):Prop:=∃vs H',Inv X pins σ H' s'/\Vals vs us/\Q vs H'
def SP (X:Cx)(pins:List (Addr×Obj))(D:Ends)(f:Flow)(s':BP9):Prop :=
 match f with
 | .next=>∃σ' H',Inv X pins σ' H' s'/\D.nx σ' H'
 | .brk=>∃σ' H',Inv X pins σ' H' s'/\D.bk σ' H'
 | .cont=>∃σ' H',Inv X pins σ' H' s'/\D.ct σ' H'
 | .ret u=>∃v σ' H',Inv X pins σ' H' s'/\RelV v u/\D.rt v H'
def PE (X:Cx)(e:Expr)(t:TE):Prop :=
 ∀(pins:List (Addr×Obj)) (s:BP9) (σ:St) (H:Hp) (Q:VK),Inv X pins σ H s->t σ H Q->wpAny (model X.prog X.w) X.A (eval e X.env) (EP X pins σ Q) X.xe s
def PT (X:Cx)(e:Expr)(t:TT):Prop :=
 ∀(pins:List (Addr×Obj)) (s:BP9) (σ:St) (H:Hp) (Q:Bool->Hp->Prop),Inv X pins σ H s->t σ H Q->wpAny (model X.prog X.w) X.A (isTrue e X.env (eval e X.env)) (TP X pins σ Q) X.xe s
def PA (X:Cx)(es:List Expr)(t:TA):Prop :=
 ∀(pos:Pos) (pins:List (Addr×Obj)) (s:BP9) (σ:St) (H:Hp) (Q:List V->Hp->Prop),Inv X pins σ H s->t σ H Q->wpAny (model X.prog X.w) X.A (spliced (CD9 pos (BR9 es X.env))) (AP X pins σ Q) X.xe s
def PS (X:Cx)(st:Stmt)(t:TS):Prop :=
 ∀(pins:List (Addr×Obj)) (s:BP9) (σ:St) (H:Hp) (D:Ends),Inv X pins σ H s->t D σ H->wpAny (model X.prog X.w) X.A (exec st X.env) (SP X pins D) X.xe s
def PSs (X:Cx)(st:List Stmt)(t:TS):Prop :=
 ∀(pins:List (Addr×Obj)) (s:BP9) (σ:St) (H:Hp) (D:Ends),Inv X pins σ H s->t D σ H->wpAny (model X.prog X.w) X.A (execs st X.env) (SP X pins D) X.xe s
theorem thn {t:Sem α}{Q b:α->BP9->Prop}{M:Model}{E:Value->BP9->Prop}(h:wpAny M A t Q E s)(c:∀a s,Q a s->b a s):wpAny M A t b E s:=BV0 h c fun _ _ x=>x
section
variable {X:Cx}
def BM7 (i:Nat):TE:=fun σ H Q=>∃v,σ[i]?=some (some v)/\Q v H
def tC (v:V):TE:=fun _ H Q=>Q v H
theorem BC7 (j:X.N[i]?=some x)(k:Vis X.env.scope x)(hd:(x==("__debug__":Str))=false:=by decide) (f:(x==("__classdict__":Str))=false:=by decide):PE X (.Name x pos) (BM7 i):=by
 intro d s n H Q I h
 obtain⟨v,e,h⟩:=h
 obtain⟨m,o,p⟩:=I.loc
 obtain⟨u,r,l⟩:=p i x v j e k
 have b:EP X d n Q u s:=⟨v,H,I,r,h⟩
 rcases l with⟨hk,q⟩|⟨hk,c,g,a⟩
 ·exact wpAny_Name (wpAny_loadName_local I.ok.kind hk o q b) hd
 ·rcases hk with hk|hk
  ·exact wpAny_Name (wpAny_loadName_cell I.ok.kind hk g a b) hd
  ·exact wpAny_Name (wpAny_loadName_free I.ok.kind hk g a b f) hd
theorem BC3 {i j pos}:PE X (.Constant (.int i) j pos) (tC (.int i)):=fun _ _ _ H _ I h=>wpAny_Constant_int ⟨.int i,H,I.tok _,⟨_,rfl⟩,h⟩
theorem BK6 {b j pos}:PE X (.Constant (.bool b) j pos) (tC (.bl b)):=fun _ _ _ H _ I h=>Constant_bool ⟨.bl b,H,I,rfl,h⟩
theorem BC4 {j pos}:PE X (.Constant .none j pos) (tC .non):=fun _ _ _ H _ I h=>Constant_none ⟨.non,H,I,rfl,h⟩
theorem BC5 {x j pos}:PE X (.Constant (.str x) j pos) (tC (.str x)):=fun _ _ _ H _ I h=>Calls.Constant_str ⟨.str x,H,I.tok _,⟨_,rfl⟩,h⟩
def Gl (X:Cx)(x:Str):Prop:=X.env.kindOf x=some .globalImplicit
theorem LP {E:Value->BP9->Prop}{σ:St}{H:Hp}(I:Inv X pins σ H s)(a:Gl X x)(b:X.mg x=some u)(h:Q u s)
  (hd:(x==("__debug__":Str))=false:=by decide):wpAny (model X.prog X.w) X.A (eval (.Name x pos) X.env) Q E s :=
 Calls.Name_function_global I.ok.kind a (Calls.loadGlobal_global (by rw[I.ok.glob];exact I.mod.glob.keeps I.bk) b h) hd
theorem AI {E:Value->BP9->Prop}{σ:St}{H:Hp}(I:Inv X pins σ H s)(a:Gl X x)(b:X.mg x=none)(c:BU2 x=some u)(h:Q u s)
  (d:x≠"__name__":=by decide) (hd:(x==("__debug__":Str))=false:=by decide):wpAny (model X.prog X.w) X.A (eval (.Name x pos) X.env) Q E s:=by
 obtain⟨g,e,f⟩:=I.mod.blt
 exact Calls.Name_function_global I.ok.kind a (Calls.loadGlobal_builtin (by rw[I.ok.glob];exact I.mod.glob.keeps I.bk) b (by rw[I.ok.blt];exact e.keeps I.bk) ((f x d).trans c) h) hd
theorem AP1 {v:V}(a:Gl X x)(b:X.mg x=some u)(r:RelV v u)(hd:(x==("__debug__":Str))=false:=by decide):PE X (.Name x pos) (tC v) :=
 fun _ _ _ H _ I h=>LP I a b ⟨v,H,I,r,h⟩ hd
theorem AO7 {v:V}(a:Gl X x)(b:X.mg x=none)(c:BU2 x=some u)(r:RelV v u)(d:x≠"__name__":=by decide) (hd:(x==("__debug__":Str))=false:=by decide):PE X (.Name x pos) (tC v) :=
 fun _ _ _ H _ I h=>AI I a b c ⟨v,H,I,r,h⟩ d hd
variable {a b:Expr}{ta tb:TE}{pos:Pos}
variable {tA tB':TT}{rest:List Expr}
end
def SqL (K:BP3)(H:Hp)(a:Addr)(xs:List V):Prop :=
 Rd H a (.lst xs) \/
  ∃(o:Obj) (its:Array Value) (n:Nat),K.lookup a=some o/\o.cls=.type "list"/\o.dict=none/\o.data=.seq its n/\its.size<=BQ6/\Vals xs its.toList
def SqT (K:BP3)(H:Hp)(a:Addr)(xs:List V):Prop :=
 Rd H a (.tup xs) \/
  ∃(o:Obj) (its:Array Value) (n:Nat),K.lookup a=some o/\o.cls=.type "tuple"/\o.data=.seq its n/\its.size<=BQ6/\Vals xs its.toList
def BN1:Value->Option V
 | .none=>some .non
 | .bool b=>some (.bl b)
 | .int i _=>some (.int i)
 | .str x _=>some (.str x)
 | .bytes b _=>some (.byt b)
 | .float b _=>some (.flt b)
 | .ref a=>some (.ref a)
 | .type n=>some (.ty n)
 | _=>none
theorem RelV.abs {x:V}(r:RelV x u):BN1 u=some x:=by
 cases x with
 | non=>cases r;rfl
 | bl _=>cases r;rfl
 | int _=>obtain⟨t,rfl⟩:=r;rfl
 | str _=>obtain⟨t,rfl⟩:=r;rfl
 | byt _=>obtain⟨t,rfl⟩:=r;rfl
 | flt _=>obtain⟨t,rfl⟩:=r;rfl
 | ref _=>cases r;rfl
 | ty _=>cases r;rfl
theorem RelV.inj {x y:V}(r:RelV x u)(q:RelV y u):x=y:=Option.some.inj (r.abs.symm.trans q.abs)
theorem Vals.inj:∀{xs ys:List V} {us:List Value},Vals xs us->Vals ys us->xs=ys
 | _,_,_,.nil,.nil=>rfl
 | _,_,_,.cons r t,.cons r' t'=>by rw[r.inj r',Vals.inj t t']
section
variable {X:Cx}{pins:List (Addr×Obj)}{σ:St}{H:Hp}{s:BP9}{a:Addr}{xs ys:List V}
theorem Inv.list (I:Inv X pins σ H s)(h:SqL X.K H a xs):∃its:List Value,Vals xs its/\PlainL s.heap a its.toArray/\xs.length<=BQ6:=by
 rcases h with h|⟨o,its,n,b,c,d,f,g,r⟩
 ·obtain⟨z,its,n,r,e⟩:=h.ok I.hok
  exact⟨its,r,⟨_,n,e,rfl,rfl,rfl⟩,z⟩
 ·refine⟨its.toList,r,⟨o,n,I.kIn a o b,c,d,by simpa using f⟩,?_⟩
  have e:=r.length
  simp only[CC4] at e
  lia
theorem Inv.tuple (I:Inv X pins σ H s)(h:SqT X.K H a xs):∃its:List Value,Vals xs its/\IsTup s.heap a its.toArray/\xs.length<=BQ6:=by
 rcases h with h|⟨o,its,n,b,c,d,f,r⟩
 ·obtain⟨z,its,r,p⟩:=h.ok I.hok
  exact⟨its,r,p,z⟩
 ·refine⟨its.toList,r,⟨o,I.kIn a o b,c,n,by simpa using d⟩,?_⟩
  have e:=r.length
  simp only[CC4] at e
  lia
theorem Inv.list_inj (I:Inv X pins σ H s)(h:SqL X.K H a xs)(h':SqL X.K H a ys):xs=ys:=by
 obtain⟨b,r,⟨o,n,e,_,_,d⟩,_⟩:=I.list h
 obtain⟨its',g,⟨i,j,c,_,_,f⟩,_⟩:=I.list h'
 rw[e] at c;cases c
 rw[d] at f
 injection f with d1 _
 have:b=its':=by simpa using congrArg Array.toList d1
 subst this
 exact r.inj g
theorem Inv.tuple_inj (I:Inv X pins σ H s)(h:SqT X.K H a xs)(h':SqT X.K H a ys):xs=ys:=by
 obtain⟨b,r,⟨o,e,_,n,d⟩,_⟩:=I.tuple h
 obtain⟨its',g,⟨i,c,_,j,f⟩,_⟩:=I.tuple h'
 rw[e] at c;cases c
 rw[d] at f
 injection f with d1 _
 have:b=its':=by simpa using congrArg Array.toList d1
 subst this
 exact r.inj g
end
abbrev Cx.wish (X:Cx)(E:Value->BP9->Prop):Cx:={X with xe:=E}
abbrev Cx.nox (X:Cx):Cx:=X.wish fun _ _=>False
theorem Cx.Ok.wish {X:Cx}(ok:X.Ok)(E:Value->BP9->Prop):(X.wish E).Ok :=
 ⟨ok.mod,ok.kind,ok.glob,ok.blt,ok.above,ok.inj,ok.has,ok.cab,ok.hd,ok.frames,ok.stk,ok.exf,ok.bs,ok.bsz,ok.noex,ok.exfs,ok.funs,ok.frf⟩
theorem Cx.Ok.unwish {X:Cx}{E:Value->BP9->Prop}(ok:(X.wish E).Ok):X.Ok :=
 ⟨ok.mod,ok.kind,ok.glob,ok.blt,ok.above,ok.inj,ok.has,ok.cab,ok.hd,ok.frames,ok.stk,ok.exf,ok.bs,ok.bsz,ok.noex,ok.exfs,ok.funs,ok.frf⟩
section
variable {X:Cx}{pins:List (Addr×Obj)}{σ:St}{H:Hp}{s:BP9}{E:Value->BP9->Prop}
theorem Inv.wish (I:Inv X pins σ H s)(E:Value->BP9->Prop):Inv (X.wish E) pins σ H s:=⟨I.ok.wish E,I.os,I.bare,I.base,I.loc,I.cell,I.free,I.freeC,I.pin,I.hok,I.len⟩
theorem Inv.unwish (I:Inv (X.wish E) pins σ H s):Inv X pins σ H s:=⟨I.ok.unwish,I.os,I.bare,I.base,I.loc,I.cell,I.free,I.freeC,I.pin,I.hok,I.len⟩
theorem SP.unwish {D:Ends}{f:Flow}(h:SP (X.wish E) pins D f s'):SP X pins D f s':=by
 cases f with
 | next=>obtain⟨a,b,I,q⟩:=h;exact⟨a,b,I.unwish,q⟩
 | brk=>obtain⟨a,b,I,q⟩:=h;exact⟨a,b,I.unwish,q⟩
 | cont=>obtain⟨a,b,I,q⟩:=h;exact⟨a,b,I.unwish,q⟩
 | ret u=>obtain⟨v,a,b,I,r,q⟩:=h;exact⟨v,a,b,I.unwish,r,q⟩
theorem PSs.nox {st:List Stmt}{t:TS}(h:PSs X.nox st t):PSs X st t:=fun a s b H D I c =>
 BV0 (h a s b H D (I.wish _) c) (fun _ _ q=>q.unwish) fun _ _ z=>False.elim z
end
section
variable {X:Cx}{st:Stmt}{rest:List Stmt}{t u:TS}{e:Expr}{te:TE}{pos:Pos}
theorem Inv.quiet {σ:St}{H:Hp}(I:Inv X pins σ H s):interactive X.env=false:=by simp[interactive,I.ok.kind]
end
abbrev TG:=V->St->Hp->(St->Hp->Prop)->Prop
abbrev TGs:=List V->St->Hp->(St->Hp->Prop)->Prop
def PG (X:Cx)(target:Expr)(t:TG):Prop :=
 ∀(pins:List (Addr×Obj)) (s:BP9) (σ:St) (H:Hp) (v:V) (u:Value) (Q:St->Hp->Prop),Inv X pins σ H s->RelV v u->t v σ H Q ->
  wpAny (model X.prog X.w) X.A (assign target X.env u) (fun _ s'=>∃σ' H',Inv X pins σ' H' s'/\Q σ' H') X.xe s
def PGs (X:Cx)(ts:List Expr)(t:TGs):Prop :=
 ∀(pins:List (Addr×Obj)) (s:BP9) (σ:St) (H:Hp) (vs:List V) (us:List Value) (Q:St->Hp->Prop),Inv X pins σ H s->Vals vs us->t vs σ H Q ->
  wpAny (model X.prog X.w) X.A (assignInOrder ((BV6 ts X.env).map (·.2)) us) (fun _ s'=>∃σ' H',Inv X pins σ' H' s'/\Q σ' H') X.xe s
abbrev AW4:=V->V->V->Hp->(Hp->Prop)->Prop
def BF9 (X:Cx)(t:AW4):Prop :=
 ∀(pins:List (Addr×Obj)) (s:BP9) (σ:St) (H:Hp) (o i v:V) (ov iv u:Value) (Q:Hp->Prop),Inv X pins σ H s->RelV o ov->RelV i iv->RelV v u->t o i v H Q ->
  wpAny (model X.prog X.w) X.A (setItem ov iv u) (fun _ s'=>∃H',Inv X pins σ H' s'/\Q H') X.xe s
abbrev TIp:=V->V->Hp->VK->Prop
def PIp (X:Cx)(op:Operator)(t:TIp):Prop :=
 ∀(pins:List (Addr×Obj)) (s:BP9) (σ:St) (H:Hp) (x y:V) (v u:Value) (Q:VK),Inv X pins σ H s->RelV x v->RelV y u->t x y H Q ->
  wpAny (model X.prog X.w) X.A (inplaceOp op v u) (EP X pins σ Q) X.xe s
section
variable {X:Cx}{pos:Pos}
def AT8 (i:Nat):TG:=fun v σ H Q=>Q (σ.set i (some v)) H
theorem MC (b:X.N.Nodup)(hi:X.N[i]?=some x)(c:Loc X.env.scope x)(d:X.fn x=true\/X.env.scope.names.lookup x=some .local:=by first|exact .inl rfl|exact .inr rfl|assumption):PG X (.Name x pos) (AT8 i):=by
 intro a s f H v u Q I r h
 exact wpAny_assign_Name (BN I b hi c r (fun g e=>⟨_,H,e,h⟩) d)
def BN9:TGs:=fun vs σ H Q=>vs=[]/\Q σ H
def BH1 (t:TG)(u:TGs):TGs:=fun vs σ H Q=>∃v r,vs=v::r/\t v σ H fun σ' H'=>u r σ' H' Q
theorem AP5:PGs X [] BN9:=by
 intro a s b H c d Q I r h
 obtain⟨e,h⟩:=h
 subst e
 exact assignInOrder_nil ⟨b,H,I,h⟩
theorem AD5 {t:TG}{u:TGs}(h1:PG X e t)(h2:PGs X es u)
  (hs:(BV6 (e::es) X.env).map (·.2)=assign e X.env::(BV6 es X.env).map (·.2):=by rfl):PGs X (e::es) (BH1 t u):=by
 intro a s c H l m Q I r h
 obtain⟨v,n,d,h⟩:=h
 subst d
 cases r with
 | cons r f =>
  rw[hs]
  refine assignInOrder_cons (thn (h1 a s c H _ _ _ I r h) fun _ g ⟨b,i,j,k⟩=>?_)
  exact h2 a g b i _ _ Q j f k
def BO1 (K:BP3)(n:Nat)(t:TGs):TG:=fun v σ H Q=>∃a xs,v=.ref a/\SqT K H a xs/\xs.length=n/\t xs σ H Q
theorem BC9 {k:Nat}{t:TGs}{n:Nat}(i:X.calm=true)(h:PGs X es t)
  (j:(BV6 es X.env).length=n:=by rfl) (d:(BV6 es X.env).findIdx? (·.1)=none:=by rfl):PG X (.Tuple es k pos) (BO1 X.K n t):=by
 intro c s l H v u Q I r f
 obtain⟨a,m,p,q,w,f⟩:=f
 subst p
 cases r
 obtain⟨x,g,y,B⟩:=I.tuple q
 refine assign_Tuple_tuple (I.ok.hd i) y (by simp[j,<-w,g.length]) d fun C z=>?_
 have A:=I.kept (t':=s.toks) fun b o e=>z b o (BS3 (BQ9 e)) e
 exact h c _ l H m _ Q A (by simpa using g) f
def BO0 (to ti:TE)(t:AW4):TG:=fun v σ H Q=>to σ H fun o H1=>ti σ H1 fun i H2=>t o i v H2 fun H3=>Q σ H3
theorem BC8 {o i:Expr}{to ti:TE}{t:AW4}(ho:PE X o to)(hi:PE X i ti)(hs:BF9 X t)
  (z:∀v,assign (.Subscript o i pos) X.env v=(do
   let ov <-holding [v] (eval o X.env)
   let iv <-holding [v,ov] (eval i X.env)
   standAt pos
   holding [v,ov,iv] (setItem ov iv v)
   release [v,ov,iv] []):=by intro _;rfl):PG X (.Subscript o i pos) (BO0 to ti t):=by
 intro a s b H v u Q I r h
 refine BP2 (BU9 (thn (ho a s b H _ I h) fun ov c ⟨x,d,e,f,g⟩=>?_))
 refine BP2 (BU9 (thn (hi a c b d _ e g) fun iv j ⟨y,k,l,m,n⟩=>?_))
 refine BP2 (CD1 (BP2 (BU9 (thn (hs a j b k x y v ov iv u _ l f m r n) fun _ A ⟨p,q,w⟩=>?_))))
 exact wpAny_release ⟨b,p,q,w⟩
def BM3 (te:TE)(g:TG):TS:=fun D σ H=>te σ H fun x H1=>g x σ H1 D.nx
theorem AF0 {te:TE}{g:TG}(c:PE X e te)(d:PG X tg g)(hs:swapsWithSole [tg] e pos.line X.env=pure false:=by rfl) (f:swappedStores [tg] e X.env=pure none:=by rfl)
  (h1:(BV6 [tg] X.env).map (·.2)=[assign tg X.env]:=by rfl):PS X (.Assign [tg] e pos) (BM3 te g):=by
 intro a s b H D I h
 refine wpAny_Assign_stores (thn (c a s b H _ I h) fun v i ⟨x,j,k,l,m⟩=>?_) hs f
 rw[h1]
 exact thn (d a i b j x v _ k l m) fun _ n q=>q
theorem BD9 {te:TE}{pos':Pos}(b:X.N.Nodup)(hi:X.N[i]?=some x)(c:Loc X.env.scope x)(d:PE X e te)(hs:CE9 e (some (.Name x pos')) pos.line X.env=pure false:=by rfl) (f:X.fn x=true\/X.env.scope.names.lookup x=some .local:=by first|exact .inl rfl|exact .inr rfl|assumption) :
  PS X (.Assign [.Name x pos'] e pos) (BM3 te (AT8 i)):=by
 intro a s g H D I h
 refine wpAny_Assign_Name (thn (d a s g H _ I h) fun v o ⟨y,j,k,l,m⟩=>?_) hs
 exact BN k b hi c l (fun p n=>⟨_,j,n,m⟩) f
def BO5 (i:Nat)(te:TE)(ti:TIp):TS:=fun D σ H=>∃x,σ[i]?=some (some x)/\te σ H fun y H1=>ti x y H1 fun z H2=>D.nx (σ.set i (some z)) H2
theorem BD8 {te:TE}{op:Operator}{ti:TIp}{pos':Pos}(p:X.N.Nodup)(hi:X.N[i]?=some x)(g:Loc X.env.scope x)(q:PE X e te)(ho:PIp X op ti)(t:X.fn x=true\/X.env.scope.names.lookup x=some .local:=by first|exact .inl rfl|exact .inr rfl|assumption) :
  PS X (.AugAssign (.Name x pos') op e pos) (BO5 i te ti):=by
 intro a s n H D I h
 obtain⟨v,B,h⟩:=h
 obtain⟨m,C,E⟩:=I.loc
 have j:Vis X.env.scope x:=by rcases g with k|k;exact .inl k;exact .inr (.inl k)
 obtain⟨u,r,l⟩:=E i x v hi B j
 refine wpAny_AugAssign_Name ?_
 have o:wpAny (model X.prog X.w) X.A (eval e X.env) (fun w d=>wpAny (model X.prog X.w) X.A (inplaceOp op u w) (fun r f=>wpAny (model X.prog X.w) X.A (storeName X.env x r) (fun _=>SP X a D .next) X.xe f) X.xe d) X.xe s:=by
  refine thn (q a s n H _ I h) fun w F ⟨y,G,J,K,L⟩=>?_
  refine thn (ho a F n G v y u w _ J r K L) fun z U ⟨V,M,O,P,Q⟩=>?_
  exact BN O p hi g P (fun W R=>⟨_,M,R,Q⟩) t
 rcases l with⟨hk,S⟩|⟨hk,c,T,b⟩
 ·exact wpAny_loadName_local I.ok.kind hk C S o
 ·rcases hk with hk|hk
  ·exact wpAny_loadName_cell I.ok.kind hk T b o
  ·rcases g with k|k
   ·have:X.env.scope.names.lookup x=some .free:=hk
    rw[k] at this;cases this
   ·have:X.env.scope.names.lookup x=some .free:=hk
    rw[k] at this;cases this
def ipI (f:Int->Int->Int):TIp:=fun x y H Q=>∃i j,x=.int i/\y=.int j/\Q (.int (f i j)) H
theorem AZ1:PIp X .Add (ipI fun i j=>i+j):=by
 intro a s f H x y v u Q I b c h
 obtain⟨i,j,d,e,q⟩:=h
 subst d;subst e
 obtain⟨t,rfl⟩:=b
 obtain⟨g,rfl⟩:=c
 exact iadd_int ⟨.int _,H,I.tok _,⟨_,rfl⟩,q⟩
end
section
variable {X:Cx}{pos:Pos}
def BF0 (c:TT)(tb:TS):TS:=fun D σ H=>∃W:Nat->St->Hp->Prop,(∃m,W m σ H)/\∀m σ H,W m σ H ->
 c σ H fun b H1=>if b=true then∃N:St->Hp->Prop,(∀σ' H',N σ' H'->∃m',m'<m/\W m' σ' H')/\tb {D with nx:=N,ct:=N,bk:=D.nx} σ H1 else D.nx σ H1
theorem AF3 {c:Expr}{tc:TT}{tb:TS}(t:PassesOwn (model X.prog X.w) X.A X.env X.xe)(C:PT X c tc)(E:PSs X body tb):PS X (.While c body [] pos) (BF0 tc tb):=by
 intro a s F H D I h
 obtain⟨W,⟨G,J⟩,g⟩:=h
 refine wpAny_While (codeAny_whileLoop (fun n K=>∃i u,Inv X a i u K/\W n i u) ?_ G ⟨F,H,I,J⟩)
 rintro n L ⟨e,x,M,O⟩
 refine BZ6 t (thn (C a L e x _ M (g n e x O)) fun b P ⟨y,z,k⟩=>?_)
 cases b with
 | true =>
  obtain⟨N,B,k⟩:=k
  refine BZ6 t (thn (E a P e y _ z k) fun f Q l=>?_)
  cases f with
  | next =>
   obtain⟨d,j,m,o⟩:=l
   obtain⟨p,q,r⟩:=B d j o
   exact⟨p,q,d,j,m,r⟩
  | cont =>
   obtain⟨d,j,m,o⟩:=l
   obtain⟨p,q,r⟩:=B d j o
   exact⟨p,q,d,j,m,r⟩
  | brk=>exact l
  | ret v=>exact l
 | false =>
  exact wpAny_execs_nil ⟨e,y,z,k⟩
end
structure It where
 go:Nat->Hp->Prop
 yld:Nat->Hp->V->Hp->Prop
 stop:Nat->Hp->Prop
def KG (X:Cx)(pins:List (Addr×Obj))(H:Hp)(b:Addr):Prop :=
 H b=none/\b≠X.env.locals/\b∉X.fs/\(b∈X.ex\/X.s₀.heap.objs.size<=b)/\(∀x c,X.env.cells.lookup x=some c->c≠b)/\∀p∈X.pn++pins,p.1≠b
theorem Inv.fpOk {X:Cx}{σ:St}{H H':Hp}{b:Addr}(I:Inv X pins σ H s)(a:s.heap.objs.size<=b)(d:H' b=none):KG X pins H' b:=by
 refine⟨d,Nat.ne_of_gt (BS5 I.lt a),I.nofs a,.inr (BS7 I.sz a),fun x c e z=>?_,fun p f z=>?_⟩
 ·obtain⟨v,q⟩:=I.cell x c e
  exact absurd (BS5 q.lt (by rw[z];exact a)) (BZ5 _)
 ·exact absurd (BS5 (BQ9 (I.pin p f).1) (by rw[z];exact a)) (BZ5 _)
structure Turn (P:BT5)(w:World)(K:BP3)(tg:Expr)(J:It)(fp:List Addr)(it:Addr)(tn:Nat->Heap->Prop):Prop where
 mem:it∈fp
 obj:∀i h,tn i h->∀b∈fp,∃o,h.get? b=some o/\∀v,o.data≠.cell v
 keep:∀i h h',tn i h->(∀b∈fp,∀o,h.get? b=some o->h'.get? b=some o)->tn i h'
 item:∀(X:Cx),X.prog=P->X.w=w->X.K=K->X.calm=true->∀(i:Nat) (pins:List (Addr×Obj)) (s:BP9) (σ:St) (H:Hp) (E:Value->BP9->Prop),Inv X pins σ H s->(∀b∈fp,KG X pins H b)->tn i s.heap->J.go i H ->
  wpAny (model P w) X.A (pyNext (.ref it)) (fun r s1=>∃u,r=some u /\
   wpAny (model P w) X.A (CB3 tg (.ref it) u) (fun _ s2=>∃x H',Inv X pins σ H' s2/\RelV x u/\J.yld i H x H'/\tn (i+1) s2.heap/\∀b∈fp,H' b=none) E s1) E s
 done:∀(X:Cx),X.prog=P->X.w=w->X.K=K->X.calm=true->∀(i:Nat) (pins:List (Addr×Obj)) (s:BP9) (σ:St) (H:Hp) (E:Value->BP9->Prop),Inv X pins σ H s->(∀b∈fp,KG X pins H b)->tn i s.heap->J.stop i H ->
  wpAny (model P w) X.A (pyNext (.ref it)) (fun r s1=>r=none/\Inv X pins σ H s1) E s
 self:∀(A:BY4) (i:Nat) (s:BP9) (Q:Value->BP9->Prop) (E:Value->BP9->Prop),tn i s.heap->Q (.ref it) s->wpAny (model P w) A (pyIter (.ref it)) Q E s
abbrev TI:=St->Hp->(It->Hp->Prop)->Prop
def PIE (X:Cx)(pins:List (Addr×Obj))(σ:St)(tg:Expr)(R:It->Hp->Prop)(itv:Value)(s2:BP9):Prop :=
 ∃(it:Addr) (fp:List Addr) (tn:Nat->Heap->Prop) (J:It) (H':Hp),itv=.ref it/\Inv X pins σ H' s2/\Turn X.prog X.w X.K tg J fp it tn/\tn 0 s2.heap/\(∀b∈fp,KG X pins H' b)/\R J H'
def PI (X:Cx)(tg iter:Expr)(wi:TI):Prop :=
 ∀(pins:List (Addr×Obj)) (s:BP9) (σ:St) (H:Hp) (R:It->Hp->Prop),Inv X pins σ H s->wi σ H R ->
  wpAny (model X.prog X.w) X.A (eval iter X.env) (fun v s1=>wpAny (model X.prog X.w) X.A (pyIter v) (PIE X pins σ tg R) X.xe s1) X.xe s
theorem OK {M:Model}{E:Value->BP9->Prop}{n:String}{vs:Array Value}{Q:Unit->BP9->Prop}(ho:s.heap.get? it=some o)(b:o.cls=.type n)(hd:o.data=.fields vs)
  (c:["enumerate","zip","dict_itemiterator","dict_reverseitemiterator","odict_iterator","itertools.zip_longest","itertools.pairwise"].contains n=false) (a:Q () s):wpAny M A (CB3 tg (.ref it) u) Q E s:=by
 cases tg<;>first
  | exact BP6 a
  | (cases u<;>first
    | exact BP6 a
    | (refine BP2 (wpAny_load ho ?_)
       rw[b,hd]
       show wpAny M A (if (["enumerate","zip","dict_itemiterator","dict_reverseitemiterator","odict_iterator","itertools.zip_longest","itertools.pairwise"].contains n && vs[0]?==some (rawInt _))=true then _ else _) Q E s
       rw[if_neg (by intro h;rw[c,Bool.false_and] at h;cases h)]
       exact BP6 a))
def Itl (K:BP3)(a:Addr):It :=
 ⟨fun i H=>∃xs x,SqL K H a xs/\xs[i]?=some x,fun i H x H'=>H'=H/\∀xs,SqL K H a xs->xs[i]?=some x,fun i H=>∃xs,SqL K H a xs/\xs.length<=i⟩
def Itt (K:BP3)(a:Addr):It :=
 ⟨fun i H=>∃xs x,SqT K H a xs/\xs[i]?=some x,fun i H x H'=>H'=H/\∀xs,SqT K H a xs->xs[i]?=some x,fun i H=>∃xs,SqT K H a xs/\xs.length<=i⟩
def Itr (lo:Int)(n:Nat):It:=⟨fun i _=>i<n,fun i H x H'=>H'=H/\x=.int (lo+i),fun i _=>n<=i⟩
theorem KD (a it:Addr):Turn P w K tg (Itl K a) [it] it (fun i h=>h.IsListIter it a i) where
 mem:=by simp
 obj:=fun i h st b f=>by
  have e:b=it:=by simpa using f
  subst e
  obtain⟨o,e,c,d⟩:=st
  exact⟨o,e,fun v z=>by rw[d] at z;cases z⟩
 keep:=fun i h n st k=>st.at fun o e=>k it (by simp) o e
 item:=by
  intro X q r t M i g s N H E I l st y
  subst q r t
  obtain⟨O,x,m,A⟩:=y
  obtain⟨B,C,p,Q⟩:=I.list m
  obtain⟨u,R,S⟩:=C.get A
  obtain⟨D,F,T,G,J,L⟩:=l it (by simp)
  refine wpAny_pyNext_list_item st p.isList (x:=u) (by simpa using R) fun n j U=>?_
  have V:=I.turned (t':=s.toks) (fun b o f e=>(U.2 b f).trans e) D F G J L
  obtain⟨o,e,c,d⟩:=id j
  exact⟨u,rfl,OK (s:={s with heap:=n}) e c d (by decide) ⟨x,H,V,S,⟨rfl,fun Z W=>by rw[I.list_inj W m];exact A⟩,j,fun b f=>(l b f).1⟩⟩
 done:=by
  intro X q r t M i g s N H E I l st y
  subst q r t
  obtain⟨O,m,A⟩:=y
  obtain⟨B,C,p,Q⟩:=I.list m
  obtain⟨D,F,T,G,J,L⟩:=l it (by simp)
  have hl:=C.length
  exact wpAny_pyNext_list_end (I.ok.hd M) st p.isList (by simp;lia) fun n Y=>⟨rfl,I.turned (t':=s.toks) (fun b o f e=>Y b o f e) D F G J L⟩
 self:=fun _ _ _ _ _ st h=>wpAny_pyIter_listiter st h
theorem HL (a it:Addr):Turn P w K tg (Itt K a) [it] it (fun i h=>h.IsTupleIter it a i) where
 mem:=by simp
 obj:=fun i h st b f=>by
  have e:b=it:=by simpa using f
  subst e
  obtain⟨o,e,c,d⟩:=st
  exact⟨o,e,fun v z=>by rw[d] at z;cases z⟩
 keep:=fun i h q st k=>st.at fun o e=>k it (by simp) o e
 item:=by
  intro X r t y M i j s N H E I m st A
  subst r t y
  obtain⟨O,x,n,B⟩:=A
  obtain⟨g,C,p,Q⟩:=I.tuple n
  obtain⟨u,R,S⟩:=C.get B
  obtain⟨D,F,T,G,J,L⟩:=m it (by simp)
  refine wpAny_pyNext_tuple_item st (show s.heap.IsTuple a g.toArray from p) (x:=u) (by simpa using R) fun q l U=>?_
  have V:=I.turned (t':=s.toks) (fun b o f e=>(U.2 b f).trans e) D F G J L
  obtain⟨o,e,c,d⟩:=id l
  exact⟨u,rfl,OK (s:={s with heap:=q}) e c d (by decide) ⟨x,H,V,S,⟨rfl,fun Z W=>by rw[I.tuple_inj W n];exact B⟩,l,fun b f=>(m b f).1⟩⟩
 done:=by
  intro X r t y M i j s N H E I m st A
  subst r t y
  obtain⟨O,n,B⟩:=A
  obtain⟨g,C,p,Q⟩:=I.tuple n
  obtain⟨D,F,T,G,J,L⟩:=m it (by simp)
  have hl:=C.length
  exact wpAny_pyNext_tuple_end (I.ok.hd M) st (show s.heap.IsTuple a g.toArray from p) (by simp;lia) fun q Y=>⟨rfl,I.turned (t':=s.toks) (fun b o f e=>Y b o f e) D F G J L⟩
 self:=fun _ _ _ _ _ st h=>wpAny_pyIter_tupleiter st h
theorem SM (it:Addr)(lo:Int)(n:Nat):Turn P w K tg (Itr lo n) [it] it (fun i h=>IsRangeIter h it (lo+(i:Nat)*1) ((n:Int)-(i:Nat)) 1) where
 mem:=by simp
 obj:=fun i h st b c=>by
  have e:b=it:=by simpa using c
  subst e
  exact⟨_,st,fun v z=>by
   have D:=z
   cases D⟩
 keep:=fun i h f st k=>k it (by simp) _ st
 item:=by
  intro X x y A j i a s B H E I g st l
  subst x y A
  obtain⟨m,p,F,q,r,u⟩:=g it (by simp)
  have W:=Walks.range (prog:=X.prog) (w:=X.w) (I.ok.hd j) it lo 1 n
  refine W.item i s _ _ l st fun v f C G d J=>?_
  obtain⟨t,rfl⟩:=G
  have L:Inv X a B H {s with heap:=f,toks:=C}:=I.turned (fun b o c e=>J b o (by simpa using c) e) m p q r u
  refine⟨_,rfl,OK (s:={s with heap:=f,toks:=C}) (n:="range_iterator") d rfl rfl (by decide) ⟨.int (lo+i),H,L,⟨t,?_⟩,⟨rfl,rfl⟩,d,fun b c=>(g b c).1⟩⟩
  rw[Int.mul_one]
 done:=by
  intro X x y A j i a s B H E I g st l
  obtain⟨m,p,F,q,r,u⟩:=g it (by simp)
  exact wpAny_pyNext_range_end (I.ok.hd j) st (by have:n<=i:=l;lia) fun f M=>⟨rfl,I.turned (t':=s.toks) (fun b o c e=>M b o c e) m p q r u⟩
 self:=fun _ _ _ _ _ st h=>wpAny_pyIter_rangeiter st h
section
variable {X:Cx}{tg:Expr}
def BH7 (K:BP3)(tl:TE):TI:=fun σ H R=>tl σ H fun x H1=>∃a,x=.ref a/\(∃xs,SqL K H1 a xs)/\R (Itl K a) H1
def BO2 (K:BP3)(tl:TE):TI:=fun σ H R=>tl σ H fun x H1=>∃a,x=.ref a/\(∃xs,SqT K H1 a xs)/\R (Itt K a) H1
theorem AP8 {tl:TE}(g:PE X l tl):PI X tg l (BH7 X.K tl):=by
 intro c s i H R I h
 refine thn (g c s i H _ I h) fun v d ⟨x,j,f,k,m⟩=>?_
 obtain⟨a,e,⟨u,n⟩,q⟩:=m
 subst e
 cases k
 obtain⟨r,w,p,y⟩:=f.list n
 refine wpAny_pyIter_list p.isList ?_
 refine⟨d.heap.objs.size,[d.heap.objs.size],_,_,j,rfl,f.kept (t':=d.toks) fun b o e=>BP4 _ e,KD a _,⟨_,BR2 _ rfl,rfl,rfl⟩,fun b t=>?_,q⟩
 have e:b=d.heap.objs.size:=by simpa using t
 subst e
 exact f.fpOk (BP5 _) (f.hok.fresh (BP5 _))
theorem BD1 {tl:TE}(i:PE X l tl):PI X tg l (BO2 X.K tl):=by
 intro c s j H R I h
 refine thn (i c s j H _ I h) fun v d ⟨x,k,f,m,n⟩=>?_
 obtain⟨a,e,⟨u,r⟩,q⟩:=n
 subst e
 cases m
 obtain⟨g,w,p,y⟩:=f.tuple r
 refine CE5 (show d.heap.IsTuple a g.toArray from p) ?_
 refine⟨d.heap.objs.size,[d.heap.objs.size],_,_,k,rfl,f.kept (t':=d.toks) fun b o e=>BP4 _ e,HL a _,⟨_,BR2 _ rfl,rfl,rfl⟩,fun b t=>?_,q⟩
 have e:b=d.heap.objs.size:=by simpa using t
 subst e
 exact f.fpOk (BP5 _) (f.hok.fresh (BP5 _))
theorem PO {σ:St}{H:Hp}{R:It->Hp->Prop}{E:Value->BP9->Prop}{lo hi:Int}{t u v:Tok}{tk:Nat}(I:Inv X pins σ H s)(h1:-(2^62)<=lo)(h2:lo<2^62)(c:-(2^62)<=hi)(d:hi<2^62)
  (q:R (Itr lo (hi-lo).toNat) H):wpAny (model X.prog X.w) X.A (pyIter (.ref s.heap.objs.size)) (PIE X pins σ tg R) E {s with heap:=s.heap.push {cls:=.type "range",data:=.fields #[.int lo t,.int hi u,.int 1 v]},toks:=tk}:=by
 refine wpAny_pyIter_range (IsRange.new ..) (small_one h1 h2 c d) ?_
 have a:Inv X pins σ H {s with heap:=s.heap.push {cls:=.type "range",data:=.fields #[.int lo t,.int hi u,.int 1 v]},toks:=tk}:=I.kept fun b o e=>BP4 _ e
 refine⟨(s.heap.push {cls:=.type "range",data:=.fields #[.int lo t,.int hi u,.int 1 v]}).objs.size,[(s.heap.push {cls:=.type "range",data:=.fields #[.int lo t,.int hi u,.int 1 v]}).objs.size],_,_,H,rfl,
  a.kept (t':=tk) fun b o e=>BP4 _ e,SM _ lo (hi-lo).toNat,?_,fun b f=>?_,q⟩
 ·have g:lo+((0:Nat):Int)*1=lo:=by simp
  have h:(((hi-lo).toNat:Nat):Int)-((0:Nat):Int)=BQ8 lo hi 1:=by rw[rangeSize_one];split<;>lia
  rw[g,h]
  exact BR2 _ rfl
 ·have e:b=(s.heap.push {cls:=.type "range",data:=.fields #[.int lo t,.int hi u,.int 1 v]}).objs.size:=by simpa using f
  subst e
  exact a.fpOk (BP5 _) (a.hok.fresh (BP5 _))
def BH8 (ta:TA):TI:=fun σ H R=>ta σ H fun vs H1=>∃j:Int,vs=[.int j]/\-(2^62)<=j/\j<2^62/\R (Itr 0 j.toNat) H1
def BH9 (ta:TA):TI:=fun σ H R=>ta σ H fun vs H1=>∃i j:Int,vs=[.int i,.int j]/\(-(2^62)<=i/\i<2^62/\-(2^62)<=j/\j<2^62)/\R (Itr i (j-i).toNat) H1
theorem XN {a:Expr}{ta:TA}{p:Pos}(d:Gl X "range")(f:X.mg "range"=none)(g:PA X [a] ta)(hs:BR9 [a] X.env=[(false,eval a X.env)]:=by rfl):PI X tg (.Call (.Name "range" p) [a] [] pos) (BH8 ta):=by
 intro b s i H R I h
 refine Call_ (AI I d f boot_range (BV9 (thn (g pos b s i H _ I h) fun o u ⟨v,w,k,l,c⟩=>?_) hs rfl))
 obtain⟨j,e,c,m,q⟩:=c
 subst e
 cases l with
 | cons r n =>
  cases n
  obtain⟨t,rfl⟩:=r
  exact call_range_1 (PO k (by lia) (by lia) c m (by simpa using q))
theorem XO {a b:Expr}{ta:TA}{p:Pos}(k:Gl X "range")(l:X.mg "range"=none)(m:PA X [a,b] ta)(hs:BR9 [a,b] X.env=[(false,eval a X.env),(false,eval b X.env)]:=by rfl) (c:BR9 [b] X.env=[(false,eval b X.env)]:=by rfl) :
  PI X tg (.Call (.Name "range" p) [a,b] [] pos) (BH9 ta):=by
 intro d s n H R I h
 refine Call_ (AI I k l boot_range (BV9 (thn (m pos d s n H _ I h) fun z A ⟨B,C,o,u,f⟩=>?_) (by rw[hs,c]) (by rw[c];rfl)))
 obtain⟨i,j,e,⟨f,v,w,x⟩,q⟩:=f
 subst e
 cases u with
 | cons r g =>
  cases g with
  | cons y g =>
   cases g
   obtain⟨t,rfl⟩:=r
   obtain⟨D,rfl⟩:=y
   exact call_range_2 (PO o f v w x q)
def BO6 (wi:TI)(g:TG)(tb:TS):TS:=fun D σ H=>wi σ H fun J H1=>∃W:Nat->Nat->St->Hp->Prop,(∃m,W 0 m σ H1)/\∀i m σ H,W i m σ H ->
 (J.stop i H/\D.nx σ H)\/(J.go i H/\∃N:St->Hp->Prop,(∀σ' H',N σ' H'->∃m',m'<m/\W (i+1) m' σ' H')/\∀x H',J.yld i H x H'->g x σ H' fun σ2 H2=>tb {D with nx:=N,ct:=N,bk:=D.nx} σ2 H2)
def GG (fp:List Addr)(h:Heap):List (Addr×Obj):=fp.filterMap fun b=>(h.get? b).map fun o=>(b,o)
theorem T3 {b:Addr}(a:b∈fp)(e:h.get? b=some o):(b,o)∈GG fp h:=List.mem_filterMap.mpr ⟨b,a,by rw[e];rfl⟩
theorem XB {p:Addr×Obj}(a:p∈GG fp h):p.1∈fp/\h.get? p.1=some p.2:=by
 obtain⟨b,c,e⟩:=List.mem_filterMap.mp a
 cases q:h.get? b with
 | none=>rw[q] at e;cases e
 | some o =>
  rw[q] at e
  have d:=Option.some.inj e
  subst d
  exact⟨c,q⟩
theorem Inv.pinned {σ:St}{H:Hp}(I:Inv X pins σ H s)(f:∀b∈fp,KG X pins H b)(ho:∀b∈fp,∃o,s.heap.get? b=some o/\∀v,o.data≠.cell v):Inv X (pins++GG fp s.heap) σ H s :=
 I.pins_of fun p g=>(List.mem_append.mp g).elim (fun z=>I.pin p (BR5 _ z)) fun z=>by
  obtain⟨a,e⟩:=XB z
  obtain⟨h,i,j,_⟩:=f p.1 a
  obtain⟨o,c,d⟩:=ho p.1 a
  rw[e] at c;cases c
  exact⟨e,h,i,j,d⟩
theorem Inv.unpinned {a:List (Addr×Obj)}{σ:St}{H:Hp}(I:Inv X (pins++a) σ H s):Inv X pins σ H s:=I.pins_of fun p b=>I.pin p (BR5 _ (CC1 _ b))
theorem AF1 {V:TI}{g:TG}{tb:TS}(B:PassesOwn (model X.prog X.w) X.A X.env X.xe)(Y:X.calm=true)(hi:PI X tg iter V)(hg:PG X tg g)(j:PSs X body tb)
  (hs:∀x,BZ8 iter X.env x=pure x:=by intro _;rfl):PS X (.For tg iter body [] pos) (BO6 V g tb):=by
 intro a s Z H D I h
 refine wpAny_For (thn (hi a s Z H _ I h) fun v s1 h1=>thn h1 fun itv s2 h2=>?_) hs
 obtain⟨it,C,tn,J,H2,e,I2,T,O,f2,W,⟨m0,w0⟩,E⟩:=h2
 subst e
 have k:∀{H':Hp},(∀b∈C,H' b=none)->∀b∈C,KG X a H' b:=fun hn b j=>⟨hn b j,(f2 b j).2⟩
 refine codeAny_forLoop_any (fun n s'=>∃i l H',Inv X a l H' s'/\tn i s'.heap/\(∀b∈C,H' b=none)/\W i n l H') ?_ m0 ⟨0,Z,H2,I2,O,fun b j=>(f2 b j).1,w0⟩
 rintro n s3 ⟨i,p,M,I3,F,G,w3⟩
 rcases E i n p M w3 with⟨K,qn⟩|⟨go,N,hN,step⟩
 ·refine BZ6 B (thn (T.done X rfl rfl rfl Y i a s3 p M X.xe I3 (k G) F K) fun r s4 ⟨P,I4⟩=>?_)
  subst P
  exact wpAny_execs_nil ⟨p,M,I4,qn⟩
 ·refine BZ6 B (thn (T.item X rfl rfl rfl Y i a s3 p M X.xe I3 (k G) F go) fun r s4 ⟨u,P,h4⟩=>?_)
  subst P
  refine BZ6 B (thn h4 fun _ s5 ⟨x,H5,I5,r5,y5,z,Q⟩=>?_)
  have R:=I5.pinned (k Q) (T.obj _ _ z)
  refine BZ6 B (thn (hg _ s5 p H5 x u _ R r5 (step x H5 y5)) fun _ s6 ⟨S,H6,I6,q6⟩=>?_)
  refine BZ6 B (thn (j _ s6 S H6 _ I6 q6) fun f U y=>?_)
  have again:∀{c:St} {q:Hp},Inv X (a++GG C s5.heap) c q U->N c q->∃m,m<n/\∃i l H',Inv X a l H' U/\tn i U.heap/\(∀b∈C,H' b=none)/\W i m l H':=fun{c q} t L=>by
   obtain⟨m',hm,w7⟩:=hN c q L
   refine⟨m',hm,i+1,c,q,t.unpinned,T.keep _ _ _ z fun b j o e=>(t.pin (b,o) (BR5 _ (BR5 _ (T3 j e)))).1,fun b j=>?_,w7⟩
   obtain⟨o,e,d⟩:=T.obj _ _ z b j
   exact(t.pin (b,o) (BR5 _ (BR5 _ (T3 j e)))).2.1
  cases f with
  | next=>obtain⟨c,q,t,L⟩:=y;exact again t L
  | cont=>obtain⟨c,q,t,L⟩:=y;exact again t L
  | brk=>obtain⟨c,q,t,y⟩:=y;exact⟨c,q,t.unpinned,y⟩
  | ret v=>obtain⟨x7,c,q,t,r7,y⟩:=y;exact⟨x7,c,q,t.unpinned,r7,y⟩
end
abbrev R2:=V->V->Hp->VK->Prop
def OpR (X:Cx)(f:Value->Value->Sem Value)(r:R2):Prop :=
 ∀(pins:List (Addr×Obj)) (s:BP9) (σ:St) (H:Hp) (x y:V) (v u:Value) (Q:VK),Inv X pins σ H s->RelV x v->RelV y u->r x y H Q ->
  wpAny (model X.prog X.w) X.A (f v u) (EP X pins σ Q) X.xe s
def UnR (X:Cx)(f:Value->Sem Value)(r:V->Hp->VK->Prop):Prop :=
 ∀(pins:List (Addr×Obj)) (s:BP9) (σ:St) (H:Hp) (x:V) (v:Value) (Q:VK),Inv X pins σ H s->RelV x v->r x H Q ->
  wpAny (model X.prog X.w) X.A (f v) (EP X pins σ Q) X.xe s
def CallR (X:Cx)(f:Value)(r:List V->Hp->VK->Prop):Prop :=
 ∀(pins:List (Addr×Obj)) (s:BP9) (σ:St) (H:Hp) (xs:List V) (us:List Value) (Q:VK),Inv X pins σ H s->Vals xs us->r xs H Q ->
  wpAny (model X.prog X.w) X.A (call f us) (EP X pins σ Q) X.xe s
def rI (C:Int->Int->Prop)(g:Int->Int->V):R2:=fun x y H Q=>∃i j,x=.int i/\y=.int j/\C i j/\Q (g i j) H
def rI0 (g:Int->Int->V):R2:=fun x y H Q=>∃i j,x=.int i/\y=.int j/\Q (g i j) H
def rU (g:Int->V):V->Hp->VK->Prop:=fun x H Q=>∃i,x=.int i/\Q (g i) H
section
variable {X:Cx}{a b c:Expr}{ta tb tc:TE}{pos:Pos}
theorem opI {f:Value->Value->Sem Value}{g:Int->Int->Int}
  (rule:∀(i j:Int) (t u:Tok) (s:BP9) (Q:Value->BP9->Prop) (E:Value->BP9->Prop),C i j->Q (.int (g i j) s.toks) {s with toks:=s.toks+1}->wpAny (model X.prog X.w) X.A (f (.int i t) (.int j u)) Q E s) :
  OpR X f (rI C fun i j=>.int (g i j)):=by
 intro a s k H x y v u Q I b c h
 obtain⟨i,j,rfl,rfl,d,q⟩:=h
 obtain⟨t,rfl⟩:=b
 obtain⟨e,rfl⟩:=c
 exact rule i j t e s _ _ d ⟨.int (g i j),H,I.tok _,⟨_,rfl⟩,q⟩
theorem BJ8 {f:Value->Value->Sem Value}{g:Int->Int->Int}
  (rule:∀(i j:Int) (t u:Tok) (s:BP9) (Q:Value->BP9->Prop) (E:Value->BP9->Prop),Q (.int (g i j) s.toks) {s with toks:=s.toks+1}->wpAny (model X.prog X.w) X.A (f (.int i t) (.int j u)) Q E s) :
  OpR X f (rI0 fun i j=>.int (g i j)):=by
 intro a s e H x y v u Q I b c h
 obtain⟨i,j,rfl,rfl,q⟩:=h
 obtain⟨t,rfl⟩:=b
 obtain⟨d,rfl⟩:=c
 exact rule i j t d s _ _ ⟨.int (g i j),H,I.tok _,⟨_,rfl⟩,q⟩
theorem AN1 {f:Value->Value->Sem Value}{g:Int->Int->Bool}
  (rule:∀(i j:Int) (t u:Tok) (s:BP9) (Q:Value->BP9->Prop) (E:Value->BP9->Prop),Q (.bool (g i j)) s->wpAny (model X.prog X.w) X.A (f (.int i t) (.int j u)) Q E s) :
  OpR X f (rI0 fun i j=>.bl (g i j)):=by
 intro a s e H x y v u Q I b c h
 obtain⟨i,j,rfl,rfl,q⟩:=h
 obtain⟨t,rfl⟩:=b
 obtain⟨d,rfl⟩:=c
 exact rule i j t d s _ _ ⟨.bl (g i j),H,I,rfl,q⟩
def AV8 (i j:Int):Prop:=0<=j/\j<=1000000/\i.natAbs<2^64
def CMul (i j:Int):Prop:=(-(2^64)<i/\i<2^64)\/(-(2^64)<j/\j<2^64)
theorem CMul.ok {i j:Int}(h:CMul i j):IntMulOk i j:=by
 rcases h with⟨a,b⟩|⟨a,b⟩
 ·exact .of_left (intBits_le_64 a b)
 ·exact .of_right (intBits_le_64 a b)
theorem BA9:OpR X (BY6 .Add) (rI0 fun i j=>.int (i+j)):=BJ8 fun _ _ _ _ _ _ _ q=>add_int q
theorem BB3:OpR X (BY6 .Sub) (rI0 fun i j=>.int (i-j)):=BJ8 fun _ _ _ _ _ _ _ q=>sub_int q
theorem BB1:OpR X (BY6 .Mod) (rI (fun _ j=>0<j) fun i j=>.int (i % j)):=opI fun i j _ _ _ _ _ a q=>by
 exact mod_int' (by lia) (by rw[Int.fmod_eq_emod_of_nonneg i (by lia)];exact q)
theorem BB2:OpR X (BY6 .Pow) (rI AV8 fun i j=>.int (i^j.toNat)):=opI fun _ _ _ _ _ _ _ a q=>pow_int_small a.1 a.2.1 a.2.2 q
theorem unI {f:Value->Sem Value}{g:Int->Int}
  (rule:∀(i:Int) (t:Tok) (s:BP9) (Q:Value->BP9->Prop) (E:Value->BP9->Prop),Q (.int (g i) s.toks) {s with toks:=s.toks+1}->wpAny (model X.prog X.w) X.A (f (.int i t)) Q E s) :
  UnR X f (rU fun i=>.int (g i)):=by
 intro a s c H x v Q I b h
 obtain⟨i,rfl,q⟩:=h
 obtain⟨t,rfl⟩:=b
 exact rule i t s _ _ ⟨.int (g i),H,I.tok _,⟨_,rfl⟩,q⟩
theorem BF2:UnR X (unaryOp .USub) (rU fun i=>.int (-i)):=unI fun _ _ _ _ _ q=>neg_int q
end
def BL7:V->V->Bool
 | .non,.non=>true|.non,.int _=>true|.int _,.non=>true|.non,.bl _=>true|.bl _,.non=>true|.non,.str _=>true|.str _,.non=>true
 | .int _,.int _=>true|.bl _,.bl _=>true|.str _,.str _=>true|.byt _,.byt _=>true
 | .int _,.str _=>true|.str _,.int _=>true|.bl _,.str _=>true|.str _,.bl _=>true
 | _,_=>false
def rEq:R2:=fun x y H Q=>BL7 x y=true/\Q (.bl (decide (x=y))) H
def rNe:R2:=fun x y H Q=>BL7 x y=true/\Q (.bl (!decide (x=y))) H
theorem TF {i j:Int}:decide (V.int i=V.int j)=(i==j):=by
 rw[CF2]
 simp
theorem ZP {i j:Bool}:decide (V.bl i=V.bl j)=(i==j):=by
 rw[CF2]
 simp
theorem EI {i j:Str}:decide (V.str i=V.str j)=(i==j):=by
 rw[CF2]
 simp
theorem TC {i j:Array UInt8}:decide (V.byt i=V.byt j)=(i.toList==j.toList):=by
 rw[CF2]
 cases i
 cases j
 simp
section
variable {X:Cx}{a b c:Expr}{ta tb tc:TE}{pos:Pos}
theorem D3 {σ:St}{H:Hp}{Q:VK}{k a:Bool}(I:Inv X pins σ H s)(q:Q (.bl k) H)(e:k=a):EP X pins σ Q (.bool a) s:=by
 subst e
 exact⟨.bl k,H,I,rfl,q⟩
theorem BJ9:OpR X (BT0 .Eq) rEq:=by
 intro e s f H x y v u Q I d a h
 obtain⟨c,q⟩:=h
 cases x with
 | non =>
  cases d
  cases y with
  | non=>cases a;exact PySem.EqNone.eq_none_none (D3 I q (by simp))
  | bl j=>cases a;exact PySem.EqNone.eq_none_bool (D3 I q (by simp))
  | int j=>obtain⟨b,rfl⟩:=a;exact PySem.EqNone.eq_none_int (D3 I q (by simp))
  | str j=>obtain⟨b,rfl⟩:=a;exact PySem.EqNone.eq_none_str (D3 I q (by simp))
  | _=>exact absurd (show false=true from c) BQ5
 | bl i =>
  cases d
  cases y with
  | non=>cases a;exact PySem.EqNone.eq_bool_none (D3 I q (by simp))
  | bl j=>cases a;exact eq_bool (D3 I q ZP)
  | str j=>obtain⟨b,rfl⟩:=a;exact PySem.EqMixed.eq_bool_str (D3 I q (by simp))
  | _=>exact absurd (show false=true from c) BQ5
 | int i =>
  obtain⟨t,rfl⟩:=d
  cases y with
  | non=>cases a;exact PySem.EqNone.eq_int_none (D3 I q (by simp))
  | int j=>obtain⟨b,rfl⟩:=a;exact eq_int (D3 I q TF)
  | str j=>obtain⟨b,rfl⟩:=a;exact PySem.EqMixed.eq_int_str (D3 I q (by simp))
  | _=>exact absurd (show false=true from c) BQ5
 | str i =>
  obtain⟨t,rfl⟩:=d
  cases y with
  | non=>cases a;exact PySem.EqNone.eq_str_none (D3 I q (by simp))
  | bl j=>cases a;exact PySem.EqMixed.eq_str_bool (D3 I q (by simp))
  | int j=>obtain⟨b,rfl⟩:=a;exact PySem.EqMixed.eq_str_int (D3 I q (by simp))
  | str j=>obtain⟨b,rfl⟩:=a;exact eq_str (D3 I q EI)
  | _=>exact absurd (show false=true from c) BQ5
 | byt i =>
  obtain⟨t,rfl⟩:=d
  cases y with
  | byt j=>obtain⟨b,rfl⟩:=a;exact PySem.W.eq_bytes (D3 I q TC)
  | _=>exact absurd (show false=true from c) BQ5
 | _=>cases y<;>exact absurd (show false=true from c) BQ5
theorem BK4:OpR X (BT0 .NotEq) rNe:=by
 intro e s f H x y v u Q I d a h
 obtain⟨c,q⟩:=h
 cases x with
 | non =>
  cases d
  cases y with
  | non=>cases a;exact PySem.EqNone.ne_none_none (D3 I q (by simp))
  | bl j=>cases a;exact PySem.EqNone.ne_none_bool (D3 I q (by simp))
  | int j=>obtain⟨b,rfl⟩:=a;exact PySem.EqNone.ne_none_int (D3 I q (by simp))
  | str j=>obtain⟨b,rfl⟩:=a;exact PySem.EqNone.ne_none_str (D3 I q (by simp))
  | _=>exact absurd (show false=true from c) BQ5
 | bl i =>
  cases d
  cases y with
  | non=>cases a;exact PySem.EqNone.ne_bool_none (D3 I q (by simp))
  | bl j=>cases a;exact ne_bool (D3 I q (congrArg not ZP))
  | str j=>obtain⟨b,rfl⟩:=a;exact PySem.EqMixed.ne_bool_str (D3 I q (by simp))
  | _=>exact absurd (show false=true from c) BQ5
 | int i =>
  obtain⟨t,rfl⟩:=d
  cases y with
  | non=>cases a;exact PySem.EqNone.ne_int_none (D3 I q (by simp))
  | int j=>obtain⟨b,rfl⟩:=a;exact ne_int (D3 I q (congrArg not TF))
  | str j=>obtain⟨b,rfl⟩:=a;exact PySem.EqMixed.ne_int_str (D3 I q (by simp))
  | _=>exact absurd (show false=true from c) BQ5
 | str i =>
  obtain⟨t,rfl⟩:=d
  cases y with
  | non=>cases a;exact PySem.EqNone.ne_str_none (D3 I q (by simp))
  | bl j=>cases a;exact PySem.EqMixed.ne_str_bool (D3 I q (by simp))
  | int j=>obtain⟨b,rfl⟩:=a;exact PySem.EqMixed.ne_str_int (D3 I q (by simp))
  | str j=>obtain⟨b,rfl⟩:=a;exact ne_str (D3 I q (congrArg not EI))
  | _=>exact absurd (show false=true from c) BQ5
 | byt i =>
  obtain⟨t,rfl⟩:=d
  cases y with
  | byt j=>obtain⟨b,rfl⟩:=a;exact PySem.W.ne_bytes (D3 I q (congrArg not TC))
  | _=>exact absurd (show false=true from c) BQ5
 | _=>cases y<;>exact absurd (show false=true from c) BQ5
theorem BK3:OpR X (BT0 .Lt) (rI0 fun i j=>.bl (decide (i<j))):=AN1 fun _ _ _ _ _ _ _ q=>lt_int q
theorem BK2:OpR X (BT0 .LtE) (rI0 fun i j=>.bl (decide (i<=j))):=AN1 fun _ _ _ _ _ _ _ q=>le_int q
theorem BK1:OpR X (BT0 .Gt) (rI0 fun i j=>.bl (decide (j<i))):=AN1 fun _ _ _ _ _ _ _ q=>gt_int q
theorem BK0:OpR X (BT0 .GtE) (rI0 fun i j=>.bl (decide (j<=i))):=AN1 fun _ _ _ _ _ _ _ q=>ge_int q
theorem XD:OpR X (BT0 .In) (fun x y H Q=>∃i j,x=.str i/\y=.str j/\Q (.bl (!(CD0 j i 0 j.length 1).isEmpty)) H):=by
 intro a s d H x y v u Q I b c h
 obtain⟨i,j,rfl,rfl,q⟩:=h
 obtain⟨t,rfl⟩:=b
 obtain⟨e,rfl⟩:=c
 exact in_str (D3 I q rfl)
theorem BB0:OpR X (BT0 .Is) (fun x y H Q=>y=.non/\Q (.bl (decide (x=.non))) H):=by
 intro a s d H x y v u Q I b c h
 obtain⟨rfl,q⟩:=h
 cases c
 refine is_none_gen (D3 I q ?_)
 cases x<;>first
  | (cases b;rfl)
  | (obtain⟨t,rfl⟩:=b;rfl)
theorem AN3:OpR X (BT0 .IsNot) (fun x y H Q=>y=.non/\Q (.bl (!decide (x=.non))) H):=by
 intro a s d H x y v u Q I b c h
 obtain⟨rfl,q⟩:=h
 cases c
 refine isnot_none_gen (D3 I q ?_)
 cases x<;>first
  | (cases b;rfl)
  | (obtain⟨t,rfl⟩:=b;rfl)
theorem MA:OpR X (BT0 .NotIn) (fun x y H Q=>∃i j,x=.str i/\y=.str j/\Q (.bl (!(!(CD0 j i 0 j.length 1).isEmpty))) H):=by
 intro a s d H x y v u Q I b c h
 obtain⟨i,j,rfl,rfl,q⟩:=h
 obtain⟨t,rfl⟩:=b
 obtain⟨e,rfl⟩:=c
 exact notIn_str (D3 I q rfl)
theorem CN:(BQ6:Nat)<2^63:=by decide
theorem RL:OpR X (BY6 .Add) (fun x y H Q=>∃i j,x=.str i/\y=.str j/\i.length+j.length<=BQ6/\Q (.str (i++j)) H):=by
 intro a s f H x y v u Q I b c h
 obtain⟨i,j,rfl,rfl,d,q⟩:=h
 obtain⟨t,rfl⟩:=b
 obtain⟨e,rfl⟩:=c
 exact add_str (fun e g=>⟨.str (i++j),H,I.tok _,⟨_,rfl⟩,q⟩) d
theorem vals1 {x:V}(r:Vals [x] us):∃u,us=[u]/\RelV x u:=by
 cases r with
 | cons a b=>cases b;exact⟨_,rfl,a⟩
theorem vals2 {x y:V}(r:Vals [x,y] us):∃u w',us=[u,w']/\RelV x u/\RelV y w':=by
 cases r with
 | cons a b =>
  cases b with
  | cons c d=>cases d;exact⟨_,_,rfl,a,c⟩
theorem WC (c:X.calm=true):CallR X (.builtin "max") (fun xs H Q=>∃i j,xs=[.int i,.int j]/\Q (.int (if j>i then j else i)) H):=by
 intro b s d H xs e Q I r h
 obtain⟨i,j,rfl,q⟩:=h
 obtain⟨u,f,rfl,⟨t,rfl⟩,⟨g,rfl⟩⟩:=vals2 r
 refine max_two_ints (I.ok.hd c) fun l m k=>⟨_,H,I.kept k,?_,q⟩
 by_cases a:j>i
 ·rw[if_pos a,if_pos a];exact⟨_,rfl⟩
 ·rw[if_neg a,if_neg a];exact⟨_,rfl⟩
theorem WB:CallR X (.type "int") (fun xs H Q=>(∃i,xs=[.int i]/\Q (.int i) H)\/∃k,xs=[.bl k]/\Q (.int (if k then 1 else 0)) H):=by
 intro a s c H xs d Q I r h
 rcases h with⟨i,rfl,q⟩|⟨k,rfl,q⟩
 ·obtain⟨u,rfl,t,rfl⟩:=vals1 r
  exact call_int_int ⟨.int i,H,I,⟨_,rfl⟩,q⟩
 ·obtain⟨u,rfl,b⟩:=vals1 r
  cases b
  exact call_int_bool ⟨.int (if k then 1 else 0),H,I.tok _,⟨_,rfl⟩,q⟩
end
section
variable {prog:BT5}{w:World}{A:BY4}{E:Value->BP9->Prop}{s:BP9}{K:BP3}{x dx C f:Addr}{mA:Str->Option Value}{name:Str}{v:Value}
end
theorem RelO.some_of {v:V}{o:Option Value}(r:RelO (some v) o):∃u,o=some u/\RelV v u:=by
 cases o with
 | none=>exact(show False from r).elim
 | some u=>exact⟨u,rfl,r⟩
section
variable {P:BT5}{w:World}{H H':Hp}{h h':Heap}{a C dx:Addr}{fs fs':List (Str×V)}
end
section
variable {X:Cx}{pins:List (Addr×Obj)}{σ:St}{H:Hp}{s:BP9}{a C dx:Addr}{fs:List (Str×V)}{f:Str}{v:V}{A:BY4}{E:Value->BP9->Prop}
end
section
variable {X:Cx}{o e value:Expr}{f:Str}{pos pos' tpos:Pos}{ta tv:TE}
end
section
variable {X:Cx}{pins:List (Addr×Obj)}{σ:St}{H:Hp}{s:BP9}{A:BY4}{E:Value->BP9->Prop}{Q:Value->BP9->Prop}{c:Value}{b:Bool}
end
structure Room (k:Nat)(A:BY4):Prop where
 hd:A.handled=none
 dp:A.depth+3*k+5<recursionLimit
 un:A.units+16*k+200<cLine
 gd:A.guards=some []
theorem Room.mono {k:Nat}(r:Room k A)(h:j<=k):Room j A:=⟨r.hd,by have:=r.dp;lia,by have:=r.un;lia,r.gd⟩
theorem Room.deeper {k:Nat}(r:Room (k+1) A)(env:Env):Room k (A.deeper env) :=
 ⟨r.hd,by have:=r.dp;show A.depth+1+3*k+5<_;lia,by have:=r.un;show A.units+3+16*k+200<_;lia,r.gd⟩
theorem Room.depth {k:Nat}(r:Room k A):A.depth<recursionLimit:=by have:=r.dp;lia
theorem Room.units {k:Nat}(r:Room k A):A.units+64<cLine:=by have:=r.un;lia
def BO8:TA:=fun _ H Q=>Q [] H
section
variable {X:Cx}{e:Expr}{es:List Expr}{te:TE}{t:TA}{pos:Pos}
def BO9 (t:TA):TE:=fun σ H Q=>t σ H fun xs H1=>xs.length<=BQ6/\∀p,H1 p=none->Q (.ref p) (upd H1 p (.tup xs))
def BO7 (t:TA):TE:=fun σ H Q=>t σ H fun xs H1=>xs.length<=BQ6/\∀p,H1 p=none->Q (.ref p) (upd H1 p (.lst xs))
theorem BC6 {x1}(h:PA X es t):PE X (.Tuple es x1 pos) (BO9 t):=by
 intro a s f H Q I g
 refine wpAny_Tuple_spliced (thn (h pos a s f H _ I g) fun i c ⟨j,k,d,r,z,q⟩=>⟨by rw[<-r.length];exact z,?_⟩)
 have l:=d.hok.fresh (BP5 _)
 refine⟨.ref c.heap.objs.size,upd k c.heap.objs.size (.tup j),d.laid (t':=c.toks) (fun b u e=>BP4 _ e) (BP5 _) ?_,rfl,q _ l⟩
 exact⟨z,i,r,⟨_,BR2 _ rfl,rfl,_,rfl⟩⟩
theorem AD2 (h:PA X es t):PE X (.List es pos) (BO7 t):=by
 intro a s f H Q I g
 refine wpAny_List_spliced (thn (h pos a s f H _ I g) fun i c ⟨j,k,d,r,z,q⟩=>⟨by rw[<-r.length];exact z,?_⟩)
 have l:=d.hok.fresh (BP5 _)
 refine⟨.ref c.heap.objs.size,upd k c.heap.objs.size (.lst j),d.laid (t':=c.toks) (fun b u e=>BP4 _ e) (BP5 _) ?_,rfl,q _ l⟩
 exact⟨z,i,0,r,BR2 _ rfl⟩
end
abbrev Sp:=List V->Hp->VK->XK->Prop
abbrev CXT:=List Env->Hp->BP9->XK->Value->BP9->Prop
structure AJ5 (P:BT5)(w:World)(K:BP3)(mg:Str->Option Value)(base:Heap)(A:BY4)(outer:List Env)(s:BP9)(H:Hp):Prop where
 frames:A.frames=some outer
 mod:Mod K mg base
 bs:∀b o,base.get? b=some o->s.heap.get? b=some o/\H b=none
 bsz:base.objs.size<=s.heap.objs.size
 funs:s.heap.FunFrames base outer
 frf:∀b∈frs outer,H b=none
 hok:HOk P w H s.heap
 bare:AllBare s.gens
def CE (outer:List Env)(P:BT5)(w:World)(H:Hp)(s:BP9)(Q:VK)(u:Value)(s':BP9):Prop :=
 ∃v H',s'.os=s.os/\AllBare s'.gens/\Un (frs outer) [] H H' s.heap s'.heap/\HOk P w H' s'.heap/\RelV v u/\Q v H'
def CR (CX:CXT)(outer:List Env)(P:BT5)(w:World)(H:Hp)(s:BP9)(Q:VK)(E:XK)(r:Result)(s':BP9):Prop :=
 match r with
 | .ok (.ret u)=>CE outer P w H s Q u s'
 | .ok _=>False
 | .error e=>CX outer H s E e s'
structure Y9 (P:BT5)(w:World)(K:BP3)(mg:Str->Option Value)(base:Heap)(CX:CXT)(k:Nat)(f:Addr)(fd:CD4)(ps:List Str)(sp:Sp):Prop where
 len:∀vs H Q E,sp vs H Q E->vs.length=ps.length
 run:∀(A:BY4) (outer:List Env) (s:BP9) (H:Hp) (args:Args) (us:List Value) (vs:List V) (Q:VK) (E:XK),Room k A->AJ5 P w K mg base A outer s H->BindsTo s fd args (ps.zip us)->Vals vs us->sp vs H Q E ->
  codeAny (model P w) A (.call (.ref f) args) (CR CX outer P w H s Q E) s
section
variable {X:Cx}{pins:List (Addr×Obj)}{σ:St}{H:Hp}{s s':BP9}
theorem Inv.env0 (I:Inv X pins σ H s):AJ5 X.prog X.w X.K X.mg X.base X.A X.stack s H :=
 ⟨I.ok.frames,I.ok.mod,I.bs,BS7 I.ok.bsz I.sz,I.stack,I.stkFree,I.hok,I.bare⟩
theorem Inv.after {Q:VK}(I:Inv X pins σ H s)(h:CE X.stack X.prog X.w H s Q u s'):EP X pins σ Q u s':=by
 obtain⟨v,f,os,a,un,c,r,q⟩:=h
 obtain⟨i,g,d,t,e⟩:=s'
 obtain rfl:e=s.os:=os
 exact⟨v,f,I.call (h':=i) (g':=g) (d':=d) (t':=t) (ch:=[]) un c a (fun b z=>absurd z (by simp)),r,q⟩
end
def AV5 (sp:Sp)(dvs:List V)(E:XK)(t:TA):TE:=fun σ H Q=>t σ H fun vs H1=>sp (vs++dvs) H1 Q E
def Binds (K:BP3)(fd:CD4)(ps:List Str)(ds:List Value):Prop :=
 ∀(s:BP9) (us:List Value),K.In s.heap->(us++ds).length=ps.length->BindsTo s fd ⟨us,[]⟩ (ps.zip (us++ds))
theorem Binds.all (h:∀us:List Value,us.length=ps.length->bindArgs fd ⟨us,[]⟩=pure (ps.zip us)):Binds K fd ps []:=fun s us _ a=>by
 rw[BV1] at a ⊢
 exact .of_eq (h us a)
def KS (CX:CXT)(X:Cx)(E:XK):Prop:=∀(pins:List (Addr×Obj)) (σ:St) (H:Hp) (s:BP9) (e:Value) (s':BP9),Inv X pins σ H s->CX X.stack H s E e s'->X.xe e s'
section
variable {X:Cx}{CX:CXT}{k:Nat}{f C:Addr}{fd:CD4}{ps:List Str}{sp:Sp}{dvs:List V}{ds:List Value}{E:XK}{x m:Str}{p pos apos:Pos}{e o:Expr}{es:List Expr}{ta:TE}{t:TA}
theorem AH8 {σ:St}{H:Hp}{Q:VK}{vs:List V}(F:Y9 X.prog X.w X.K X.mg X.base CX k f fd ps sp)(c:Room k X.A)(d:Binds X.K fd ps ds)(hd:Vals dvs ds)(g:KS CX X E)
  (I:Inv X pins σ H s) (r:Vals vs us) (h:sp (vs++dvs) H Q E):wpAny (model X.prog X.w) X.A (call (.ref f) us) (EP X pins σ Q) X.xe s:=by
 have b:=r.append hd
 have i:(us++ds).length=ps.length:=by rw[<-b.length];exact F.len _ _ _ _ h
 refine wpAny_call (codeAny_mono (F.run X.A X.stack s H ⟨us,[]⟩ (us++ds) (vs++dvs) Q E c I.env0 (d s us I.kIn i) b h) fun r j a=>?_)
 cases r with
 | error e=>exact g pins σ H s e j I a
 | ok l =>
  cases l with
  | ret u=>exact I.after a
  | next=>exact False.elim a
  | brk=>exact False.elim a
  | cont=>exact False.elim a
theorem AO8 (F:Y9 X.prog X.w X.K X.mg X.base CX k f fd ps sp)(g:Room k X.A)(i:Gl X x)(j:X.mg x=some (.ref f))(l:BV3 X.K (.ref f)=true)(m:Binds X.K fd ps ds)(hd:Vals dvs ds)(n:KS CX X E)
  (o:PA X (e::es) t) (b:(x==("__debug__":Str))=false:=by decide) (u:BR9 (e::es) X.env=(false,eval e X.env)::BR9 es X.env:=by rfl) (c:(CD9 pos (BR9 es X.env)).any (·.1)=false:=by rfl) :
  PE X (.Call (.Name x p) (e::es) [] pos) (AV5 sp dvs E t):=by
 intro a s v H Q I h
 refine CB2 (LP I i j ?_ b)
 refine PySem.W.callWith_K (h₀:=X.base) I.ok.mod.kin l (thn (o pos a s v H _ I h) fun y z ⟨B,C,d,r,q⟩=>⟨d.kIn,?_⟩) u c
 exact AH8 F g m hd n d r q
theorem AD1 (F:Y9 X.prog X.w X.K X.mg X.base CX k f fd ps sp)(c:Room k X.A)(d:Gl X x)(e:X.mg x=some (.ref f))(g:BV3 X.K (.ref f)=true)(i:Binds X.K fd ps ds)(hd:Vals dvs ds)(j:KS CX X E)
  (a:(x==("__debug__":Str))=false:=by decide):PE X (.Call (.Name x p) [] [] pos) (AV5 sp dvs E BO8):=by
 intro b s l H Q I h
 refine CB2 (LP I d e ?_ a)
 exact PySem.W.callWith_K0 I.kIn g (AH8 (us:=[]) F c i hd j I .nil h)
end
section
variable {X:Cx}{CX:CXT}{k:Nat}{f C:Addr}{fd:CD4}{ps ks:List Str}{sp:Sp}{E:XK}{x m:Str}{p pos apos kpos:Pos}{e o:Expr}{es:List Expr}{kws:List Keyword}{te ta:TE}{t tk:TA}{nm:Option Str}
variable {g:List Value->List Value->List Value}{gV:List V->List V->List V}
end
structure S8 (N P:List Str)(sc:Scope):Prop where
 kind:sc.kind=.function
 co:sc.isCoroutine=false
 gen:sc.isGenerator=false
 nd:N.Nodup
 pre:N.take P.length=P
 par:∀x∈P,sc.names.lookup x=some .local\/sc.names.lookup x=some .cell
 nofree:∀y∈sc.names,y.2≠.free
theorem IU {kindOf:Str->Option BZ9}{x:Str}:∀{binds:List (Str×Value)} {m:Str->Option Value},(∀v,(x,v)∉binds)->bindL kindOf binds m x=m x
 | [],_,_=>rfl
 | (n,v)::r,m,h=>by
  unfold bindL
  rw[IU fun w a=>h w (BQ4 _ a)]
  split
  ·have:x≠n:=by rintro rfl;exact h v BQ7
   simp[this]
  ·rfl
theorem IS {kindOf:Str->Option BZ9}{x:Str}:∀{binds:List (Str×Value)} {m:Str->Option Value},(∀v,(x,v)∉binds)->bindC kindOf binds m x=m x
 | [],_,_=>rfl
 | (n,v)::r,m,h=>by
  unfold bindC
  rw[IS fun w a=>h w (BQ4 _ a)]
  split
  ·rfl
  ·have:x≠n:=by rintro rfl;exact h v BQ7
   simp[this]
theorem IT {kindOf:Str->Option BZ9}{x:Str}{v:Value}:∀{P:List Str} {vs:List Value} {i:Nat} {m:Str->Option Value},P.Nodup->P[i]?=some x->vs[i]?=some v->kindOf x=some .local ->
  bindL kindOf (P.zip vs) m x=some v
 | [],_,_,_,_,h,_,_=>by simp at h
 | _::_,[],_,_,_,_,h,_=>by simp at h
 | p::P,w::vs,0,m,nd,h1,h2,hk=>by
  simp at h1 h2;subst h1;subst h2
  show bindL kindOf ((p,w)::P.zip vs) m p=_
  unfold bindL
  rw[IU fun v a=>(List.nodup_cons.mp nd).1 (List.of_mem_zip a).1,if_pos hk]
  simp
 | p::P,w::vs,i+1,m,nd,h1,h2,hk=>by
  unfold bindL
  exact IT (i:=i) (List.nodup_cons.mp nd).2 (by simpa using h1) (by simpa using h2) hk
theorem IR {kindOf:Str->Option BZ9}{x:Str}{v:Value}:∀{P:List Str} {vs:List Value} {i:Nat} {m:Str->Option Value},P.Nodup->P[i]?=some x->vs[i]?=some v->kindOf x≠some .local ->
  bindC kindOf (P.zip vs) m x=some v
 | [],_,_,_,_,h,_,_=>by simp at h
 | _::_,[],_,_,_,_,h,_=>by simp at h
 | p::P,w::vs,0,m,nd,h1,h2,hk=>by
  simp at h1 h2;subst h1;subst h2
  show bindC kindOf ((p,w)::P.zip vs) m p=_
  unfold bindC
  rw[IS fun v a=>(List.nodup_cons.mp nd).1 (List.of_mem_zip a).1,if_neg hk]
  simp
 | p::P,w::vs,i+1,m,nd,h1,h2,hk=>by
  unfold bindC
  exact IR (i:=i) (List.nodup_cons.mp nd).2 (by simpa using h1) (by simpa using h2) hk
def start (N:List Str)(vs:List V):St:=vs.map some++BR6 (N.length-vs.length) none
def RA (CX:CXT)(P:BT5)(w:World)(K:BP3)(mg:Str->Option Value)(base:Heap)(N:List Str)(qual:Str)(scope:Scope)(f:Addr)(cd:Value)(A:BY4)(outer:List Env)(s:BP9)(H:Hp)(E:XK):Cx where
 prog:=P
 w:=w
 K:=K
 mg:=mg
 base:=base
 A:=A.deeper (envOfC qual scope s.heap.objs.size f cd)
 N:=N
 s₀:=s
 H₀:=H
 env:=envOfC qual scope s.heap.objs.size f cd
 outer:=outer
 stack:=envOfC qual scope s.heap.objs.size f cd::outer
 ex:=[]
 calm:=true
 fn:=fun _=>true
 pn:=[]
 xe:=fun e s'=>wpAny (model P w) (A.deeper (envOfC qual scope s.heap.objs.size f cd)) (leaving (envOfC qual scope s.heap.objs.size f cd) e) (fun _ s''=>CX outer H s E e s'') (fun e' s''=>CX outer H s E e' s'') s'
theorem NY {sc:Scope}{n:Nat}(h:sc.names.lookup x=some .cell):∃c,(cellsFrom n sc.names []).lookup x=some c:=by
 have q:=PySem.W.cellsFrom_some sc.names n [] (.inl h)
 exact Option.isSome_iff_exists.mp q
theorem WP {CX:CXT}{base:Heap}{f:Addr}{o:Value}{outer:List Env}{s1:BP9}{H:Hp}{E:XK}{vs:List V}
  (S:S8 N ps scope) (hd:A.handled=none) (g:AJ5 P w K mg base A outer s H) (J:vs.length=ps.length) (r:Vals vs us)
  (x:InCallC s s.heap.objs.size (bindL (envOfC qual scope s.heap.objs.size f o).kindOf (ps.zip us) fun _=>none) (cellsFrom (s.heap.objs.size+1) scope.names []) (bindC (envOfC qual scope s.heap.objs.size f o).kindOf (ps.zip us) fun _=>none) s1) :
  Inv (RA CX P w K mg base N qual scope f o A outer s H E) [] (start N vs) H s1:=by
 have F:ps.length<=N.length:=by have:=congrArg BW0 S.pre;rw[BT3] at this;lia
 obtain⟨t,L,rfl,C⟩:=x.done
 have j:∀b:Addr,b∉(RA CX P w K mg base N qual scope f o A outer s H E).ex:=fun b z=>absurd (show b∈([]:List Addr) from z) (by simp)
 refine⟨⟨g.mod,S.kind,rfl,rfl,BP5 _,fun y z c t d=>?_,fun y hy=>?_,fun y c _ h=>?_,fun _=>hd,Around.frames_deeper g.frames,.inr ⟨rfl,rfl⟩,fun b z=>absurd z (j b),g.bs,g.bsz,fun b _ _=>j b,fun b z=>absurd z (j b),g.funs,g.frf⟩,
  rfl,g.bare,Un.kept C,⟨_,x.toInCall.ns,fun i y v t d M=>?_⟩,fun y c h=>⟨_,x.cell y c h⟩,g.hok.fresh (BP5 _),fun y c h=>?_,fun p l=>absurd (show p∈([]:List (Addr×Obj)) from l) (by simp),g.hok.kept C,?_⟩
 ·exact name_of_addr x.apart (BS4 t) (BS4 d)
 ·rcases hy with hy|hy
  ·exact NY hy
  ·exact absurd rfl (S.nofree _ (BS4 hy))
 ·exact Nat.le_of_lt (x.above y c (BS4 h))
 ·have B:i<vs.length:=by
   unfold start at d
   by_cases B:i<vs.length
   ·exact B
   ·rw[BS6 (by simpa using B)] at d
    rw[BX5] at d
    split at d<;>cases d
  have G:vs[i]?=some v:=by
   unfold start at d
   rw[BS2 (by simpa using B),BQ3] at d
   cases e:vs[i]? with
   | none=>rw[e] at d;cases d
   | some a=>rw[e] at d;cases d;rfl
  obtain⟨u,D,I⟩:=r.get G
  have l:ps[i]?=some y:=by
   rw[<-S.pre,BV8 (by lia)];exact t
  have m:ps.Nodup:=by rw[<-S.pre];exact S.nd.sublist (List.take_sublist _ _)
  refine⟨u,I,?_⟩
  rcases S.par y (BQ1 l) with k|k
  ·exact .inl ⟨k,IT m l D k⟩
  ·obtain⟨c,e⟩:=NY (n:=s.heap.objs.size+1) k
   refine .inr ⟨.inl k,c,e,?_⟩
   have q:=x.cell y c e
   rw[IR m l D (by show scope.names.lookup y≠_;rw[k];decide)] at q
   exact q
 ·exact g.hok.fresh (Nat.le_of_lt (x.above y c (BS4 h)))
 ·unfold start
  show _=N.length
  rw[BP7,BP1,BZ0]
  lia
theorem BH0 {CX:CXT}{base:Heap}{k:Nat}{f:Addr}{name:Str}{a:Arguments}{C kV pm ct:Value}
  {sp:Sp} (G:K.lookup f=some ⟨oc,od,.func (BW1 name qual a body scope C kV doc pm an cdv ct),osl⟩) (m:CA6 K cdv qual=true) (S:S8 N ps scope)
  (len:∀vs H Q E,sp vs H Q E->vs.length=ps.length)
  (d:∀(A:BY4) (outer:List Env) (s:BP9) (H:Hp) (vs:List V) (Q:VK) (E:XK),Room k (A.deeper (envOfC qual scope s.heap.objs.size f cdv))->sp vs H Q E ->
   ∃t,PSs (RA CX P w K mg base N qual scope f cdv A outer s H E) body t/\t {nx:=fun _ H'=>Q .non H',rt:=Q} (start N vs) H) :
  Y9 P w K mg base CX (k+1) f (BW1 name qual a body scope C kV doc pm an cdv ct) ps sp:=by
 refine⟨len,fun A outer s H D L vs Q E p i M r j=>?_⟩
 have O:=len _ _ _ _ j
 have F:=i.mod.kin.keeps fun b o e=>(i.bs b o e).1
 have z:=i.mod.nolimit.keeps fun b o e=>(i.bs b o e).1
 have g:∀y∈ps.zip L,scope.names.lookup y.1=some .local\/(scope.names.lookup y.1=some .cell/\((cellsFrom (s.heap.objs.size+1) scope.names []).lookup y.1).isSome=true):=fun⟨n,v⟩ R=>by
  rcases S.par n (List.of_mem_zip R).1 with q|q
  ·exact .inl q
  ·exact .inr ⟨q,PySem.W.cellsFrom_some _ _ _ (.inl q)⟩
 refine codeAny_call_function p.depth (F _ _ G) rfl S.co S.gen rfl (PySem.W.codeRec_of F m) (M _ _ _ _ ?_)
 refine wpAny_newFunctionEnv_cells S.kind g fun T U s1 x=>?_
 subst U
 refine⟨z.keeps x.toInCall.keep,codeAny_func ?_⟩
 obtain⟨t,X,Y⟩:=d A outer s H vs Q E (p.deeper _) j
 have I:Inv (RA CX P w K mg base N qual scope f cdv A outer s H E) [] (start N vs) H s1:=WP S p.hd i O r x
 refine BV0 (X [] s1 (start N vs) H _ I Y) (fun Z s' h=>?_) fun e s' h=>h
 have l:∀{c:St} {H':Hp} {v:V} {u:Value},Inv (RA CX P w K mg base N qual scope f cdv A outer s H E) [] c H' s'->RelV v u->Q v H'->CE outer P w H s Q u s' :=
  fun{c H' v u} J B q=>⟨v,H',J.os,J.bare,J.base,J.hok,B,q⟩
 cases Z with
 | ret u =>
  obtain⟨v,c,H',J,B,q⟩:=h
  exact l J B q
 | next =>
  obtain⟨c,H',J,q⟩:=h
  exact l (v:=V.non) (u:=Value.none) J rfl q
 | brk =>
  obtain⟨_,_,_,q⟩:=h
  exact False.elim q
 | cont =>
  obtain⟨_,_,_,q⟩:=h
  exact False.elim q
section
variable {X:Cx}{x:Str}{p pos:Pos}{e:Expr}{es:List Expr}{t:TA}{id T:String}{r:List V->Hp->VK->Prop}
end
end L2
variable {H:L2.Hp}{v:L2.V}{vs:List L2.V}{kvs:List (L2.Key×L2.V)}
namespace HT
open PySem PyProof.Rows
def lexLt:List Int->List Int->Bool
 | [],[]=>false
 | [],_::_=>true
 | _::_,[]=>false
 | x::xs,y::ys=>if x=y then lexLt xs ys else decide (x<y)
section
open PySem.SeqAt
open PySem.AutoSeq1 (wpAny_loadPart')
open PySem.MeetsSeq PySem.MeetsSeq2 PySem.MeetsSeq3
end
section
variable {prog:BT5}{w:World}{A:BY4}{E:Value->BP9->Prop}{s:BP9}
def sIx (n d:Nat):Option Int->Nat
 | none=>d
 | some v=>if v<0 then(v+(n:Int)).toNat else min v.toNat n
theorem PV (n d:Nat):sIx n d none=d:=rfl
theorem SU (v:Int)(n d:Nat):(if v<0 then max (v+(n:Int)) 0 else min v (n:Int))=((sIx n d (some v):Nat):Int):=by
 show(if v<0 then max (v+(n:Int)) 0 else min v (n:Int))=(((if v<0 then(v+(n:Int)).toNat else min v.toNat n):Nat):Int)
 by_cases a:v<0
 ·lia
 ·lia
theorem QW (lo hi:Option Int)(n:Nat):BW3 lo hi 1 (n:Int)=(((sIx n 0 lo:Nat):Int),((sIx n n hi:Nat):Int)):=by
 have a:¬((1:Int)<0):=by lia
 unfold BW3
 refine Prod.ext ?_ ?_
 ·cases lo with
  | none=>rfl
  | some v=>exact SU v n 0
 ·cases hi with
  | none=>rfl
  | some v=>exact SU v n n
theorem RT (i j:Nat):BT7 (i:Int) (j:Int) 1=j-i:=by
 unfold BT7
 have a:(1:Int)>0:=by lia
 split<;>lia
theorem GV {v:Value}{o:Option Int}{Q:Option Int->BP9->Prop}(p:IsPart v o)(h:Q o s):wpAny (model prog w) A (Builtin.Slice.slicePartIndex v) Q E s:=by
 cases p with
 | none=>exact slicePart_none h
 | int i t=>exact slicePart_int h
theorem S3 {c d:Value}{n:Nat}{Q:Int×Int×Nat->BP9->Prop}(hs:s.heap.IsSliceOf sl c d .none)(e:IsPart c lo)(f:IsPart d hi)
  (h:Q (((sIx n 0 lo:Nat):Int),1,sIx n n hi-sIx n 0 lo) s):wpAny (model prog w) A (Builtin.Slice.sliceApplied (.ref sl) (pure (n:Int))) Q E s:=by
 obtain⟨os,a,g,b⟩:=id hs
 refine BP2 (BP2 (BZ7 a b (x:=c) rfl (BP2 (BZ7 a b (x:=d) rfl (BP2 (BZ7 a b (x:=.none) rfl (BP6 ?_)))))))
 refine BP2 (slicePart_none ?_)
 refine BP2 (GV e (BP2 (GV f (BP2 (BP6 ?_)))))
 show wpAny _ _ (match BW3 lo hi 1 (n:Int) with|(lo,hi)=>pure (lo,(1:Int),BT7 lo hi 1)) _ _ s
 rw[QW lo hi n]
 show wpAny _ _ (pure (((sIx n 0 lo:Nat):Int),(1:Int),BT7 ((sIx n 0 lo:Nat):Int) ((sIx n n hi:Nat):Int) 1)) _ _ s
 rw[RT]
 exact BP6 h
theorem AD8 (xs:Array Value)(i k:Nat):((BS8 k).filterMap fun(m:Nat)=>xs[((i:Int)+(m:Int)*1).toNat]?).toArray=((xs.toList.drop i).take k).toArray:=by
 have e:(fun(m:Nat)=>xs[((i:Int)+(m:Int)*1).toNat]?)=fun m=>xs[i+m]?:=by
  funext m
  have:((i:Int)+(m:Int)*1).toNat=i+m:=by lia
  rw[this]
 rw[e]
 have:=pick_run xs i k
 rw[List.filterMap_map] at this
 have a:((fun x=>xs[x]?) ∘ fun x=>i+x)=fun m=>xs[i+m]?:=rfl
 rw[a] at this
 rw[this]
theorem BB {g i:Value}(b:IsTup s.heap t items)(hs:s.heap.IsSliceOf sl g i .none)(j:IsPart g lo)(k:IsPart i hi)
  (l:¬(sIx items.size 0 lo=0/\sIx items.size items.size hi=items.size))
  (h:Q (.ref s.heap.objs.size) {s with heap:=s.heap.push {cls:=.type "tuple",data:=.seq ((items.toList.drop (sIx items.size 0 lo)).take (sIx items.size items.size hi-sIx items.size 0 lo)).toArray}})
  (hsz:items.size<=BQ6):wpAny (model prog w) A (CE6 (.ref t) (.ref sl)) Q E s:=by
 have a:sizeOk (.seq ((items.toList.drop (sIx items.size 0 lo)).take (sIx items.size items.size hi-sIx items.size 0 lo)).toArray):=by
  show((items.toList.drop (sIx items.size 0 lo)).take (sIx items.size items.size hi-sIx items.size 0 lo)).toArray.size<=BQ6
  rw[BR1,BT3,CA0,CC4]
  lia
 obtain⟨os,c,d,n⟩:=id hs
 have e:s.TypeIs (.ref sl) "slice":=⟨os,c,d⟩
 unfold CE6
 try with_reducible refine BU9 ?_
 refine BP2 (wpAny_sequenceKey b.typeIs (by decide) ?_)
 refine BP2 (BY5 (name:=Str.ofString "__getitem__") b.typeIs BU4
  (CC8 BU4 b.typeIs entry_tuple_getitem ?_ (args_tuple_getitem _ _)))
 show wpAny _ _ (BY2 (.ref t) >>= _) _ _ s
 refine BP2 (tupleItemsOf_ b ?_)
 refine BP2 (wpAny_typeOf e ?_)
 refine BP2 (S3 hs j k ?_)
 have f:¬((((sIx items.size 0 lo:Nat):Int)==0 && (1:Int)==1 && (sIx items.size items.size hi-sIx items.size 0 lo)==items.size)=true):=by
  intro q
  rw[BQ0,BQ0] at q
  have o:((sIx items.size 0 lo:Nat):Int)=0:=eq_of_beq q.1.1
  have p:sIx items.size items.size hi-sIx items.size 0 lo=items.size:=eq_of_beq q.2
  exact l ⟨by lia,by lia⟩
 show wpAny _ _ (if (((sIx items.size 0 lo:Nat):Int)==0 && (1:Int)==1 && (sIx items.size items.size hi-sIx items.size 0 lo)==items.size)=true then _ else _) _ _ s
 rw[if_neg f,AD8]
 first
  | exact BP2 (m:=BT9 _) (BT4 (BP6 ⟨_,rfl,BP6 h⟩) a)
  | exact BP2 (m:=BT9 _) (BT4 (BP2 (BP6 (BP6 ⟨_,rfl,BP6 h⟩))) a)
  | exact BP2 (BP2 (m:=BT9 _) (BT4 (BP6 (BP6 ⟨_,rfl,BP6 h⟩)) a))
  | exact BP2 (BP2 (m:=BT9 _) (BT4 (BP6 ⟨_,rfl,BP6 h⟩) a))
end
end HT
namespace L2
open PySem PySem.Spec PyProof.Rows
section
variable {X:Cx}{e:Expr}{te:TE}{lo hi:Option Expr}{tl th:TO}{pos p2:Pos}
def SlR (X:Cx)(r:V->Option Int->Option Int->Hp->VK->Prop):Prop :=
 ∀(pins:List (Addr×Obj)) (s:BP9) (σ:St) (H:Hp) (x:V) (v vl vu:Value) (lo hi:Option Int) (sl:Addr) (Q:VK),Inv X pins σ H s->RelV x v->s.heap.IsSliceOf sl vl vu .none->IsPart vl lo->IsPart vu hi->r x lo hi H Q ->
  ∃T id,typeLookup (.type T) "__getitem__"=pure (some (.builtin id))/\s.TypeIs v T/\wpAny (model X.prog X.w) X.A (CE6 v (.ref sl)) (EP X pins σ Q) X.xe s
theorem SlR.or {r r':V->Option Int->Option Int->Hp->VK->Prop}(h:SlR X r)(h':SlR X r'):SlR X (fun x lo hi H Q=>r x lo hi H Q\/r' x lo hi H Q):=by
 intro a s b H x v c d lo hi e Q I f g i j q
 rcases q with q|q
 ·exact h a s b H x v c d lo hi e Q I f g i j q
 ·exact h' a s b H x v c d lo hi e Q I f g i j q
def OB (xs:List V)(lo hi:Option Int):List V:=(xs.drop (HT.sIx xs.length 0 lo)).take (HT.sIx xs.length xs.length hi-HT.sIx xs.length 0 lo)
theorem DE (xs:List V)(lo hi:Option Int):(OB xs lo hi).length<=xs.length:=by
 unfold OB
 rw[BT3,CA0]
 lia
def AR5 (K:BP3):V->Option Int->Option Int->Hp->VK->Prop:=fun x lo hi H Q=>∃a xs,x=.ref a/\SqT K H a xs /\
 ¬(HT.sIx xs.length 0 lo=0/\HT.sIx xs.length xs.length hi=xs.length)/\∀p,H p=none->Q (.ref p) (upd H p (.tup (OB xs lo hi)))
theorem SF:SlR X (AR5 X.K):=by
 intro g s u H x v w y lo e z Q I k l m n h
 obtain⟨a,d,rfl,p,t,q⟩:=h
 cases k
 obtain⟨f,r,i,j⟩:=I.tuple p
 have c:f.toArray.size=d.length:=by rw[BR1];exact r.length.symm
 refine⟨"tuple",_,PyProof.Rows.slot_tuple_getitem.lookup,i.typeIs,?_⟩
 refine HT.BB i l m n (by rw[c];exact t) ?_ (by rw[c];exact j)
 rw[c]
 refine⟨.ref s.heap.objs.size,_,I.laid (t':=s.toks) (o:=.tup (OB d lo e)) (fun b A q=>BP4 _ q) (BP5 _) ?_,rfl,q _ (I.hok.fresh (BP5 _))⟩
 exact⟨BS7 (DE d lo e) j,_,(r.drop (HT.sIx d.length 0 lo)).take (HT.sIx d.length d.length e-HT.sIx d.length 0 lo),IsTup.new _ _⟩
end
def ixN (n:Nat)(i:Int):Option Nat:=if 0<=i then(if i<n then some i.toNat else none) else if -(n:Int)<=i then some (i+n).toNat else none
def atI {α:Type}(xs:List α)(i:Int):Option α:=(ixN xs.length i).bind fun j=>xs[j]?
theorem TZ {n:Nat}{i:Int}(h:ixN n i=some j):seqIndex? i n=some j/\j<n/\-(n:Int)<=i/\i<n:=by
 unfold ixN at h
 by_cases b:0<=i
 ·rw[if_pos b] at h
  by_cases a:i<n
  ·rw[if_pos a] at h
   have e:=Option.some.inj h
   exact⟨by rw[seqIndex_of b a,e],by lia,by lia,a⟩
  ·rw[if_neg a] at h;cases h
 ·rw[if_neg b] at h
  by_cases a:-(n:Int)<=i
  ·rw[if_pos a] at h
   have e:=Option.some.inj h
   exact⟨by rw[seqIndex_neg (by lia) a,e],by lia,a,by lia⟩
  ·rw[if_neg a] at h;cases h
theorem KY {xs:List α}{i:Int}{v:α}(h:atI xs i=some v):∃j,seqIndex? i xs.length=some j/\xs[j]?=some v/\j<xs.length/\-(xs.length:Int)<=i/\i<xs.length:=by
 unfold atI at h
 cases e:ixN xs.length i with
 | none=>rw[e] at h;cases h
 | some j =>
  rw[e] at h
  obtain⟨a,b,c,d⟩:=TZ e
  exact⟨j,a,h,b,c,d⟩
theorem C2 {xs:List α}{v:α}(h:xs[j]?=some v):atI xs (j:Int)=some v:=by
 have a:=(List.getElem?_eq_some_iff.mp h).1
 have e:ixN xs.length (j:Int)=some j:=by
  unfold ixN
  rw[if_pos (by lia),if_pos (by lia)];simp
 unfold atI;rw[e];exact h
def AJ8 (b:Expr):Prop:=∀o i,subscripted b false o i=operate [o,i] (CE6 o i)
def IxR (X:Cx)(r:R2):Prop :=
 ∀(value slice:Expr) (pins:List (Addr×Obj)) (s:BP9) (σ:St) (H:Hp) (x y:V) (v u:Value) (Q:VK),Inv X pins σ H s->RelV x v->RelV y u->r x y H Q ->
  subscripted slice false v u=operate [v,u] (CE6 v u)->wpAny (model X.prog X.w) X.A (subscriptTail value slice v u) (EP X pins σ Q) X.xe s
section
variable {X:Cx}{a b:Expr}{ta tb:TE}{pos:Pos}
theorem IxR.or {r r':R2}(h:IxR X r)(h':IxR X r'):IxR X (fun x y H Q=>r x y H Q\/r' x y H Q):=by
 intro a b c s d H x y v u Q I e f q g
 rcases q with q|q
 ·exact h a b c s d H x y v u Q I e f q g
 ·exact h' a b c s d H x y v u Q I e f q g
def BL0 (K:BP3):R2:=fun x y H Q=>∃p xs i v,x=.ref p/\y=.int i/\SqL K H p xs/\atI xs i=some v/\Q v H
def BL2 (K:BP3):R2:=fun x y H Q=>∃p xs i v,x=.ref p/\y=.int i/\SqT K H p xs/\atI xs i=some v/\Q v H
def BL1:R2:=fun x y H Q=>∃z i c,x=.str z/\y=.int i/\z.length<=BQ6/\atI z.cps.toList i=some c/\Q (.str ⟨#[c]⟩) H
theorem ix_list:IxR X (BL0 X.K):=by
 intro d e a s m H x y v u Q I B C h n
 obtain⟨p,N,i,z,rfl,rfl,D,E,q⟩:=h
 cases B
 obtain⟨t,rfl⟩:=C
 obtain⟨f,r,g,O⟩:=I.list D
 obtain⟨j,c,F,P,G,J⟩:=KY E
 obtain⟨w,o,k⟩:=r.get F
 have L:=r.length
 have R:=CN
 have b:EP X a m Q w s:=⟨z,H,I,k,q⟩
 by_cases A:0<=i
 ·have l:i.toNat=j:=by
   rw[seqIndex_of A J] at c
   exact Option.some.inj c
  exact item_listR g.isList A (by lia) (by rw[l];simpa using o) b n
 ·have l:(i+(f.toArray.size:Int)).toNat=j:=by
   rw[seqIndex_neg (by lia) G] at c
   rw[BR1,<-L]
   exact Option.some.inj c
  exact subscriptTail_builtinR (x:=w) g.isList.typeIs slot_list_getitem.lookup
   (wpAny_getItem_list_neg (Q:=fun r M=>r=w/\EP X a m Q r M) g.isList (by lia) (by rw[BR1]<;>lia) (by lia) (by rw[l];simpa using o) ⟨rfl,b⟩) n
theorem ix_tup:IxR X (BL2 X.K):=by
 intro b c a s f H x y v u Q I k l h m
 obtain⟨p,G,i,z,rfl,rfl,n,o,q⟩:=h
 cases k
 obtain⟨t,rfl⟩:=l
 obtain⟨A,r,g,J⟩:=I.tuple n
 obtain⟨j,B,C,L,M,N⟩:=KY o
 obtain⟨w,D,d⟩:=r.get C
 have E:=r.length
 have O:=CN
 have e:EP X a f Q w s:=⟨z,H,I,d,q⟩
 exact subscriptTail_builtinR (x:=w) g.typeIs slot_tuple_getitem.lookup
  (getItem_tuple (j:=j) (Q:=fun r F=>r=w/\EP X a f Q r F) g (by lia) (by lia) (by rw[BR1,<-E];exact B) (by simpa using D) ⟨rfl,e⟩) m
theorem AZ4:IxR X BL1:=by
 intro a b d s A H x y v u Q I f g h k
 obtain⟨z,i,c,rfl,rfl,B,l,q⟩:=h
 obtain⟨t,rfl⟩:=f
 obtain⟨C,rfl⟩:=g
 obtain⟨j,e,m,D,n,o⟩:=KY l
 have p:z.cps.toList.length=z.length:=by simp[Str.length]
 rw[p] at e n o
 have E:=CN
 exact tail_any (typeIs_str s z t) slot_str_getitem.lookup (getItem_str (c:=c) (by
  have r:decide (i < -(2^63:Int))=false:=decide_eq_false (by lia)
  have w:decide (i ≥ 2^63)=false:=decide_eq_false (by lia)
  rw[r,w,Bool.or_false]) (by rw[e];simpa using m) ⟨.str ⟨#[c]⟩,H,I.tok _,⟨_,rfl⟩,q⟩) k
def rIx (K:BP3):R2:=fun x y H Q=>BL0 K x y H Q\/BL2 K x y H Q\/BL1 x y H Q
theorem AZ3:IxR X (rIx X.K):=ix_list.or (ix_tup.or AZ4)
theorem RG (its:List Value)(n j:Nat)(u:Value):Obj.mapSeq (·.setIfInBounds j u) {cls:=.type "list",data:=.seq its.toArray n}={cls:=.type "list",data:=.seq (its.set j u).toArray n}:=by
 simp[Obj.mapSeq]
theorem Inv.lst {pins:List (Addr×Obj)}{σ:St}{H:Hp}{s:BP9}{p:Addr}{xs:List V}(I:Inv X pins σ H s)(h:H p=some (.lst xs)) :
  ∃(its:List Value) (n:Nat),Vals xs its/\s.heap.get? p=some {cls:=.type "list",data:=.seq its.toArray n}/\xs.length<=BQ6:=by
 obtain⟨z,its,n,r,e⟩:=I.hok p _ h
 exact⟨its,n,r,e,z⟩
theorem Inv.lstUpd {σ:St}{p:Addr}{xs ys:List V}{its':List Value}{n a:Nat}{f:Obj->Obj}(I:Inv X pins σ H s)(h:H p=some (.lst xs))
  (ho:s.heap.get? p=some {cls:=.type "list",data:=.seq its.toArray n}) (c:f {cls:=.type "list",data:=.seq its.toArray n}={cls:=.type "list",data:=.seq its'.toArray a}) (r:Vals ys its') (d:ys.length<=BQ6) (t:Nat) :
  Inv X pins σ (upd H p (.lst ys)) {s with heap:=s.heap.update p f,toks:=t}:=by
 have e:(s.heap.update p f).get? p=some {cls:=.type "list",data:=.seq its'.toArray a}:=by
  rw[Heap.get?_update_self f ho (by rw[c]<;>rfl),c]
 refine I.write (x:=p) (e:=p) (by rw[h];trivial) (.inl rfl) (fun b u g q=>(CA8 _ _ (Ne.symm g)).trans q) ⟨_,e⟩ ?_
 exact⟨d,its',a,r,e⟩
def BL3:V->V->V->Hp->(Hp->Prop)->Prop:=fun o i v H Q=>∃p xs k j,o=.ref p/\i=.int k/\H p=some (.lst xs)/\ixN xs.length k=some j/\Q (upd H p (.lst (xs.set j v)))
theorem set_list:BF9 X BL3:=by
 intro f s D H o i v E F u Q I y z A h
 obtain⟨p,G,k,j,rfl,rfl,g,B,q⟩:=h
 cases y
 obtain⟨t,rfl⟩:=z
 obtain⟨a,n,r,c,C⟩:=I.lst g
 obtain⟨b,J,l,m⟩:=TZ B
 have d:=r.length
 have K:=CN
 have w:=I.lstUpd g c (RG a n j u) (r.set A j) (by rw[List.length_set];exact C) s.toks
 by_cases x:0<=k
 ·have e:k.toNat=j:=by
   rw[seqIndex_of x m] at b
   exact Option.some.inj b
  exact PySem.W.ki_setAt c x (by lia) (by rw[BR1,<-d];exact m) (by rw[e];exact⟨_,w,q⟩)
 ·have e:(k+(a.toArray.size:Int)).toNat=j:=by
   rw[seqIndex_neg (by lia) l] at b
   rw[BR1,<-d]
   exact Option.some.inj b
  exact PySem.W.ki_setBack c (by lia) (by rw[BR1,<-d];exact l) (by lia) (by rw[e];exact⟨_,w,q⟩)
theorem MS (lo hi:Option Int)(n:Nat):(CC0 lo hi none n).1=((HT.sIx n 0 lo:Nat):Int)/\(CC0 lo hi none n).2.1=((HT.sIx n n hi:Nat):Int)/\(CC0 lo hi none n).2.2=1:=by
 refine⟨?_,?_,rfl⟩
 ·cases lo with
  | none=>simp[CC0,HT.sIx]
  | some i =>
   simp only[CC0,HT.sIx,Option.getD_none,if_true]
   by_cases h:i<0
   ·simp only[h]<;>lia
   ·simp only[h]<;>lia
 ·cases hi with
  | none=>simp[CC0,HT.sIx]
  | some i =>
   simp only[CC0,HT.sIx,Option.getD_none,if_true]
   by_cases h:i<0
   ·simp only[h]<;>lia
   ·simp only[h]<;>lia
theorem IG (its:List Value)(lo hi:Option Int):slicePick its.toArray lo hi none=((its.drop (HT.sIx its.length 0 lo)).take (HT.sIx its.length its.length hi-HT.sIx its.length 0 lo)).toArray:=by
 obtain⟨a,b,c⟩:=MS lo hi its.toArray.size
 unfold slicePick
 rw[a,b,c]
 simp only[sliceRange_one,pick_run]<;>rfl
def AR4 (K:BP3):V->Option Int->Option Int->Hp->VK->Prop:=fun x lo hi H Q=>∃a xs,x=.ref a/\SqL K H a xs/\∀p,H p=none->Q (.ref p) (upd H p (.lst (OB xs lo hi)))
theorem sl_list:SlR X (AR4 X.K):=by
 intro f s t H x v u w lo e y Q I i j k l h
 obtain⟨a,c,rfl,m,q⟩:=h
 cases i
 obtain⟨n,r,g,p⟩:=I.list m
 have d:=r.length
 refine⟨"list",_,slot_list_getitem.lookup,g.isList.typeIs,?_⟩
 refine wpAny_getItem_list_slice g.isList j k l .none (by simp) ?_ (by rw[BR1]<;>lia)
 rw[IG,<-d]
 refine⟨.ref s.heap.objs.size,_,I.laid (t':=s.toks) (o:=.lst (OB c lo e)) (fun b z q=>BP4 _ q) (BP5 _) ?_,rfl,q _ (I.hok.fresh (BP5 _))⟩
 exact⟨BS7 (DE c lo e) p,_,0,(r.drop (HT.sIx c.length 0 lo)).take (HT.sIx c.length c.length e-HT.sIx c.length 0 lo),BR2 _ rfl⟩
def Z4:V->Bool
 | .non=>true
 | .bl _=>true
 | .int _=>true
 | .str _=>true
 | _=>false
def eqV:V->V->Bool
 | .non,.non=>true
 | .bl a,.bl b=>a==b
 | .bl a,.int b=>(if a then 1 else 0)==b
 | .int a,.bl b=>a==(if b then 1 else 0)
 | .int a,.int b=>a==b
 | .str a,.str b=>a==b
 | _,_=>false
theorem AY3 {y x:V}{v:Value}(e:RelV y u)(c:RelV x v)(g:Z4 y=true)(f:Z4 x=true):SeqAt.EqAt A s u v (eqV y x):=by
 cases y with
 | non =>
  cases e
  cases x with
  | non=>cases c;exact SeqAt.EqAt.same _
  | bl b=>cases c;exact SeqAt.EqAt.none_bool b
  | int b=>obtain⟨t,rfl⟩:=c;exact SeqAt.EqAt.none_int b t
  | str b=>obtain⟨t,rfl⟩:=c;exact SeqAt.EqAt.none_str b t
  | _=>exact absurd (show false=true from f) BQ5
 | bl a =>
  cases e
  cases x with
  | non=>cases c;exact SeqAt.EqAt.bool_none a
  | bl b=>cases c;exact SeqAt.EqAt.bool_bool a b
  | int b=>obtain⟨t,rfl⟩:=c;exact SeqAt.EqAt.bool_int a b t
  | str b=>obtain⟨t,rfl⟩:=c;exact SeqAt.EqAt.bool_str a b t
  | _=>exact absurd (show false=true from f) BQ5
 | int a =>
  obtain⟨d,rfl⟩:=e
  cases x with
  | non=>cases c;exact SeqAt.EqAt.int_none a d
  | bl b=>cases c;exact SeqAt.EqAt.int_bool a d b
  | int b=>obtain⟨t,rfl⟩:=c;exact SeqAt.EqAt.int_int a d b t
  | str b=>obtain⟨t,rfl⟩:=c;exact SeqAt.EqAt.int_str a d b t
  | _=>exact absurd (show false=true from f) BQ5
 | str a =>
  obtain⟨d,rfl⟩:=e
  cases x with
  | non=>cases c;exact SeqAt.EqAt.str_none a d
  | bl b=>cases c;exact SeqAt.EqAt.str_bool a d b
  | int b=>obtain⟨t,rfl⟩:=c;exact SeqAt.EqAt.str_int a d b t
  | str b=>obtain⟨t,rfl⟩:=c;exact SeqAt.EqAt.str_str a d b t
  | _=>exact absurd (show false=true from f) BQ5
 | _=>exact absurd (show false=true from g) BQ5
def eqU (x:V)(u:Value):Bool:=match u with
 | .none=>eqV .non x
 | .bool b=>eqV (.bl b) x
 | .int i _=>eqV (.int i) x
 | .str z _=>eqV (.str z) x
 | _=>false
theorem ZZ {x y:V}(r:RelV y u)(f:Z4 y=true):eqU x u=eqV y x:=by
 cases y with
 | non=>cases r;rfl
 | bl b=>cases r;rfl
 | int i=>obtain⟨t,rfl⟩:=r;rfl
 | str z=>obtain⟨t,rfl⟩:=r;rfl
 | _=>exact absurd (show false=true from f) BQ5
theorem AS {x:V}:∀{xs:List V} {us:List Value},Vals xs us->xs.all Z4=true->us.any (eqU x)=xs.any fun y=>eqV y x
 | _,_,.nil,_=>rfl
 | y::xs,u::us,.cons r t,f=>by
  rw[List.all_cons,BQ0] at f
  rw[BT6,BT6,ZZ r f.1,AS t f.2]
theorem V6 {A:BY4}{s:BP9}{x:V}{v:Value}(a:RelV x v)(b:Z4 x=true):∀{xs:List V} {us:List Value},Vals xs us->xs.all Z4=true->∀u∈us,SeqAt.EqAt A s u v (eqU x u)
 | _,_,.nil,_=>fun u hu=>by cases hu
 | y::xs,u::us,.cons r t,f=>fun c hu=>by
  rw[List.all_cons,BQ0] at f
  rcases BU1.mp hu with rfl|hu
  ·rw[ZZ r f.1];exact AY3 r a f.1 b
  ·exact V6 a b t f.2 c hu
def inV (x:V)(xs:List V):Bool:=xs.any fun y=>eqV y x
def rIn (K:BP3)(neg:Bool):R2:=fun x y H Q=>∃p xs,y=.ref p/\(SqL K H p xs\/SqT K H p xs)/\Z4 x=true/\xs.all Z4=true/\Q (.bl (if neg then !inV x xs else inV x xs)) H
theorem JP:OpR X (BT0 .In) (rIn X.K false):=by
 intro d s j H x y v u Q I e g h
 obtain⟨p,k,rfl,hq,f,fs,q⟩:=h
 cases g
 rcases hq with hq|hq
 ·obtain⟨a,r,b,i⟩:=I.list hq
  refine SeqAt.in_listAt (eqU x) b.isList (fun w c=>V6 e f r fs w (by simpa using c)) ⟨.bl _,H,I,rfl,?_⟩
  rw[show a.toArray.any (eqU x)=a.any (eqU x) by simp,AS r fs]
  exact q
 ·obtain⟨a,r,b,i⟩:=I.tuple hq
  refine SeqAt.in_tupleAt (eqU x) b (fun w c=>V6 e f r fs w (by simpa using c)) ⟨.bl _,H,I,rfl,?_⟩
  rw[show a.toArray.any (eqU x)=a.any (eqU x) by simp,AS r fs]
  exact q
theorem BF:OpR X (BT0 .NotIn) (rIn X.K true):=by
 intro d s j H x y v u Q I e g h
 obtain⟨p,k,rfl,hq,f,fs,q⟩:=h
 cases g
 rcases hq with hq|hq
 ·obtain⟨a,r,b,i⟩:=I.list hq
  refine SeqAt.notIn_listAt (eqU x) b.isList (fun w c=>V6 e f r fs w (by simpa using c)) ⟨.bl _,H,I,rfl,?_⟩
  rw[show a.toArray.any (eqU x)=a.any (eqU x) by simp,AS r fs]
  exact q
 ·obtain⟨a,r,b,i⟩:=I.tuple hq
  refine SeqAt.notIn_tupleAt (eqU x) b (fun w c=>V6 e f r fs w (by simpa using c)) ⟨.bl _,H,I,rfl,?_⟩
  rw[show a.toArray.any (eqU x)=a.any (eqU x) by simp,AS r fs]
  exact q
theorem call_len_seq:CallR X (.builtin "len") (fun xs H Q=>∃p ys,xs=[.ref p]/\(SqL X.K H p ys\/SqT X.K H p ys)/\Q (.int ys.length) H):=by
 intro e s i H xs j Q I r h
 obtain⟨p,ys,rfl,hq,q⟩:=h
 obtain⟨u,rfl,f⟩:=vals1 r
 cases f
 have k:=CN
 rcases hq with hq|hq
 ·obtain⟨b,c,d,g⟩:=I.list hq
  have a:=c.length
  exact Calls.call_len_list d.isList (by simp only[BR1]<;>lia) ⟨.int ys.length,H,I.tok _,⟨s.toks+1,by rw[BR1,a]⟩,q⟩
 ·obtain⟨b,c,d,g⟩:=I.tuple hq
  have a:=c.length
  exact len_tuple d (by simp only[BR1]<;>lia) ⟨.int ys.length,H,I.tok _,⟨s.toks+1,by rw[BR1,a]⟩,q⟩
theorem LD:CallR X (.builtin "len") (fun xs H Q=>∃z,xs=[.str z]/\z.length<=BQ6/\Q (.int z.length) H):=by
 intro a s b H xs c Q I r h
 obtain⟨z,rfl,d,q⟩:=h
 obtain⟨u,rfl,t,rfl⟩:=vals1 r
 have e:=CN
 exact len_str (by lia) ⟨.int z.length,H,I.tok _,⟨_,rfl⟩,q⟩
theorem CallR.or {f:Value}{r r':List V->Hp->VK->Prop}(h:CallR X f r)(h':CallR X f r'):CallR X f (fun xs H Q=>r xs H Q\/r' xs H Q):=by
 intro a s b H xs c Q I d q
 rcases q with q|q
 ·exact h a s b H xs c Q I d q
 ·exact h' a s b H xs c Q I d q
theorem LE:CallR X (.type "list") (fun xs H Q=>∃p ys,xs=[.ref p]/\(SqL X.K H p ys\/SqT X.K H p ys)/\∀l,H l=none->Q (.ref l) (upd H l (.lst ys))):=by
 intro g s A H xs C Q I r h
 obtain⟨p,ys,rfl,hq,q⟩:=h
 obtain⟨u,rfl,B⟩:=vals1 r
 cases B
 have i:∀(a:List Value),Vals ys a->ys.length<=BQ6->∀(c:Heap) (d:Nat),(∀b z,s.heap.get? b=some z->c.get? b=some z) ->
   c.get? s.heap.objs.size=some {cls:=.type "list",dict:=none,data:=.seq a.toArray d,slots:=#[]}->EP X g A Q (.ref s.heap.objs.size) {s with heap:=c}:=fun a f j c d k e =>
  ⟨.ref s.heap.objs.size,_,I.laid (t':=s.toks) k (BP5 _) (show ObjOk X.prog X.w _ c _ (.lst ys) from ⟨j,a,d,f,e⟩),rfl,q _ (I.hok.fresh (BP5 _))⟩
 rcases hq with hq|hq
 ·obtain⟨a,f,t,j⟩:=I.list hq
  have m:=f.length
  obtain⟨o,v,x,n,y⟩:=t.isList
  exact call_list_seq p (.inl rfl) v x y (fun c d k e=>i a f j c d k e) (by simp only[BR1]<;>lia)
 ·obtain⟨a,f,t,j⟩:=I.tuple hq
  have m:=f.length
  obtain⟨o,v,x,n,y⟩:=t
  exact call_list_seq p (.inr rfl) v x y (fun c d k e=>i a f j c d k e) (by simp only[BR1]<;>lia)
theorem HY:CallR X (.type "tuple") (fun xs H Q=>∃p ys,xs=[.ref p]/\((SqL X.K H p ys/\∀l,H l=none->Q (.ref l) (upd H l (.tup ys)))\/(SqT X.K H p ys/\Q (.ref p) H))):=by
 intro g s x H xs y Q I r h
 obtain⟨p,ys,rfl,h⟩:=h
 obtain⟨u,rfl,m⟩:=vals1 r
 cases m
 rcases h with⟨c,q⟩|⟨c,q⟩
 ·obtain⟨a,d,f,i⟩:=I.list c
  have j:=d.length
  refine call_tuple_list f.isList (fun n t=>?_) (by simp only[BR1]<;>lia)
  have k:=I.kept (t':=s.toks) t
  have v:=k.laid (t':=s.toks) (fun b o e=>BP4 _ e) (BP5 _) (show ObjOk X.prog X.w _ _ _ (.tup ys) from ⟨i,a,d,IsTup.new _ _⟩)
  exact⟨.ref n.objs.size,_,v,rfl,q _ (k.hok.fresh (BP5 _))⟩
 ·obtain⟨a,d,f,i⟩:=I.tuple c
  exact call_tuple_same f ⟨.ref p,H,I,rfl,q⟩
def tyV (K:BP3)(T:String)(x:V)(H:Hp):Prop:=match x with
 | .str _=>T="str"
 | .int _=>T="int"
 | .ref p=>(T="list"/\∃xs,SqL K H p xs)\/(T="tuple"/\∃o,K.lookup p=some o/\o.cls=.type "tuple"/\o.dict=none) \/
   (T="dict"/\((∃kvs,H p=some (.dK kvs))\/∃kvs,H p=some (.dT kvs)))\/(T="set"/\∃S n,H p=some (.set S n))
 | _=>False
theorem AJ0 {σ:St}{T:String}{x:V}{v:Value}(I:Inv X pins σ H s)(r:RelV x v)(ty:tyV X.K T x H) :
  s.TypeIs v T/\∀a,v=.ref a->∃h,s.heap.get? a=some h/\h.dict=none:=by
 cases x with
 | str z =>
  obtain⟨t,rfl⟩:=r
  cases(show T="str" from ty)
  exact⟨typeIs_str s z t,fun _ e=>nomatch e⟩
 | int i =>
  obtain⟨t,rfl⟩:=r
  cases(show T="int" from ty)
  exact⟨typeIs_int s i t,fun _ e=>nomatch e⟩
 | ref p =>
  cases r
  rcases ty with⟨rfl,q,k⟩|⟨rfl,o,b,l,d⟩|⟨rfl,b⟩|⟨rfl,S,n,b⟩
  ·obtain⟨m,_,j,_⟩:=I.list k
   refine⟨j.isList.typeIs,fun a e=>?_⟩
   cases e
   obtain⟨o,n,e,c,d,_⟩:=j
   exact⟨o,e,d⟩
  ·refine⟨⟨o,I.kIn p o b,l⟩,fun a e=>?_⟩
   cases e
   exact⟨o,I.kIn _ o b,d⟩
  ·have z:∃o,s.heap.get? p=some o/\o.ExactDict:=by
    rcases b with⟨f,b⟩|⟨f,b⟩
    ·obtain⟨_,_,_,_,o,_,_,e,ex,_⟩:=I.hok p _ b
     exact⟨o,e,ex⟩
    ·obtain⟨_,_,_,_,o,_,_,e,ex,_⟩:=I.hok p _ b
     exact⟨o,e,ex⟩
   obtain⟨o,e,ex⟩:=z
   refine⟨⟨o,e,ex.1⟩,fun a g=>?_⟩
   cases g
   exact⟨o,e,ex.2.1⟩
  ·obtain⟨o,_,_,_,e,ex,_⟩:=I.hok p _ b
   refine⟨⟨o,e,ex.1⟩,fun a g=>?_⟩
   cases g
   exact⟨o,e,ex.2.1⟩
 | _=>exact False.elim ty
variable {o e:Expr}{es:List Expr}{to:TE}{t:TA}{name:Str}{apos cpos:Pos}{T id:String}{r:V->List V->Hp->VK->Prop}
end
def MtM (X:Cx)(id:String)(r:V->List V->Hp->VK->Prop):Prop :=
 ∀(pins:List (Addr×Obj)) (s:BP9) (σ:St) (H:Hp) (x:V) (xs:List V) (v:Value) (us:List Value) (Q:VK),Inv X pins σ H s->RelV x v->Vals xs us->r x xs H Q ->
  wpAny (model X.prog X.w) X.A (call (.builtin id) (v::us)) (EP X pins σ Q) X.xe s
theorem Vals.one:∀{x:V} {us:List Value},Vals [x] us->∃u,us=[u]/\RelV x u
 | _,_,.cons r .nil=>⟨_,rfl,r⟩
section
variable {X:Cx}{pins:List (Addr×Obj)}{σ:St}{H:Hp}{s:BP9}{l b:Addr}{xs ys zs:List V}
theorem Inv.lset {its':List Value}{n:Nat}{f:Array Value->Array Value}{t':Nat}(I:Inv X pins σ H s)(a:H l=some (.lst xs))
  (e:s.heap.get? l=some {cls:=.type "list",data:=.seq its.toArray n}) (b:f its.toArray=its'.toArray) (c:Vals ys its') (d:ys.length<=BQ6) :
  Inv X pins σ (upd H l (.lst ys)) {s with heap:=s.heap.update l (Obj.mapSeq f),toks:=t'}:=by
 have q:=PySem.IsL.update e f
 rw[b] at q
 refine I.write (x:=l) (e:=l) (by rw[a];exact trivial) (.inl rfl) (fun i u g h=>(CA8 s.heap (Obj.mapSeq f) (Ne.symm g)).trans h) ⟨_,q⟩ ?_
 exact⟨d,its',_,c,q⟩
theorem Inv.lnew {t':Nat}(I:Inv X pins σ H s)(a:Vals ys its)(b:ys.length<=BQ6) :
  Inv X pins σ (upd H s.heap.objs.size (.lst ys)) {s with heap:=s.heap.push {cls:=.type "list",data:=.seq its.toArray},toks:=t'} :=
 I.laid (fun _ _ q=>BP4 _ q) (BP5 _) ⟨b,its,0,a,BR2 _ rfl⟩
theorem Inv.fresh (I:Inv X pins σ H s):H s.heap.objs.size=none:=I.hok.fresh (BP5 _)
theorem Inv.lstM (I:Inv X pins σ H s)(a:H l=some (.lst xs)):xs.length<=BQ6/\∃(its:List Value) (n:Nat),Vals xs its/\xs.length=its.length/\s.heap.get? l=some {cls:=.type "list",data:=.seq its.toArray n}:=by
 obtain⟨z,its,n,r,e⟩:=I.hok l _ a
 exact⟨z,its,n,r,r.length,e⟩
theorem AB8 {n:Nat}(h:n<=BQ6):Builtin.List.listTooLong n=false:=by
 exact decide_eq_false (by lia)
end
section
variable {X:Cx}
def AR2:V->List V->Hp->VK->Prop:=fun x vs H Q=>∃l xs y,x=.ref l/\vs=[y]/\H l=some (.lst xs)/\xs.length<BQ6/\Q .non (upd H l (.lst (xs++[y])))
theorem JK:MtM X "list.append" AR2:=by
 intro b s i H x j v k Q I d f h
 obtain⟨l,m,y,rfl,rfl,c,o,q⟩:=h
 cases d
 obtain⟨u,rfl,g⟩:=f.one
 obtain⟨z,a,n,r,p,e⟩:=I.lstM c
 refine call_meets F.slot_list_append ⟨_,e,rfl⟩ F.entry_list_append (F.args_list_append_2 _ _) (PySem.list_append l a.toArray n u (by rw[BR1];lia)) ⟨e,?_⟩
 refine⟨.non,_,I.lset (its':=a++[u]) c e (by simp) (r.append (.cons g .nil)) ?_,rfl,q⟩
 rw[BP7,List.length_singleton]
 lia
def AR3:V->List V->Hp->VK->Prop:=fun x vs H Q=>∃l b xs zs,x=.ref l/\vs=[.ref b]/\H l=some (.lst xs)/\H b=some (.lst zs)/\xs.length+zs.length<=BQ6/\Q .non (upd H l (.lst (xs++zs)))
theorem WX:MtM X "list.extend" AR3:=by
 intro g s A H x B v C Q I j k h
 obtain⟨l,b,D,E,rfl,rfl,i,m,G,q⟩:=h
 cases j
 obtain⟨u,rfl,o⟩:=k.one
 cases o
 obtain⟨z,c,n,r,J,e⟩:=I.lstM i
 obtain⟨K,a,p,t,w,y⟩:=I.lstM m
 have f:c.toArray.size+a.toArray.size<=BQ6:=by rw[BR1,BR1];lia
 have d:¬(!c.toArray.isEmpty && Builtin.List.listTooLong (c.toArray.size+a.toArray.size))=true:=by
  rw[AB8 f,Bool.and_false]
  exact BQ5
 refine call_meets F.slot_list_extend ⟨_,e,rfl⟩ F.entry_list_extend (F.args_list_extend_2 _ _)
  (AutoSeq1.list_extend_list_list_0 l c.toArray n b a.toArray p d (by lia) (by lia)) ⟨e,y,?_⟩
 refine⟨.non,_,I.lset (its':=c++a) i e (by simp) (r.append t) ?_,rfl,q⟩
 rw[BP7]
 lia
end
section
variable {prog:BT5}{w:World}{A:BY4}{E:Value->BP9->Prop}{s:BP9}
end
section
variable {X:Cx}
end
end L2
namespace Att
open PySem PySem.W PySem.Calls PyProof.Rows
theorem EB {P:Params}:∀(ns:List Int) (vs:List Value),WellAll P h vs (ns.map WData.int)->IntsAre vs ns:=by
 intro ns
 induction ns with
 | nil =>
  intro vs w
  cases w
  exact .nil
 | cons n ns c =>
  intro vs w
  cases w with
  | cons a b =>
   cases a
   exact .cons _ _ (c _ b)
theorem YA {l:OpenLaw}{n:Nat}(o:l.most=some n){P:Params}{args:List WData}{b:List Value}
  (c:l.row.toRowW.claim.pre args=true) (j:WellAll P h b args) :
  ∃a vs ns,b=[Value.ref a]/\args=[WData.list (ns.map WData.int)]/\h.get? a=some {cls:=.type "list",data:=.seq vs.toArray}/\IntsAre vs ns/\ns.length<=n:=by
 have k:=(pre_splitW c).1
 have m:l.pre.holds [] {args:=args}=true:=(pre_splitW c).2
 obtain⟨d,r,rfl,p,s⟩:=hasAllW_cons k
 obtain rfl:=hasAllW_nil s
 obtain⟨y,rfl,t⟩:=hasW_list p
 obtain⟨ns,rfl⟩:=items_int t
 have e:ns.length<=n:=by
  unfold OpenLaw.pre at m
  have g:(WTm.not (.lt (.lit (.int (n:Int))) (.len (.arg 0)))).holds [] {args:=[.list (ns.map .int)]}=true:=by
   have g:=(holds_andW m).1
   rw[o] at g
   exact g
  have i:=condW_of g (w_not (w_lt w_lit (w_len_list (w_arg rfl))))
  rw[BP1] at i
  refine Nat.le_of_not_lt fun q=>?_
  have u:(n:Int)<((ns.length:Nat):Int):=by lia
  first
   | (rw[decide_eq_true u] at i;exact absurd i (by decide))
   | (simp at i;lia)
 cases j with
 | cons v w =>
  cases w
  cases v with
  | list x f=>exact⟨_,_,ns,rfl,rfl,x,EB ns _ f,e⟩
theorem XR (l:OpenLaw)(args:List WData):l.row.toRowW.claim.post args (.bool true) args=true :=
 postW_of (r:=l.row.toRowW) (X:=(true==true))
  (show WShape.has [] (.bool true) .bool=true by first|rfl|decide|simp[WShape.has,WShape.arms,WShape.armsAll])
  (show(WTm.eq .res (.lit (.bool true))).value [] {args:=args,res:=some (.bool true),after:=args}=some (.bool (true==true)) from w_eq_bool (w_res rfl) w_lit) rfl
theorem attach_call {l:OpenLaw}{n:Nat}{q:BT5}{s:(Str->Option Value)->Heap->Prop}{t:World->Heap->Prop}{d:DefRec}
  (y:l.most=some n) (i:d.params.defaults=[])
  (call:∀(w:World) (s₀ s₁:BP9) (mg j:Str->Option Value) (fa:Addr) (o:Obj) (pm h doc:Value) (a:Addr) (vs:List Value) (ns:List Int),
   Ground q loose [] s w s₀ mg j s₁.heap->t w s₁.heap ->
   s₁.heap.get? fa=some o->o.data=.func (docDef d.name d.params d.body d.scope pm h doc)->s₁.heap.CodeRec h d.name->mg d.name=some (.ref fa) ->
   s₁.heap.get? a=some {cls:=.type "list",data:=.seq vs.toArray}->IntsAre vs ns->ns.length<=n->s₁.gens=#[] ->
   codeAny (model l.prog w) callerA (.call (.ref fa) ⟨[.ref a],[]⟩) (fun r s'=>r=.ok (.ret (.bool true))/\OldK s₁.heap s'.heap/\s'.os=s₁.os/\AllBare s'.gens) s₁) :
  WalkO q loose s t l.row.toRowW d [] (fun f vs=>PySem.call f vs):=by
 intro w s₀ s₁ mg j G Y fa o pm h doc z kV A B k hD m C u v L c x D p E
 obtain rfl:z=.none:=Dflts.none hD i
 obtain rfl:kV=.none:=Dflts.noKw hD
 obtain⟨a,vs,ns,rfl,rfl,e,b,g⟩:=YA y c p
 refine enter_call (codeAny_mono (call w s₀ s₁ mg j fa o pm h doc a vs ns G Y A (fd_plain B) k m e b g C) fun r s' F=>?_)
 obtain⟨rfl,H,I,J⟩:=F
 exact⟨.inl ⟨.bool true,.bool true,[],rfl,fun _=>rfl,.bool true,XR l _,fun _=>⟨List.Pairwise.nil,fun _ K=>(nomatch K)⟩⟩,H,I,J⟩
section
variable {prog:BT5}{w:World}{A:BY4}{E:Value->BP9->Prop}{s:BP9}{K:Frag}
end
end Att
namespace L2
open PySem PySem.Spec PyProof.Rows
theorem KE:∀{vs:List Value} {ns:List Int},IntsAre vs ns->Vals (ns.map V.int) vs
 | _,_,.nil=>.nil
 | _,_,.cons n t h=>.cons ⟨t,rfl⟩ (KE h)
def AW3 (H:Hp):Prop:=∀b,H b=none\/∃o xs,H b=some (.frz o (.lst xs))
theorem AB1 {J:Str->Option Value}{CX:CXT}{k:Nat}{fa a:Addr}{sp:Sp}{s₁:BP9}{vs:List Value}{ns:List Int}
  (R:K.In s₁.heap) (l:s₁.heap.Ns BT1 mg) (f:s₁.heap.Ns builtinsNs J) (L:∀x:Str,x≠"__name__"->J x=BU2 x) (p:s₁.heap.NoLimit) (Y:s₁.gens=#[])
  (E:s₁.heap.get? a=some {cls:=.type "list",data:=.seq vs.toArray}) (hi:IntsAre vs ns) (S:ns.length<=BQ6) (Z:Room k callerA)
  (F:∀base:Heap,K.In base->base.Ns BT1 mg->Y9 P w K mg base CX k fa fd [x] sp) (j:∀(s:BP9) (u:Value),BindsTo s fd ⟨[u],[]⟩ [(x,u)])
  (M:∀H:Hp,AW3 H->SqL K H a (ns.map V.int)->sp [.ref a] H (fun v _=>v=.bl true) fun _ _ _=>False)
  (N:∀H e s',CX [] H s₁ (fun _ _ _=>False) e s'->False) :
  codeAny (model P w) callerA (.call (.ref fa) ⟨[.ref a],[]⟩) (fun r s'=>r=.ok (.ret (.bool true))/\OldK s₁.heap s'.heap/\s'.os=s₁.os/\AllBare s'.gens) s₁:=by
 have T:=KE hi
 have t:=hi.length
 have i:∀H:Hp,AW3 H->SqL K H a (ns.map V.int)->HOk P w H s₁.heap->(∀b,H b≠none->b=a)->(H a≠none->K.lookup a=none) ->
   codeAny (model P w) callerA (.call (.ref fa) ⟨[.ref a],[]⟩) (fun r s'=>r=.ok (.ret (.bool true))/\OldK s₁.heap s'.heap/\s'.os=s₁.os/\AllBare s'.gens) s₁:=by
  intro H U hS y W hK
  have c:∀{b:Addr} {o:Obj},s₁.heap.get? b=some o->H b=none->(LK s₁.heap H).get? b=some o:=fun e n=>AA3 e n
  have O:∀{b:Addr} {o:Obj} {G:Array DictEntry} {I:Nat},s₁.heap.get? b=some o->o.data=.dict G I->H b=none:=fun{b o G I} e d=>by
   cases q:H b with
   | none=>rfl
   | some u =>
    have Q:=W b (by rw[q];simp)
    subst Q
    rw[E] at e;cases e
    have d':=d
    cases d'
  have g:∀{b:Addr} {m:Str->Option Value},s₁.heap.Ns b m->(LK s₁.heap H).Ns b m:=fun{b m} ⟨o,G,I,e,d,r⟩=>⟨o,G,I,c e (O e d),d,r⟩
  have A:K.In (LK s₁.heap H):=fun b o e=>c (R b o e) (by
   cases q:H b with
   | none=>rfl
   | some u =>
    have Q:=W b (by rw[q];simp)
    subst Q
    rw[hK (by rw[q];simp)] at e;cases e)
  have hM:Mod K mg (LK s₁.heap H):=⟨A,g l,⟨J,g f,L⟩,let ⟨mc,h1,h2⟩:=p;⟨mc,g h1,h2⟩⟩
  have e0:AJ5 P w K mg (LK s₁.heap H) callerA [] s₁ H:=⟨rfl,hM,fun b o e=>AM9 e,Nat.le_of_eq (WO _ _),trivial,fun b f=>absurd (show b∈([]:List Addr) from f) (by simp),y,.of_eq Y⟩
  refine codeAny_mono ((F _ A (g l)).run callerA [] s₁ H ⟨[.ref a],[]⟩ [.ref a] [.ref a] _ _ Z e0 (j s₁ (.ref a)) (.cons rfl .nil) (M H U hS)) fun r s' h=>?_
  cases r with
  | error e=>exact(N H e s' h).elim
  | ok fl =>
   cases fl with
   | next=>exact False.elim h
   | brk=>exact False.elim h
   | cont=>exact False.elim h
   | ret u =>
    obtain⟨v,H',os,B,un,C,r',q⟩:=h
    have q':=q
    subst q'
    obtain rfl:u=Value.bool true:=r'
    refine⟨rfl,OldK.of_keep fun b o e=>?_,os,B⟩
    cases q:H b with
    | none=>exact un.keep b o e q (by intro z;exact absurd (show b∈([]:List Addr) from z) (by simp)) (by simp)
    | some u =>
     rcases U b with z|⟨ob,xs,z⟩
     ·rw[q] at z;cases z
     ·have z2:=un.frzs b ob _ z
      obtain⟨X,_⟩:=y b _ z
      obtain⟨e2,_⟩:=C b _ z2
      rw[e] at X;cases X
      exact e2
 cases hk:K.lookup a with
 | some o =>
  have e:=R a o hk
  rw[E] at e
  cases e
  refine i (fun _=>none) (fun _=>.inl rfl) (.inr ⟨_,vs.toArray,_,hk,rfl,rfl,rfl,by rw[BR1,t];exact S,by simpa using T⟩) (fun b u z=>by have D:=z;cases D) (fun b z=>absurd rfl z) fun z=>absurd rfl z
 | none =>
  refine i (fun b=>if b=a then some (.frz {cls:=.type "list",data:=.seq vs.toArray} (.lst (ns.map V.int))) else none) (fun b=>?_) (.inl (.inr ⟨{cls:=.type "list",data:=.seq vs.toArray},if_pos rfl⟩)) (fun b u z=>?_) (fun b z=>?_) fun _=>hk
  ·by_cases f:b=a
   ·exact .inr ⟨_,_,if_pos f⟩
   ·exact .inl (if_neg f)
  ·by_cases f:b=a
   ·have D:=(if_pos f).symm.trans z
    cases D
    subst f
    exact⟨E,by rw[BP1];exact S,vs,_,T,E⟩
   ·have D:=(if_neg f).symm.trans z
    cases D
  ·by_cases f:b=a
   ·exact f
   ·exact absurd (if_neg f) z
theorem AS7 {l:PySem.W.OpenLaw}{n k:Nat}{q:BT5}{D:(Str->Option Value)->Heap->Prop}{A:World->Heap->Prop}{d:DefRec}{K:Params->BP3}{CX:World->CXT}{sp:World->Sp}
  (E:l.most=some n) (p:n<=BQ6) (r:d.params.defaults=[]) (I:Room k callerA)
  (J:∀(w:World) (h:Heap),A w h->(K w.params).In h)
  (F:∀(w:World) (mg:Str->Option Value) (fa:Addr) (h:Heap),(K w.params).In h->h.Ns BT1 mg->mg d.name=some (.ref fa) ->
   ∃fd:CD4,(∀(s:BP9) (u:Value),BindsTo s fd ⟨[u],[]⟩ [(x,u)]) /\
    ∀base:Heap,(K w.params).In base->base.Ns BT1 mg->Y9 l.prog w (K w.params) mg base (CX w) k fa fd [x] (sp w))
  (t:∀(w:World) (H:Hp) (a:Addr) (ns:List Int),ns.length<=n->AW3 H->SqL (K w.params) H a (ns.map V.int)->sp w [.ref a] H (fun v _=>v=.bl true) fun _ _ _=>False)
  (y:∀(w:World) (H:Hp) (s:BP9) (e:Value) (s':BP9),CX w [] H s (fun _ _ _=>False) e s'->False) :
  PySem.W.WalkO q loose D A l.row.toRowW d [] (fun f vs=>PySem.call f vs):=by
 refine Att.attach_call E r fun w B j mg S fa o pm U L a vs ns G Y X Z M z m i c N=>?_
 have C:=J w _ Y
 obtain⟨fd,O,P⟩:=F w mg fa _ C G.T.g z
 exact AB1 C G.T.g G.T.b G.T.builtins G.T.nolimit N m i (BS7 c p) I P O (fun H Q R=>t w H a ns c Q R) fun H e s'=>y w H j e s'
def K7 (s:Stmt):Arguments:=match s with
 | .FunctionDef _ a _ _ _ _ _ _ _ _=>a
 | _=>{posonlyargs:=[],args:=[],vararg:=none,kwonlyargs:=[],kw_defaults:=[],kwarg:=none,defaults:=[]}
def G1 (s:Stmt):List Stmt:=match s with
 | .FunctionDef _ _ b _ _ _ _ _ _ _=>b
 | _=>[]
def D4 (s:Stmt):Scope:=match s with
 | .FunctionDef _ _ _ _ _ _ sc _ _ _=>sc
 | _=>{kind:=.function,names:=[],isGenerator:=false,isCoroutine:=false}
abbrev CX0:CXT:=fun _ _ _ _ _ _=>False
abbrev E0:XK:=fun _ _ _=>False
theorem AU3 {X:Cx}:KS CX0 X E0:=fun _ _ _ _ _ _ _ h=>h.elim
structure Fun (K:BP3)(x qual:Str)(st:Stmt)(f:Addr)(fd:CD4):Prop where
 ex:∃(oc:Value) (od:Option Addr) (kV doc pm:Value) (an:Option Addr) (cdv ct:Value) (osl:Array (Option Value)),
  fd=BW1 x qual (K7 st) (G1 st) (D4 st) .none kV doc pm an cdv ct/\K.lookup f=some ⟨oc,od,.func fd,osl⟩/\CA6 K cdv qual=true
 kp:BV3 K (.ref f)=true
section
variable {P:BT5}{w:World}{K:BP3}{mg:Str->Option Value}{base:Heap}
theorem Fun.ok {f:Addr}{k:Nat}{sp:Sp}(F:Fun K x qual st f fd)(S:S8 N ps (D4 st))(len:∀vs H Q E,sp vs H Q E->vs.length=ps.length)
  (a:∀(cdv:Value) (A:BY4) (outer:List Env) (s:BP9) (H:Hp) (vs:List V) (Q:VK) (E:XK),Room k (A.deeper (envOfC qual (D4 st) s.heap.objs.size f cdv))->sp vs H Q E ->
   ∃t,PSs (RA CX0 P w K mg base N qual (D4 st) f cdv A outer s H E).nox (G1 st) t/\t {nx:=fun _ H'=>Q .non H',rt:=Q} (start N vs) H):Y9 P w K mg base CX0 (k+1) f fd ps sp:=by
 obtain⟨j,l,kV,d,pm,m,cdv,ct,e,rfl,g,b⟩:=F.ex
 refine BH0 g b S len fun A outer s H vs Q E i c=>?_
 obtain⟨t,h,q⟩:=a cdv A outer s H vs Q E i c
 exact⟨t,h.nox,q⟩
theorem Fun.binds {f:Addr}(F:Fun K x qual st f fd)
  (h:∀(kV doc pm:Value) (an:Option Addr) (cdv ct:Value) (us:List Value),us.length=ps.length->bindArgs (BW1 x qual (K7 st) (G1 st) (D4 st) .none kV doc pm an cdv ct) ⟨us,[]⟩=pure (ps.zip us)):Binds K fd ps []:=by
 obtain⟨c,d,kV,doc,pm,an,cdv,ct,a,rfl,e,b⟩:=F.ex
 exact .all (h kV doc pm an cdv ct)
theorem AA2 {f:Addr}{kV pm ct:Value}(l:K.lookup f=some ⟨oc,od,.func (BW1 x qual (K7 st) (G1 st) (D4 st) .none kV doc pm an cdv ct),osl⟩)
  (c:CA6 K cdv qual=true) (k:BV3 K (.ref f)=true):Fun K x qual st f (BW1 x qual (K7 st) (G1 st) (D4 st) .none kV doc pm an cdv ct):=⟨⟨oc,od,kV,doc,pm,an,cdv,ct,osl,rfl,l,c⟩,k⟩
end
section
variable {X:Cx}
end
section
variable {κ:Type}[DecidableEq κ]
def X6 (kvs:List (κ×V))(k:κ):Option V:=(kvs.find? fun kv=>decide (kv.1=k)).map (·.2)
def putK (kvs:List (κ×V))(k:κ)(v:V):List (κ×V) :=
 if (kvs.any fun kv=>decide (kv.1=k))=true then kvs.map (fun kv=>if kv.1=k then(kv.1,v) else kv) else kvs++[(k,v)]
theorem HN {p:κ×V}{r:List (κ×V)}{k:κ}(e:p.1=k):X6 (p::r) k=some p.2:=by simp[X6,BZ1,e]
theorem HM {p:κ×V}{r:List (κ×V)}{k:κ}(e:¬p.1=k):X6 (p::r) k=X6 r k:=by simp[X6,BZ1,e]
theorem QM (k:κ):∀kvs:List (κ×V),(kvs.any fun a=>decide (a.1=k))=(X6 kvs k).isSome
 | []=>rfl
 | p::r=>by
  rw[BT6]
  by_cases e:p.1=k
  ·simp only[HN e,decide_eq_true e,Bool.true_or,Option.isSome_some]
  ·rw[HM e,decide_eq_false e,Bool.false_or];exact QM k r
theorem V5 (kvs:List (κ×V))(k:κ)(v:V):(putK kvs k v).length<=kvs.length+1:=by
 unfold putK
 split
 ·rw[BP1];lia
 ·rw[BP7,BP8,BR8];lia
theorem RelO.isSome_eq {o:Option V}{u:Option Value}(r:RelO o u):o.isSome=u.isSome:=by
 cases o with
 | none=>cases u with
  | none=>rfl
  | some _=>exact(show False from r).elim
 | some _=>cases u with
  | none=>exact(show False from r).elim
  | some _=>rfl
theorem KV.val {kvs:List (κ×V)}{vs:List (κ×Value)}(r:KV kvs vs)(k:κ):RelO (X6 kvs k) (valueAt vs k):=by
 unfold KV at r
 induction r with
 | nil=>exact True.intro
 | @cons p q i a h t f =>
  obtain⟨d,g⟩:=h
  by_cases e:p.1=k
  ·have c:q.1=k:=d.symm.trans e
   have b:valueAt (q::a) k=some q.2:=by simp[valueAt,BZ1,c]
   rw[HN e,b];exact g
  ·have c:¬q.1=k:=fun z=>e (d.trans z)
   have b:valueAt (q::a) k=valueAt a k:=by simp[valueAt,BZ1,c]
   rw[HM e,b];exact f
theorem KV.any {kvs:List (κ×V)}{vs:List (κ×Value)}(r:KV kvs vs)(k:κ):(kvs.any fun a=>decide (a.1=k))=vs.any fun a=>decide (a.1=k):=by
 unfold KV at r
 induction r with
 | nil=>rfl
 | cons h t b=>rw[BT6,BT6,b,h.1]
theorem KV.repl {kvs:List (κ×V)}{vs:List (κ×Value)}(r:KV kvs vs)(k:κ){y:V}(c:RelV y u) :
  KV (kvs.map fun a=>if a.1=k then(a.1,y) else a) (vs.map fun a=>if a.1=k then(a.1,u) else a):=by
 unfold KV at r ⊢
 induction r with
 | nil=>exact .nil
 | @cons p q g i h t d =>
  rw[BR7,BR7]
  refine .cons ?_ d
  obtain⟨b,f⟩:=h
  by_cases e:p.1=k
  ·rw[if_pos e,if_pos (b.symm.trans e)];exact⟨b,c⟩
  ·rw[if_neg e,if_neg (fun z=>e (b.trans z))];exact⟨b,f⟩
theorem KV.put {kvs:List (κ×V)}{vs:List (κ×Value)}(r:KV kvs vs)(k:κ){y:V}(a:RelV y u):KV (putK kvs k y) (stored vs k u):=by
 unfold putK stored
 rw[r.any k]
 by_cases e:(vs.any fun b=>decide (b.1=k))=true
 ·rw[if_pos e,if_pos e];exact r.repl k a
 ·rw[if_neg e,if_neg e];exact Paired.snoc r ⟨rfl,a⟩
theorem KV.length {kvs:List (κ×V)}{vs:List (κ×Value)}(r:KV kvs vs):kvs.length=vs.length:=Paired.length r
end
theorem ON {k:Key}(r:RelV (kV k) u):(D9 P w).is k u=true:=by
 cases k with
 | inl i=>obtain⟨t,e⟩:=(show∃t,u=Value.int i t from r);subst e;exact OV P w i t
 | inr x=>obtain⟨t,e⟩:=(show∃t,u=Value.str x t from r);subst e;exact N8 P w x t
theorem JG {P:BT5}{w:World}:∀{ks:List Key} {us:List Value},Vals (ks.map kV) us->ItemsAre (D9 P w) ks us
 | [],_,r=>by rw[CB8] at r;cases r;exact .nil
 | k::ks,_,r=>by
  rw[BR7] at r
  cases r with
  | cons h t=>exact .cons (ON h) (JG t)
abbrev KT (H:Hp):List (List Key×V)->List (List Key×Addr×Value)->Prop:=Paired fun p q=>p.1=q.1/\H q.2.1=some (.tup (p.1.map kV))/\RelV p.2 q.2.2
theorem KT.val {kvs:List (List Key×V)}{xs:List (List Key×Addr×Value)}(r:KT H kvs xs)(k:List Key):RelO (X6 kvs k) ((atKey xs k).map (·.2)):=by
 induction r with
 | nil=>exact True.intro
 | @cons p q i a h t f =>
  obtain⟨d,_,g⟩:=h
  by_cases e:p.1=k
  ·have c:q.1=k:=d.symm.trans e
   have b:atKey (q::a) k=some q.2:=by simp[atKey,BZ1,c]
   rw[HN e,b];exact g
  ·have c:¬q.1=k:=fun z=>e (d.trans z)
   have b:atKey (q::a) k=atKey a k:=by simp[atKey,BZ1,c]
   rw[HM e,b];exact f
theorem KT.repl {kvs:List (List Key×V)}{xs:List (List Key×Addr×Value)}(r:KT H kvs xs)(k:List Key){y:V}(d:RelV y u) :
  KT H (kvs.map fun b=>if b.1=k then(b.1,y) else b) (xs.map (putAt k u)):=by
 induction r with
 | nil=>exact .nil
 | @cons p q i j h t f =>
  rw[BR7,BR7]
  refine .cons ?_ f
  obtain⟨a,c,g⟩:=h
  unfold putAt
  by_cases e:p.1=k
  ·rw[if_pos e,if_pos (a.symm.trans e)];exact⟨a,c,d⟩
  ·rw[if_neg e,if_neg (fun z=>e (a.trans z))];exact⟨a,c,g⟩
theorem KT.put {kvs:List (List Key×V)}{xs:List (List Key×Addr×Value)}(r:KT H kvs xs)(k:List Key){b:Addr}{y:V}(c:H b=some (.tup (k.map kV)))(a:RelV y u) :
  KT H (putK kvs k y) (storedH xs k b u):=by
 have e:(kvs.any fun d=>decide (d.1=k))=(atKey xs k).isSome:=by
  rw[QM,(r.val k).isSome_eq,Option.isSome_map]
 unfold putK storedH
 rw[e]
 by_cases q:(atKey xs k).isSome=true
 ·rw[if_pos q,if_pos q];exact r.repl k a
 ·rw[if_neg q,if_neg q];exact Paired.snoc r ⟨rfl,c,a⟩
theorem KT.keeps {H':Hp}{kvs:List (List Key×V)}{xs:List (List Key×Addr×Value)}(r:KT H kvs xs)(a:∀b ys,H b=some (.tup ys)->H' b=some (.tup ys)):KT H' kvs xs :=
 Paired.mapP r fun _ _ z=>⟨z.1,a _ _ z.2.1,z.2.2⟩
section
variable {P:BT5}{w:World}{H:Hp}{h:Heap}{a:Addr}
theorem AU9 {u:HO}(ok:HOk P w H h)(e:Rd H a u):ObjOk P w H h a u:=e.ok ok
theorem ZT (ok:HOk P w H h)(e:Rd H a (.dK kvs)):kvs.length<=BQ6/\(a==BW5)=false/\∃vs,KV kvs vs/\h.DictOf (D9 P w) a vs :=
 show ObjOk P w H h a (.dK kvs) from AU9 ok e
theorem AT2 (ok:HOk P w H h)(e:H a=some (.dK kvs)):kvs.length<=BQ6/\(a==BW5)=false/\∃vs,KV kvs vs/\h.DictOf (D9 P w) a vs:=ZT ok (.inl e)
theorem RE {ks:List Key}(ok:HOk P w H h)(e:H a=some (.tup (ks.map kV))):(tupleKind (D9 P w)).is h ks a:=by
 obtain⟨_,b,r,o,c,d,n,f⟩:=(show ObjOk P w H h a (.tup (ks.map kV)) from ok a _ e)
 exact⟨o,b.toArray,n,c,d,f,by simpa using JG r⟩
theorem ZW {kvs:List (List Key×V)}(ok:HOk P w H h)(e:Rd H a (.dT kvs)):kvs.length<=BQ6/\(a==BW5)=false /\
  ∃xs,KT H kvs xs/\h.DictOfH (tupleKind (D9 P w)) a xs:=by
 obtain⟨z,y,xs,r,o,c,d,f,g,i,j,k⟩:=(show ObjOk P w H h a (.dT kvs) from AU9 ok e)
 refine⟨z,y,xs,r,o,c,d,f,g,i,j,fun x hx=>?_,k⟩
 have all:∀{l:List (List Key×V)} {m:List (List Key×Addr×Value)},KT H l m->∀x∈m,(tupleKind (D9 P w)).is h x.1 x.2.1:=by
  intro l m q
  induction q with
  | nil=>intro x hx;exact nomatch hx
  | @cons p q s u b t n =>
   intro x hx
   rcases BU1.mp hx with e|hx
   ·subst e
    exact RE ok (by rw[<-b.1];exact b.2.1)
   ·exact n x hx
 exact all r x hx
theorem BG6 {kvs:List (List Key×V)}(ok:HOk P w H h)(e:H a=some (.dT kvs)):kvs.length<=BQ6/\(a==BW5)=false /\
  ∃xs,KT H kvs xs/\h.DictOfH (tupleKind (D9 P w)) a xs:=ZW ok (.inl e)
end
def AW0 (H:Hp)(a:Addr)(y:V)(r:Option V):Prop :=
 (∃kvs k,Rd H a (.dK kvs)/\y=kV k/\r=X6 kvs k)\/∃kvs k b,Rd H a (.dT kvs)/\y=.ref b/\H b=some (.tup (k.map kV))/\r=X6 kvs k
def BF4 (H:Hp)(a:Addr)(y v:V)(H':Hp):Prop :=
 (∃kvs k,H a=some (.dK kvs)/\y=kV k/\kvs.length<BQ6/\H'=upd H a (.dK (putK kvs k v))) \/
 ∃kvs k b,H a=some (.dT kvs)/\y=.ref b/\H b=some (.tup (k.map kV))/\kvs.length<BQ6/\H'=upd H a (.dT (putK kvs k v))
section
variable {X:Cx}{pins:List (Addr×Obj)}{σ:St}{H:Hp}{s:BP9}{a:Addr}{y v:V}{u r:Value}{o:Option V}{A:BY4}{E:Value->BP9->Prop}
theorem Inv.big (I:Inv X pins σ H s):BW5<s.heap.objs.size:=by
 have h:BT1<s.heap.objs.size:=(I.mod.glob.keeps I.bk).lt
 exact Nat.lt_trans (by decide) h
theorem WG (r:A.units+1<cLine)(I:Inv X pins σ H s)(g:AW0 H a y (some v))(q:RelV y u)(h:∀w' s',Inv X pins σ H s'->RelV v w'->Q w' s') :
  wpAny (model X.prog X.w) A (CE6 (.ref a) u) Q E s:=by
 rcases g with⟨f,k,e,i,l⟩|⟨f,k,b,e,i,t,l⟩
 ·subst i
  obtain⟨z,x,B,c,j⟩:=ZT I.hok e
  obtain⟨w',m,d⟩:=RelO.some_of (v:=v) (o:=valueAt B k) (by rw[l];exact c.val k)
  exact wpAny_getItem_of (ON q) j.mapOf m (h w' _ (I.tok _) d)
 ·subst i
  cases(show u=Value.ref b from q)
  obtain⟨z,x,C,c,j⟩:=ZW I.hok e
  obtain⟨w',m,d⟩:=RelO.some_of (v:=v) (o:=(atKey C k).map (·.2)) (by rw[l];exact c.val k)
  obtain⟨p,D,n⟩:=Option.map_eq_some_iff.mp m
  refine wpAny_getItem_heap (tupleKind_room_in1 r) (RE I.hok t) j D ?_
  rw[n]
  exact h w' _ (I.tok _) d
theorem EH {t':Nat}{c:HO}(I:Inv X pins σ H s)(d:Mut (H a))(hs:BX4 a s.heap h')(f:∃q,h'.get? a=some q)(new:ObjOk X.prog X.w (upd H a c) h' a c) :
  Inv X pins σ (upd H a c) {s with heap:=h',toks:=t'} :=
 I.write (x:=a) (e:=a) d (.inl rfl) (fun b q g z=>(hs.2 b g).trans z) f new
theorem ZS {H':Hp}{vs:List (Key×Value)}(z:kvs.length<=BQ6)(hd:(a==BW5)=false)(b:KV kvs vs)(c:h'.DictOf (D9 P w) a vs) :
  ObjOk P w H' h' a (.dK kvs):=⟨z,hd,vs,b,c⟩
theorem WH {H':Hp}{Q:Unit->BP9->Prop}(K:A.units+1<cLine)(I:Inv X pins σ H s)(g:BF4 H a y v H')(C:RelV y u)(D:RelV v r)(h:∀s',Inv X pins σ H' s'->Q () s') :
  wpAny (model X.prog X.w) A (setItem (.ref a) u r) Q E s:=by
 rcases g with⟨d,k,e,m,l,n⟩|⟨d,k,b,e,m,F,l,n⟩
 ·subst m n
  obtain⟨z,o,L,f,p⟩:=AT2 I.hok e
  have t:L.length<=BQ6:=by rw[<-f.length];exact z
  have x:(putK d k v).length<=BQ6:=by have:=V5 d k v;lia
  refine wpAny_setItem_pairs (hsz:=t) (ON C) p fun G i B=>h _ ?_
  have M:∃q,G.get? a=some q:=let ⟨q,_,_,j,_⟩:=i;⟨q,j⟩
  exact EH I (by rw[e];exact True.intro) B M (ZS x o (f.put k D) i)
 ·subst m n
  cases(show u=Value.ref b from C)
  obtain⟨z,o,N,f,p⟩:=BG6 I.hok e
  have t:N.length<=BQ6:=by rw[<-Paired.length f];exact z
  have x:(putK d k v).length<=BQ6:=by have:=V5 d k v;lia
  refine wpAny_setItem_heap (hsz:=t) (tupleKind_room_in1 K) (RE I.hok F) p fun G i B=>h _ ?_
  obtain⟨q,O,P,j,R,S,T,_,U⟩:=i
  refine EH I (by rw[e];exact True.intro) B ⟨q,j⟩ ⟨x,o,_,(f.put k F D).keeps fun c V J=>?_,q,O,P,j,R,S,T,U⟩
  rw[D7 (BI5 J e (fun z=>nomatch z))]
  exact J
end
section
variable {X:Cx}{pins:List (Addr×Obj)}{σ:St}{H:Hp}{s:BP9}{a:Addr}{kvs:List (Key×V)}{k:Key}{u:Value}{A:BY4}{E:Value->BP9->Prop}
end
def WA (i:Expr):Prop:=∀ov iv,subscripted i false ov iv=operate [ov,iv] (CE6 ov iv)
theorem NF {E:Value->BP9->Prop}{value a:Expr}{T id:String}
  (j:typeLookup (.type T) "__getitem__"=pure (some (.builtin id))) (hs:WA a)
  (h:wpAny (model prog w) A (eval value env) (fun o s₁=>wpAny (model prog w) A (eval a env) (fun i s₂=>s₂.TypeIs o T/\wpAny (model prog w) A (CE6 o i) Q E s₂) E s₁) E s) :
  wpAny (model prog w) A (eval (.Subscript value a pos) env) Q E s:=by
 refine Subscript_ (BV0 h (fun o s₁ e=>BV0 e (fun i s₂ b=>?_) fun _ _ x=>x) fun _ _ x=>x)
 obtain⟨g,b⟩:=b
 unfold subscriptTail
 refine BP2 ?_
 rw[getitemInPython_of_ne g.not_modules]
 refine BP2 (CB1 g j ?_)
 have d:wpAny (model prog w) A (subscripted a false o i) (fun r c=>wpAny (model prog w) A (letTemporaryGo value o r >>= fun _=>pure r) Q E c) E s₂:=by
  rw[hs o i]
  exact wpAny_operating (BV0 b (fun r c f=>BP2 (wpAny_letTemporaryGo (BP6 f))) fun _ _ x=>x)
 first
  | exact BP6 (BP2 d)
  | exact BP2 (BP6 (BP2 d))
  | exact BP2 d
theorem OE {X:Cx}{σ:St}{a:Addr}{y:V}{o:Option V}(I:Inv X pins σ H s)(g:AW0 H a y o):s.TypeIs (.ref a) "dict":=by
 rcases g with⟨c,k,e,_,_⟩|⟨c,k,b,e,_,_,_⟩
 ·obtain⟨_,_,f,_,d⟩:=ZT I.hok e
  exact d.typeIs
 ·obtain⟨_,_,h,_,d⟩:=ZW I.hok e
  exact d.typeIs
def BM4 (td ty:TE):TE:=fun σ H Q=>td σ H fun x H1=>ty σ H1 fun y H2=>∃a v,x=.ref a/\AW0 H2 a y (some v)/\Q v H2
def BL6 (td ty tv:TE):TS:=fun D σ H=>tv σ H fun v H1=>td σ H1 fun x H2=>ty σ H2 fun y H3=>∃a H4,x=.ref a/\BF4 H3 a y v H4/\D.nx σ H4
section
variable {X:Cx}{o i e value:Expr}{pos pos' tpos:Pos}{td ty tv:TE}
theorem AO9 (f:X.A.units+1<cLine)(ho:PE X o td)(hi:PE X i ty)(hs:WA i):PE X (.Subscript o i pos) (BM4 td ty):=by
 intro b s d H Q I h
 refine NF PySem.F.slot_dict_getitem.lookup hs (thn (ho b s d H _ I h) fun u j ⟨x,k,l,m,n⟩=>thn (hi b j d k _ l n) fun w z ⟨y,p,e,q,a,v,ex,g,r⟩=>?_)
 subst ex
 obtain rfl:u=Value.ref a:=m
 exact⟨OE e g,WG f e g q fun B C t c=>⟨v,p,t,c,r⟩⟩
theorem AQ7 (d:X.A.units+1<cLine)(ho:PE X o td)(hi:PE X i ty)(e:PE X value tv)(hs:CE9 value (some (.Subscript o i pos')) pos.line X.env=pure false) :
  PS X (.Assign [.Subscript o i pos'] value pos) (BL6 td ty tv):=by
 intro b s c H D I h
 refine wpAny_Assign_Subscript (thn (e b s c H _ I h) fun r f ⟨v,j,k,l,m⟩=>thn (ho b f c j _ k m) fun u n ⟨x,p,q,t,w⟩=>thn (hi b n c p _ q w) fun G J ⟨y,K,z,B,a,C,ex,g,E⟩=>?_) hs
 subst ex
 obtain rfl:u=Value.ref a:=t
 exact WH d z g B l fun L F=>⟨c,C,F,E⟩
end
theorem ZR (h:Heap)(a:BW5<h.objs.size):ObjOk P w H (h.push {cls:=.type "dict",data:=.dict #[]}) h.objs.size (.dK []) :=
 ⟨BW4 _,beq_eq_false_iff_ne.mpr (Ne.symm (BS3 a)),[],.nil,Heap.DictOf.new h⟩
section
variable {X:Cx}{pos:Pos}
end
def NJ:List (TE×TE)->St->Hp->(List (V×V)->Hp->Prop)->Prop
 | [],_,H,Q=>Q [] H
 | (tk,tv)::r,σ,H,Q=>tk σ H fun x H1=>tv σ H1 fun y H2=>NJ r σ H2 fun ps H3=>Q ((x,y)::ps) H3
abbrev VV:List (V×V)->List (Value×Value)->Prop:=Paired fun p q=>RelV p.1 q.1/\RelV p.2 q.2
def PPs (X:Cx)(pos:Pos)(keys:List (Option Expr))(values:List Expr)(trs:List (TE×TE)):Prop :=
 ∀(pins:List (Addr×Obj)) (s:BP9) (σ:St) (H:Hp) (Q:List (V×V)->Hp->Prop),Inv X pins σ H s->NJ trs σ H Q ->
  wpAny (model X.prog X.w) X.A (evalPairs (pairTrees keys values X.env pos)) (fun vs s'=>∃ps H',Inv X pins σ H' s'/\VV ps vs/\Q ps H') X.xe s
theorem AQ1 {X:Cx}:PPs X pos [] [] []:=fun a s b H Q I h=>pairTrees_nil_walk ⟨[],H,I,.nil,h⟩
theorem AE3 {X:Cx}{k v:Expr}{ks:List (Option Expr)}{vs:List Expr}{tk tv:TE}{b:List (TE×TE)}(e:PE X k tk)(f:PE X v tv)(g:PPs X pos ks vs b) :
  PPs X pos (some k::ks) (v::vs) ((tk,tv)::b):=fun a s c H Q I h =>
 pairTrees_cons_walk (thn (e a s c H _ I h) fun u i ⟨x,j,l,m,n⟩=>thn (f a i c j _ l n) fun C o ⟨y,p,q,r,t⟩ =>
  thn (g a o c p _ q t) fun D E ⟨w,z,A,d,B⟩=>⟨(x,y)::w,z,A,.cons ⟨m,r⟩ d,B⟩)
def CO (kvs more:List (Key×V)):List (Key×V):=more.foldl (fun acc kv=>putK acc kv.1 kv.2) kvs
theorem KV.merge:∀{more:List (Key×V)} {a:List (Key×Value)} {kvs:List (Key×V)} {vs:List (Key×Value)},KV more a->KV kvs vs->KV (CO kvs more) (merged vs a):=by
 intro more a kvs vs r
 unfold KV at r
 induction r generalizing kvs vs with
 | nil=>intro q;exact q
 | @cons p q d f h t b =>
  intro c
  have e:KV (putK kvs p.1 p.2) (stored vs q.1 q.2):=by
   have:=c.put p.1 h.2
   rw[<-h.1];exact this
  exact b e
theorem Z5:∀(more kvs:List (Key×V)),(CO kvs more).length<=kvs.length+more.length
 | [],kvs=>by show kvs.length<=kvs.length+0;lia
 | p::r,kvs=>by
  have a:=Z5 r (putK kvs p.1 p.2)
  have b:=V5 kvs p.1 p.2
  show(CO (putK kvs p.1 p.2) r).length<=_
  rw[BP8];lia
theorem FK {P:BT5}{w:World}:∀{kvs:List (Key×V)} {e:List (Value×Value)},VV (kvs.map fun f=>(kV f.1,f.2)) e->∃d,Carries (D9 P w) e d/\KV kvs d
 | [],_,r=>by rw[CB8] at r;cases r;exact⟨[],True.intro,.nil⟩
 | p::kvs,_,r=>by
  rw[BR7] at r
  cases r with
  | @cons a b i bs h t =>
   obtain⟨d,c,q⟩:=FK (P:=P) (w:=w) t
   obtain⟨j,g⟩:=b
   exact⟨(p.1,g)::d,⟨ON h.1,rfl,c⟩,.cons ⟨rfl,h.2⟩ q⟩
def BM5 (trs:List (TE×TE)):TE:=fun σ H Q=>∀p,H p=none->NJ trs σ (upd H p (.dK [])) fun ps H2=>H2 p=some (.dK [])/\∃kvs:List (Key×V),ps=kvs.map (fun kv=>(kV kv.1,kv.2))/\kvs.length<=15/\Q (.ref p) (upd H2 p (.dK (CO [] kvs)))
theorem AP0 {X:Cx}{keys:List (Option Expr)}{b:List Expr}{d:List (TE×TE)}(h:PPs X pos keys b d)(f:keys.all (·.isSome)=true)(n:keys.length=b.length)(p:keys≠[])
  (k:keys.length<=15):PE X (.Dict keys b pos) (BM5 d):=by
 intro g s r H Q I q
 have t:=I.hok.fresh (BP5 s.heap.objs.size)
 have u:=I.laid (a:=s.heap.objs.size) (o:=.dK []) (h':=s.heap.push {cls:=.type "dict",data:=.dict #[]}) (t':=s.toks) (fun _ _ q=>BP4 _ q) (BP5 _) (ZR s.heap I.big)
 refine wpAny_Dict_walk (knd:=D9 X.prog X.w) f n p k (thn (h g _ r _ _ u (q _ t)) fun L M ⟨N,O,m,l,e,i,v,R,x⟩=>?_)
 subst v
 obtain⟨y,c,A⟩:=FK (P:=X.prog) (w:=X.w) l
 obtain⟨z,B,C,D,E⟩:=AT2 m.hok e
 cases D
 refine⟨y,c,E,fun h' j F=>⟨.ref s.heap.objs.size,_,?_,rfl,x⟩⟩
 have G:(CO [] i).length<=BQ6:=by
  have J:=Z5 i []
  rw[BR8] at J
  rw[BR0];lia
 have K:∃q,h'.get? s.heap.objs.size=some q:=let ⟨q,_,_,hq,_⟩:=j;⟨q,hq⟩
 exact EH m (by rw[e];exact True.intro) F K (ZS G B (A.merge .nil) j)
section
variable {X:Cx}{pins:List (Addr×Obj)}{σ:St}{H:Hp}{s:BP9}{a:Addr}{y d:V}{u r:Value}{o:Option V}{A:BY4}{E:Value->BP9->Prop}
end
section
variable {X:Cx}{o e f:Expr}{apos cpos:Pos}{td ty tx:TE}
end
section
variable {X:Cx}{pins:List (Addr×Obj)}{σ:St}{H:Hp}{s:BP9}{a:Addr}{kvs:List (Key×V)}{A:BY4}{E:Value->BP9->Prop}
end
section
variable {X:Cx}{pins:List (Addr×Obj)}{σ:St}{H:Hp}{s:BP9}{a:Addr}{y:V}{u:Value}{A:BY4}{E:Value->BP9->Prop}
end
section
variable {X:Cx}
end
section
variable {κ:Type}[DecidableEq κ]
end
end L2
namespace L3
open PySem PySem.Spec PyProof.Rows L2
class RdC (B:Prop) (A:outParam Prop):Prop where
 h:A->B
theorem RdC.g {A B:Prop}(i:RdC B A):A->B:=i.h
inductive D where
 | non|bl (b:Bool)|int (i:Int)|str (x:Str)|ty (n:String)|ref (a:Addr)
 | tup (xs:List D)|lst (xs:List D)|dct (kvs:List (Key×D))
abbrev C5:=Str×Option (List Int)
def nkD:C5->D
 | (w,none)=>.tup [.str w]
 | (w,some p)=>.tup [.str w,.tup (p.map D.int)]
inductive MO where
 | lst (xs:List D)|dct (kvs:List (Key×D))|dt (kvs:List (List Int×D))|dn (kvs:List (C5×D))
abbrev Mem:=Addr->Option MO
def D8 (M:Mem)(a:Addr)(o:MO):Mem:=fun b=>if b=a then some o else M b
def J1 (M:Mem)(a:Addr):Mem:=fun b=>if b=a then none else M b
theorem B0 {M:Mem}{a:Addr}{o:MO}:D8 M a o a=some o:=by unfold D8;rw[if_pos rfl]
theorem B3 {M:Mem}{a b:Addr}{o:MO}(h:b≠a):D8 M a o b=M b:=by unfold D8;rw[if_neg h]
theorem WW {M:Mem}{a:Addr}{o u:MO}:D8 (D8 M a o) a u=D8 M a u:=by
 funext b;unfold D8;split<;>rfl
def BF7 (K:BP3)(a:Addr)(xs:List V):Prop :=
 ∃(o:Obj) (its:Array Value) (n:Nat),K.lookup a=some o/\o.cls=.type "list"/\o.dict=none/\o.data=.seq its n/\its.size<=BQ6/\Vals xs its.toList
def AW2 (K:BP3)(a:Addr)(xs:List V):Prop :=
 ∃(o:Obj) (its:Array Value) (n:Nat),K.lookup a=some o/\o.cls=.type "tuple"/\o.data=.seq its n/\its.size<=BQ6/\Vals xs its.toList
def Fix (M:Mem)(H:Hp)(a:Addr)(o:HO):Prop:=Rd H a o/\M a=none
mutual
inductive Rep (K:BP3)(M:Mem)(H:Hp):D->V->Prop
 | non:Rep K M H .non .non
 | bl {b:Bool}:Rep K M H (.bl b) (.bl b)
 | int {i:Int}:Rep K M H (.int i) (.int i)
 | str {x:Str}:Rep K M H (.str x) (.str x)
 | ty {n:String}:Rep K M H (.ty n) (.ty n)
 | ref {a:Addr}:Rep K M H (.ref a) (.ref a)
 | tup {a:Addr} {ds:List D} {vs:List V}:(Fix M H a (.tup vs)\/AW2 K a vs)->Reps K M H ds vs->Rep K M H (.tup ds) (.ref a)
 | lst {a:Addr} {ds:List D} {vs:List V}:(Fix M H a (.lst vs)\/BF7 K a vs)->Reps K M H ds vs->Rep K M H (.lst ds) (.ref a)
 | dct {a:Addr} {ds:List (Key×D)} {vs:List (Key×V)}:Fix M H a (.dK vs)->RepK K M H ds vs->Rep K M H (.dct ds) (.ref a)
inductive Reps (K:BP3)(M:Mem)(H:Hp):List D->List V->Prop
 | nil:Reps K M H [] []
 | cons {d:D} {v:V} {ds:List D} {vs:List V}:Rep K M H d v->Reps K M H ds vs->Reps K M H (d::ds) (v::vs)
inductive RepK (K:BP3)(M:Mem)(H:Hp):List (Key×D)->List (Key×V)->Prop
 | nil:RepK K M H [] []
 | cons {k:Key} {d:D} {v:V} {ds:List (Key×D)} {vs:List (Key×V)}:Rep K M H d v->RepK K M H ds vs->RepK K M H ((k,d)::ds) ((k,v)::vs)
end
def BN6 (x:List Int×Addr×Value):DictEntry:=⟨reduceHash (BT2 (x.1.map hashInt)),.ref x.2.1,x.2.2⟩
def dtφ (a:Addr)(xs:List (List Int×Addr×Value)):BT5->World->Addr->Heap->Prop:=fun _ _ _ h=>(a==BW5)=false/\∃o es ep,h.get? a=some o/\o.ExactDict/\o.data=.dict es ep/\es.toList=xs.map BN6/\(xs.map (·.1)).Nodup
inductive RepT (K:BP3)(M:Mem)(H:Hp):List (List Int×D)->List (List Int×Addr×Value)->Prop
 | nil:RepT K M H [] []
 | cons {k:List Int} {b:Addr} {d:D} {v:V} {u:Value} {ds:List (List Int×D)} {xs:List (List Int×Addr×Value)}:Rep K M H (.tup (k.map D.int)) (.ref b)->Rep K M H d v->RelV v u->RepT K M H ds xs->RepT K M H ((k,d)::ds) ((k,b,u)::xs)
def nHs (w:World):C5->List Int
 | (x,none)=>[AL5 w (.inr x)]
 | (x,some p)=>[AL5 w (.inr x),reduceHash (BT2 (p.map hashInt))]
def UH (w:World)(k:C5):Int:=reduceHash (BT2 (nHs w k))
def BN7 (w:World)(x:C5×Addr×Value):DictEntry:=⟨UH w x.1,.ref x.2.1,x.2.2⟩
def dnφ (xs:List (C5×Addr×Value)):BT5->World->Addr->Heap->Prop:=fun _ w a h=>(a==BW5)=false/\∃o es ep,h.get? a=some o/\o.ExactDict/\o.data=.dict es ep/\es.toList=xs.map (BN7 w)/\(xs.map (·.1)).Nodup
inductive RepN (K:BP3)(M:Mem)(H:Hp):List (C5×D)->List (C5×Addr×Value)->Prop
 | nil:RepN K M H [] []
 | cons {k:C5} {b:Addr} {d:D} {v:V} {u:Value} {ds:List (C5×D)} {xs:List (C5×Addr×Value)}:Rep K M H (nkD k) (.ref b)->Rep K M H d v->RelV v u->RepN K M H ds xs->RepN K M H ((k,d)::ds) ((k,b,u)::xs)
def RepO (K:BP3)(M:Mem)(H:Hp)(a:Addr):MO->HO->Prop
 | .lst ds,.lst vs=>Reps K M H ds vs
 | .dct ds,.dK vs=>RepK K M H ds vs
 | .dt ds,.ext φ=>∃xs,φ=dtφ a xs/\RepT K M H ds xs
 | .dn ds,.ext φ=>∃xs,φ=dnφ xs/\RepN K M H ds xs
 | _,_=>False
def MRel (K:BP3)(M:Mem)(H:Hp):Prop:=∀a o,M a=some o->∃ho,H a=some ho/\RepO K M H a o ho
structure Step (M:Mem)(H:Hp)(M':Mem)(H':Hp):Prop where
 keep:∀a o,H a=some o->M a=none->H' a=some o
 dom:∀a,M' a≠none->M a≠none\/H a=none
theorem Step.refl {M:Mem}:Step M H M H:=⟨fun _ _ h _=>h,fun _ h=>.inl h⟩
theorem Step.gone {M M':Mem}{H':Hp}(s:Step M H M' H'){a:Addr}{o:HO}(h:H a=some o)(b:M a=none):M' a=none:=by
 cases e:M' a with
 | none=>rfl
 | some u =>
  rcases s.dom a (by rw[e];intro z;cases z) with z|z
  ·exact absurd b z
  ·rw[h] at z;cases z
theorem Step.trans {M M1 M2:Mem}{H1 H2:Hp}(a:Step M H M1 H1)(b:Step M1 H1 M2 H2):Step M H M2 H2 where
 keep:=fun c o h d=>b.keep c o (a.keep c o h d) (a.gone h d)
 dom:=fun c h=>by
  rcases b.dom c h with z|z
  ·exact a.dom c z
  ·cases e:H c with
   | none=>exact .inr rfl
   | some o =>
    refine .inl fun d=>?_
    rw[a.keep c o e d] at z;cases z
theorem Fix.mono {M M':Mem}{H':Hp}{a:Addr}{o:HO}(s:Step M H M' H')(f:Fix M H a o):Fix M' H' a o:=by
 obtain⟨r,b⟩:=f
 rcases r with r|⟨c,r⟩
 ·exact⟨.inl (s.keep _ _ r b),s.gone r b⟩
 ·exact⟨.inr ⟨c,s.keep _ _ r b⟩,s.gone r b⟩
section
variable {K:BP3}{M M':Mem}{H H':Hp}
theorem Rep.mono {d:D}(s:Step M H M' H')(r:Rep K M H d v):Rep K M' H' d v :=
 Rep.rec (motive_1:=fun d v _=>Rep K M' H' d v) (motive_2:=fun e f _=>Reps K M' H' e f) (motive_3:=fun e f _=>RepK K M' H' e f)
  .non .bl .int .str .ty .ref (fun h _ c=>.tup (h.imp (Fix.mono s) id) c) (fun h _ c=>.lst (h.imp (Fix.mono s) id) c) (fun h _ c=>.dct (h.mono s) c)
  .nil (fun _ _ a b=>.cons a b) .nil (fun _ _ a b=>.cons a b) r
theorem Reps.mono {ds:List D}(s:Step M H M' H')(r:Reps K M H ds vs):Reps K M' H' ds vs:=by
 induction ds generalizing vs with
 | nil=>cases r;exact .nil
 | cons d ds c=>cases r with|cons a b=>exact .cons (a.mono s) (c b)
theorem RepK.mono {ds:List (Key×D)}{vs:List (Key×V)}(s:Step M H M' H')(r:RepK K M H ds vs):RepK K M' H' ds vs:=by
 induction ds generalizing vs with
 | nil=>cases r;exact .nil
 | cons d ds c=>cases r with|cons a b=>exact .cons (a.mono s) (c b)
theorem RepT.mono {ds:List (List Int×D)}{xs:List (List Int×Addr×Value)}(s:Step M H M' H')(r:RepT K M H ds xs):RepT K M' H' ds xs:=by
 induction r with
 | nil=>exact .nil
 | cons a b c _ d=>exact .cons (a.mono s) (b.mono s) c d
theorem RepN.mono {ds:List (C5×D)}{xs:List (C5×Addr×Value)}(s:Step M H M' H')(r:RepN K M H ds xs):RepN K M' H' ds xs:=by
 induction r with
 | nil=>exact .nil
 | cons a b c _ d=>exact .cons (a.mono s) (b.mono s) c d
theorem Reps.length {ds:List D}(r:Reps K M H ds vs):ds.length=vs.length:=by
 induction ds generalizing vs with
 | nil=>cases r;rfl
 | cons d ds c=>cases r with|cons a b=>rw[BP8,BP8,c b]
theorem Reps.get {ds:List D}(r:Reps K M H ds vs){d:D}(h:ds[i]?=some d):∃v,vs[i]?=some v/\Rep K M H d v:=by
 induction ds generalizing vs i with
 | nil=>simp at h
 | cons e ds c =>
  cases r with
  | cons a b =>
   cases i with
   | zero=>simp at h;subst h;exact⟨_,rfl,a⟩
   | succ i=>simpa using c b (by simpa using h)
theorem Reps.append {ds es:List D}{us:List V}(r:Reps K M H ds vs)(q:Reps K M H es us):Reps K M H (ds++es) (vs++us):=by
 induction ds generalizing vs with
 | nil=>cases r;exact q
 | cons d ds c=>cases r with|cons a b=>exact .cons a (c b)
theorem Reps.take {ds:List D}(r:Reps K M H ds vs)(n:Nat):Reps K M H (ds.take n) (vs.take n):=by
 induction ds generalizing vs n with
 | nil=>cases r;simp;exact .nil
 | cons d ds c=>cases r with|cons a b=>cases n with
  | zero=>exact .nil
  | succ n=>simpa using Reps.cons a (c b n)
theorem Reps.drop {ds:List D}(r:Reps K M H ds vs)(n:Nat):Reps K M H (ds.drop n) (vs.drop n):=by
 induction ds generalizing vs n with
 | nil=>cases r;simp;exact .nil
 | cons d ds c=>cases r with|cons a b=>cases n with
  | zero=>exact .cons a b
  | succ n=>simpa using c b n
theorem Reps.set {ds:List D}{d:D}(r:Reps K M H ds vs)(q:Rep K M H d v)(i:Nat):Reps K M H (ds.set i d) (vs.set i v):=by
 induction ds generalizing vs i with
 | nil=>cases r;exact .nil
 | cons d ds c=>cases r with|cons a b=>cases i with
  | zero=>exact .cons q b
  | succ i=>exact .cons a (c b i)
theorem Reps.ints {ns:List Int}:Reps K M H (ns.map D.int) (ns.map V.int):=by
 induction ns with
 | nil=>exact .nil
 | cons n ns a=>exact .cons .int a
theorem MRel.free (m:MRel K M H){a:Addr}(h:H a=none):M a=none:=by
 cases e:M a with
 | none=>rfl
 | some o=>obtain⟨b,z,_⟩:=m a o e;rw[h] at z;cases z
end
abbrev Lo:=List (Option D)
structure SRel (K:BP3)(M:Mem)(H:Hp)(σ:Lo)(σv:L2.St):Prop where
 len:σ.length=σv.length
 get:∀(i:Nat) (d:D),σ[i]?=some (some d)->∃v,σv[i]?=some (some v)/\Rep K M H d v
theorem SRel.mono {M M':Mem}{H':Hp}{σ:Lo}{σv:L2.St}(s:Step M H M' H')(r:SRel K M H σ σv):SRel K M' H' σ σv :=
 ⟨r.len,fun i d h=>let ⟨v,e,q⟩:=r.get i d h;⟨v,e,q.mono s⟩⟩
theorem SRel.set {M:Mem}{σ:Lo}{σv:L2.St}(r:SRel K M H σ σv){d:D}(q:Rep K M H d v)(i:Nat):SRel K M H (σ.set i (some d)) (σv.set i (some v)):=by
 refine⟨by simp[r.len],fun j e h=>?_⟩
 rw[List.getElem?_set] at h
 rw[List.getElem?_set,<-r.len]
 by_cases a:i=j
 ·rw[if_pos a] at h ⊢
  by_cases b:j<σ.length
  ·rw[a,if_pos b] at h
   rw[a,if_pos b]
   cases h
   exact⟨v,rfl,q⟩
  ·rw[a,if_neg b] at h;cases h
 ·rw[if_neg a] at h ⊢
  exact r.get j e h
abbrev DK:=D->Mem->Prop
abbrev TE3:=Lo->Mem->DK->Prop
abbrev TT3:=Lo->Mem->(Bool->Mem->Prop)->Prop
abbrev TA3:=Lo->Mem->(List D->Mem->Prop)->Prop
structure N1 where
 nx:Lo->Mem->Prop
 rt:DK
 bk:Lo->Mem->Prop:=fun _ _=>False
 ct:Lo->Mem->Prop:=fun _ _=>False
abbrev TS3:=N1->Lo->Mem->Prop
def EP3 (X:Cx)(pins:List (Addr×Obj))(σv:L2.St)(M:Mem)(H:Hp)(Q:DK)(u:Value)(s':BP9):Prop :=
 ∃d v M' H',Inv X pins σv H' s'/\Step M H M' H'/\MRel X.K M' H'/\RelV v u/\Rep X.K M' H' d v/\Q d M'
def TP3 (X:Cx)(pins:List (Addr×Obj))(σv:L2.St)(M:Mem)(H:Hp)(Q:Bool->Mem->Prop)(b:Bool)(s':BP9):Prop :=
 ∃M' H',Inv X pins σv H' s'/\Step M H M' H'/\MRel X.K M' H'/\Q b M'
def AP3 (X:Cx)(pins:List (Addr×Obj))(σv:L2.St)(M:Mem)(H:Hp)(Q:List D->Mem->Prop)(us:List Value)(s':BP9):Prop :=
 ∃ds vs M' H',Inv X pins σv H' s'/\Step M H M' H'/\MRel X.K M' H'/\Vals vs us/\Reps X.K M' H' ds vs/\Q ds M'
def SP3 (X:Cx)(pins:List (Addr×Obj))(M:Mem)(H:Hp)(T:N1)(f:Flow)(s':BP9):Prop :=
 match f with
 | .next=>∃σ' σv' M' H',Inv X pins σv' H' s'/\Step M H M' H'/\MRel X.K M' H'/\SRel X.K M' H' σ' σv'/\T.nx σ' M'
 | .brk=>∃σ' σv' M' H',Inv X pins σv' H' s'/\Step M H M' H'/\MRel X.K M' H'/\SRel X.K M' H' σ' σv'/\T.bk σ' M'
 | .cont=>∃σ' σv' M' H',Inv X pins σv' H' s'/\Step M H M' H'/\MRel X.K M' H'/\SRel X.K M' H' σ' σv'/\T.ct σ' M'
 | .ret u=>∃d v σv' M' H',Inv X pins σv' H' s'/\Step M H M' H'/\MRel X.K M' H'/\RelV v u/\Rep X.K M' H' d v/\T.rt d M'
def PE3 (X:Cx)(e:Expr)(t:TE3):Prop :=
 ∀(pins:List (Addr×Obj)) (s:BP9) (σv:L2.St) (H:Hp) (σ:Lo) (M:Mem) (Q:DK),Inv X pins σv H s->SRel X.K M H σ σv->MRel X.K M H->t σ M Q ->
  wpAny (model X.prog X.w) X.A (eval e X.env) (EP3 X pins σv M H Q) X.xe s
def PT3 (X:Cx)(e:Expr)(t:TT3):Prop :=
 ∀(pins:List (Addr×Obj)) (s:BP9) (σv:L2.St) (H:Hp) (σ:Lo) (M:Mem) (Q:Bool->Mem->Prop),Inv X pins σv H s->SRel X.K M H σ σv->MRel X.K M H->t σ M Q ->
  wpAny (model X.prog X.w) X.A (isTrue e X.env (eval e X.env)) (TP3 X pins σv M H Q) X.xe s
def PA3 (X:Cx)(es:List Expr)(t:TA3):Prop :=
 ∀(pos:Pos) (pins:List (Addr×Obj)) (s:BP9) (σv:L2.St) (H:Hp) (σ:Lo) (M:Mem) (Q:List D->Mem->Prop),Inv X pins σv H s->SRel X.K M H σ σv->MRel X.K M H->t σ M Q ->
  wpAny (model X.prog X.w) X.A (spliced (CD9 pos (BR9 es X.env))) (AP3 X pins σv M H Q) X.xe s
def PS3 (X:Cx)(st:Stmt)(t:TS3):Prop :=
 ∀(pins:List (Addr×Obj)) (s:BP9) (σv:L2.St) (H:Hp) (σ:Lo) (M:Mem) (T:N1),Inv X pins σv H s->SRel X.K M H σ σv->MRel X.K M H->t T σ M ->
  wpAny (model X.prog X.w) X.A (exec st X.env) (SP3 X pins M H T) X.xe s
def PSs3 (X:Cx)(st:List Stmt)(t:TS3):Prop :=
 ∀(pins:List (Addr×Obj)) (s:BP9) (σv:L2.St) (H:Hp) (σ:Lo) (M:Mem) (T:N1),Inv X pins σv H s->SRel X.K M H σ σv->MRel X.K M H->t T σ M ->
  wpAny (model X.prog X.w) X.A (execs st X.env) (SP3 X pins M H T) X.xe s
def dnE (K:BP3)(t:TE3):TE:=fun σv H Q2=>∃σ M Q,SRel K M H σ σv/\MRel K M H/\t σ M Q/\∀d v M' H',Step M H M' H'->MRel K M' H'->Rep K M' H' d v->Q d M'->Q2 v H'
def dnT (K:BP3)(t:TT3):TT:=fun σv H Q2=>∃σ M Q,SRel K M H σ σv/\MRel K M H/\t σ M Q/\∀b M' H',Step M H M' H'->MRel K M' H'->Q b M'->Q2 b H'
def dnA (K:BP3)(t:TA3):TA:=fun σv H Q2=>∃σ M Q,SRel K M H σ σv/\MRel K M H/\t σ M Q/\∀ds vs M' H',Step M H M' H'->MRel K M' H'->Reps K M' H' ds vs->Q ds M'->Q2 vs H'
structure YL (K:BP3)(M:Mem)(H:Hp)(T:N1)(D2:Ends):Prop where
 nx:∀σ' σv' M' H',Step M H M' H'->MRel K M' H'->SRel K M' H' σ' σv'->T.nx σ' M'->D2.nx σv' H'
 bk:∀σ' σv' M' H',Step M H M' H'->MRel K M' H'->SRel K M' H' σ' σv'->T.bk σ' M'->D2.bk σv' H'
 ct:∀σ' σv' M' H',Step M H M' H'->MRel K M' H'->SRel K M' H' σ' σv'->T.ct σ' M'->D2.ct σv' H'
 rt:∀d v M' H',Step M H M' H'->MRel K M' H'->Rep K M' H' d v->T.rt d M'->D2.rt v H'
def dnS (K:BP3)(t:TS3):TS:=fun D2 σv H=>∃σ M T,SRel K M H σ σv/\MRel K M H/\t T σ M/\YL K M H T D2
section
variable {X:Cx}{e:Expr}{es:List Expr}{st:Stmt}{sts:List Stmt}
theorem PE3.dn {t:TE3}(h:PE3 X e t):PE X e (dnE X.K t):=by
 rintro a s b H p I ⟨g,M,Q,i,j,k,l⟩
 exact thn (h a s b H g M Q I i j k) fun u w ⟨d,v,m,f,n,st,o,r,c,q⟩=>⟨v,f,n,r,l d v m f st o c q⟩
theorem PT3.dn {t:TT3}(h:PT3 X e t):PT X e (dnT X.K t):=by
 rintro a s b H n I ⟨d,M,Q,f,g,i,j⟩
 exact thn (h a s b H d M Q I f g i) fun u o ⟨k,c,l,st,m,q⟩=>⟨c,l,j u k c st m q⟩
theorem PA3.dn {t:TA3}(h:PA3 X es t):PA X es (dnA X.K t):=by
 rintro b a s c H p I ⟨g,M,Q,i,j,k,l⟩
 exact thn (h b a s c H g M Q I i j k) fun u w ⟨d,v,m,f,n,st,o,r,e,q⟩=>⟨v,f,n,r,l d v m f st o e q⟩
theorem BL8 {M:Mem}{T:N1}{g:Ends}(h:YL X.K M H T g){f:Flow}(q:SP3 X pins M H T f s'):SP X pins g f s':=by
 cases f with
 | next=>obtain⟨c,a,e,b,I,st,m,r,q⟩:=q;exact⟨a,b,I,h.nx _ _ _ _ st m r q⟩
 | brk=>obtain⟨c,a,e,b,I,st,m,r,q⟩:=q;exact⟨a,b,I,h.bk _ _ _ _ st m r q⟩
 | cont=>obtain⟨c,a,e,b,I,st,m,r,q⟩:=q;exact⟨a,b,I,h.ct _ _ _ _ st m r q⟩
 | ret u=>obtain⟨d,v,a,e,b,I,st,m,i,r,q⟩:=q;exact⟨v,a,b,I,i,h.rt _ _ _ _ st m r q⟩
theorem PSs3.dn {t:TS3}(h:PSs3 X sts t):PSs X sts (dnS X.K t):=by
 rintro a s b H j I ⟨c,M,T,d,e,g,i⟩
 exact thn (h a s b H c M T I d e g) fun f k q=>BL8 i q
abbrev Up (K:BP3)(M:Mem)(H:Hp)(Q:DK):VK:=fun v H'=>∃d M',Step M H M' H'/\MRel K M' H'/\Rep K M' H' d v/\Q d M'
theorem PE3.of {t:TE3}{t2:TE}(h:PE X e t2)(b:∀pins s σv H σ M Q,Inv X pins σv H s->SRel X.K M H σ σv->MRel X.K M H->t σ M Q->t2 σv H (Up X.K M H Q)):PE3 X e t:=by
 intro pins s σv H σ M Q I c f g
 exact thn (h pins s σv H _ I (b pins s σv H σ M Q I c f g)) fun u m ⟨v,i,j,r,d,k,st,l,a,q⟩=>⟨d,v,k,i,j,st,l,r,a,q⟩
abbrev UpE (K:BP3)(M:Mem)(H:Hp)(T:N1):Ends where
 nx:=fun σv' H'=>∃σ' M',Step M H M' H'/\MRel K M' H'/\SRel K M' H' σ' σv'/\T.nx σ' M'
 rt:=fun v H'=>∃d M',Step M H M' H'/\MRel K M' H'/\Rep K M' H' d v/\T.rt d M'
 bk:=fun σv' H'=>∃σ' M',Step M H M' H'/\MRel K M' H'/\SRel K M' H' σ' σv'/\T.bk σ' M'
 ct:=fun σv' H'=>∃σ' M',Step M H M' H'/\MRel K M' H'/\SRel K M' H' σ' σv'/\T.ct σ' M'
theorem PS3.of {t:TS3}{t2:TS}(h:PS X st t2)(g:∀pins s σv H σ M T,Inv X pins σv H s->SRel X.K M H σ σv->MRel X.K M H->t T σ M->t2 (UpE X.K M H T) σv H):PS3 X st t:=by
 intro pins s σv H σ M T I i j k
 refine thn (h pins s σv H _ I (g pins s σv H σ M T I i j k)) fun f n q=>?_
 cases f with
 | next=>obtain⟨a,c,I,b,e,st,m,r,q⟩:=q;exact⟨b,a,e,c,I,st,m,r,q⟩
 | brk=>obtain⟨a,c,I,b,e,st,m,r,q⟩:=q;exact⟨b,a,e,c,I,st,m,r,q⟩
 | cont=>obtain⟨a,c,I,b,e,st,m,r,q⟩:=q;exact⟨b,a,e,c,I,st,m,r,q⟩
 | ret u=>obtain⟨v,a,c,I,l,d,e,st,m,r,q⟩:=q;exact⟨d,v,a,e,c,I,st,m,l,r,q⟩
end
section
variable {K:BP3}{M:Mem}{H:Hp}{p:Addr}{ho:HO}{o:MO}
theorem Step.lay (b:H p=none):Step M H M (upd H p ho) :=
 ⟨fun a u h _=>by rw[D7 (K1 h b)];exact h,fun _ h=>.inl h⟩
theorem MRel.lay (m:MRel K M H)(b:H p=none):MRel K M (upd H p ho):=fun a u e=>by
 obtain⟨c,d,r⟩:=m a u e
 refine⟨c,by rw[D7 (K1 d b)];exact d,?_⟩
 cases u<;>cases c<;>first|exact r.elim|exact Reps.mono (Step.lay b) r|exact RepK.mono (Step.lay b) r|(obtain⟨f,e,r⟩:=r;exact⟨f,e,r.mono (Step.lay b)⟩)
theorem Step.put (h:H p=none\/M p≠none):Step M H (D8 M p o) (upd H p ho):=by
 refine⟨fun a u e c=>?_,fun a e=>?_⟩
 ·have:a≠p:=by
   rintro rfl
   rcases h with h|h
   ·rw[h] at e;cases e
   ·exact h c
  rw[D7 this];exact e
 ·by_cases b:a=p
  ·subst b;exact h.elim .inr .inl
  ·rw[B3 b] at e;exact .inl e
theorem RepO.mono {M':Mem}{H':Hp}(s:Step M H M' H')(r:RepO K M H p o ho):RepO K M' H' p o ho:=by
 cases o<;>cases ho<;>first|exact r.elim|exact Reps.mono s r|exact RepK.mono s r|(obtain⟨a,e,r⟩:=r;exact⟨a,e,r.mono s⟩)
theorem MRel.put (m:MRel K M H)(h:H p=none\/M p≠none)(r:RepO K M H p o ho):MRel K (D8 M p o) (upd H p ho):=fun a u e=>by
 by_cases b:a=p
 ·subst b
  rw[B0] at e;cases e
  exact⟨ho,D5,r.mono (Step.put h)⟩
 ·rw[B3 b] at e
  obtain⟨c,d,f⟩:=m a u e
  exact⟨c,by rw[D7 b];exact d,f.mono (Step.put h)⟩
end
mutual
def pyD:D->PyData
 | .non=>.none|.bl b=>.bool b|.int i=>.int i|.str x=>.str x
 | .tup xs=>.tuple (L9 xs)|.lst xs=>.list (L9 xs)
 | .dct _=>.none|.ty _=>.none|.ref _=>.none
def L9:List D->List PyData
 | []=>[]|d::ds=>pyD d::L9 ds
end
mutual
def plain:D->Bool
 | .non|.bl _|.int _|.str _=>true
 | .tup xs|.lst xs=>O2 xs
 | .dct _|.ty _|.ref _=>false
def O2:List D->Bool
 | []=>true|d::ds=>plain d && O2 ds
end
section
variable {X:Cx}{pins:List (Addr×Obj)}{σv:L2.St}{M:Mem}{H:Hp}{s:BP9}
theorem SqT.of3 {a:Addr}(h:Fix M H a (.tup vs)\/AW2 K a vs):SqT K H a vs:=h.imp (·.1) id
theorem SqL.of3 {a:Addr}(h:Fix M H a (.lst vs)\/BF7 K a vs):SqL K H a vs:=h.imp (·.1) id
mutual
theorem GR (I:Inv X pins σv H s)(d:D){v:V}{u:Value}(c:plain d=true)(p:Rep X.K M H d v)(r:RelV v u):∃as,Reads s.heap u (pyD d) as:=by
 cases d with
 | non=>cases p;cases r;exact⟨[],.none⟩
 | bl b=>cases p;cases r;exact⟨[],.bool b⟩
 | int i=>cases p;obtain⟨t,rfl⟩:=r;exact⟨[],.int i t⟩
 | str x=>cases p;obtain⟨t,rfl⟩:=r;exact⟨[],.str x t⟩
 | tup e =>
  cases p with
  | tup h q =>
  cases r
  obtain⟨f,g,⟨o,j,k,n,l⟩,_⟩:=I.tuple (SqT.of3 h)
  obtain⟨as,m⟩:=U0 I e (by simpa[plain] using c) q g
  exact⟨as,by exact .tuple j k l (by simpa using m)⟩
 | lst e =>
  cases p with
  | @lst a _ _ h q =>
  cases r
  obtain⟨f,g,⟨o,n,j,k,_,l⟩,_⟩:=I.list (SqL.of3 h)
  obtain⟨as,m⟩:=U0 I e (by simpa[plain] using c) q g
  exact⟨a::as,by exact .list j k l (by simpa using m)⟩
 | dct _=>cases c
 | ty _=>cases c
 | ref _=>cases c
theorem U0 (I:Inv X pins σv H s)(ds:List D){vs:List V}{us:List Value}(b:O2 ds=true)(p:Reps X.K M H ds vs)(r:Vals vs us):∃as,ReadsAll s.heap us (L9 ds) as:=by
 cases ds with
 | nil=>cases p;cases r;exact⟨[],.nil⟩
 | cons d ds =>
  cases p with
  | cons q c =>
  cases r with
  | cons r e =>
   have a:plain d=true/\O2 ds=true:=by simpa[O2] using b
   obtain⟨as,f⟩:=GR I d a.1 q r
   obtain⟨bs,g⟩:=U0 I ds a.2 c e
   exact⟨as++bs,by exact .cons f g⟩
end
end
theorem P4 {X:Cx}{σv:L2.St}{M:Mem}(I:Inv X pins σv H s){d:D}(a:plain d=true)(p:Rep X.K M H d v)(r:RelV v u):∃as,Reads s.heap u (pyD d) as:=GR I d a p r
abbrev R3:=D->D->Mem->DK->Prop
abbrev U3:=D->Mem->DK->Prop
abbrev C3:=List D->Mem->DK->Prop
def OpR3 (X:Cx)(f:Value->Value->Sem Value)(r:R3):Prop :=
 ∀(pins:List (Addr×Obj)) (s:BP9) (σv:L2.St) (H:Hp) (M:Mem) (x y:D) (xv yv:V) (v u:Value) (Q:DK),Inv X pins σv H s->MRel X.K M H->RelV xv v->RelV yv u->Rep X.K M H x xv->Rep X.K M H y yv->r x y M Q ->
  wpAny (model X.prog X.w) X.A (f v u) (EP3 X pins σv M H Q) X.xe s
def UnR3 (X:Cx)(f:Value->Sem Value)(r:U3):Prop :=
 ∀(pins:List (Addr×Obj)) (s:BP9) (σv:L2.St) (H:Hp) (M:Mem) (x:D) (xv:V) (v:Value) (Q:DK),Inv X pins σv H s->MRel X.K M H->RelV xv v->Rep X.K M H x xv->r x M Q ->
  wpAny (model X.prog X.w) X.A (f v) (EP3 X pins σv M H Q) X.xe s
def CallR3 (X:Cx)(f:Value)(r:C3):Prop :=
 ∀(pins:List (Addr×Obj)) (s:BP9) (σv:L2.St) (H:Hp) (M:Mem) (xs:List D) (xvs:List V) (us:List Value) (Q:DK),Inv X pins σv H s->MRel X.K M H->Vals xvs us->Reps X.K M H xs xvs->r xs M Q ->
  wpAny (model X.prog X.w) X.A (call f us) (EP3 X pins σv M H Q) X.xe s
section
variable {X:Cx}
theorem N2 {σv:L2.St}{M:Mem}{Q:DK}(h:EP X pins σv (Up X.K M H Q) u s'):EP3 X pins σv M H Q u s':=by
 obtain⟨v,b,c,r,d,e,st,f,a,q⟩:=h
 exact⟨d,v,e,b,c,st,f,r,a,q⟩
theorem OpR3.of {f:Value->Value->Sem Value}{r:R2}{r3:R3}(h:OpR X f r)
  (e:∀(H:Hp) (M:Mem) (x y:D) (a b:V) (Q:DK),MRel X.K M H->Rep X.K M H x a->Rep X.K M H y b->r3 x y M Q->r a b H (Up X.K M H Q)):OpR3 X f r3 :=
 fun c s d H M x y a b v u Q I m g i j k q=>thn (h c s d H a b v u _ I g i (e H M x y a b Q m j k q)) fun _ _ z=>N2 z
theorem UnR3.of {f:Value->Sem Value}{r:V->Hp->VK->Prop}{r3:U3}(h:UnR X f r)
  (d:∀(H:Hp) (M:Mem) (x:D) (a:V) (Q:DK),MRel X.K M H->Rep X.K M H x a->r3 x M Q->r a H (Up X.K M H Q)):UnR3 X f r3 :=
 fun b s c H M x a v Q I m e g q=>thn (h b s c H a v _ I e (d H M x a Q m g q)) fun _ _ z=>N2 z
theorem CallR3.of {f:Value}{r:List V->Hp->VK->Prop}{r3:C3}(h:CallR X f r)
  (d:∀(H:Hp) (M:Mem) (xs:List D) (a:List V) (Q:DK),MRel X.K M H->Reps X.K M H xs a->r3 xs M Q->r a H (Up X.K M H Q)):CallR3 X f r3 :=
 fun b s c H M xs a e Q I m g i q=>thn (h b s c H a e _ I g (d H M xs a Q m i q)) fun _ _ z=>N2 z
theorem up0 {M:Mem}{Q:DK}{d:D}(m:MRel K M H)(r:Rep K M H d v)(q:Q d M):Up K M H Q v H:=⟨d,M,.refl,m,r,q⟩
def A6 (r:R3)(ta tb:TE3):TE3:=fun σ M Q=>ta σ M fun x M1=>tb σ M1 fun y M2=>r x y M2 Q
def P0 (r:U3)(ta:TE3):TE3:=fun σ M Q=>ta σ M fun x M1=>r x M1 Q
variable {a b c e:Expr}{es:List Expr}{ta tb tc te:TE3}{t:TA3}{pos:Pos}
theorem EP3.trans {σv:L2.St}{M M1:Mem}{H1:Hp}{Q:DK}(st:Step M H M1 H1)(h:EP3 X pins σv M1 H1 Q u s'):EP3 X pins σv M H Q u s':=by
 obtain⟨d,v,c,e,f,a,g,r,b,q⟩:=h
 exact⟨d,v,c,e,f,st.trans a,g,r,b,q⟩
theorem AX4 (k:PE3 X a ta)(l:PE3 X b tb){f:Value->Value->Sem Value}{r:R3}(ho:OpR3 X f r){σv:L2.St}{σ:Lo}{M:Mem}{Q:DK}
  (I:Inv X pins σv H s) (j:SRel X.K M H σ σv) (m:MRel X.K M H) (h:A6 r ta tb σ M Q) :
  wpAny (model X.prog X.w) X.A (eval a X.env) (fun v s₁=>wpAny (model X.prog X.w) X.A (eval b X.env) (fun u s₂=>wpAny (model X.prog X.w) X.A (f v u) (EP3 X pins σv M H Q) X.xe s₂) X.xe s₁) X.xe s:=by
 refine thn (k pins s σv H σ M _ I j m h) fun v n c=>?_
 obtain⟨x,o,p,q,t,d,m1,g,B,C⟩:=c
 refine thn (l pins n σv q σ p _ t (j.mono d) m1 C) fun u D c=>?_
 obtain⟨y,E,F,G,J,e,m2,i,L,N⟩:=c
 exact thn (ho pins D σv G F x y o E v u Q J m2 g i (B.mono e) L N) fun _ _ z=>z.trans (d.trans e)
theorem BB9 {op:Operator}{r:R3}(ho:OpR3 X (BY6 op) r)(d:PE3 X a ta)(e:PE3 X b tb):PE3 X (.BinOp a op b pos) (A6 r ta tb) :=
 fun c s f H j M Q I g i h=>wpAny_BinOp (AX4 d e ho I g i h)
theorem BC2 {op:UnaryOp}{r:U3}(ho:UnR3 X (unaryOp op) r)(f:PE3 X a ta):PE3 X (.UnaryOp op a pos) (P0 r ta) :=
 fun b s c H g M Q I i j h=>UnaryOp_ (thn (f b s c H g M _ I i j h) fun v k ⟨x,l,m,n,o,d,m1,e,p,q⟩ =>
  thn (ho b k c n m x l v Q o m1 e p q) fun _ _ z=>z.trans d)
theorem AN7 {r:R3}(ho:OpR3 X (BT0 op) r)(d:PE3 X a ta)(e:PE3 X b tb)(f:behindInMarks op b=false):PE3 X (.Compare a [op] [b] pos) (A6 r ta tb) :=
 fun c s g H k M Q I i j h=>wpAny_Compare1 (AX4 d e ho I i j h) f
def B1 (t:TE3):TT3:=fun σ M Q=>t σ M fun x M'=>∃k,x=.bl k/\Q k M'
theorem AQ8 {r:R3}(ho:OpR3 X (BT0 op) r)(i:PE3 X a ta)(j:PE3 X b tb)(l:behindInMarks op b=false):PT3 X (.Compare a [op] [b] pos) (B1 (A6 r ta tb)):=by
 intro g s m H C M Q I n o h
 refine wpAny_isTrue_Compare1 (thn (AX4 (Q:=fun x p=>∃k,x=.bl k/\Q k p) i j ho I n o h) fun v D q=>thn q fun u E t=>thn t fun d F ⟨x,G,w,y,z,c,m1,f,A,k,e,B⟩=>?_) l
 subst e
 cases A
 cases f
 exact BV5 ⟨w,y,z,c,m1,B⟩
theorem UW (h:PE3 X e te)(g:∀a,isTrue e X.env a=(do let v <-a;standAt e.pos;holding [v] (truthy v)):=by intro _;rfl):PT3 X e (B1 te):=by
 intro b s c H i M Q I j l m
 refine isTrue_plain (thn (h b s c H i M _ I j l m) fun v t ⟨x,u,n,o,p,d,m1,f,q,k,e,r⟩=>?_) (g _)
 subst e
 cases q
 cases f
 exact BV5 ⟨n,o,p,d,m1,r⟩
def O9 (r r':R3)(ta tb tc:TE3):TE3:=fun σ M Q=>ta σ M fun x M1=>tb σ M1 fun y M2=>r x y M2 fun z M3=>∃k,z=.bl k/\if k=true then tc σ M3 fun w M4=>r' y w M4 Q else Q (.bl false) M3
theorem XG {i:CmpOp}{r r':R3}(ho:OpR3 X (BT0 op) r)(p:OpR3 X (BT0 i) r')(K:PE3 X a ta)(L:PE3 X b tb)(N:PE3 X c tc)
  (O:lastMarks [op,i] [b,c]=false:=by with_unfolding_all rfl):PE3 X (.Compare a [op,i] [b,c] pos) (O9 r r' ta tb tc):=by
 intro f s g H q M Q I t P h
 refine Compare_chain (thn (K f s g H q M _ I t P h) fun v R ⟨x,S,T,U,V,j,m1,w,W,Y⟩=>chain_link (thn (L f R g U q T _ V (t.mono j) m1 Y) fun u Z ⟨y,D,M2,H2,I2,l,m2,m,E,q2⟩ =>
  thn (ho f Z g H2 M2 x y S D v u _ I2 m2 w m (W.mono l) E q2) fun d s3 ⟨z,zv,M3,F,G,n,m3,A,p3,k,e,J⟩=>?_)) O
 subst e
 cases p3
 cases A
 refine BV5 ?_
 have st:=(j.trans l).trans n
 cases k with
 | false=>exact ite_ff ⟨.bl false,.bl false,M3,F,G,st,m3,rfl,.bl,J⟩
 | true=>exact ite_tt (chain_last (thn (N f s3 g F q M3 _ G (t.mono st) m3 J) fun w' s4 ⟨z',B,M4,H4,I4,o,m4,C,p4,q4⟩ =>
   thn (p f s4 g H4 M4 y z' D B u w' Q I4 m4 m C (E.mono (n.trans o)) p4 q4) fun _ _ z=>z.trans (st.trans o)))
theorem XX {i:CmpOp}{r r':R3}(ho:OpR3 X (BT0 op) r)(p:OpR3 X (BT0 i) r')(N:PE3 X a ta)(O:PE3 X b tb)(P:PE3 X c tc)
  (R:lastMarks [op,i] [b,c]=false:=by with_unfolding_all rfl):PT3 X (.Compare a [op,i] [b,c] pos) (B1 (O9 r r' ta tb tc)):=by
 intro f s g H q M Q I t S h
 refine isTrue_chain (thn (N f s g H q M _ I t S h) fun v T ⟨x,U,V,W,Y,j,m1,w,Z,q1⟩=>test_link (thn (O f T g W q V _ Y (t.mono j) m1 q1) fun u s2 ⟨y,F,M2,H2,I2,l,m2,m,G,q2⟩ =>
  thn (ho f s2 g H2 M2 x y U F v u _ I2 m2 w m (Z.mono l) G q2) fun d s3 ⟨z,zv,M3,J,K,n,m3,A,p3,k,e,L⟩=>?_)) R
 subst e
 cases p3
 cases A
 refine BV5 ?_
 have st:=(j.trans l).trans n
 cases k with
 | false =>
  obtain⟨k',e',q'⟩:=L
  cases e'
  exact ite_ff ⟨M3,J,K,st,m3,q'⟩
 | true =>
  refine ite_tt (test_last (thn (P f s3 g J q M3 _ K (t.mono st) m3 L) fun w' s4 ⟨z',B,M4,H4,I4,o,m4,C,p4,q4⟩ =>
   thn (p f s4 g H4 M4 y z' F B u w' _ I4 m4 m C (G.mono (n.trans o)) p4 q4) fun d' s5 ⟨z2,zv2,M5,H5,I5,D,m5,E,p5,k2,e2,q5⟩=>?_))
  subst e2
  cases p5
  cases E
  exact BV5 ⟨M5,H5,I5,(st.trans o).trans D,m5,q5⟩
def PW3 (X:Cx)(e:Expr)(t:TT3):Prop :=
 ∀(whole:Sem Value) (pins:List (Addr×Obj)) (s:BP9) (σv:L2.St) (H:Hp) (σ:Lo) (M:Mem) (Q:Bool->Mem->Prop),Inv X pins σv H s->SRel X.K M H σ σv->MRel X.K M H->t σ M Q ->
  wpAny (model X.prog X.w) X.A (isTrue e X.env whole) (TP3 X pins σv M H Q) X.xe s
theorem PW3.pt {t:TT3}(h:PW3 X e t):PT3 X e t:=h _
variable {tA tB':TT3}{rest:List Expr}
def HA (t u:TT3):TT3:=fun σ M Q=>t σ M fun c M1=>if c=true then u σ M1 Q else Q false M1
def CY (t u:TT3):TT3:=fun σ M Q=>t σ M fun c M1=>if c=true then Q true M1 else u σ M1 Q
def W5 (t:TT3):TT3:=fun σ M Q=>t σ M fun c M1=>Q (!c) M1
theorem TP3.trans {σv:L2.St}{M M1:Mem}{H1:Hp}{Q:Bool->Mem->Prop}{u:Bool}(st:Step M H M1 H1)(h:TP3 X pins σv M1 H1 Q u s'):TP3 X pins σv M H Q u s':=by
 obtain⟨b,c,d,a,e,q⟩:=h
 exact⟨b,c,d,st.trans a,e,q⟩
theorem AF7 (f:PT3 X a tA):PW3 X (.BoolOp .And [a] pos) tA:=by
 intro k b s d H g M Q I i j h
 refine isTrue_and (thn (f b s d H g M Q I i j h) fun c l e=>?_)
 cases c with
 | true=>exact isTrue_and_nil e
 | false=>exact e
theorem AR1 (f:PT3 X a tA):PW3 X (.BoolOp .Or [a] pos) tA:=by
 intro k b s d H g M Q I i j h
 refine isTrue_or (thn (f b s d H g M Q I i j h) fun c l e=>?_)
 cases c with
 | false=>exact isTrue_or_nil e
 | true=>exact e
theorem AR0 (n:PT3 X a tA)(o:PW3 X (.BoolOp .And (b::rest) pos) tB'):PW3 X (.BoolOp .And (a::b::rest) pos) (HA tA tB'):=by
 intro p d s f H g M Q I i q h
 refine isTrue_and (thn (n d s f H g M _ I i q h) fun c r ⟨j,k,l,e,m1,m⟩=>?_)
 cases c with
 | true=>exact thn (o p d r f k g j Q l (i.mono e) m1 m) fun _ _ z=>z.trans e
 | false=>exact⟨j,k,l,e,m1,m⟩
theorem BE0 (n:PT3 X a tA)(o:PW3 X (.BoolOp .Or (b::rest) pos) tB'):PW3 X (.BoolOp .Or (a::b::rest) pos) (CY tA tB'):=by
 intro p d s f H g M Q I i q h
 refine isTrue_or (thn (n d s f H g M _ I i q h) fun c r ⟨j,k,l,e,m1,m⟩=>?_)
 cases c with
 | false=>exact thn (o p d r f k g j Q l (i.mono e) m1 m) fun _ _ z=>z.trans e
 | true=>exact⟨j,k,l,e,m1,m⟩
theorem AQ9 (e:PT3 X a tA):PT3 X (.UnaryOp .Not a pos) (W5 tA):=fun b s d H f M Q I g i h =>
 isTrue_not (e b s d H f M (fun c j=>Q (!c) j) I g i h)
def U2 (ta tb:TE3):TE3:=fun σ M Q=>ta σ M fun x M1=>∃c,x=.bl c/\if c=true then tb σ M1 Q else Q (.bl false) M1
def JW (ta tb:TE3):TE3:=fun σ M Q=>ta σ M fun x M1=>∃c,x=.bl c/\if c=true then Q (.bl true) M1 else tb σ M1 Q
def NI (ta:TE3):TE3:=fun σ M Q=>ta σ M fun x M1=>∃c,x=.bl c/\Q (.bl (!c)) M1
theorem UP {op}(h:PE3 X a ta):PE3 X (.BoolOp op [a] pos) ta:=fun b s c H d M Q I e f g=>BoolOp_one (h b s c H d M Q I e f g)
theorem AN5 (p:PE3 X a ta)(q:PE3 X (.BoolOp .And (b::rest) pos) tb):PE3 X (.BoolOp .And (a::b::rest) pos) (U2 ta tb):=by
 intro d s g H j M Q I k r h
 refine BoolOp_and (thn (p d s g H j M _ I k r h) fun v t ⟨x,w,l,m,n,f,m1,i,u,c,e,o⟩=>?_)
 subst e
 cases u
 cases i
 refine BV5 ?_
 cases c with
 | true=>exact thn (q d t g m j l Q n (k.mono f) m1 o) fun _ _ z=>z.trans f
 | false=>exact⟨.bl false,.bl false,l,m,n,f,m1,rfl,.bl,o⟩
theorem BC0 (p:PE3 X a ta)(q:PE3 X (.BoolOp .Or (b::rest) pos) tb):PE3 X (.BoolOp .Or (a::b::rest) pos) (JW ta tb):=by
 intro d s g H j M Q I k r h
 refine BoolOp_or (thn (p d s g H j M _ I k r h) fun v t ⟨x,w,l,m,n,f,m1,i,u,c,e,o⟩=>?_)
 subst e
 cases u
 cases i
 refine BV5 ?_
 cases c with
 | false=>exact thn (q d t g m j l Q n (k.mono f) m1 o) fun _ _ z=>z.trans f
 | true=>exact⟨.bl true,.bl true,l,m,n,f,m1,rfl,.bl,o⟩
theorem AO1 (i:PE3 X a ta):PE3 X (.UnaryOp .Not a pos) (NI ta):=by
 intro b s d H j M Q I k l h
 refine UnaryOp_ (thn (i b s d H j M _ I k l h) fun v r ⟨x,t,m,n,o,f,m1,g,p,c,e,q⟩=>?_)
 subst e
 cases p
 cases g
 exact not_of (BV5 ⟨.bl (!c),.bl (!c),m,n,o,f,m1,rfl,.bl,q⟩)
def SJ (t:TT3)(ta tb:TE3):TE3:=fun σ M Q=>t σ M fun c M1=>if c=true then ta σ M1 Q else tb σ M1 Q
theorem XI {c:Expr}(p:PT3 X c tA)(q:PE3 X a ta)(r:PE3 X b tb):PE3 X (.IfExp c a b pos) (SJ tA ta tb):=by
 intro e s g H i M Q I j t h
 refine wpAny_IfExp (thn (p e s g H i M _ I j t h) fun d k ⟨l,m,n,f,m1,o⟩=>?_)
 cases d with
 | true=>exact thn (q e k g m i l Q n (j.mono f) m1 o) fun _ _ z=>z.trans f
 | false=>exact thn (r e k g m i l Q n (j.mono f) m1 o) fun _ _ z=>z.trans f
def A4 (i:Nat):TE3:=fun σ M Q=>match σ[i]? with
 | some (some d)=>Q d M
 | _=>False
def tC3 (d:D):TE3:=fun _ M Q=>Q d M
theorem AO6 (h:PE X e (BM7 i)):PE3 X e (A4 i):=PE3.of h fun a s b H c M Q I f g q=>by
 unfold A4 at q
 cases e:c[i]? with
 | none=>rw[e] at q;exact q.elim
 | some j =>
  rw[e] at q
  cases j with
  | none=>exact q.elim
  | some d =>
   obtain⟨v,k,r⟩:=f.get i d e
   exact⟨v,k,up0 g r q⟩
theorem pv3 (i:Nat){pos:Pos}(b:X.N[i]?=some x:=by rfl) (c:Vis X.env.scope x:=by first|exact Or.inl rfl|exact Or.inr (Or.inl rfl)|exact Or.inr (Or.inr rfl)) (hd:(x==("__debug__":Str))=false:=by decide)
  (a:(x==("__classdict__":Str))=false:=by decide):PE3 X (.Name x pos) (A4 i):=AO6 (BC7 b c hd a)
theorem OZ {d:D}(h:PE X e (tC v))(b:∀K M H,Rep K M H d v):PE3 X e (tC3 d):=PE3.of h fun a s c H g M Q I i f q=>up0 f (b _ _ _) q
theorem AN8 {i j pos}:PE3 X (.Constant (.int i) j pos) (tC3 (.int i)):=OZ BC3 fun _ _ _=>.int
theorem BB4 {b j pos}:PE3 X (.Constant (.bool b) j pos) (tC3 (.bl b)):=OZ BK6 fun _ _ _=>.bl
theorem AO0 {j pos}:PE3 X (.Constant .none j pos) (tC3 .non):=OZ BC4 fun _ _ _=>.non
theorem AO4 {x j pos}:PE3 X (.Constant (.str x) j pos) (tC3 (.str x)):=OZ BC5 fun _ _ _=>.str
theorem PD {d:D}{pos:Pos}(b:Gl X x)(c:X.mg x=some u)(r:RelV v u)(e:∀M H,Rep X.K M H d v)(hd:(x==("__debug__":Str))=false:=by decide):PE3 X (.Name x pos) (tC3 d) :=
 PE3.of (AP1 b c r hd) fun a s f H h M Q I i g q=>up0 g (e _ _) q
def A5:TA3:=fun _ M Q=>Q [] M
def A0 (ta:TE3)(tr:TA3):TA3:=fun σ M Q=>ta σ M fun x M1=>tr σ M1 fun xs M2=>Q (x::xs) M2
theorem UO:PA3 X [] A5:=fun b a s c H e M Q I f d h=>Calls.spliced_nil ⟨[],[],M,H,I,.refl,d,.nil,.nil,h⟩
theorem OY (m:PE3 X e te)(n:PA3 X es t)(hs:BR9 (e::es) X.env=(false,eval e X.env)::BR9 es X.env:=by rfl):PA3 X (e::es) (A0 te t):=by
 intro f a s b H k M Q I l o h
 rw[hs]
 refine Calls.spliced_cons (thn (m a s b H k M _ I l o h) fun u p ⟨x,q,r,v,w,c,m1,g,y,z⟩=>?_)
 exact thn (n f a p b v k r _ w (l.mono c) m1 z) fun G J ⟨A,i,B,C,D,d,m2,j,E,F⟩=>⟨x::A,q::i,B,C,D,c.trans d,m2,.cons g j,.cons (y.mono d) E,F⟩
def C0 (t:TA3):TE3:=fun σ M Q=>t σ M fun xs M1=>xs.length<=BQ6/\Q (.tup xs) M1
def G0 (t:TA3):TE3:=fun σ M Q=>t σ M fun xs M1=>xs.length<=BQ6/\Q (.lst xs) M1
def J2 (t:TA3):TE3:=fun σ M Q=>t σ M fun xs M1=>xs.length<=BQ6/\∀p,M1 p=none->Q (.ref p) (D8 M1 p (.lst xs))
theorem AO5 {x1}(h:PA3 X es t):PE3 X (.Tuple es x1 pos) (C0 t):=PE3.of (BC6 h.dn) fun b s c H d M Q I e f h=>by
 refine⟨d,M,_,e,f,h,fun g k i l st m r ⟨j,q⟩=>⟨by rw[<-r.length];exact j,fun p a=>?_⟩⟩
 exact⟨.tup g,i,st.trans (Step.lay a),m.lay a,.tup (.inl ⟨.inl D5,m.free a⟩) (r.mono (Step.lay a)),q⟩
theorem AN9 (h:PA3 X es t):PE3 X (.List es pos) (G0 t):=PE3.of (AD2 h.dn) fun b s c H d M Q I e f h=>by
 refine⟨d,M,_,e,f,h,fun g k i l st m r ⟨j,q⟩=>⟨by rw[<-r.length];exact j,fun p a=>?_⟩⟩
 exact⟨.lst g,i,st.trans (Step.lay a),m.lay a,.lst (.inl ⟨.inl D5,m.free a⟩) (r.mono (Step.lay a)),q⟩
theorem AC9 (h:PA3 X es t):PE3 X (.List es pos) (J2 t):=PE3.of (AD2 h.dn) fun b s c H d M Q I e f h=>by
 refine⟨d,M,_,e,f,h,fun g k i l st m r ⟨j,q⟩=>⟨by rw[<-r.length];exact j,fun p a=>?_⟩⟩
 exact⟨.ref p,D8 i p (.lst g),st.trans (Step.put (.inl a)),m.put (.inl a) r,.ref,q p (m.free a)⟩
end
section
variable {X:Cx}
def rI3 (C:Int->Int->Prop)(g:Int->Int->D):R3:=fun x y M Q=>match x,y with
 | .int i,.int j=>C i j/\Q (g i j) M
 | _,_=>False
def CT (g:Int->Int->D):R3:=fun x y M Q=>match x,y with
 | .int i,.int j=>Q (g i j) M
 | _,_=>False
theorem UN {f:Value->Value->Sem Value}{g:Int->Int->Int}(h:OpR X f (rI C fun i j=>.int (g i j))):OpR3 X f (rI3 C fun i j=>.int (g i j)) :=
 OpR3.of h fun H M x y c d Q m a b q=>by
  cases x<;>cases y<;>first|exact q.elim|skip
  cases a;cases b
  exact⟨_,_,rfl,rfl,q.1,up0 m .int q.2⟩
theorem BA8 {f:Value->Value->Sem Value}{g:Int->Int->Int}(h:OpR X f (rI0 fun i j=>.int (g i j))):OpR3 X f (CT fun i j=>.int (g i j)) :=
 OpR3.of h fun H M x y c d Q m a b q=>by
  cases x<;>cases y<;>first|exact q.elim|skip
  cases a;cases b
  exact⟨_,_,rfl,rfl,up0 m .int q⟩
theorem LZ {f:Value->Value->Sem Value}{g:Int->Int->Bool}(h:OpR X f (rI0 fun i j=>.bl (g i j))):OpR3 X f (CT fun i j=>.bl (g i j)) :=
 OpR3.of h fun H M x y c d Q m a b q=>by
  cases x<;>cases y<;>first|exact q.elim|skip
  cases a;cases b
  exact⟨_,_,rfl,rfl,up0 m .bl q⟩
def NK (i j:Int):Prop:=CMul i j\/(i.natAbs<2^4096/\j.natAbs<2^4096)
theorem bits_le {i:Int}(h:i.natAbs<2^4096):CB6 i<=4096:=by
 unfold CB6
 split
 ·lia
 ·rename_i hi
  have h0:i.natAbs≠0:=by intro z;apply hi;have:i=0:=by lia
                         subst this;rfl
  have:=(Nat.log2_lt h0).mpr h
  lia
theorem AZ9 {i j:Int}(h:NK i j):IntMulOk i j:=by
 rcases h with h|⟨b,c⟩
 ·exact h.ok
 ·have d:=bits_le b
  have e:=bits_le c
  unfold IntMulOk Builtin.Int.intTooBig
  have:decide (((CB6 i+CB6 j:Nat):Int)>((bitsLine:Nat):Int))=false:=by
   refine decide_eq_false ?_
   have:bitsLine=134217728:=rfl
   lia
  intro z
  simp only[BQ0] at z
  have a:=z.2
  simp only[Int.natCast_add] at this
  rw[this] at a;cases a
theorem AN2:OpR X (BY6 .Mult) (rI NK fun i j=>.int (i*j)):=opI fun _ _ _ _ _ _ _ a q=>mul_int q (AZ9 a)
def YJ (i j:Int):Prop:=0<j/\j.natAbs<2^4096
theorem AC3:OpR X (BY6 .FloorDiv) (rI YJ fun i j=>.int (i / j)):=opI fun i j _ _ _ _ _ a q=>by
 have c:=a.1
 refine floordiv_int (by lia) (by rw[Int.fdiv_eq_ediv_of_nonneg i (by lia)];exact q) (.inl (PyProof.noPylong_of_log2 ?_))
 have b:j.natAbs≠0:=by lia
 have:=(Nat.log2_lt b).mpr a.2
 lia
theorem BA7:OpR3 X (BY6 .Sub) (CT fun i j=>.int (i-j)):=BA8 BB3
theorem BA5:OpR3 X (BY6 .Mult) (rI3 NK fun i j=>.int (i*j)):=UN AN2
theorem AM8:OpR3 X (BY6 .FloorDiv) (rI3 YJ fun i j=>.int (i / j)):=UN AC3
theorem BA4:OpR3 X (BY6 .Mod) (rI3 (fun _ j=>0<j) fun i j=>.int (i % j)):=UN BB1
theorem BA6:OpR3 X (BY6 .Pow) (rI3 AV8 fun i j=>.int (i^j.toNat)):=UN BB2
theorem BJ5:OpR3 X (BT0 .Lt) (CT fun i j=>.bl (decide (i<j))):=LZ BK3
theorem BJ4:OpR3 X (BT0 .LtE) (CT fun i j=>.bl (decide (i<=j))):=LZ BK2
theorem BJ1:OpR3 X (BT0 .Gt) (CT fun i j=>.bl (decide (j<i))):=LZ BK1
theorem BJ0:OpR3 X (BT0 .GtE) (CT fun i j=>.bl (decide (j<=i))):=LZ BK0
def rU3 (g:Int->Int):U3:=fun x M Q=>match x with
 | .int i=>Q (.int (g i)) M
 | _=>False
theorem BF1:UnR3 X (unaryOp .USub) (rU3 fun i=>-i):=UnR3.of BF2 fun H M x b Q m a q=>by
 cases x<;>first|exact q.elim|skip
 cases a
 exact⟨_,rfl,up0 m .int q⟩
def D0:R3:=fun x y M Q=>match x,y with
 | .int i,.int j=>Q (.int (i+j)) M
 | .str a,.str b=>a.length+b.length<=BQ6/\Q (.str (a++b)) M
 | .lst a,.lst b=>a.length+b.length<=BQ6/\Q (.lst (a++b)) M
 | .tup a,.tup b=>a.length+b.length<=BQ6/\Q (.tup (a++b)) M
 | _,_=>False
theorem BA1:OpR3 X (BY6 .Add) D0:=by
 intro i s A H M x y xv yv v u Q I m J K L N q
 cases x<;>cases y<;>first|exact q.elim|skip
 ·cases L;cases N
  exact thn (BA9 i s A H _ _ v u _ I J K ⟨_,_,rfl,rfl,up0 m .int q⟩) fun _ _ z=>N2 z
 ·cases L;cases N
  exact thn (RL i s A H _ _ v u _ I J K ⟨_,_,rfl,rfl,q.1,up0 m .str q.2⟩) fun _ _ z=>N2 z
 ·cases L with|tup O j=>cases N with|tup P k =>
  cases J;cases K
  obtain⟨d,t,S,z1⟩:=I.tuple (SqT.of3 O)
  obtain⟨a,w,T,z2⟩:=I.tuple (SqT.of3 P)
  obtain⟨⟨U,B,C,D⟩,g,V,n,W⟩:=id S
  obtain⟨⟨E,e,l,f⟩,c,p,G,r⟩:=id T
  subst V W p r
  have l1:=j.length
  have l2:=k.length
  have l3:=t.length
  have l4:=w.length
  obtain⟨hz,q⟩:=q
  by_cases R:d.toArray.isEmpty=true
  ·refine concat_meets ⟨_,g,rfl⟩ ⟨_,c,rfl⟩ noFill_tuple_add seq_tuple_add CE3 CE0 (CD2 _ _) (tuple_addW0 _ _ _ _ n G B e D f R) ⟨g,c,?_⟩
   have Y:d=[]:=by simpa using R
   subst Y
   cases t
   cases j
   exact⟨_,.ref _,M,H,I,.refl,m,rfl,.tup P k,q⟩
  ·by_cases Z:a.toArray.isEmpty=true
   ·refine concat_meets ⟨_,g,rfl⟩ ⟨_,c,rfl⟩ noFill_tuple_add seq_tuple_add CE3 CE0 (CD2 _ _) (tuple_addW1 _ _ _ _ n G B e D f R Z) ⟨g,c,?_⟩
    have Y:a=[]:=by simpa using Z
    subst Y
    cases w
    cases k
    rw[BV1] at q
    exact⟨_,.ref _,M,H,I,.refl,m,rfl,.tup O j,q⟩
   ·refine concat_meets ⟨_,g,rfl⟩ ⟨_,c,rfl⟩ noFill_tuple_add seq_tuple_add CE3 CE0 (CD2 _ _) (tuple_addW2 _ _ _ _ n G B e D f R Z (by simp;lia)) ⟨g,c,?_⟩
    have ea:d.toArray++a.toArray=(d++a).toArray:=by simp
    rw[ea]
    have h:=I.fresh
    have rr:=j.append k
    refine⟨_,.ref s.heap.objs.size,M,_,I.laid (t':=s.toks) (o:=.tup _) (fun b ob q=>BP4 _ q) (BP5 _) ⟨by rw[BP7];lia,_,t.append w,IsTup.new _ _⟩,Step.lay h,m.lay h,rfl,.tup (.inl ⟨.inl D5,m.free h⟩) (rr.mono (Step.lay h)),q⟩
 ·cases L with|lst O j=>cases N with|lst P k =>
  cases J;cases K
  obtain⟨d,t,S,z1⟩:=I.list (SqL.of3 O)
  obtain⟨a,w,T,z2⟩:=I.list (SqL.of3 P)
  obtain⟨⟨U,B,C,D⟩,g,V,n,W⟩:=S.isList
  obtain⟨⟨E,e,l,f⟩,c,p,G,r⟩:=T.isList
  subst V W p r
  have l1:=j.length
  have l2:=k.length
  have l3:=t.length
  have l4:=w.length
  obtain⟨hz,q⟩:=q
  refine concat_meets ⟨_,g,rfl⟩ ⟨_,c,rfl⟩ noFill_list_add seq_list_add PySem.F.slot_list_add PySem.F.entry_list_add (PySem.F.args_list_add_2 _ _) (list_addW _ _ _ _ n G B e D f (by simp;lia)) ⟨g,c,?_⟩
  have ea:d.toArray++a.toArray=(d++a).toArray:=by simp
  rw[ea]
  have h:=I.fresh
  have rr:=j.append k
  exact⟨_,.ref s.heap.objs.size,M,_,I.lnew (t':=s.toks) (t.append w) (by rw[BP7];lia),Step.lay h,m.lay h,rfl,.lst (.inl ⟨.inl D5,m.free h⟩) (rr.mono (Step.lay h)),q⟩
def dOk (d:D):Prop:=plain d=true/\(pyD d).canLay0=true/\(pyD d).depth<=60
def D6:R3:=fun x y M Q=>(dOk x/\dOk y/\Q (.bl (BU5 (pyD x) (pyD y))) M)\/∃a b,x=.str a/\y=.str b/\Q (.bl (a==b)) M
def CU:R3:=fun x y M Q=>(dOk x/\dOk y/\Q (.bl (!PyData.eqv (pyD x) (pyD y))) M)\/∃a b,x=.str a/\y=.str b/\Q (.bl (!(a==b))) M
theorem BI9 {k:Nat}(n:Room k X.A):OpR3 X (BT0 .Eq) D6:=by
 intro c s d H M x y r t v u Q I m f g i j h
 rcases h with⟨e,l,q⟩|⟨a,b,rfl,rfl,q⟩
 rotate_left
 ·cases i;cases j
  exact thn (BJ9 c s d H _ _ v u _ I f g ⟨rfl,up0 m .bl (by rw[EI];exact q)⟩) fun _ _ z=>N2 z
 obtain⟨w,o⟩:=P4 I e.1 i f
 obtain⟨bs,p⟩:=P4 I l.1 j g
 exact SeqAt.compareEq_reads o p e.2.1 l.2.1 (by have:=n.units;have:=e.2.2;lia) ⟨_,.bl _,M,H,I,.refl,m,rfl,.bl,q⟩
theorem BJ6 {k:Nat}(n:Room k X.A):OpR3 X (BT0 .NotEq) CU:=by
 intro c s d H M x y r t v u Q I m f g i j h
 rcases h with⟨e,l,q⟩|⟨a,b,rfl,rfl,q⟩
 rotate_left
 ·cases i;cases j
  exact thn (BK4 c s d H _ _ v u _ I f g ⟨rfl,up0 m .bl (by rw[EI];exact q)⟩) fun _ _ z=>N2 z
 obtain⟨w,o⟩:=P4 I e.1 i f
 obtain⟨bs,p⟩:=P4 I l.1 j g
 exact SeqAt.compareNe_reads o p e.2.1 l.2.1 (by have:=n.units;have:=e.2.2;lia) ⟨_,.bl _,M,H,I,.refl,m,rfl,.bl,q⟩
def RW:R3:=fun x y M Q=>y=.non/\Q (.bl (match x with|.non=>true|_=>false)) M
def UX:R3:=fun x y M Q=>y=.non/\Q (.bl (match x with|.non=>false|_=>true)) M
theorem BJ3:OpR3 X (BT0 .Is) RW:=OpR3.of BB0 fun H M x y d f Q m b c a=>by
 obtain⟨e,q⟩:=a
 subst e;cases c
 refine⟨rfl,?_⟩
 cases b<;>exact up0 m .bl (by simpa using q)
theorem AB9:OpR3 X (BT0 .IsNot) UX:=OpR3.of AN3 fun H M x y d f Q m b c a=>by
 obtain⟨e,q⟩:=a
 subst e;cases c
 refine⟨rfl,?_⟩
 cases b<;>exact up0 m .bl (by simpa using q)
variable {a b e:Expr}{ta tb te:TE3}{pos:Pos}
def B7:R3:=fun x y M Q=>match x,y with
 | .lst ds,.int i=>∃d,atI ds i=some d/\Q d M
 | .tup ds,.int i=>∃d,atI ds i=some d/\Q d M
 | .ref a,.int i=>∃ds d,M a=some (.lst ds)/\atI ds i=some d/\Q d M
 | .str z,.int i=>z.length<=BQ6/\∃c,atI z.cps.toList i=some c/\Q (.str ⟨#[c]⟩) M
 | _,_=>False
theorem Reps.atI {M:Mem}{ds:List D}(r:Reps K M H ds vs){i:Int}{d:D}(h:L2.atI ds i=some d):∃v,L2.atI vs i=some v/\Rep K M H d v:=by
 unfold L2.atI at h ⊢
 rw[<-r.length]
 cases e:ixN ds.length i with
 | none=>rw[e] at h;cases h
 | some j =>
  rw[e] at h
  exact r.get (show ds[j]?=some d from h)
theorem BB8 (J:PE3 X a ta)(L:PE3 X b tb)(hs:AJ8 b):PE3 X (.Subscript a b pos) (A6 B7 ta tb):=by
 intro e s g H D M Q I E N h
 refine Subscript_ (thn (J e s g H D M _ I E N h) fun v O ⟨x,F,P,R,S,i,m1,t,T,U⟩ =>
  thn (L e O g R D P _ S (E.mono i) m1 U) fun u V ⟨y,G,W,w,Y,j,m2,A,p,k⟩=>?_)
 have B:rIx X.K F G w (Up X.K W w Q):=by
  have f:=T.mono j
  cases x<;>cases y<;>first|exact k.elim|skip
  ·cases f;cases p
   obtain⟨Z,c,hc,q⟩:=k
   exact .inr (.inr ⟨_,_,c,rfl,rfl,Z,hc,up0 m2 .str q⟩)
  ·cases f;cases p
   obtain⟨ds,d,hm,l,q⟩:=k
   obtain⟨ho,e1,r⟩:=m2 _ _ hm
   cases ho<;>first|exact r.elim|skip
   obtain⟨m,n,o⟩:=Reps.atI r l
   exact .inl ⟨_,_,_,m,rfl,rfl,.inl (.inl e1),n,up0 m2 o q⟩
  ·cases f with|tup C r=>cases p;obtain⟨d,l,q⟩:=k;obtain⟨m,n,o⟩:=Reps.atI r l;exact .inr (.inl ⟨_,_,_,m,rfl,rfl,SqT.of3 C,n,up0 m2 o q⟩)
  ·cases f with|lst C r=>cases p;obtain⟨d,l,q⟩:=k;obtain⟨m,n,o⟩:=Reps.atI r l;exact .inl ⟨_,_,_,m,rfl,rfl,SqL.of3 C,n,up0 m2 o q⟩
 exact thn (AZ3 a b e V g w F G v u _ Y t A B (hs _ _)) fun _ _ z=>(N2 z).trans (i.trans j)
def G4:Lo->Mem->(Option Int->Mem->Prop)->Prop:=fun _ M Q=>Q none M
def K2 (t:TE3):Lo->Mem->(Option Int->Mem->Prop)->Prop:=fun σ M Q=>t σ M fun x M1=>match x with
 | .int i=>Q (some i) M1
 | _=>False
abbrev TO3:=Lo->Mem->(Option Int->Mem->Prop)->Prop
def PO3 (X:Cx)(e:Option Expr)(t:TO3):Prop :=
 ∀(pins:List (Addr×Obj)) (s:BP9) (σv:L2.St) (H:Hp) (σ:Lo) (M:Mem) (Q:Option Int->Mem->Prop),Inv X pins σv H s->SRel X.K M H σ σv->MRel X.K M H->t σ M Q ->
  wpAny (model X.prog X.w) X.A (evalPart e X.env) (fun v s'=>∃o M' H',Inv X pins σv H' s'/\Step M H M' H'/\MRel X.K M' H'/\IsPart v o/\Q o M') X.xe s
theorem AE1:PO3 X none G4:=by
 intro a s b H d M Q I e c h
 exact BP6 ⟨none,M,H,I,.refl,c,.none,h⟩
theorem GH (h:PE3 X e te):PO3 X (some e) (K2 te):=by
 intro a s b H i M Q I j k l
 refine thn (h a s b H i M _ I j k l) fun u q c=>?_
 obtain⟨x,r,m,n,o,d,m1,f,p,g⟩:=c
 cases x<;>first|exact g.elim|skip
 cases p
 obtain⟨t,rfl⟩:=f
 exact⟨some _,m,n,o,d,m1,.int _ t,g⟩
def cutD (xs:List D)(lo hi:Option Int):List D:=(xs.drop (HT.sIx xs.length 0 lo)).take (HT.sIx xs.length xs.length hi-HT.sIx xs.length 0 lo)
theorem Reps.cut {M:Mem}{ds:List D}(r:Reps K M H ds vs)(lo hi:Option Int):Reps K M H (cutD ds lo hi) (OB vs lo hi):=by
 unfold cutD OB
 rw[r.length]
 exact(r.drop _).take _
def BL4:D->Option Int->Option Int->Mem->DK->Prop:=fun x lo hi M Q=>match x with
 | .lst ds=>Q (.lst (cutD ds lo hi)) M
 | .tup ds=>¬(HT.sIx ds.length 0 lo=0/\HT.sIx ds.length ds.length hi=ds.length)/\Q (.tup (cutD ds lo hi)) M
 | _=>False
theorem XJ {lo hi:Option Expr}{tl th:TO3}{p2:Pos}(E:PE3 X e te)(F:PO3 X lo tl)(G:PO3 X hi th) :
  PE3 X (.Subscript e (.Slice lo hi none p2) pos) (fun σ M Q=>te σ M fun x M1=>tl σ M1 fun l M2=>th σ M2 fun u M3=>BL4 x l u M3 Q):=by
 intro a s c H σ M Q I m J h
 refine Subscript_ (thn (E a s c H σ M _ I m J h) fun v L ⟨x,n,M1,N,O,f,m1,o,P,R⟩=>?_)
 refine wpAny_Slice (thn (F a L c N σ M1 _ O (m.mono f) m1 R) fun t S ⟨l,M2,U,V,g,m2,W,Y⟩=>thn (G a S c U σ M2 _ V (m.mono (f.trans g)) m2 Y) fun w i ⟨u,M3,j,Z,k,m3,pu,y⟩=>?_)
 refine BP6 ?_
 have I4:Inv X a c j {i with heap:=i.heap.push {cls:=.type "slice",data:=.fields #[t,w,.none]}}:=Z.kept (t':=i.toks) fun b ob q=>BP4 _ q
 have C:=P.mono (g.trans k)
 have A:AR4 X.K n l u j (Up X.K M3 j Q)\/AR5 X.K n l u j (Up X.K M3 j Q):=by
  cases x<;>first|exact y.elim|skip
  ·cases C with|tup B r =>
   obtain⟨D,q⟩:=y
   rw[r.length] at D
   exact .inr ⟨_,_,rfl,SqT.of3 B,D,fun p d=>⟨_,M3,Step.lay d,m3.lay d,.tup (.inl ⟨.inl D5,m3.free d⟩) ((r.cut l u).mono (Step.lay d)),q⟩⟩
  ·cases C with|lst B r =>
   refine .inl ⟨_,_,rfl,SqL.of3 B,fun p d=>?_⟩
   exact⟨_,M3,Step.lay d,m3.lay d,.lst (.inl ⟨.inl D5,m3.free d⟩) ((r.cut l u).mono (Step.lay d)),y⟩
 obtain⟨T,id,hT,ht,hg⟩:=(sl_list.or SF) a {i with heap:=i.heap.push {cls:=.type "slice",data:=.fields #[t,w,.none]}} c j n v t w l u i.heap.objs.size _ I4 o (CB5 ..) W pu A
 exact tail_any (ops:=[.ref i.heap.objs.size,v]) ht hT (thn hg fun _ _ z=>(N2 z).trans ((f.trans g).trans k)) (by with_unfolding_all rfl)
end
section
variable {X:Cx}{a b e o i value:Expr}{es:List Expr}{ta tb te td ty tv:TE3}{t:TA3}{pos p pos':Pos}{x:Str}{id T:String}{r:C3}
def F2 (r:C3)(t:TA3):TE3:=fun σ M Q=>t σ M fun ds M1=>r ds M1 Q
theorem XF (i:CallR3 X (.builtin id) r)(j:Gl X x)(k:X.mg x=none)(l:BU2 x=some (.builtin id))(m:PA3 X (e::es) t)(n:x≠"__name__":=by decide) (c:(x==("__debug__":Str))=false:=by decide)
  (o:BR9 (e::es) X.env=(false,eval e X.env)::BR9 es X.env:=by rfl) (d:(CD9 pos (BR9 es X.env)).any (·.1)=false:=by rfl):PE3 X (.Call (.Name x p) (e::es) [] pos) (F2 r t):=by
 intro a s b H q M Q I u v h
 refine CB2 (AI I j k l ?_ n c)
 exact PyProof.Rows.callWith_builtin1 (thn (m pos a s b H q M _ I u v h) fun w y ⟨A,B,C,D,E,f,m1,g,F,G⟩=>thn (i a y b D C A B w Q E m1 g F G) fun _ _ z=>z.trans f) o d
theorem RM (i:CallR3 X (.type T) r)(j:Gl X x)(k:X.mg x=none)(l:BU2 x=some (.type T))(m:PA3 X (e::es) t)(n:x≠"__name__":=by decide) (c:(x==("__debug__":Str))=false:=by decide)
  (o:BR9 (e::es) X.env=(false,eval e X.env)::BR9 es X.env:=by rfl) (d:(CD9 pos (BR9 es X.env)).any (·.1)=false:=by rfl):PE3 X (.Call (.Name x p) (e::es) [] pos) (F2 r t):=by
 intro a s b H q M Q I u v h
 refine CB2 (AI I j k l ?_ n c)
 exact BV9 (thn (m pos a s b H q M _ I u v h) fun w y ⟨A,B,C,D,E,f,m1,g,F,G⟩=>thn (i a y b D C A B w Q E m1 g F G) fun _ _ z=>z.trans f) o d
theorem AC7 {d:D}(a:Gl X x)(b:X.mg x=none)(c:BU2 x=some u)(r:RelV v u)(e:∀K M H,Rep K M H d v)(f:x≠"__name__":=by decide) (hd:(x==("__debug__":Str))=false:=by decide):PE3 X (.Name x pos) (tC3 d) :=
 OZ (AO7 a b c r f hd) e
def E2:C3:=fun ds M Q=>match ds with
 | [.lst xs]=>Q (.int xs.length) M
 | [.tup xs]=>Q (.int xs.length) M
 | [.str z]=>z.length<=BQ6/\Q (.int z.length) M
 | [.ref a]=>∃xs,M a=some (.lst xs)/\Q (.int xs.length) M
 | _=>False
theorem AX7:CallR3 X (.builtin "len") E2:=CallR3.of (call_len_seq.or LD) fun H M k b Q m c q=>by
 rcases c with _|⟨a,d⟩;(exact(q:False).elim);rcases d with _|⟨l,e⟩;rotate_left;(first|exact(q:False).elim|(cases a<;>exact(q:False).elim))
 cases a with
 | lst h r=>exact .inl ⟨_,_,rfl,.inl (SqL.of3 h),by rw[<-r.length];exact up0 m .int q⟩
 | tup h r=>exact .inl ⟨_,_,rfl,.inr (SqT.of3 h),by rw[<-r.length];exact up0 m .int q⟩
 | str=>exact .inr ⟨_,rfl,q.1,up0 m .int q.2⟩
 | ref =>
  obtain⟨n,f,q⟩:=q
  obtain⟨g,i,r⟩:=m _ _ f
  cases g<;>first|exact r.elim|skip
  have j:=r
  exact .inl ⟨_,_,rfl,.inl (.inl (.inl i)),by rw[<-j.length];exact up0 m .int q⟩
 | _=>exact(q:False).elim
def DM:C3:=fun ds M Q=>match ds with
 | [.int i]=>Q (.int i) M
 | [.bl k]=>Q (.int (if k then 1 else 0)) M
 | _=>False
theorem AX6:CallR3 X (.type "int") DM:=CallR3.of WB fun H M f b Q m c q=>by
 rcases c with _|⟨a,d⟩;(exact(q:False).elim);rcases d with _|⟨g,e⟩;rotate_left;(first|exact(q:False).elim|(cases a<;>exact(q:False).elim))
 cases a with
 | int=>exact .inl ⟨_,rfl,up0 m .int q⟩
 | bl=>exact .inr ⟨_,rfl,up0 m .int q⟩
 | _=>exact(q:False).elim
end
section
variable {X:Cx}{a b e o i value:Expr}{es:List Expr}{ta tb te td ty tv:TE3}{t:TA3}{pos p pos':Pos}{x:Str}
def IL (kds:List (Key×D))(k:Key):Option D:=(kds.find? fun kv=>decide (kv.1=k)).map (·.2)
def putD (kds:List (Key×D))(k:Key)(d:D):List (Key×D) :=
 if (kds.any fun kv=>decide (kv.1=k))=true then kds.map (fun kv=>if kv.1=k then(kv.1,d) else kv) else kds++[(k,d)]
def FX (kds more:List (Key×D)):List (Key×D):=more.foldl (fun acc kv=>putD acc kv.1 kv.2) kds
def kD:Key->D
 | .inl i=>.int i
 | .inr x=>.str x
def dK?:D->Option Key
 | .int i=>some (.inl i)
 | .str x=>some (.inr x)
 | _=>none
section
variable {K:BP3}{M:Mem}{H:Hp}
theorem RepK.length {c:List (Key×D)}(r:RepK K M H c kvs):c.length=kvs.length:=by
 induction c generalizing kvs with
 | nil=>cases r;rfl
 | cons d f e=>cases r with|cons a b=>rw[BP8,BP8,e b]
theorem RepK.val {c:List (Key×D)}(r:RepK K M H c kvs)(k:Key):(∃d v,IL c k=some d/\X6 kvs k=some v/\Rep K M H d v)\/(IL c k=none/\X6 kvs k=none):=by
 induction c generalizing kvs with
 | nil=>cases r;exact .inr ⟨rfl,rfl⟩
 | cons d f i =>
  cases r with
  | @cons g d v f h a b =>
   by_cases e:g=k
   ·exact .inl ⟨d,v,by simp[IL,e],by simp[X6,e],a⟩
   ·have j:IL ((g,d)::f) k=IL f k:=by simp[IL,e]
    have l:X6 ((g,v)::h) k=X6 h k:=by simp[X6,e]
    rw[j,l];exact i b
theorem RepK.some {a:List (Key×D)}(r:RepK K M H a kvs){k:Key}{d:D}(h:IL a k=Option.some d):∃v,X6 kvs k=Option.some v/\Rep K M H d v:=by
 rcases r.val k with⟨e,v,b,c,q⟩|⟨b,_⟩
 ·rw[h] at b;cases b;exact⟨v,c,q⟩
 ·rw[h] at b;cases b
theorem RepK.anyK {c:List (Key×D)}(r:RepK K M H c kvs)(k:Key):(c.any fun e=>decide (e.1=k))=kvs.any fun e=>decide (e.1=k):=by
 induction c generalizing kvs with
 | nil=>cases r;rfl
 | cons d g f=>cases r with|cons a b=>rw[BT6,BT6,f b]
theorem RepK.repl {c:List (Key×D)}(r:RepK K M H c kvs)(k:Key){d:D}(q:Rep K M H d v):RepK K M H (c.map (fun f=>if f.1=k then(f.1,d) else f)) (kvs.map (fun f=>if f.1=k then(f.1,v) else f)):=by
 induction c generalizing kvs with
 | nil=>cases r;exact .nil
 | cons h i g =>
  cases r with
  | @cons j h l i m a b =>
   rw[BR7,BR7]
   by_cases e:j=k
   ·simp only[e];exact .cons q (g b)
   ·simp only[e];exact .cons a (g b)
theorem RepK.snoc {c:List (Key×D)}(r:RepK K M H c kvs)(k:Key){d:D}(q:Rep K M H d v):RepK K M H (c++[(k,d)]) (kvs++[(k,v)]):=by
 induction c generalizing kvs with
 | nil=>cases r;exact .cons q .nil
 | cons f g e=>cases r with|cons a b=>exact .cons a (e b)
theorem RepK.put {a:List (Key×D)}(r:RepK K M H a kvs)(k:Key){d:D}(q:Rep K M H d v):RepK K M H (putD a k d) (putK kvs k v):=by
 unfold putD putK
 rw[r.anyK]
 split
 ·exact r.repl k q
 ·exact r.snoc k q
theorem RepK.merge {more:List (Key×D)}{e:List (Key×V)}(q:RepK K M H more e):∀{c:List (Key×D)} {kvs:List (Key×V)},RepK K M H c kvs->RepK K M H (FX c more) (CO kvs e):=by
 induction more generalizing e with
 | nil=>cases q;exact fun r=>r
 | cons d g f=>cases q with|cons a b=>exact fun r=>f b (r.put _ a)
theorem MQ {k:Key}(r:Rep K M H (kD k) v):v=kV k:=by
 cases k<;>(cases r;rfl)
theorem AT0 {d:D}{k:Key}(h:dK? d=Option.some k):d=kD k:=by
 cases d<;>first|(cases h;rfl)|cases h
end
def E3:R3:=fun x y M Q=>∃k d,dK? y=some k/\(match x with
 | .dct kds=>IL kds k=some d
 | .ref a=>∃kds,M a=some (.dct kds)/\IL kds k=some d
 | _=>False)/\Q d M
theorem PB (p:X.A.units+1<cLine)(ho:PE3 X o td)(hi:PE3 X i ty)(hs:WA i):PE3 X (.Subscript o i pos) (A6 E3 td ty):=PE3.of (AO9 p ho.dn hi.dn hs) fun j s t H l M Q I m u h=>by
 refine⟨l,M,_,m,u,h,fun x P w R a m1 z B=>⟨l,w,_,m.mono a,m1,B,fun y S n T b m2 C D=>?_⟩⟩
 obtain⟨k,d,E,f,q⟩:=D
 have F:=AT0 E
 subst F
 have G:=MQ C
 subst G
 have e:=z.mono b
 cases x<;>first|exact f.elim|skip
 ·cases e
  obtain⟨J,K,L⟩:=f
  obtain⟨ho,N,r⟩:=m2 _ _ K
  cases ho<;>first|exact r.elim|skip
  obtain⟨v,c,g⟩:=RepK.some r L
  exact⟨_,v,rfl,.inl ⟨_,k,.inl N,rfl,c.symm⟩,d,n,a.trans b,m2,g,q⟩
 ·cases e with
  | dct O r =>
   obtain⟨v,c,g⟩:=RepK.some r f
   exact⟨_,v,rfl,.inl ⟨_,k,O.1,rfl,c.symm⟩,d,n,a.trans b,m2,g,q⟩
def R5 (td ty tv:TE3):TS3:=fun T σ M=>tv σ M fun d M1=>td σ M1 fun x M2=>ty σ M2 fun y M3=>∃k a kds,dK? y=some k/\x=.ref a/\M3 a=some (.dct kds)/\kds.length<BQ6/\T.nx σ (D8 M3 a (.dct (putD kds k d)))
theorem AE4 (t:X.A.units+1<cLine)(ho:PE3 X o td)(hi:PE3 X i ty)(u:PE3 X value tv)(hs:CE9 value (some (.Subscript o i pos')) pos.line X.env=pure false) :
  PS3 X (.Assign [.Subscript o i pos'] value pos) (R5 td ty tv):=PS3.of (AQ7 t ho.dn hi.dn u.dn hs) fun m s w H g M T I j B h=>by
 refine⟨g,M,_,j,B,h,fun d v C V b m1 D E=>⟨g,C,_,j.mono b,m1,E,fun x W F Y c m2 G J=>⟨g,F,_,j.mono (b.trans c),m2,J,fun y Z M3 K e m3 L N=>?_⟩⟩⟩
 obtain⟨k,a,l,O,rfl,n,P,q⟩:=N
 have Q:=AT0 O
 subst Q
 have R:=MQ L
 subst R
 cases G
 obtain⟨ho,S,r⟩:=m3 _ _ n
 cases ho<;>first|exact r.elim|skip
 have p:=r
 have f:K a=none\/M3 a≠none:=.inr (by rw[n];intro z;cases z)
 have U:=D.mono (c.trans e)
 refine⟨a,_,rfl,.inl ⟨_,k,S,rfl,by rw[<-p.length];exact P,rfl⟩,g,D8 M3 a (.dct (putD l k d)),((b.trans c).trans e).trans (Step.put f),m3.put f (p.put k U),?_,q⟩
 exact j.mono (((b.trans c).trans e).trans (Step.put f))
def U4:List (TE3×TE3)->Lo->Mem->(List (D×D)->Mem->Prop)->Prop
 | [],_,M,Q=>Q [] M
 | (tk,tv)::r,σ,M,Q=>tk σ M fun x M1=>tv σ M1 fun y M2=>U4 r σ M2 fun ps M3=>Q ((x,y)::ps) M3
def YN (X:Cx)(pos:Pos)(keys:List (Option Expr))(values:List Expr)(trs:List (TE3×TE3)):Prop:=PPs X pos keys values (trs.map fun z=>(dnE X.K z.1,dnE X.K z.2))
theorem AE2:YN X pos [] [] []:=AQ1
theorem XS {k v:Expr}{ks:List (Option Expr)}{vs:List Expr}{tk tv:TE3}{a:List (TE3×TE3)}(b:PE3 X k tk)(c:PE3 X v tv)(d:YN X pos ks vs a):YN X pos (some k::ks) (v::vs) ((tk,tv)::a):=AE3 b.dn c.dn d
inductive RepP (K:BP3)(M:Mem)(H:Hp):List (D×D)->List (V×V)->Prop
 | nil:RepP K M H [] []
 | cons {d1 d2:D} {v1 v2:V} {ds:List (D×D)} {vs:List (V×V)}:Rep K M H d1 v1->Rep K M H d2 v2->RepP K M H ds vs->RepP K M H ((d1,d2)::ds) ((v1,v2)::vs)
theorem JX {K:BP3}:∀(d:List (TE3×TE3)) {σ:Lo} {σv:L2.St} {M:Mem} {H:Hp} {Q:List (D×D)->Mem->Prop} {Q2:List (V×V)->Hp->Prop},SRel K M H σ σv->MRel K M H->U4 d σ M Q ->
  (∀ps vs M' H',Step M H M' H'->MRel K M' H'->RepP K M' H' ps vs->Q ps M'->Q2 vs H')->NJ (d.map fun z=>(dnE K z.1,dnE K z.2)) σv H Q2
 | [],σ,σv,M,H,Q,Q2,hS,hM,h,hq=>hq [] [] M H .refl hM .nil h
 | (tk,tv)::r,σ,σv,M,H,Q,Q2,hS,hM,h,hq=>by
  refine⟨σ,M,_,hS,hM,h,fun x n e o a m1 f g=>⟨σ,e,_,hS.mono a,m1,g,fun y p q s b m2 i j=>?_⟩⟩
  refine JX r (hS.mono (a.trans b)) m2 j fun ps vs M3 k c m3 l m=>?_
  exact hq _ _ M3 k ((a.trans b).trans c) m3 (.cons (f.mono (b.trans c)) (i.mono c) l) m
def EX (trs:List (TE3×TE3)):TE3:=fun σ M Q=>∀p,M p=none->U4 trs σ (D8 M p (.dct [])) fun ps M1=>M1 p=some (.dct []) /\
 ∃kds:List (Key×D),ps=kds.map (fun kd=>(kD kd.1,kd.2))/\kds.length<=15/\Q (.ref p) (D8 M1 p (.dct (FX [] kds)))
theorem JQ {K:BP3}{M:Mem}{H:Hp}:∀(f:List (Key×D)) {vs:List (V×V)},RepP K M H (f.map (fun kd=>(kD kd.1,kd.2))) vs->∃kvs:List (Key×V),vs=kvs.map (fun g=>(kV g.1,g.2))/\RepK K M H f kvs
 | [],vs,r=>by cases r;exact⟨[],rfl,.nil⟩
 | (k,d)::f,vs,r=>by
  cases r with
  | cons a b c =>
   obtain⟨kvs,e,q⟩:=JQ f c
   have h:=MQ a
   subst h e
   exact⟨(k,_)::kvs,rfl,.cons b q⟩
theorem XH {keys:List (Option Expr)}{a:List Expr}{b:List (TE3×TE3)}(h:YN X pos keys a b)(c:keys.all (·.isSome)=true)(i:keys.length=a.length)(x:keys≠[])(j:keys.length<=15) :
  PE3 X (.Dict keys a pos) (EX b):=PE3.of (AP0 h c i x j) fun o s y H G M Q I A t h=>by
 intro p k
 have d:Step M H (D8 M p (.dct [])) (upd H p (.dK [])):=Step.put (.inl k)
 refine JX b (A.mono d) (t.put (.inl k) (show RepK _ _ _ _ _ from .nil)) (h p (t.free k)) fun J K u B l m1 C m=>?_
 obtain⟨v,f,e,i,q⟩:=m
 subst e
 obtain⟨n,rfl,w⟩:=JQ f C
 obtain⟨D,E,r⟩:=m1 _ _ v
 cases D<;>first|exact r.elim|skip
 have F:=r
 cases F
 have g:B p=none\/u p≠none:=.inr (by rw[v];intro z;cases z)
 exact⟨E,n,rfl,by rw[<-w.length];exact i,.ref p,D8 u p (.dct (FX [] f)),(d.trans l).trans (Step.put g),m1.put g (w.merge .nil),.ref,q⟩
end
def Vs (M:Mem)(d:D)(M':Mem)(d':D):Prop:=∀(K:BP3) (H:Hp) (v:V),MRel K M H->Rep K M H d v->MRel K M' H/\Rep K M' H d' v/\∀a,M' a≠none->M a≠none
section
variable {K:BP3}{M M':Mem}{H:Hp}
theorem Rep.shrink {d:D}(s:∀a,M a=none->M' a=none)(r:Rep K M H d v):Rep K M' H d v :=
 Rep.rec (motive_1:=fun d v _=>Rep K M' H d v) (motive_2:=fun e f _=>Reps K M' H e f) (motive_3:=fun e f _=>RepK K M' H e f)
  .non .bl .int .str .ty .ref (fun h _ c=>.tup (h.imp (fun z=>⟨z.1,s _ z.2⟩) id) c) (fun h _ c=>.lst (h.imp (fun z=>⟨z.1,s _ z.2⟩) id) c) (fun h _ c=>.dct ⟨h.1,s _ h.2⟩ c)
  .nil (fun _ _ a b=>.cons a b) .nil (fun _ _ a b=>.cons a b) r
theorem Reps.shrink {ds:List D}(s:∀a,M a=none->M' a=none)(r:Reps K M H ds vs):Reps K M' H ds vs:=by
 induction ds generalizing vs with
 | nil=>cases r;exact .nil
 | cons d ds c=>cases r with|cons a b=>exact .cons (a.shrink s) (c b)
theorem RepK.shrink {ds:List (Key×D)}{vs:List (Key×V)}(s:∀a,M a=none->M' a=none)(r:RepK K M H ds vs):RepK K M' H ds vs:=by
 induction ds generalizing vs with
 | nil=>cases r;exact .nil
 | cons d ds c=>cases r with|cons a b=>exact .cons (a.shrink s) (c b)
theorem RepT.shrink {ds:List (List Int×D)}{xs:List (List Int×Addr×Value)}(s:∀a,M a=none->M' a=none)(r:RepT K M H ds xs):RepT K M' H ds xs:=by
 induction r with
 | nil=>exact .nil
 | cons a b c _ d=>exact .cons (a.shrink s) (b.shrink s) c d
theorem RepN.shrink {ds:List (C5×D)}{xs:List (C5×Addr×Value)}(s:∀a,M a=none->M' a=none)(r:RepN K M H ds xs):RepN K M' H ds xs:=by
 induction r with
 | nil=>exact .nil
 | cons a b c _ d=>exact .cons (a.shrink s) (b.shrink s) c d
def Sub (M' M:Mem):Prop:=∀a o,M' a=some o->M a=some o
theorem Sub.refl:Sub M M:=fun _ _ h=>h
theorem Sub.none {a:Addr}(s:Sub M' M)(h:M a=Option.none):M' a=Option.none:=by
 cases e:M' a with
 | none=>rfl
 | some o=>rw[s a o e] at h;cases h
theorem MRel.sub (s:Sub M' M)(m:MRel K M H):MRel K M' H:=fun a o e=>by
 obtain⟨b,c,r⟩:=m a o (s a o e)
 refine⟨b,c,?_⟩
 cases o<;>cases b<;>first|exact r.elim|exact Reps.shrink (fun _ z=>s.none z) r|exact RepK.shrink (fun _ z=>s.none z) r|(obtain⟨d,e,r⟩:=r;exact⟨d,e,r.shrink fun _ z=>s.none z⟩)
theorem Vs.sub (s:Sub M' M)(d:D):Vs M d M' d:=fun K H v m r=>⟨m.sub s,r.shrink fun _ z=>s.none z,fun a h z=>h (s.none z)⟩
theorem Vs.refl (d:D):Vs M d M d:=Vs.sub .refl d
theorem mdel_sub {a:Addr}:Sub (J1 M a) M:=fun b o h=>by
 unfold J1 at h
 split at h
 ·cases h
 ·exact h
theorem WV {a:Addr}:J1 M a a=none:=by unfold J1;rw[if_pos rfl]
theorem OT {a:Addr}{o:MO}(h:M a=none):J1 (D8 M a o) a=M:=by
 funext b
 unfold J1 D8
 by_cases e:b=a
 ·rw[if_pos e,e,h]
 ·rw[if_neg e,if_neg e]
theorem Vs.frzL {a:Addr}{ds:List D}(h:M a=some (.lst ds)):Vs M (.ref a) (J1 M a) (.lst ds):=fun K H v m r=>by
 cases r
 obtain⟨c,d,q⟩:=m a _ h
 cases c<;>first|exact q.elim|skip
 exact⟨m.sub mdel_sub,.lst (.inl ⟨.inl d,WV⟩) (Reps.shrink (fun _ z=>mdel_sub.none z) q),fun b e z=>e (mdel_sub.none z)⟩
theorem Vs.trans {M1 M2:Mem}{d e d2:D}(a:Vs M d M1 e)(b:Vs M1 e M2 d2):Vs M d M2 d2:=fun K H v m r=>by
 obtain⟨m1,f,g⟩:=a K H v m r
 obtain⟨m2,h,i⟩:=b K H v m1 f
 exact⟨m2,h,fun c z=>g c (i c z)⟩
theorem Step.less {b:Mem}{c:Hp}(s:Step b c M H)(h:∀a,M' a≠none->M a≠none):Step b c M' H:=⟨s.keep,fun a z=>s.dom a (h a z)⟩
end
section
variable {X:Cx}{a b e o i value:Expr}{es:List Expr}{ta tb te td ty tv:TE3}{t:TA3}{pos p pos':Pos}{x:Str}{st:Stmt}{rest:List Stmt}{t1 t2:TS3}
theorem SP3.trans {M M1:Mem}{H1:Hp}{T:N1}{f:Flow}(s:Step M H M1 H1)(h:SP3 X pins M1 H1 T f s'):SP3 X pins M H T f s':=by
 cases f with
 | next=>obtain⟨b,a,c,e,I,st,r⟩:=h;exact⟨b,a,c,e,I,s.trans st,r⟩
 | brk=>obtain⟨b,a,c,e,I,st,r⟩:=h;exact⟨b,a,c,e,I,s.trans st,r⟩
 | cont=>obtain⟨b,a,c,e,I,st,r⟩:=h;exact⟨b,a,c,e,I,s.trans st,r⟩
 | ret u=>obtain⟨d,v,a,c,e,I,st,r⟩:=h;exact⟨d,v,a,c,e,I,s.trans st,r⟩
def B6:TS3:=fun T σ M=>T.nx σ M
def A8 (t u:TS3):TS3:=fun T σ M=>t {T with nx:=u T} σ M
theorem AF5:PSs3 X [] B6:=fun _ _ a H b M T I c d h=>wpAny_execs_nil ⟨b,a,M,H,I,.refl,d,c,h⟩
theorem XW (h1:PS3 X st t1)(h2:PSs3 X rest t2):PSs3 X (st::rest) (A8 t1 t2):=by
 intro a s c H e M T I g i h
 refine wpAny_execs_cons (thn (h1 a s c H e M {T with nx:=t2 T} I g i h) fun f j q=>?_)
 cases f with
 | next =>
  obtain⟨d,b,k,l,m,st,n,o,q⟩:=q
  exact thn (h2 a j b l d k T m o n q) fun _ _ z=>z.trans st
 | ret v=>exact q
 | brk=>exact q
 | cont=>exact q
theorem AF6 (h1:PS3 X st t1):PSs3 X [st] t1:=by
 intro a s b H c M T I d e h
 refine wpAny_execs_cons (thn (h1 a s b H c M T I d e h) fun f g q=>?_)
 cases f with
 | next=>exact wpAny_execs_nil q
 | ret v=>exact q
 | brk=>exact q
 | cont=>exact q
theorem AE8:PS3 X (.Pass pos) B6:=fun _ _ a H b M T I c d h=>wpAny_Pass ⟨b,a,M,H,I,.refl,d,c,h⟩
def F5 (te:TE3):TS3:=fun T σ M=>te σ M fun _ M1=>T.nx σ M1
theorem AE5 (i:PE3 X e te)(hs:CE9 e none pos.line X.env=pure false:=by rfl):PS3 X (.Expr e pos) (F5 te):=by
 intro a s b H f M T I g j h
 exact wpAny_Expr_any (thn (i a s b H f M _ I g j h) fun v o ⟨d,p,k,l,m,c,m1,q,r,n⟩=>⟨f,b,k,l,m,c,m1,g.mono c,n⟩) I.quiet hs
def B4 (te:TE3):TS3:=fun T σ M=>te σ M T.rt
theorem AQ6 (f:PE3 X e te):PS3 X (.Return (some e) pos) (B4 te):=by
 intro a s b H g M T I i j h
 exact wpAny_Return_some (thn (f a s b H g M _ I i j h) fun v r ⟨d,k,l,m,n,c,m1,o,p,q⟩=>⟨d,k,b,l,m,n,c,m1,o,p,q⟩)
def AI8:TS3:=fun T _ M=>T.rt .non M
theorem AE9:PS3 X (.Return none pos) AI8:=fun _ _ a H c M T I d b h=>wpAny_Return_none ⟨.non,.non,a,M,H,I,.refl,b,rfl,.non,h⟩
def C1 (c:TT3)(t u:TS3):TS3:=fun T σ M=>c σ M fun b M1=>if b=true then t T σ M1 else u T σ M1
theorem BD7 {c:Expr}{a b:List Stmt}{tc:TT3}(p:PT3 X c tc)(q:PSs3 X a t1)(r:PSs3 X b t2):PS3 X (.If c a b pos) (C1 tc t1 t2):=by
 intro e s g H i M T I j t h
 refine wpAny_If (thn (p e s g H i M _ I j t h) fun d k ⟨l,m,n,f,m1,o⟩=>?_)
 cases d with
 | true=>exact thn (q e k g m i l T n (j.mono f) m1 o) fun _ _ z=>z.trans f
 | false=>exact thn (r e k g m i l T n (j.mono f) m1 o) fun _ _ z=>z.trans f
def B8 (i:Nat)(te:TE3):TS3:=fun T σ M=>te σ M fun d M1=>T.nx (σ.set i (some d)) M1
theorem UV {i:Nat}(f:X.N.Nodup)(hi:X.N[i]?=some x)(g:Loc X.env.scope x)(j:PE3 X e te)(hs:CE9 e (some (.Name x pos')) pos.line X.env=pure false:=by rfl) (k:X.fn x=true\/X.env.scope.names.lookup x=some .local:=by first|exact .inl rfl|exact .inr rfl|assumption) :
  PS3 X (.Assign [.Name x pos'] e pos) (B8 i te):=PS3.of (BD9 f hi g j.dn hs k) fun a s l H b M T I c n h =>
 ⟨b,M,_,c,n,h,fun d v o p st m r q=>⟨b.set i (some d),o,st,m,(c.mono st).set r i,q⟩⟩
def Wk (K:BP3)(J:It)(ds:List D)(M:Mem)(H:Hp):Prop:=∀M' H',Step M H M' H' ->
 (∀i,i<ds.length->J.go i H')/\(∀i d x H'',ds[i]?=some d->J.yld i H' x H''->H''=H'/\Rep K M' H' d x)/\∀i,ds.length<=i->J.stop i H'
abbrev TI3:=Lo->Mem->(List D->Mem->Prop)->Prop
def dnI (K:BP3)(t:TI3):TI:=fun σv H R2=>∃σ M R,SRel K M H σ σv/\MRel K M H/\t σ M R/\∀ds J M' H',Step M H M' H'->MRel K M' H'->Wk K J ds M' H'->R ds M'->R2 J H'
def PI3 (X:Cx)(tg iter:Expr)(t:TI3):Prop:=PI X tg iter (dnI X.K t)
theorem PI.weak {b w2:TI}(h:PI X tg iter b)(c:∀σ H R,w2 σ H R->b σ H R):PI X tg iter w2:=fun a s σ H R I q=>h a s σ H R I (c _ _ _ q)
def O4 (ti:TI3)(i:Nat)(tb:TS3):TS3:=fun T σ M=>ti σ M fun ds M1=>∃Pv:Nat->Lo->Mem->Prop,Pv 0 σ M1 /\
 (∀k d σ M,ds[k]?=some d->Pv k σ M->tb {T with nx:=Pv (k+1),ct:=Pv (k+1),bk:=T.nx} (σ.set i (some d)) M)/\∀σ M,Pv ds.length σ M->T.nx σ M
theorem AQ5 {ti:TI3}{tb:TS3}{i:Nat}{R:Pos}(hp:PassesOwn (model X.prog X.w) X.A X.env X.xe)(hc:X.calm=true)(hi:PI3 X (.Name x R) iter ti)
  (hN:X.N.Nodup) (G:X.N[i]?=some x) (hx:Loc X.env.scope x) (hb:PSs3 X body tb)
  (hs:∀y,BZ8 iter X.env y=pure y:=by intro _;rfl) (hf:X.fn x=true\/X.env.scope.names.lookup x=some .local:=by first|exact .inl rfl|exact .inr rfl|assumption) :
  PS3 X (.For (.Name x R) iter body [] pos) (O4 ti i tb):=PS3.of (AF1 hp hc hi (MC hN G hx hf) hb.dn hs) fun S s σv H U M T I V hM h=>by
 refine⟨U,M,_,V,hM,h,fun o J L W l m1 wk ⟨Pv,p0,B,C⟩=>?_⟩
 refine⟨fun k m p D=>m=o.length-k/\k<=o.length/\∃b j,Step L W j D/\MRel X.K j D/\SRel X.K j D b p/\Pv k b j,⟨_,rfl,BW4 _,U,L,.refl,m1,V.mono l,p0⟩,?_⟩
 rintro k m p D ⟨rfl,hk,b,j,f,Y,E,Z⟩
 obtain⟨go,O,F⟩:=wk j D f
 by_cases n:k<o.length
 ·refine .inr ⟨go k n,fun a r=>∃c g,Step L W g r/\MRel X.K g r/\SRel X.K g r c a/\Pv (k+1) c g,?_,?_⟩
  ·rintro a r ⟨c,g,q⟩
   exact⟨o.length-(k+1),by lia,rfl,n,c,g,q⟩
  ·intro y P hy
   obtain⟨rfl,ry⟩:=O k o[k] y P (by simp[n]) hy
   refine⟨b.set i (some o[k]),j,_,E.set ry i,Y,B k o[k] b j (by simp[n]) Z,?_⟩
   exact⟨fun a Q t r u m2 v z=>⟨a,t,f.trans u,m2,v,z⟩,fun a Q t r u m2 v z=>⟨a,t,(l.trans f).trans u,m2,v,z⟩,
    fun a Q t r u m2 v z=>⟨a,t,f.trans u,m2,v,z⟩,fun d Q t r u m2 v z=>⟨d,t,(l.trans f).trans u,m2,v,z⟩⟩
 ·have e:k=o.length:=by lia
  subst e
  exact .inl ⟨F _ (BP5 _),b,j,l.trans f,Y,E,C b j Z⟩
def O3 (ta:TA3):TI3:=fun σ M R=>ta σ M fun ds M1=>match ds with
 | [.int j]=>-(2^62)<=j/\j<2^62/\R ((BS8 j.toNat).map fun k=>D.int (k:Nat)) M1
 | _=>False
theorem RO (l:Gl X "range")(o:X.mg "range"=none)(s:PA3 X [a] t)(hs:BR9 [a] X.env=[(false,eval a X.env)]:=by rfl):PI3 X tg (.Call (.Name "range" p) [a] [] pos) (O3 t) :=
 PI.weak (XN l o s.dn hs) fun u H R2 c=>by
  obtain⟨v,M,R,w,y,h,k⟩:=c
  refine⟨v,M,_,w,y,h,fun K L A B st m r q=>?_⟩
  have C:=r
  rcases C with _|⟨g,D⟩;(exact(q:False).elim);rcases D with _|⟨N,E⟩;rotate_left;(first|exact(q:False).elim|(cases g<;>exact(q:False).elim))
  cases g with
  | @int j =>
   obtain⟨F,G,q⟩:=q
   refine⟨j,rfl,F,G,k _ _ A B st m (fun O P Q=>⟨fun i f=>?_,fun i d x S b I=>?_,fun i f=>?_⟩) q⟩
   ·show i<j.toNat
    simpa using f
   ·obtain⟨rfl,rfl⟩:=I
    refine⟨rfl,?_⟩
    rw[BQ3] at b
    cases e:(BS8 j.toNat)[i]? with
    | none=>rw[e] at b;cases b
    | some n =>
     rw[e] at b
     have J:n=i:=by
      rw[BX6] at e
      ·exact(Option.some.inj e).symm
      ·have:=(List.getElem?_eq_some_iff.mp e).1;simpa using this
     subst J
     cases b
     have z:(0:Int)+(n:Int)=(n:Int):=by lia
     rw[z];exact .int
   ·show j.toNat<=i
    simpa using f
  | _=>exact(q:False).elim
theorem AD7 {b:TE3}(t:PE3 X a b)(f:b=te):PI3 X tg a (fun σ M R=>te σ M fun d M1=>match d with|.lst ds=>R ds M1|_=>False):=by
 subst f
 refine PI.weak (AP8 t.dn) fun u H R2 g=>?_
 obtain⟨σ,M,R,w,y,h,k⟩:=g
 refine⟨σ,M,_,w,y,h,fun d v z A st m r q=>?_⟩
 cases r<;>first|exact q.elim|skip
 rename_i B ds c p C
 refine⟨B,rfl,⟨c,SqL.of3 p⟩,k ds _ z A st m (fun F G s=>?_) q⟩
 have j:=SqL.of3 (p.imp (Fix.mono s) id)
 have l:=C.mono s
 refine⟨fun i n=>?_,fun i d x I D o=>?_,fun i n=>?_⟩
 ·obtain⟨v,e,_⟩:=l.get (i:=i) (d:=ds[i]) (by simp[n])
  exact⟨c,v,j,e⟩
 ·obtain⟨rfl,o⟩:=o
  obtain⟨v,e,E⟩:=l.get D
  rw[o c j] at e
  cases e
  exact⟨rfl,E⟩
 ·exact⟨c,j,by rw[<-l.length];exact n⟩
theorem AP7 (p:PE3 X a te):PI3 X tg a (fun σ M R=>te σ M fun d M1=>match d with|.tup ds=>R ds M1|_=>False):=by
 refine PI.weak (BD1 p.dn) fun s H R2 e=>?_
 obtain⟨σ,M,R,t,u,h,k⟩:=e
 refine⟨σ,M,_,t,u,h,fun d v w y st m r q=>?_⟩
 cases r<;>first|exact q.elim|skip
 rename_i z ds b n A
 refine⟨z,rfl,⟨b,SqT.of3 n⟩,k ds _ w y st m (fun D E o=>?_) q⟩
 have f:=SqT.of3 (n.imp (Fix.mono o) id)
 have g:=A.mono o
 refine⟨fun i j=>?_,fun i d x F B l=>?_,fun i j=>?_⟩
 ·obtain⟨v,c,_⟩:=g.get (i:=i) (d:=ds[i]) (by simp[j])
  exact⟨b,v,f,c⟩
 ·obtain⟨rfl,l⟩:=l
  obtain⟨v,c,C⟩:=g.get B
  rw[l b f] at c
  cases c
  exact⟨rfl,C⟩
 ·exact⟨b,f,by rw[<-g.length];exact j⟩
def Its (z:Str):It:=⟨fun i _=>i<z.cps.size,fun i H x H'=>H'=H/\∃c,z.cps[i]?=some c/\x=.str ⟨#[c]⟩,fun i _=>z.cps.size<=i⟩
theorem AI9 (z:Str)(tk:Tok)(it:Addr)(wide:Bool):Turn P w K tg (Its z) [it] it (fun i h=>h.IsStrIter it (if wide then "str_iterator" else "str_ascii_iterator") z tk i) where
 mem:=by simp
 obj:=fun i h st b l=>by
  have e:b=it:=by simpa using l
  subst e
  obtain⟨o,e,c,d⟩:=st
  exact⟨o,e,fun v z=>by rw[d] at z;cases z⟩
 keep:=fun i h f st k=>let ⟨o,ho,r⟩:=st;⟨o,k it (by simp) o ho,r⟩
 item:=by
  intro X M N O D i j s F H E I p st G
  subst M N O
  obtain⟨q,t,S,y,B,C⟩:=p it (by simp)
  have g:i<z.cps.size:=G
  have m:∀(f:Heap),f.IsStrIter it (if wide then "str_iterator" else "str_ascii_iterator") z tk (i+1)->BX4 it s.heap f->∃u,some (Value.str ⟨#[z.cps[i]]⟩ s.toks)=some u /\
    wpAny (model X.prog X.w) X.A (CB3 tg (.ref it) u) (fun _ R=>∃x J,Inv X j F J R/\RelV x u/\(Its z).yld i H x J/\R.heap.IsStrIter it (if wide then "str_iterator" else "str_ascii_iterator") z tk (i+1)/\∀b∈[it],J b=none) E {s with heap:=f,toks:=s.toks+1}:=by
   intro f n T
   have U:Inv X j F H {s with heap:=f,toks:=s.toks+1}:=I.turned (t':=s.toks+1) (fun b o l e=>(T.2 b l).trans e) q t y B C
   obtain⟨o,e,c,d⟩:=id n
   refine⟨_,rfl,OK (s:={s with heap:=f,toks:=s.toks+1}) e c d (by cases wide<;>decide) ⟨.str ⟨#[z.cps[i]]⟩,H,U,⟨_,rfl⟩,⟨rfl,_,by simp[g],rfl⟩,n,fun b l=>(p b l).1⟩⟩
  cases wide with
  | false=>exact wpAny_pyNext_ascii_item st (c:=z.cps[i]) (by simp[g]) fun f a b=>m f a b
  | true=>exact wpAny_pyNext_wide_item st (c:=z.cps[i]) (by simp[g]) fun f a b=>m f a b
 done:=by
  intro X M N O D i j s F H E I p st G
  obtain⟨q,t,S,y,B,C⟩:=p it (by simp)
  have g:z.cps.size<=i:=G
  cases wide with
  | false=>exact wpAny_pyNext_ascii_end (I.ok.hd D) st (by simp[g]) fun f L=>⟨rfl,I.turned (t':=s.toks) (fun b o l e=>L b o l e) q t y B C⟩
  | true=>exact wpAny_pyNext_wide_end (I.ok.hd D) st (by simp[g]) fun f L=>⟨rfl,I.turned (t':=s.toks) (fun b o l e=>L b o l e) q t y B C⟩
 self:=fun A i s Q E st h=>by
  cases wide with
  | false=>exact wpAny_pyIter_striter_ascii st h
  | true=>exact wpAny_pyIter_striter_wide st h
theorem BD0 {tl:TE}(j:PE X l tl):PI X tg l (fun σ H R=>tl σ H fun x H1=>∃z,x=.str z/\R (Its z) H1):=by
 intro a s σ H R I h
 refine thn (j a s σ H _ I h) fun v c f=>?_
 obtain⟨x,H1,g,k,m⟩:=f
 obtain⟨z,e,q⟩:=m
 subst e
 obtain⟨i,rfl⟩:=k
 have d:∀wide:Bool,PIE X a σ tg R (.ref c.heap.objs.size) {c with heap:=c.heap.push {cls:=.type (if wide then "str_iterator" else "str_ascii_iterator"),data:=.fields #[.str z i,.int 0 0]}}:=fun wide=>by
  refine⟨c.heap.objs.size,[c.heap.objs.size],_,_,H1,rfl,g.kept (t':=c.toks) fun b o e=>BP4 _ e,AI9 z i _ wide,⟨_,BR2 _ rfl,rfl,rfl⟩,fun b n=>?_,q⟩
  have e:b=c.heap.objs.size:=by simpa using n
  subst e
  exact g.fpOk (BP5 _) (g.hok.fresh (BP5 _))
 cases ha:z.cps.all (·<128)
 ·exact wpAny_pyIter_wide ha (d true)
 ·exact wpAny_pyIter_ascii ha (d false)
theorem AP6 (g:PE3 X a te):PI3 X tg a (fun σ M R=>te σ M fun d M1=>match d with|.str z=>R (z.cps.toList.map fun c=>D.str ⟨#[c]⟩) M1|_=>False):=by
 refine PI.weak (BD0 g.dn) fun j H R2 b=>?_
 obtain⟨σ,M,R,l,n,h,k⟩:=b
 refine⟨σ,M,_,l,n,h,fun d v o p st m r q=>?_⟩
 cases r<;>first|exact q.elim|skip
 rename_i z
 refine⟨z,rfl,k _ _ o p st m (fun u w y=>⟨fun i e=>?_,fun i d x A f s=>?_,fun i e=>?_⟩) q⟩
 ·show i<z.cps.size
  simpa using e
 ·obtain⟨rfl,c,t,rfl⟩:=s
  rw[BQ3] at f
  have:z.cps.toList[i]?=some c:=by simpa using t
  rw[this] at f
  cases f
  exact⟨rfl,.str⟩
 ·show z.cps.size<=i
  simpa using e
end
abbrev Sp3:=List D->Mem->DK->Prop
def FN (K:BP3)(sp:Sp3):Sp:=fun vs H Q _=>∃ds M Q3,Reps K M H ds vs/\MRel K M H/\sp ds M Q3/\∀d v M' H',Step M H M' H'->MRel K M' H'->Rep K M' H' d v->Q3 d M'->Q v H'
def View (Q:DK):DK:=fun d M=>∃d' M',Vs M d M' d'/\Q d' M'
theorem View.of {Q:DK}{d:D}{M:Mem}(q:Q d M):View Q d M:=⟨d,M,.refl d,q⟩
theorem View.sub {Q:DK}{d:D}{M M':Mem}(s:Sub M' M)(q:Q d M'):View Q d M:=⟨d,M',.sub s d,q⟩
def B9 (N:List Str)(ds:List D):Lo:=ds.map some++BR6 (N.length-ds.length) none
theorem YF {M:Mem}{ds:List D}(r:Reps K M H ds vs):SRel K M H (B9 N ds) (L2.start N vs):=by
 refine⟨by simp[B9,L2.start,r.length],fun i d h=>?_⟩
 unfold B9 at h
 unfold L2.start
 by_cases a:i<ds.length
 ·rw[BS2 (by simpa using a),BQ3] at h
  rw[BS2 (by simpa[<-r.length] using a),BQ3]
  cases e:ds[i]? with
  | none=>rw[e] at h;cases h
  | some f =>
   rw[e] at h;cases h
   obtain⟨v,b,c⟩:=r.get e
   exact⟨v,by rw[b];rfl,c⟩
 ·rw[BS6 (by simpa using a),BX5] at h
  split at h<;>cases h
section
variable {P:BT5}{w:World}{K:BP3}{mg:Str->Option Value}{base:Heap}
theorem Fun.ok3 {f:Addr}{k:Nat}{sp:Sp3}(F:Fun K x qual st f fd)(S:S8 N ps (D4 st))(len:∀ds M Q,sp ds M Q->ds.length=ps.length)
  (a:∀(cdv:Value) (A:BY4) (outer:List Env) (s:BP9) (H:Hp) (E:XK),Room k (A.deeper (envOfC qual (D4 st) s.heap.objs.size f cdv)) ->
   ∃t,PSs3 (RA CX0 P w K mg base N qual (D4 st) f cdv A outer s H E).nox (G1 st) t/\∀ds M Q,sp ds M Q->t {nx:=fun _ M'=>View Q .non M',rt:=View Q} (B9 N ds) M) :
  Y9 P w K mg base CX0 (k+1) f fd ps (FN K sp):=by
 refine F.ok S (fun l H Q E ⟨ds,M,e,r,_,h,_⟩=>by rw[<-r.length];exact len _ _ _ h) fun cdv A outer s H l Q E n b=>?_
 obtain⟨ds,M,e,r,m,h,q⟩:=b
 obtain⟨t,o,p⟩:=a cdv A outer s H E n
 have c:∀d v M' H',Step M H M' H'->MRel K M' H'->Rep K M' H' d v->View e d M'->Q v H':=fun d v M' H' st g u b=>by
  obtain⟨y,B,i,C⟩:=b
  obtain⟨m2,D,G⟩:=i K H' v g u
  exact q y v B H' (st.less G) m2 D C
 refine⟨_,o.dn,B9 N ds,M,_,YF r,m,p ds M e h,?_⟩
 exact⟨fun I j M' H' st g _ z=>c .non .non M' H' st g .non z,fun _ _ _ _ _ _ _ z=>z.elim,fun _ _ _ _ _ _ _ z=>z.elim,c⟩
end
section
variable {X:Cx}{e:Expr}{es:List Expr}{t:TA3}{x:Str}{p pos:Pos}{k:Nat}{f:Addr}{fd:CD4}{ps:List Str}{sp:Sp3}
def A7 (sp:Sp3)(t:TA3):TE3:=fun σ M Q=>t σ M fun ds M1=>sp ds M1 Q
theorem AC8 (F:Y9 X.prog X.w X.K X.mg X.base CX0 k f fd ps (FN X.K sp))(i:Room k X.A)(j:Gl X x)(l:X.mg x=some (.ref f))(n:BV3 X.K (.ref f)=true)(o:Binds X.K fd ps [])
  (u:PA3 X (e::es) t) (a:(x==("__debug__":Str))=false:=by decide) (y:BR9 (e::es) X.env=(false,eval e X.env)::BR9 es X.env:=by rfl) (b:(CD9 pos (BR9 es X.env)).any (·.1)=false:=by rfl) :
  PE3 X (.Call (.Name x p) (e::es) [] pos) (A7 sp t) :=
 PE3.of (AO8 F i j l n o .nil AU3 u.dn a y b) fun g s z H B M Q I C D h=>by
  refine⟨B,M,_,C,D,h,fun E G J L c m1 N O=>?_⟩
  show FN X.K sp (G++[]) L _ _
  rw[BV1]
  exact⟨E,J,Q,N,m1,O,fun d v P R st m r q=>⟨d,P,c.trans st,m,r,q⟩⟩
theorem XE (F:Y9 X.prog X.w X.K X.mg X.base CX0 k f fd ps (FN X.K sp))(c:Room k X.A)(e:Gl X x)(g:X.mg x=some (.ref f))(i:BV3 X.K (.ref f)=true)(j:Binds X.K fd ps [])
  (a:(x==("__debug__":Str))=false:=by decide):PE3 X (.Call (.Name x p) [] [] pos) (A7 sp A5) :=
 PE3.of (AD1 F c e g i j .nil AU3 a) fun b s l H t M Q I u n h =>
  ⟨[],M,Q,.nil,n,h,fun d v o y st m r q=>⟨d,o,st,m,r,q⟩⟩
end
abbrev P9:R3:=CT fun i j=>.int (i-j)
abbrev W2:R3:=rI3 NK fun i j=>.int (i*j)
abbrev RV:R3:=rI3 YJ fun i j=>.int (i / j)
abbrev E7:R3:=rI3 (fun _ j=>0<j) fun i j=>.int (i % j)
abbrev PN:R3:=rI3 AV8 fun i j=>.int (i^j.toNat)
abbrev T6:R3:=CT fun i j=>.bl (decide (i<j))
abbrev RX:R3:=CT fun i j=>.bl (decide (i<=j))
abbrev GK:R3:=CT fun i j=>.bl (decide (j<i))
abbrev BK8:R3:=CT fun i j=>.bl (decide (j<=i))
abbrev J4:U3:=rU3 fun i=>-i
def BM6 (te:TE3)(tl th:TO3):TE3:=fun σ M Q=>te σ M fun x M1=>tl σ M1 fun l M2=>th σ M2 fun u M3=>BL4 x l u M3 Q
def O1 (te:TE3):TI3:=fun σ M R=>te σ M fun d M1=>match d with|.lst ds=>R ds M1|_=>False
def DH (te:TE3):TI3:=fun σ M R=>te σ M fun d M1=>match d with|.tup ds=>R ds M1|_=>False
def AA4 (te:TE3):TI3:=fun σ M R=>te σ M fun d M1=>match d with|.str z=>R (z.cps.toList.map fun c=>D.str ⟨#[c]⟩) M1|_=>False
section
variable {X:Cx}{a e:Expr}{te:TE3}{pos:Pos}{lo hi:Option Expr}{tl th:TO3}{p2:Pos}{tg:Expr}
theorem BC1 (a:PE3 X e te)(b:PO3 X lo tl)(c:PO3 X hi th):PE3 X (.Subscript e (.Slice lo hi none p2) pos) (BM6 te tl th):=XJ a b c
theorem AU4 (b:PE3 X a te):PI3 X tg a (O1 te):=AD7 b rfl
theorem AU6 (b:PE3 X a te):PI3 X tg a (DH te):=AP7 b
theorem AU5 (b:PE3 X a te):PI3 X tg a (AA4 te):=AP6 b
end
theorem AX0:BU2 "len"=some (.builtin "len"):=by decide +kernel
theorem YR:BU2 "int"=some (.type "int"):=by decide +kernel
theorem KZ:BU2 "list"=some (.type "list"):=by decide +kernel
theorem NV:BU2 "tuple"=some (.type "tuple"):=by decide +kernel
theorem YS:BU2 "range"=some (.type "range"):=by decide +kernel
structure VX (K:BP3)(mg:Str->Option Value)(x:Str)(st:Stmt)(ps:List Str)(f:Addr)(fd:CD4):Prop where
 fn:Fun K x x st f fd
 bd:Binds K fd ps []
 gl:mg x=some (.ref f)
theorem us0 (h:us.length=0):us=[]:=List.length_eq_zero_iff.mp h
theorem us1 (h:us.length=1):∃a,us=[a]:=by
 cases us with
 | nil=>cases h
 | cons a r=>exact⟨a,by rw[us0 (Nat.succ.inj h)]⟩
theorem us2 (h:us.length=2):∃a b,us=[a,b]:=by
 cases us with
 | nil=>cases h
 | cons a r=>obtain⟨b,e⟩:=us1 (Nat.succ.inj h);exact⟨a,b,by rw[e]⟩
theorem us3 (h:us.length=3):∃a b c,us=[a,b,c]:=by
 cases us with
 | nil=>cases h
 | cons a r=>obtain⟨b,c,e⟩:=us2 (Nat.succ.inj h);exact⟨a,b,c,by rw[e]⟩
theorem us4 (h:us.length=4):∃a b c d,us=[a,b,c,d]:=by
 cases us with
 | nil=>cases h
 | cons a r=>obtain⟨b,c,d,e⟩:=us3 (Nat.succ.inj h);exact⟨a,b,c,d,by rw[e]⟩
theorem TR {f:Addr}{kV pm ct:Value}(X:K.In h)(G:h.Ns BT1 mg)
  (a:BW6 K BT1 x=some (some (.ref f))) (l:K.lookup f=some ⟨oc,od,.func (BW1 x x (K7 st) (G1 st) (D4 st) .none kV doc pm an cdv ct),osl⟩)
  (c:CA6 K cdv x=true) (k:BV3 K (.ref f)=true)
  (b:∀(kV doc pm:Value) (an:Option Addr) (cdv ct:Value) (us:List Value),us.length=ps.length->bindArgs (BW1 x x (K7 st) (G1 st) (D4 st) .none kV doc pm an cdv ct) ⟨us,[]⟩=pure (ps.zip us)) :
  VX K mg x st ps f (BW1 x x (K7 st) (G1 st) (D4 st) .none kV doc pm an cdv ct) :=
 ⟨AA2 l c k,(AA2 l c k).binds b,PySem.W.mg_of X G a⟩
def MW:Sp3:=fun ds M Q=>∃ns:List Int,ds=[.lst (ns.map D.int)]/\ns.length<=63/\(∀a,M a=none)/\∀M',Q (.bl true) M'
theorem BM9 {l:PySem.W.OpenLaw}{q:BT5}{i:(Str->Option Value)->Heap->Prop}{c:World->Heap->Prop}{d:DefRec}{K:Params->BP3}{k:Nat}(j:l.most=some 63)(b:d.params.defaults=[])(m:Room k callerA)
  (o:∀(w:World) (h:Heap),c w h->(K w.params).In h)
  (F:∀(w:World) (mg:Str->Option Value) (fa:Addr) (h:Heap),(K w.params).In h->h.Ns BT1 mg->mg d.name=some (.ref fa) ->
   ∃fd:CD4,(∀(s:BP9) (u:Value),BindsTo s fd ⟨[u],[]⟩ [(x,u)])/\∀base:Heap,(K w.params).In base->base.Ns BT1 mg->Y9 l.prog w (K w.params) mg base CX0 k fa fd [x] (FN (K w.params) MW)) :
  PySem.W.WalkO q loose i c l.row.toRowW d [] (fun f vs=>PySem.call f vs) :=
 L2.AS7 (n:=63) (k:=k) (x:=x) (CX:=fun _=>CX0) (sp:=fun w=>FN (K w.params) MW) j (by decide) b m o F
  (fun w H a g p _ t=>⟨[.lst (g.map D.int)],fun _=>none,fun d _=>d=.bl true,.cons (.lst (t.imp (fun z=>⟨z,rfl⟩) id) .ints) .nil,(fun _ _ z=>nomatch z),⟨g,rfl,p,fun _=>rfl,fun _=>rfl⟩,
   fun d v y A _ _ r e=>by subst e;cases r;rfl⟩) fun _ _ _ _ _ z=>z
def Same3 (p:Addr)(M M':Mem):Prop:=∀q,q≠p->M' q=M q
theorem Same3.refl {p:Addr}{M:Mem}:Same3 p M M:=fun _ _=>rfl
theorem Same3.trans {p:Addr}{M M1 M2:Mem}(a:Same3 p M M1)(b:Same3 p M1 M2):Same3 p M M2:=fun q h=>(b q h).trans (a q h)
def Q8 (c:Str->Addr):List (Str×BZ9)->List (Str×Addr)->List (Str×Addr)
 | [],acc=>acc
 | (n,k)::r,acc=>Q8 c r (if (k==.free)=true then(n,c n)::acc else acc)
theorem HZ {c:Str->Addr}(h:∀p∈scope.names,p.2=.free->env.cells.lookup p.1=some (c p.1)):closureFor scope env=pure (Q8 c scope.names []):=by
 unfold closureFor
 have d:∀(l:List (Str×BZ9)) (a:List (Str×Addr)),(∀p∈l,p.2=.free->env.cells.lookup p.1=some (c p.1)) ->
   (forIn l a fun(x:Str×BZ9) (r:List (Str×Addr))=>match x with
    | (name,kind)=>if (kind==NameKind.free)=true then do let y <-cellOf env name;pure (ForInStep.yield ((name,y)::r)) else pure (ForInStep.yield r):Sem (List (Str×Addr)))=pure (Q8 c l a):=by
  intro l
  induction l with
  | nil=>intro a _;rfl
  | cons p l m =>
   intro a f
   obtain⟨n,k⟩:=p
   rw[List.forIn_cons]
   by_cases b:(k==NameKind.free)=true
   ·have g:k=.free:=by simpa using b
    have o:=f (n,k) BQ7 g
    have e:cellOf env n=pure (c n):=by unfold cellOf;rw[show env.cells.lookup n=some (c n) from o]
    simp only[b,e]
    have:=m ((n,c n)::a) fun q i=>f q (BQ4 _ i)
    unfold Q8
    rw[if_pos b,<-this]
    rfl
   ·simp only[b]
    have:=m a fun q i=>f q (BQ4 _ i)
    unfold Q8
    rw[if_neg b,<-this]
    rfl
 have j:=d scope.names [] h
 first
  | exact j
  | (refine Eq.trans ?_ j;rfl)
  | (simp only[bind_pure];exact j)
theorem CF (c:Str->Addr):∀(l:List (Str×BZ9)) (a:List (Str×Addr)) (p:Str×Addr),p∈Q8 c l a->p∈a\/(p.2=c p.1/\(p.1,NameKind.free)∈l)
 | [],a,p,h=>.inl h
 | (n,k)::r,a,p,h=>by
  rcases CF c r _ p h with h|⟨e,f⟩
  ·by_cases b:(k==NameKind.free)=true
   ·rw[if_pos b] at h
    rcases BU1.mp h with rfl|h
    ·have d:k=.free:=by simpa using b
     exact .inr ⟨rfl,by rw[d];exact BQ7⟩
    ·exact .inl h
   ·rw[if_neg b] at h;exact .inl h
  ·exact .inr ⟨e,BQ4 _ f⟩
theorem IW (c:Str->Addr):∀(l:List (Str×BZ9)) (a:List (Str×Addr)) (n:Str),((n,NameKind.free)∈l\/(n,c n)∈a)->(n,c n)∈Q8 c l a
 | [],a,n,h=>by
  rcases h with h|h
  ·exact absurd h (by simp)
  ·exact h
 | (m,k)::r,a,n,h=>by
  refine IW c r _ n ?_
  rcases h with h|h
  ·rcases BU1.mp h with e|h
   ·cases e
    exact .inr (by exact BQ7)
   ·exact .inl h
  ·by_cases b:(k==NameKind.free)=true
   ·rw[if_pos b];exact .inr (BQ4 _ h)
   ·rw[if_neg b];exact .inr h
theorem IA {l:List (Str×Addr)}{c:Str->Addr}(h:∀p∈l,p.2=c p.1){n:Str}(b:(n,c n)∈l):l.lookup n=some (c n):=by
 induction l with
 | nil=>exact absurd b (by simp)
 | cons p r d =>
  obtain⟨m,a⟩:=p
  by_cases e:n=m
  ·subst e
   have:a=c n:=h (n,a) BQ7
   simp[this]
  ·have f:(n==m)=false:=by simpa using e
   simp only[List.lookup_cons,f]
   refine d (fun q g=>h q (BQ4 _ g)) ?_
   rcases BU1.mp b with z|z
   ·cases z;exact absurd rfl e
   ·exact z
theorem WD (c:Str->Addr)(l:List (Str×BZ9)):∀p∈Q8 c l [],p.2=c p.1:=fun p a=>by
 rcases CF c l [] p a with h|h
 ·exact absurd h (by simp)
 ·exact h.1
theorem LF {c:Str->Addr}{l:List (Str×BZ9)}{n:Str}(h:(n,NameKind.free)∈l):(Q8 c l []).lookup n=some (c n) :=
 IA (WD c l) (IW c l [] n (.inl h))
theorem AC1 {c:Str->Addr}{l:List (Str×BZ9)}{n:Str}{a:Addr}(h:(Q8 c l []).lookup n=some a):a=c n/\(n,NameKind.free)∈l:=by
 have b:=BS4 h
 rcases CF c l [] (n,a) b with z|z
 ·exact absurd z (by simp)
 ·exact z
theorem WE {R:Result->BP9->Prop}{elt a:Expr}{it l:Value}(I:Nat->BP9->Prop)
  (o:∀n s,I n s->wpAny (model prog w) A (pyNext it) (fun r s₁=>match r with
   | none=>R (.ok .next) s₁
   | some v=>wpAny (model prog w) A (CB3 a it v) (fun _ b=>wpAny (model prog w) A (assign a env v) (fun _ s₂ =>
     wpAny (model prog w) A (forIn ifs true fun c r=>if r=true then do let ok <-isTrue c env (eval c env);pure (ForInStep.yield ok) else pure (ForInStep.yield r)) (fun ok d =>
      if ok=true then wpAny (model prog w) A (eval elt env) (fun x f =>
       wpAny (model prog w) A (call (.builtin "list.append") [l,x]) (fun _ g=>∃m,m<n/\I m g) (fun _ _=>False) f) (fun _ _=>False) d
      else∃m,m<n/\I m d) (fun _ _=>False) s₂) (fun _ _=>False) b) (fun _ _=>False) s₁) (fun _ _=>False) s)
  (n:Nat) (h:I n s):codeAny (model prog w) A (.compLoop (.ListComp elt [⟨a,iter,ifs,0⟩] scope pos) 0 it l env) R s:=by
 refine codeAny_loop rfl I (fun n s u=>?_) n h
 refine wpAny_noted ?_
 refine BP2 (CD1 (BP2 (BV0 (o n s u) (fun r s₁ i=>?_) fun _ _ e=>e.elim)))
 cases r with
 | none=>exact BP6 i
 | some v =>
  refine BP2 (BV0 i (fun _ b k=>?_) fun _ _ e=>e.elim)
  refine BP2 (BV0 k (fun _ s₂ p=>BP2 (BV0 p (fun ok d j=>?_) fun _ _ e=>e.elim)) fun _ _ e=>e.elim)
  cases ok with
  | false=>exact BP6 ⟨rfl,j⟩
  | true =>
   exact BP2 (BP2 (BV0 j (fun x f q=>BP2 (BV0 q (fun _ g t=>BP6 (BP6 ⟨rfl,t⟩)) fun _ _ e=>e.elim)) fun _ _ e=>e.elim))
def F3 (X:Cx)(scope:Scope)(cl:List (Str×Addr))(s₀:BP9)(H₀:Hp)(ex:List Addr)(N':List Str):Cx :=
 {X with N:=N',s₀:=s₀,H₀:=H₀,env:=compEnvC scope cl s₀.heap.objs.size X.env,outer:=X.stack,stack:=X.stack,ex:=ex,fn:=fun _=>false,pn:=[],xe:=fun _ _=>False}
theorem MN (a:∀y∈scope.names,y.2≠.cell)(h:(relabel scope env).names.lookup x=some .cell\/(relabel scope env).names.lookup x=some .free):(x,NameKind.free)∈scope.names:=by
 have b:∀c,(c=.cell\/c=.free)->(relabel scope env).names.lookup x=some c->(x,NameKind.free)∈scope.names:=fun c g h=>by
  have i:=BS4 h
  obtain⟨⟨n,k⟩,d,e⟩:=List.mem_map.mp i
  by_cases f:(k==NameKind.free && env.scope.kind==.function && env.kindOf n==some .cell)=true
  ·dsimp only at e
   rw[if_pos f] at e
   cases e
   have:k=.free:=by
    simp only[BQ0] at f
    simpa using f.1.1
   rw[this] at d;exact d
  ·dsimp only at e
   rw[if_neg f] at e
   cases e
   rcases g with rfl|rfl
   ·exact absurd rfl (a _ d)
   ·exact d
 rcases h with h|h
 ·exact b _ (.inl rfl) h
 ·exact b _ (.inr rfl) h
def AJ7 (X:Cx)(ifs:List Expr)(t:TT3):Prop :=
 ∀(pins:List (Addr×Obj)) (s:BP9) (σv:L2.St) (H:Hp) (σ:Lo) (M:Mem) (Q:Bool->Mem->Prop),Inv X pins σv H s->SRel X.K M H σ σv->MRel X.K M H->t σ M Q ->
  wpAny (model X.prog X.w) X.A (forIn ifs true fun c r=>if r=true then do let ok <-isTrue c X.env (eval c X.env);pure (ForInStep.yield ok) else pure (ForInStep.yield r)) (TP3 X pins σv M H Q) X.xe s
def L5:TT3:=fun _ M Q=>Q true M
theorem AD9 {X:Cx}:AJ7 X [] L5:=fun a s b H d M Q I e c h=>by
 exact BP6 ⟨M,H,I,.refl,c,h⟩
theorem AE0 {X:Cx}{c:Expr}{t:TT3}(e:PT3 X c t):AJ7 X [c] t:=fun a s d H f M Q I g i h=>by
 rw[List.forIn_cons]
 refine BP2 (BP2 (thn (e a s d H f M Q I g i h) fun b j q=>BP6 ?_))
 show wpAny _ _ (forIn [] b _) _ _ _
 exact BP6 q
abbrev TG3:=D->Lo->Mem->(Lo->Mem->Prop)->Prop
def dnG (K:BP3)(g:TG3):TG:=fun v σv H Q2=>∃d σ M Q,Rep K M H d v/\SRel K M H σ σv/\MRel K M H/\g d σ M Q/\∀σ' σv' M' H',Step M H M' H'->MRel K M' H'->SRel K M' H' σ' σv'->Q σ' M'->Q2 σv' H'
def PG3 (X:Cx)(tg:Expr)(g:TG3):Prop:=PG X tg (dnG X.K g)
theorem PG.weak {X:Cx}{g1 g2:TG}(h:PG X tg g1)(b:∀v σ H Q,g2 v σ H Q->g1 v σ H Q):PG X tg g2:=fun a s σ H v u Q I r q=>h a s σ H v u Q I r (b _ _ _ _ q)
def J0 (i:Nat):TG3:=fun d σ M Q=>Q (σ.set i (some d)) M
theorem AD3 {X:Cx}(a:X.N.Nodup)(hi:X.N[i]?=some x)(b:Loc X.env.scope x)(c:X.fn x=true\/X.env.scope.names.lookup x=some .local:=by first|exact .inl rfl|exact .inr rfl|assumption):PG3 X (.Name x pos) (J0 i) :=
 PG.weak (MC a hi b c) fun v e H l ⟨d,f,M,Q,r,g,j,h,k⟩=>k (f.set i (some d)) _ M H .refl j (g.set r i) h
def U1 {α:Type}:List (Option α)->List Nat->List α->List (Option α)
 | σ,i::is,x::xs=>U1 (σ.set i (some x)) is xs
 | σ,_,_=>σ
def WM (is:List Nat):TGs:=fun vs σ H Q=>vs.length=is.length/\Q (U1 σ is vs) H
theorem PGs.weak {X:Cx}{ts:List Expr}{g1 g2:TGs}(h:PGs X ts g1)(b:∀v σ H Q,g2 v σ H Q->g1 v σ H Q):PGs X ts g2:=fun a s σ H v u Q I r q=>h a s σ H v u Q I r (b _ _ _ _ q)
theorem AD4 {X:Cx}:PGs X [] (WM []):=PGs.weak AP5 fun c d H Q a=>by
 obtain⟨b,q⟩:=a
 have e:=List.length_eq_zero_iff.mp b
 subst e
 exact⟨rfl,q⟩
theorem XM {X:Cx}(c:X.N.Nodup)(hi:X.N[i]?=some x)(d:Loc X.env.scope x)(h2:PGs X es (WM is))
  (e:X.fn x=true\/X.env.scope.names.lookup x=some .local:=by first|exact .inl rfl|exact .inr rfl|assumption)
  (hs:(BV6 (.Name x pos::es) X.env).map (·.2)=assign (.Name x pos) X.env::(BV6 es X.env).map (·.2):=by rfl):PGs X (.Name x pos::es) (WM (i::is)) :=
 PGs.weak (AD5 (MC c hi d e) h2 hs) fun f g H Q a=>by
  obtain⟨b,q⟩:=a
  cases f with
  | nil=>cases b
  | cons v r=>exact⟨v,r,rfl,by simpa using b,q⟩
theorem AL {K:BP3}{M:Mem}{H:Hp}:∀{is:List Nat} {ds:List D} {vs:List V} {σ:Lo} {σv:L2.St},Reps K M H ds vs->SRel K M H σ σv->SRel K M H (U1 σ is ds) (U1 σv is vs)
 | [],ds,vs,σ,σv,r,hS=>by cases ds<;>cases vs<;>exact hS
 | i::is,_,_,σ,σv,.nil,hS=>hS
 | i::is,_,_,σ,σv,.cons a b,hS=>AL (is:=is) b (hS.set a i)
def U6 (is:List Nat):TG3:=fun d σ M Q=>∃ds,d=.tup ds/\ds.length=is.length/\Q (U1 σ is ds) M
theorem AP4 {X:Cx}{k:Nat}(g:X.calm=true)(h:PGs X es (WM is))
  (i:(BV6 es X.env).length=is.length:=by rfl) (a:(BV6 es X.env).findIdx? (·.1)=none:=by rfl):PG3 X (.Tuple es k pos) (U6 is) :=
 PG.weak (BC9 g h i a) fun v j H p b=>by
  obtain⟨d,s,M,Q,r,l,m,⟨t,e,f,q⟩,n⟩:=b
  subst e
  cases r with
  | tup o c=>exact⟨_,_,rfl,SqT.of3 o,by rw[<-c.length];exact f,by rw[<-c.length];exact f,n _ _ M H .refl m (AL c l) q⟩
def VP (g:TG3)(te:TE3):TS3:=fun T σ M=>te σ M fun d M1=>g d σ M1 T.nx
theorem AQ3 {X:Cx}{te:TE3}{g:TG3}(k:PE3 X e te)(l:PG3 X tg g)(hs:swapsWithSole [tg] e pos.line X.env=pure false:=by rfl) (n:swappedStores [tg] e X.env=pure none:=by rfl)
  (h1:(BV6 [tg] X.env).map (·.2)=[assign tg X.env]:=by rfl):PS3 X (.Assign [tg] e pos) (VP g te):=PS3.of (AF0 k.dn l hs n h1) fun c s o H f M T I i p h =>
 ⟨f,M,_,i,p,h,fun d v t y st m r q=>⟨d,f,t,_,r,i.mono st,m,q,fun a j u z b m2 w x=>⟨a,u,st.trans b,m2,w,x⟩⟩⟩
def AN (ti:TI3)(g:TG3)(tb:TS3):TS3:=fun T σ M=>ti σ M fun ds M1=>∃Pv:Nat->Lo->Mem->Prop,Pv 0 σ M1 /\
 (∀k d σ M,ds[k]?=some d->Pv k σ M->g d σ M fun σ' M'=>tb {T with nx:=Pv (k+1),ct:=Pv (k+1),bk:=T.nx} σ' M')/\∀σ M,Pv ds.length σ M->T.nx σ M
theorem DJ {f:Str×BZ9->Str×BZ9}(a:∀p,(f p).1=p.1){x:Str}:∀{l:List (Str×BZ9)},(l.map f).lookup x=(l.lookup x).map fun k=>(f (x,k)).2
 | []=>rfl
 | (n,k)::r=>by
  have b:=a (n,k)
  rw[BR7]
  generalize c:f (n,k)=q at b ⊢
  obtain⟨g,h⟩:=q
  cases b
  rw[List.lookup_cons,List.lookup_cons]
  by_cases e:x=n
  ·subst e
   simp[c]
  ·have d:(x==n)=false:=by simpa using e
   rw[d]
   exact DJ a
theorem W4:(relabel scope env).names.lookup x=(scope.names.lookup x).map fun k=>if (k==NameKind.free && env.scope.kind==.function && env.kindOf x==some .cell)=true then NameKind.cell else k:=by
 have:=DJ (f:=fun p=>if (p.2==NameKind.free && env.scope.kind==.function && env.kindOf p.1==some .cell)=true then(p.1,NameKind.cell) else(p.1,p.2)) (fun p=>by split<;>rfl) (x:=x) (l:=scope.names)
 refine this.trans ?_
 congr 1
 funext k
 split<;>rfl
theorem IE (h:scope.names.lookup x=some .free):(relabel scope env).names.lookup x=some .cell\/(relabel scope env).names.lookup x=some .free:=by
 rw[W4,h,CA3]
 split
 ·exact .inl rfl
 ·exact .inr rfl
def N6 (ti:TI3)(n:Nat)(slots:List Nat)(g:TG3)(tt:TT3)(te:TE3):TE3:=fun σ M Q=>ti σ M fun ds M1=>∀p,M1 p=none->∃Pv:Nat->List D->Mem->Prop,Pv 0 [] (D8 M1 p (.lst [])) /\
 (∀k d acc M,ds[k]?=some d->Pv k acc M->g d (BR6 n none++slots.map fun j=>(σ[j]?).getD none) M fun σ' M0=>tt σ' M0 fun b M' =>
  if b=true then te σ' M' fun e M''=>M'' p=some (.lst acc)/\acc.length<BQ6/\Pv (k+1) (acc++[e]) (D8 M'' p (.lst (acc++[e]))) else Pv (k+1) acc M') /\
 ∀acc M,Pv ds.length acc M->M p=some (.lst acc)/\Q (.lst acc) (J1 M p)
def EW (ti:TI3)(n:Nat)(slots:List Nat)(g:TG3)(tt:TT3)(te:TE3):TE3:=fun σ M Q=>ti σ M fun ds M1=>∀p,M1 p=none->∃Pv:Nat->List D->Mem->Prop,Pv 0 [] (D8 M1 p (.lst [])) /\
 (∀k d acc M,ds[k]?=some d->Pv k acc M->g d (BR6 n none++slots.map fun j=>(σ[j]?).getD none) M fun σ' M0=>tt σ' M0 fun b M' =>
  if b=true then te σ' M' fun e M''=>M'' p=some (.lst acc)/\acc.length<BQ6/\Pv (k+1) (acc++[e]) (D8 M'' p (.lst (acc++[e]))) else Pv (k+1) acc M') /\
 ∀acc M,Pv ds.length acc M->M p=some (.lst acc)/\Q (.ref p) M
def WkE (K:BP3)(J:It)(ds:List D)(M:Mem)(H:Hp):Prop:=∀M' H',Step M H M' H'->MRel K M' H' ->
 (∀i,i<ds.length->J.go i H')/\(∀i d x H'',ds[i]?=some d->J.yld i H' x H''->Step M' H' M' H''/\MRel K M' H''/\Rep K M' H'' d x)/\J.stop ds.length H'
def BN5 (K:BP3)(t:TI3):TI:=fun σv H R2=>∃σ M R,SRel K M H σ σv/\MRel K M H/\t σ M R/\∀ds J M' H',Step M H M' H'->MRel K M' H'->WkE K J ds M' H'->R ds M'->R2 J H'
def QV (X:Cx)(tg iter:Expr)(t:TI3):Prop:=PI X tg iter (BN5 X.K t)
theorem PI3.toE {X:Cx}{t:TI3}(h:PI3 X tg iter t):QV X tg iter t:=PI.weak h fun c H R2 ⟨f,M,R,g,j,l,k⟩=>⟨f,M,R,g,j,l,fun n J o p st m q=>k n J o p st m fun s u a m2 =>
 let ⟨go,yld,stop⟩:=q s u a
 ⟨go,fun i d x b e y=>by obtain⟨rfl,r⟩:=yld i d x b e y;exact⟨.refl,m2,r⟩,stop _ (BP5 _)⟩⟩
theorem JB {prog:BT5}{w:World}{A:BY4}{E:Value->BP9->Prop}{it l:Addr}:∀{n:Nat} {s:BP9} {items:Array Value} {i:Nat} {Q:List Value->BP9->Prop},s.heap.IsListIter it l i->s.heap.IsList l items->it≠l->i+n<=items.size ->
  (∀h',h'.IsListIter it l (i+n)->BX4 it s.heap h'->Q ((items.toList.drop i).take n) {s with heap:=h'})->wpAny (model prog w) A (PySem.draw (.ref it) n) Q E s
 | 0,s,items,i,Q,hi,hl,hne,hn,k=>by
  exact BP6 (by simpa using k s.heap hi ⟨rfl,fun _ _=>rfl⟩)
 | n+1,s,items,i,Q,hi,hl,hne,hn,k=>by
  have a:i<items.size:=by lia
  refine BP2 (wpAny_pyNext_list_item hi hl (x:=items[i]) (by simp[a]) fun h' d f=>?_)
  have g:h'.IsList l items:=by
   obtain⟨o,m,r⟩:=hl
   exact⟨o,(f.2 l (Ne.symm hne)).trans m,r⟩
  refine BP2 (BU9 (JB (n:=n) (s:={s with heap:=h'}) (i:=i+1) d g hne (by lia) fun p h c=>BP6 ?_))
  have e:items.toList.drop i=items[i]::items.toList.drop (i+1):=by
   rw[List.drop_eq_getElem_cons (by simpa using a)]
   simp
  have:=k p (by rw[show i+(n+1)=i+1+n by lia];exact h) ⟨c.1.trans f.1,fun b j=>(c.2 b j).trans (f.2 b j)⟩
  rw[e,List.take_succ_cons] at this
  exact this
theorem QL {E:Value->BP9->Prop}{l:Addr}{a:List (Bool×(Value->Sem Unit))}{Q:Unit->BP9->Prop}(x:A.handled=none)(r:s.heap.IsList l items)
  (g:a.length=items.size) (h:a.findIdx? (·.1)=none)
  (k:∀h',Heap.ExtBut s.heap.objs.size s.heap h'->wpAny (model prog w) A (assignInOrder (a.map (·.2)) items.toList) Q E {s with heap:=h'}):wpAny (model prog w) A (PySem.unpack (.ref l) a) Q E s:=by
 obtain⟨o,f,j,n,t⟩:=id r
 have c:=BQ9 f
 unfold PySem.unpack
 rw[h]
 refine BP2 (BU9 ?_)
 refine BP2 ?_
 refine BP2 (CB1 (T:="list") ⟨o,f,j⟩ (F.slot_list_iter).1 ?_)
 refine BP6 ?_
 refine BP2 (BU9 (wpAny_pyIter_list r ?_))
 refine BP2 (BU9 (JB (i:=0) (l:=l) (items:=items) ⟨_,BR2 _ rfl,rfl,rfl⟩ ⟨o,BP4 _ f,j,n,t⟩ (Nat.ne_of_gt c) (by lia) fun h' m u=>?_))
 have e:(items.toList.drop 0).take a.length=items.toList:=by rw[List.drop_zero,List.take_of_length_le (by simp[g])]
 rw[e]
 have d:¬items.toList.length<a.length:=by simp[g]
 simp only[d]
 have p:h'.IsList l items:=⟨o,(u.2 l (BS3 c)).trans (BP4 _ f),j,n,t⟩
 refine BP2 (BU9 (wpAny_pyNext_list_end x m p (by simp[g]) fun y z=>?_))
 refine BP6 (k y fun b B v q=>z b B v ((u.2 b v).trans (BP4 _ q)))
def AT7 (is:List Nat):TG3:=fun d σ M Q=>∃ds,d=.lst ds/\ds.length=is.length/\Q (U1 σ is ds) M
theorem AP2 {X:Cx}{k:Nat}(m:X.calm=true)(h:PGs X es (WM is))
  (n:(BV6 es X.env).length=is.length:=by rfl) (c:(BV6 es X.env).findIdx? (·.1)=none:=by rfl):PG3 X (.Tuple es k pos) (AT7 is):=by
 rintro a s f H v u p I r ⟨d,D,M,Q,g,t,w,⟨E,e,j,q⟩,x⟩
 subst e
 cases g with
 | lst y i =>
  cases r
  obtain⟨z,l,A,F⟩:=I.list (SqL.of3 y)
  refine BP2 (CD1 (QL (I.ok.hd m) A.isList (by rw[n,<-j,i.length,l.length];simp) c fun G B=>?_))
  have C:=I.kept (t':=s.toks) fun b o e=>B b o (BS3 (BQ9 e)) e
  exact h a _ f H _ _ p C (by simpa using l) ⟨by rw[<-i.length];exact j,x _ _ M H .refl w (AL i t) q⟩
theorem DP {α:Type}{n:Nat}:∀{is:List Nat} {σ:List (Option α)} {xs:List α},(∀i∈is,i<n)->(U1 σ is xs).drop n=σ.drop n
 | [],σ,xs,_=>by cases xs<;>rfl
 | i::is,σ,[],_=>rfl
 | i::is,σ,x::xs,h=>by
  show(U1 (σ.set i (some x)) is xs).drop n=σ.drop n
  rw[DP fun j a=>h j (BQ4 _ a),List.drop_set_of_lt (h i BQ7)]
theorem AL0 {n:Nat}(hi:i<n)(d:D)(M:Mem)(Q:Lo->Mem->Prop)(cs:Lo)(h:J0 i d (BR6 n none++cs) M Q):J0 i d (BR6 n none++cs) M (fun a M'=>a.drop n=cs/\Q a M'):=by
 refine⟨?_,h⟩
 rw[List.drop_set_of_lt hi,List.drop_left' (by simp)]
theorem AY7 {n:Nat}(hi:∀i∈is,i<n)(d:D)(M:Mem)(Q:Lo->Mem->Prop)(cs:Lo)(h:U6 is d (BR6 n none++cs) M Q):U6 is d (BR6 n none++cs) M (fun a M'=>a.drop n=cs/\Q a M'):=by
 obtain⟨b,e,c,q⟩:=h
 refine⟨b,e,c,?_,q⟩
 rw[DP hi,List.drop_left' (by simp)]
abbrev M3:=D->List D->Mem->DK->Prop
def MtR3 (X:Cx)(id:String)(r:M3):Prop :=
 ∀(pins:List (Addr×Obj)) (s:BP9) (σv:L2.St) (H:Hp) (M:Mem) (x:D) (xs:List D) (xv:V) (xvs:List V) (v:Value) (us:List Value) (Q:DK),Inv X pins σv H s->MRel X.K M H->RelV xv v->Vals xvs us->Rep X.K M H x xv->Reps X.K M H xs xvs->r x xs M Q ->
  wpAny (model X.prog X.w) X.A (call (.builtin id) (v::us)) (EP3 X pins σv M H Q) X.xe s
def tyD (T:String)(M:Mem):D->Prop
 | .str _=>T="str"
 | .lst _=>T="list"
 | .ref a=>(T="list"/\∃ds,M a=some (.lst ds))\/(T="dict"/\∃ds,M a=some (.dct ds))
 | _=>False
theorem AV7 {X:Cx}{T:String}{M:Mem}{d:D}(m:MRel X.K M H)(r:Rep X.K M H d v)(h:tyD T M d):tyV X.K T v H:=by
 cases r with
 | str=>exact h
 | lst c _=>exact .inl ⟨h,_,SqL.of3 c⟩
 | ref =>
  rcases h with⟨rfl,f,e⟩|⟨rfl,f,e⟩
  ·obtain⟨a,b,r⟩:=m _ _ e
   cases a<;>first|exact(r:False).elim|skip
   exact .inl ⟨rfl,_,.inl (.inl b)⟩
  ·obtain⟨a,b,r⟩:=m _ _ e
   cases a<;>first|exact(r:False).elim|skip
   exact .inr (.inr (.inl ⟨rfl,.inl ⟨_,b⟩⟩))
 | dct c _=>exact h.elim
 | _=>exact h.elim
def Q5 (T:String)(r:M3)(to:TE3)(t:TA3):TE3:=fun σ M Q=>to σ M fun x M1=>tyD T M1 x/\t σ M1 fun xs M2=>r x xs M2 Q
def VQ (T:String)(r:M3)(to:TE3):TE3:=fun σ M Q=>to σ M fun x M1=>tyD T M1 x/\r x [] M1 Q
section
variable {X:Cx}{o e:Expr}{es:List Expr}{to:TE3}{t:TA3}{name:Str}{apos cpos:Pos}{T id:String}{r:M3}
theorem AN6 (l:PlainAttrs T)(slot:Slot T name id)(f:typeOf (.builtin id)=pure (.type "method_descriptor"))(m:MtR3 X id r)(ho:PE3 X o to)
  (b:attributeBase o name X.env (eval o X.env)=eval o X.env:=by rfl) (c:(apos.endLine==cpos.line)=true:=by rfl):PE3 X (.Call (.Attribute o name apos) [] [] cpos) (VQ T r to):=by
 intro a s e H n M Q I p q h
 refine wpAny_Call_method0_late b c (thn (ho a s e H n M _ I p q h) fun v t ⟨d,u,w,x,i,g,m1,j,k,y,A⟩=>?_)
 obtain⟨B,C⟩:=AJ0 i j (AV7 m1 k y)
 exact⟨T,id,l,slot,f,B,C,CE7 rfl (PySem.evalArgs_none (thn (m a t e x w d [] u [] v [] Q i m1 j .nil k .nil A) fun _ _ z=>z.trans g))⟩
theorem BB5 (A:PlainAttrs T)(slot:Slot T name id)(l:typeOf (.builtin id)=pure (.type "method_descriptor"))(B:MtR3 X id r)(ho:PE3 X o to)(C:PA3 X (e::es) t)
  (c:attributeBase o name X.env (eval o X.env)=eval o X.env:=by rfl)
  (i:((CD9 cpos (BR9 (e::es) X.env)).all (fun x=>!x.1) && (backToKw cpos (keywordEach [] X.env)).all (fun x=>x.1.isSome)
   && decide ((e::es).length+([]:List Keyword).length+(if ([]:List Keyword).isEmpty then 0 else 1)<30))=true:=by rfl)
  (f:(apos.endLine==cpos.line)=true:=by rfl) (hs:BR9 (e::es) X.env=(false,eval e X.env)::BR9 es X.env:=by rfl) (b:(CD9 cpos (BR9 es X.env)).any (·.1)=false:=by rfl) :
  PE3 X (.Call (.Attribute o name apos) (e::es) [] cpos) (Q5 T r to t):=by
 intro a s g H n M Q I p D h
 refine wpAny_Call_method_late c i f rfl (thn (ho a s g H n M _ I p D h) fun v E ⟨d,F,G,J,q,j,m1,u,w,K,L⟩=>?_)
 obtain⟨N,O⟩:=AJ0 q u (AV7 m1 w K)
 refine⟨T,id,A,slot,l,N,O,?_⟩
 have y:=C cpos a E g J n G _ q (p.mono j) m1 L
 rw[hs] at y ⊢
 refine CE7 (by show(false || (CD9 cpos (BR9 es X.env)).any (·.1))=false;rw[b]<;>rfl) (Calls.evalArgs_plain ?_)
 exact thn y fun P R ⟨S,U,V,W,Y,k,m2,m,Z,q2⟩=>thn (B a R g W V d S F U v P Q Y m2 u m (w.mono k) Z q2) fun _ _ z=>z.trans (j.trans k)
theorem MtR3.of {id:String}{r:M3}{g:V->List V->Hp->VK->Prop}(h:MtM X id g)(i:∀H M x xs b a Q,MRel X.K M H->Rep X.K M H x b->Reps X.K M H xs a->r x xs M Q->g b a H (Up X.K M H Q)):MtR3 X id r:=by
 intro c s d H M x xs b a v j Q I m k e l f q
 exact thn (h c s d H b a v j _ I k e (i H M x xs b a Q m l f q)) fun _ _ z=>N2 z
theorem PR {M:Mem}{d:D}(r:Reps K M H [d] vs):∃v,vs=[v]/\Rep K M H d v:=by
 cases r with
 | cons a b=>cases b;exact⟨_,rfl,a⟩
def E4:M3:=fun x xs M Q=>∃a ds y,x=.ref a/\xs=[y]/\M a=some (.lst ds)/\ds.length<BQ6/\Q .non (D8 M a (.lst (ds++[y])))
theorem WS:MtR3 X "list.append" E4:=MtR3.of JK fun H M x t u f Q m g b c=>by
 obtain⟨a,h,y,i,j,d,k,q⟩:=c
 subst i j
 cases g
 obtain⟨v,rfl,l⟩:=PR b
 obtain⟨n,p,r⟩:=m _ _ d
 cases n<;>first|exact(r:False).elim|skip
 rename_i s
 have e:=r
 refine⟨a,s,_,rfl,rfl,p,by rw[<-e.length];exact k,.non,_,Step.put (.inr (by rw[d];simp)),m.put (.inr (by rw[d];simp)) (o:=.lst (h++[y])) (Reps.append e (.cons l .nil)),.non,q⟩
end
def FM (env:Env)(scope:Scope)(caps:List Str):Bool :=
 (scope.names.all fun y=>match y.2 with
  | .free=>(match env.kindOf y.1 with|some .cell=>true|some .free=>true|_=>false)
  | .cell=>false
  | .local=>(match scope.names.lookup y.1 with|some .local=>true|_=>false)
  | _=>true) && caps.all fun y=>match scope.names.lookup y with|some .free=>true|_=>false
def VR (i:Nat)(t:TS3):TS3:=fun T σ M=>∃a ds,σ[i]?=some (some (.ref a))/\M a=some (.lst ds)/\t T (σ.set i (some (.lst ds))) (J1 M a)
theorem AF4 {X:Cx}{sts:List Stmt}{t:TS3}(i:Nat)(h:PSs3 X sts t):PSs3 X sts (VR i t):=by
 rintro c s σv H p M T I g u ⟨a,w,o,x,q⟩
 obtain⟨m,r,sub⟩:=Vs.frzL x X.K H (.ref a) u .ref
 have st:Step M H (J1 M a) H:=⟨fun _ _ h _=>h,fun b h=>.inl (sub b h)⟩
 have k:SRel X.K (J1 M a) H (p.set i (some (.lst w))) σv:=by
  refine⟨by simp[g.len],fun j d e=>?_⟩
  rw[List.getElem?_set] at e
  by_cases f:i=j
  ·subst f
   have y:=(List.getElem?_eq_some_iff.mp o).1
   rw[if_pos rfl,if_pos y] at e
   cases e
   obtain⟨v,l,n⟩:=g.get i _ o
   cases n
   exact⟨_,l,r⟩
  ·rw[if_neg f] at e
   obtain⟨v,l,n⟩:=g.get j d e
   exact⟨v,l,n.mono st⟩
 exact thn (h c s σv H _ _ T I k m q) fun _ _ z=>z.trans st
def VS:TS3:=fun _ _ _=>False
theorem XT {X:Cx}:PS3 X st VS:=fun _ _ _ _ _ _ _ _ _ _ h=>h.elim
end L3
variable {M:L3.Mem}{σ:L3.Lo}{y:L3.D}{xs:List (L3.C5×CC2×BX3)}{ds:List L3.D}{T:L3.N1}{sp:Nat->L3.Sp3}{te:L3.TE3}{tt:L3.TT3}{σ0:L3.Lo}
namespace L3
open PySem L2
section
variable {t u:TS3}{T:N1}{σ:Lo}{M:Mem}{Q:DK}{QB:Bool->Mem->Prop}{QA:List D->Mem->Prop}{c tA tB:TT3}{te ta tb tc:TE3}{tas:TA3}{i:Nat}{d x y:D}{r r':R3}{ru:U3}{rc:C3}{sp:Sp3}
instance rd_seq:RdC (A8 t u T σ M) (t {T with nx:=u T} σ M):=⟨fun h=>h⟩
instance rd_ifs:RdC (C1 c t u T σ M) (c σ M fun b M1=>if b=true then t T σ M1 else u T σ M1):=⟨fun h=>h⟩
instance rd_test:RdC (B1 te σ M QB) (te σ M fun x M'=>∃k,x=.bl k/\QB k M'):=⟨fun h=>h⟩
instance rd_op:RdC (A6 r ta tb σ M Q) (ta σ M fun x M1=>tb σ M1 fun y M2=>r x y M2 Q):=⟨fun h=>h⟩
instance rd_un:RdC (P0 ru ta σ M Q) (ta σ M fun x M1=>ru x M1 Q):=⟨fun h=>h⟩
theorem MM {i:Nat}(e:σ[i]?=some (some d))(h:Q d M):A4 i σ M Q:=by unfold A4;rw[e];exact h
instance rd_c:RdC (tC3 d σ M Q) (Q d M):=⟨fun h=>h⟩
instance rd_ret:RdC (B4 te T σ M) (te σ M T.rt):=⟨fun h=>h⟩
instance rd_set:RdC (B8 i te T σ M) (te σ M fun d M1=>T.nx (σ.set i (some d)) M1):=⟨fun h=>h⟩
instance rd_drop:RdC (F5 te T σ M) (te σ M fun _ M1=>T.nx σ M1):=⟨fun h=>h⟩
instance rd_next:RdC (B6 T σ M) (T.nx σ M):=⟨fun h=>h⟩
instance rd_call:RdC (A7 sp tas σ M Q) (tas σ M fun ds M1=>sp ds M1 Q):=⟨fun h=>h⟩
instance rd_cb:RdC (F2 rc tas σ M Q) (tas σ M fun ds M1=>rc ds M1 Q):=⟨fun h=>h⟩
instance rd_nil:RdC (A5 σ M QA) (QA [] M):=⟨fun h=>h⟩
instance rd_cons:RdC (A0 te tas σ M QA) (te σ M fun x M1=>tas σ M1 fun xs M2=>QA (x::xs) M2):=⟨fun h=>h⟩
instance rd_tupE:RdC (C0 tas σ M Q) (tas σ M fun xs M1=>xs.length<=BQ6/\Q (.tup xs) M1):=⟨fun h=>h⟩
instance rd_lstE:RdC (G0 tas σ M Q) (tas σ M fun xs M1=>xs.length<=BQ6/\Q (.lst xs) M1):=⟨fun h=>h⟩
instance rd_and:RdC (HA tA tB σ M QB) (tA σ M fun c M1=>if c=true then tB σ M1 QB else QB false M1):=⟨fun h=>h⟩
instance rd_or:RdC (CY tA tB σ M QB) (tA σ M fun c M1=>if c=true then QB true M1 else tB σ M1 QB):=⟨fun h=>h⟩
instance rd_not:RdC (W5 tA σ M QB) (tA σ M fun c M1=>QB (!c) M1):=⟨fun h=>h⟩
instance rd_andV:RdC (U2 ta tb σ M Q) (ta σ M fun x M1=>∃c,x=.bl c/\if c=true then tb σ M1 Q else Q (.bl false) M1):=⟨fun h=>h⟩
instance rd_orV:RdC (JW ta tb σ M Q) (ta σ M fun x M1=>∃c,x=.bl c/\if c=true then Q (.bl true) M1 else tb σ M1 Q):=⟨fun h=>h⟩
instance rd_notV:RdC (NI ta σ M Q) (ta σ M fun x M1=>∃c,x=.bl c/\Q (.bl (!c)) M1):=⟨fun h=>h⟩
instance rd_if3:RdC (SJ c ta tb σ M Q) (c σ M fun b M1=>if b=true then ta σ M1 Q else tb σ M1 Q):=⟨fun h=>h⟩
instance rd_chain:RdC (O9 r r' ta tb tc σ M Q) (ta σ M fun x M1=>tb σ M1 fun y M2=>r x y M2 fun z M3=>∃k,z=.bl k/\if k=true then tc σ M3 fun w M4=>r' y w M4 Q else Q (.bl false) M3):=⟨fun h=>h⟩
instance rd_np {QO:Option Int->Mem->Prop}:RdC (G4 σ M QO) (QO none M):=⟨fun h=>h⟩
instance rd_part {QO:Option Int->Mem->Prop}:RdC (K2 te σ M QO) (te σ M fun x M1=>match x with|.int i=>QO (some i) M1|_=>False):=⟨fun h=>h⟩
instance rd_bl {b:Bool}{P:Bool->Prop}:RdC (∃k,D.bl b=.bl k/\P k) (P b):=⟨fun h=>⟨b,rfl,h⟩⟩
instance rd_iteT {P R:Prop}:RdC (if true=true then P else R) (P):=⟨fun h=>by exact h⟩
instance rd_iteF {P R:Prop}:RdC (if false=true then P else R) (R):=⟨fun h=>by exact h⟩
theorem T8 {c P:Prop}[Decidable c](h1:c->P)(h2:¬c->R):if decide c=true then P else R:=by
 by_cases h:c
 ·rw[decide_eq_true h,if_pos rfl];exact h1 h
 ·rw[decide_eq_false h,if_neg BQ5];exact h2 h
instance rd_I0 {g:Int->Int->D}{i j:Int}:RdC (CT g (.int i) (.int j) M Q) (Q (g i j) M):=⟨fun h=>h⟩
theorem F6 {g:Int->Int->D}{i j:Int}(a:C i j)(h:Q (g i j) M):rI3 C g (.int i) (.int j) M Q:=⟨a,h⟩
instance rd_U {g:Int->Int}{i:Int}:RdC (rU3 g (.int i) M Q) (Q (.int (g i)) M):=⟨fun h=>h⟩
instance rd_addI {i j:Int}:RdC (D0 (.int i) (.int j) M Q) (Q (.int (i+j)) M):=⟨fun h=>h⟩
theorem MH {a b:List D}(c:a.length+b.length<=BQ6)(h:Q (.lst (a++b)) M):D0 (.lst a) (.lst b) M Q:=⟨c,h⟩
theorem T7 {a b:List D}(c:a.length+b.length<=BQ6)(h:Q (.tup (a++b)) M):D0 (.tup a) (.tup b) M Q:=⟨c,h⟩
theorem AU8 (a:dOk x)(b:dOk y)(h:Q (.bl (BU5 (pyD x) (pyD y))) M):D6 x y M Q:=.inl ⟨a,b,h⟩
instance rd_eqS {a b:Str}:RdC (D6 (.str a) (.str b) M Q) (Q (.bl (a==b)) M):=⟨fun h=>.inr ⟨a,b,rfl,rfl,h⟩⟩
instance rd_neS {a b:Str}:RdC (CU (.str a) (.str b) M Q) (Q (.bl (!(a==b))) M):=⟨fun h=>.inr ⟨a,b,rfl,rfl,h⟩⟩
theorem R4 {i:Int}(e:atI ds i=some d)(h:Q d M):B7 (.lst ds) (.int i) M Q:=⟨d,e,h⟩
theorem B5 {i:Int}(e:atI ds i=some d)(h:Q d M):B7 (.tup ds) (.int i) M Q:=⟨d,e,h⟩
theorem SA {z:Str}{i:Int}{c:Nat}(a:z.length<=BQ6)(e:atI z.cps.toList i=some c)(h:Q (.str ⟨#[c]⟩) M):B7 (.str z) (.int i) M Q:=⟨a,c,e,h⟩
instance rd_lenL {ds:List D}:RdC (E2 [.lst ds] M Q) (Q (.int ds.length) M):=⟨fun h=>h⟩
instance rd_lenT {ds:List D}:RdC (E2 [.tup ds] M Q) (Q (.int ds.length) M):=⟨fun h=>h⟩
instance rd_intB {b:Bool}:RdC (DM [.bl b] M Q) (Q (.int (if b then 1 else 0)) M):=⟨fun h=>h⟩
instance rd_isN:RdC (RW x .non M Q) (Q (.bl (match x with|.non=>true|_=>false)) M):=⟨fun h=>⟨rfl,h⟩⟩
instance rd_isntN:RdC (UX x .non M Q) (Q (.bl (match x with|.non=>false|_=>true)) M):=⟨fun h=>⟨rfl,h⟩⟩
instance rd_for {ti:TI3}{tb:TS3}:RdC (O4 ti i tb T σ M) (ti σ M fun ds M1=>∃Pv:Nat->Lo->Mem->Prop,Pv 0 σ M1 /\
 (∀k d σ M,ds[k]?=some d->Pv k σ M->tb {T with nx:=Pv (k+1),ct:=Pv (k+1),bk:=T.nx} (σ.set i (some d)) M)/\∀σ M,Pv ds.length σ M->T.nx σ M):=⟨fun h=>h⟩
instance rd_rng {R:List D->Mem->Prop}:RdC (O3 tas σ M R) (tas σ M fun ds M1=>match ds with|[.int j]=>-(2^62)<=j/\j<2^62/\R ((BS8 j.toNat).map fun k=>D.int (k:Nat)) M1|_=>False):=⟨fun h=>h⟩
end
theorem X9 {ds:List α}{n:Int}(b:0<=n)(h1:n<(ds.length:Int)):∃d,atI ds n=some d/\d∈ds:=by
 obtain⟨k,rfl⟩:∃k:Nat,n=(k:Int):=⟨n.toNat,by lia⟩
 have a:k<ds.length:=by lia
 exact⟨ds[k],C2 (by simp[a]),BX9 a⟩
theorem AH {i:Int}:dOk (.int i):=⟨rfl,rfl,by simp[pyD,CB0]⟩
local macro_rules | `(tactic| walk_at "st")=>`(tactic| first|refine L3.RdC.h ?_|((with_reducible show A4 _ _ _ _);refine MM rfl ?_)|((with_reducible show _/\_);refine⟨(by first|decide|(simp only[BP8,BR8];decide)),?_⟩))
local macro_rules | `(tactic| walk_at "rd")=>`(tactic| repeat walk_at "st")
theorem LM:∀ns:List Int,O2 (ns.map D.int)=true/\BX2 (L9 (ns.map D.int))=true/\BY8 (L9 (ns.map D.int))=0
 | []=>⟨rfl,rfl,rfl⟩
 | n::ns=>by
  obtain⟨a,b,c⟩:=LM ns
  simp[O2,plain,L9,pyD,BX2,CA7,BY8,CB0,a,b,c]
theorem PP {td ty tv:TE3}(h:tv σ M fun d M1=>td σ M1 fun x M2=>ty σ M2 fun y M3=>∃k a b,dK? y=some k/\x=.ref a/\M3 a=some (.dct b)/\b.length<BQ6/\T.nx σ (D8 M3 a (.dct (putD b k d)))):R5 td ty tv T σ M:=h
end L3
local macro_rules | `(tactic| walk_at "st")=>`(tactic| first|refine L3.RdC.h ?_|((with_reducible show L3.A4 _ _ _ _);refine L3.MM rfl ?_)|((with_reducible show _/\_);refine⟨(by first|decide|(simp only[BP8,BR8];decide)),?_⟩))
local macro_rules | `(tactic| walk_at "rd")=>`(tactic| repeat walk_at "st")
namespace L3
open PySem L2
section
variable {t u:TS3}{T:N1}{σ:Lo}{M:Mem}{Q:DK}{QB:Bool->Mem->Prop}{QA:List D->Mem->Prop}{c tA tB:TT3}{te ta tb tc to:TE3}{tas:TA3}{i:Nat}{d x y:D}{r r':R3}{g:TG3}{ti:TI3}{tt:TT3}{slots:List Nat}{n:Nat}
instance rd_asg:RdC (VP g te T σ M) (te σ M fun d M1=>g d σ M1 T.nx):=⟨fun h=>h⟩
instance rd_gName {QG:Lo->Mem->Prop}:RdC (J0 i d σ M QG) (QG (σ.set i (some d)) M):=⟨fun h=>h⟩
theorem T9 {QG:Lo->Mem->Prop}(a:ds.length=is.length)(h:QG (U1 σ is ds) M):U6 is (.tup ds) σ M QG:=⟨ds,rfl,a,h⟩
instance rd_true:RdC (L5 σ M QB) (QB true M):=⟨fun h=>h⟩
instance rd_bm {ty:String}{rm:M3}:RdC (Q5 ty rm to tas σ M Q) (to σ M fun x M1=>tyD ty M1 x/\tas σ M1 fun xs M2=>rm x xs M2 Q):=⟨fun h=>h⟩
instance rd_bm0 {ty:String}{rm:M3}:RdC (VQ ty rm to σ M Q) (to σ M fun x M1=>tyD ty M1 x/\rm x [] M1 Q):=⟨fun h=>h⟩
theorem K5 {a:Addr}(b:M a=some (.lst ds))(c:ds.length<BQ6)(h:Q .non (D8 M a (.lst (ds++[y])))):E4 (.ref a) [y] M Q:=⟨a,ds,y,rfl,rfl,b,c,h⟩
theorem BE6 {a:Addr}(e:σ[i]?=some (some (.ref a)))(b:M a=some (.lst ds))(h:t T (σ.set i (some (.lst ds))) (J1 M a)):VR i t T σ M:=⟨a,ds,e,b,h⟩
def SO (g:TG3)(tt:TT3)(te:TE3)(σ0:Lo)(ds:List D)(M1:Mem)(Q:DK):Prop:=∀p,M1 p=none->∃Pv:Nat->List D->Mem->Prop,Pv 0 [] (D8 M1 p (.lst [])) /\
 (∀k d acc M,ds[k]?=some d->Pv k acc M->g d σ0 M fun σ' M0=>tt σ' M0 fun b M' =>
  if b=true then te σ' M' fun e M''=>M'' p=some (.lst acc)/\acc.length<BQ6/\Pv (k+1) (acc++[e]) (D8 M'' p (.lst (acc++[e]))) else Pv (k+1) acc M') /\
 ∀acc M,Pv ds.length acc M->M p=some (.lst acc)/\Q (.lst acc) (J1 M p)
instance rd_comp:RdC (N6 ti n slots g tt te σ M Q) (ti σ M fun ds M1=>SO g tt te (BR6 n none++slots.map fun j=>(σ[j]?).getD none) ds M1 Q):=⟨fun h=>h⟩
instance rd_forG {tb:TS3}:RdC (AN ti g tb T σ M) (ti σ M fun ds M1=>∃Pv:Nat->Lo->Mem->Prop,Pv 0 σ M1 /\
 (∀k d σ M,ds[k]?=some d->Pv k σ M->g d σ M fun σ' M'=>tb {T with nx:=Pv (k+1),ct:=Pv (k+1),bk:=T.nx} σ' M')/\∀σ M,Pv ds.length σ M->T.nx σ M):=⟨fun h=>h⟩
def AU2 (R:List D->Mem->Prop):DK:=fun d M1=>match d with|.tup ds=>R ds M1|_=>False
def AU1 (R:List D->Mem->Prop):DK:=fun d M1=>match d with|.lst ds=>R ds M1|_=>False
instance rd_iTup {R:List D->Mem->Prop}:RdC (DH te σ M R) (te σ M (AU2 R)):=⟨fun h=>h⟩
instance rd_iList {R:List D->Mem->Prop}:RdC (O1 te σ M R) (te σ M (AU1 R)):=⟨fun h=>h⟩
instance rd_onTup {R:List D->Mem->Prop}{ds:List D}:RdC (AU2 R (.tup ds) M) (R ds M):=⟨fun h=>h⟩
instance rd_onLst {R:List D->Mem->Prop}{ds:List D}:RdC (AU1 R (.lst ds) M) (R ds M):=⟨fun h=>h⟩
end
theorem C4 {b:Bool}{P:Prop}(e:b=true)(h:P):if b=true then P else R:=by rw[if_pos e];exact h
theorem A9 {b:Bool}{P:Prop}(e:b=false)(h:R):if b=true then P else R:=by rw[if_neg (by rw[e];exact BQ5)];exact h
theorem GQ {x:D}{b:Bool}{Q:DK}(a:dOk x)(c:dOk y)(e:BU5 (pyD x) (pyD y)=b)(h:Q (.bl b) M):D6 x y M Q:=.inl ⟨a,c,by rw[e];exact h⟩
theorem SD {x:D}{b:Bool}{Q:DK}(a:dOk x)(c:dOk y)(e:BU5 (pyD x) (pyD y)=b)(h:Q (.bl (!b)) M):CU x y M Q:=.inl ⟨a,c,by rw[e];exact h⟩
theorem BG8 (x y:Int):BU5 (pyD (.int x)) (pyD (.int y))=(x==y):=by simp[pyD,BU5]
instance rd_eqI {x y:Int}{M:Mem}{Q:DK}:RdC (D6 (.int x) (.int y) M Q) (Q (.bl (x==y)) M):=⟨fun h=>GQ AH AH (BG8 x y) h⟩
instance rd_neI {x y:Int}{M:Mem}{Q:DK}:RdC (CU (.int x) (.int y) M Q) (Q (.bl (!(x==y))) M):=⟨fun h=>SD AH AH (BG8 x y) h⟩
theorem G7 {a b:Addr}(h:b≠a):J1 M a b=M b:=by unfold J1;rw[if_neg h]
theorem P2 {a:Addr}:J1 M a a=none:=by unfold J1;rw[if_pos rfl]
end L3
namespace L3
open PySem PySem.Spec PyProof.Rows L2
section
variable {X:Cx}{a b e:Expr}{ta tb te:TE3}{pos:Pos}
def J3:C3:=fun ds M Q=>match ds with
 | [.lst xs]=>Q (.tup xs) M
 | [.tup xs]=>Q (.tup xs) M
 | [.ref a]=>∃xs,M a=some (.lst xs)/\Q (.tup xs) M
 | _=>False
theorem YX:CallR3 X (.type "tuple") J3:=CallR3.of HY fun H M n c Q m d q=>by
 rcases d with _|⟨b,e⟩;(exact(q:False).elim);rcases e with _|⟨o,f⟩;rotate_left;(first|exact(q:False).elim|(cases b<;>exact(q:False).elim))
 cases b with
 | lst h r=>exact⟨_,_,rfl,.inl ⟨SqL.of3 h,fun l a=>⟨_,M,Step.lay a,m.lay a,.tup (.inl ⟨.inl D5,m.free a⟩) (r.mono (Step.lay a)),q⟩⟩⟩
 | tup h r=>exact⟨_,_,rfl,.inr ⟨SqT.of3 h,_,M,.refl,m,.tup h r,q⟩⟩
 | ref =>
  obtain⟨p,g,q⟩:=q
  obtain⟨i,j,r⟩:=m _ _ g
  cases i<;>first|exact r.elim|skip
  have k:=r
  exact⟨_,_,rfl,.inl ⟨.inl (.inl j),fun l a=>⟨_,M,Step.lay a,m.lay a,.tup (.inl ⟨.inl D5,m.free a⟩) (k.mono (Step.lay a)),q⟩⟩⟩
 | _=>exact(q:False).elim
def AA7 (x:Str)(ys:List Str):Prop:=(ys.map fun y=>y.length).sum+ys.length*x.length<=16777216
theorem VO {K:BP3}{M:Mem}{H:Hp}:∀{ys:List Str} {vs:List V} {its:List Value},Reps K M H (ys.map D.str) vs->Vals vs its->StrsAre its ys
 | [],_,_,r,v=>by cases r;cases v;exact .nil
 | y::ys,_,_,.cons p1 p2,v=>by
  cases p1
  cases v with
  | cons a b =>
   obtain⟨t,rfl⟩:=a
   exact .cons y t (VO p2 b)
def subIn (z w:Str):Bool:=!(CD0 w z 0 w.length 1).isEmpty
def GU (M:Mem):D->Option (List D)
 | .lst ds=>some ds
 | .tup ds=>some ds
 | .ref a=>match M a with|some (.lst ds)=>some ds|_=>none
 | _=>none
def Z2 (neg:Bool):R3:=fun x y M Q=>(∃z w,x=.str z/\y=.str w/\Q (.bl (neg ^^ subIn z w)) M)\/∃z,∃ys:List Str,x=.str z/\GU M y=some (ys.map D.str)/\Q (.bl (neg ^^ ys.any (·==z))) M
theorem GZ {K:BP3}{M:Mem}{H:Hp}:∀{ys:List Str} {vs:List V},Reps K M H (ys.map D.str) vs->vs=ys.map V.str
 | [],_,r=>by cases r;rfl
 | y::ys,_,.cons p1 p2=>by
  cases p1
  rw[GZ p2];rfl
theorem Y3 {b:V}(m:MRel K M H)(r:Rep K M H y b)(e:GU M y=some ds):∃p vs,b=.ref p/\(SqL K H p vs\/SqT K H p vs)/\Reps K M H ds vs:=by
 cases r with
 | tup h r=>cases e;exact⟨_,_,rfl,.inr (SqT.of3 h),r⟩
 | lst h r=>cases e;exact⟨_,_,rfl,.inl (SqL.of3 h),r⟩
 | @ref a =>
  unfold GU at e
  dsimp only at e
  cases hm:M a with
  | none=>rw[hm] at e;cases e
  | some o =>
   rw[hm] at e
   cases o with
   | dct _=>cases e
   | dt _=>cases e
   | dn _=>cases e
   | lst f =>
    cases e
    obtain⟨c,d,r⟩:=m _ _ hm
    cases c<;>first|exact(r:False).elim|skip
    exact⟨_,_,rfl,.inl (.inl (.inl d)),r⟩
 | _=>cases e
theorem TY {z:Str}:inV (.str z) (ys.map V.str)=ys.any (·==z):=by
 unfold inV
 rw[List.any_map]
 rfl
theorem JC (ys:List Str):(ys.map V.str).all Z4=true:=by
 rw[List.all_map,BV2]
 intro _ _;rfl
theorem BJ2:OpR3 X (BT0 .In) (Z2 false):=by
 rintro a s b H M x y l n v u Q I m c d f g (⟨z,w,rfl,rfl,q⟩|⟨z,i,rfl,j,q⟩)
 ·cases f;cases g
  exact thn (XD a s b H _ _ v u _ I c d ⟨z,w,rfl,rfl,up0 m .bl (by rw[CB7] at q;exact q)⟩) fun _ _ h=>N2 h
 ·cases f
  obtain⟨p,o,rfl,k,r⟩:=Y3 m g j
  have e:=GZ r
  subst e
  exact thn (JP a s b H _ _ v u _ I c d ⟨p,_,rfl,k,rfl,JC i,up0 m .bl (by rw[TY];rw[CB7] at q;exact q)⟩) fun _ _ h=>N2 h
theorem AC0:OpR3 X (BT0 .NotIn) (Z2 true):=by
 rintro a s b H M x y l n v u Q I m c d f g (⟨z,w,rfl,rfl,q⟩|⟨z,i,rfl,j,q⟩)
 ·cases f;cases g
  exact thn (MA a s b H _ _ v u _ I c d ⟨z,w,rfl,rfl,up0 m .bl (by rw[Bool.true_xor] at q;exact q)⟩) fun _ _ h=>N2 h
 ·cases f
  obtain⟨p,o,rfl,k,r⟩:=Y3 m g j
  have e:=GZ r
  subst e
  exact thn (BF a s b H _ _ v u _ I c d ⟨p,_,rfl,k,rfl,JC i,up0 m .bl (by rw[TY];rw[Bool.true_xor] at q;exact q)⟩) fun _ _ h=>N2 h
end
section
variable {X:Cx}{e:Expr}{te:TE3}{pos:Pos}
def BE4:V->Option Int->Option Int->Hp->VK->Prop:=fun x lo hi H Q=>∃z,x=.str z/\z.length<=BQ6/\Q (.str (Txt.slice z lo hi)) H
theorem AI1:SlR X BE4:=by
 intro d s w H x v e f lo g y Q I j k m n h
 obtain⟨z,rfl,o,q⟩:=h
 obtain⟨t,rfl⟩:=j
 refine⟨"str",_,PyProof.Rows.slot_str_getitem.lookup,typeIs_str _ _ _,?_⟩
 obtain⟨l,rfl,p⟩:∃l:Option (Int×Tok),e=partValue l/\lo=l.map (·.1):=by
  cases m with
  | none=>exact⟨none,rfl,rfl⟩
  | int i t=>exact⟨some (i,t),rfl,rfl⟩
 obtain⟨u,rfl,r⟩:∃u:Option (Int×Tok),f=partValue u/\g=u.map (·.1):=by
  cases n with
  | none=>exact⟨none,rfl,rfl⟩
  | int i t=>exact⟨some (i,t),rfl,rfl⟩
 subst p r
 refine wpAny_getItem_str_slice (st:=none) (l:=l) (u:=u) k rfl ?_
 have a:(Txt.slice z (l.map (·.1)) (u.map (·.1))).length<=BQ6:=BS7 (Txt.slice_le _ _ _) o
 unfold sliceMade slicePicked
 unfold Txt.slice at q a
 split
 ·rename_i c
  split at q
  ·exact⟨.str _,H,I,⟨_,rfl⟩,q⟩
  ·rename_i b
   exact absurd c b
 ·rename_i c
  split at a
  ·rename_i b
   exact absurd b c
  ·rename_i b
   rw[if_neg b] at q
   exact⟨a,.str _,H,I.tok _,⟨_,rfl⟩,q⟩
def VA:D->Option Int->Option Int->Mem->DK->Prop:=fun x lo hi M Q=>match x with
 | .lst ds=>Q (.lst (cutD ds lo hi)) M
 | .tup ds=>¬(HT.sIx ds.length 0 lo=0/\HT.sIx ds.length ds.length hi=ds.length)/\Q (.tup (cutD ds lo hi)) M
 | .str z=>z.length<=BQ6/\Q (.str (Txt.slice z lo hi)) M
 | _=>False
def HB (te:TE3)(tl th:TO3):TE3:=fun σ M Q=>te σ M fun x M1=>tl σ M1 fun l M2=>th σ M2 fun u M3=>VA x l u M3 Q
theorem AO2 {lo hi:Option Expr}{tl th:TO3}{p2:Pos}(F:PE3 X e te)(G:PO3 X lo tl)(J:PO3 X hi th) :
  PE3 X (.Subscript e (.Slice lo hi none p2) pos) (HB te tl th):=by
 intro a s c H o M Q I t L h
 refine Subscript_ (thn (F a s c H o M _ I t L h) fun v N ⟨x,n,O,P,R,g,m1,w,S,U⟩=>?_)
 refine wpAny_Slice (thn (G a N c P o O _ R (t.mono g) m1 U) fun y V ⟨l,W,Y,Z,i,m2,pl,q2⟩=>thn (J a V c Y o W _ Z (t.mono (g.trans i)) m2 q2) fun A j ⟨u,M3,f,I3,k,m3,pu,m⟩=>?_)
 refine BP6 ?_
 have I4:Inv X a c f {j with heap:=j.heap.push {cls:=.type "slice",data:=.fields #[y,A,.none]}}:=I3.kept (t':=j.toks) fun b ob q=>BP4 _ q
 have B:=S.mono (i.trans k)
 have C:(AR4 X.K n l u f (Up X.K M3 f Q)\/AR5 X.K n l u f (Up X.K M3 f Q))\/BE4 n l u f (Up X.K M3 f Q):=by
  cases x<;>first|exact(m:False).elim|skip
  ·cases B
   exact .inr ⟨_,rfl,m.1,up0 m3 .str m.2⟩
  ·cases B with|tup D r =>
   obtain⟨E,q⟩:=m
   rw[r.length] at E
   exact .inl (.inr ⟨_,_,rfl,SqT.of3 D,E,fun p d=>⟨_,M3,Step.lay d,m3.lay d,.tup (.inl ⟨.inl D5,m3.free d⟩) ((r.cut l u).mono (Step.lay d)),q⟩⟩)
  ·cases B with|lst D r =>
   refine .inl (.inl ⟨_,_,rfl,SqL.of3 D,fun p d=>?_⟩)
   exact⟨_,M3,Step.lay d,m3.lay d,.lst (.inl ⟨.inl D5,m3.free d⟩) ((r.cut l u).mono (Step.lay d)),m⟩
 obtain⟨T,id,hT,ht,hg⟩:=((sl_list.or SF).or AI1) a {j with heap:=j.heap.push {cls:=.type "slice",data:=.fields #[y,A,.none]}} c f n v y A l u j.heap.objs.size _ I4 w (CB5 ..) pl pu C
 exact tail_any (ops:=[.ref j.heap.objs.size,v]) ht hT (thn hg fun _ _ z=>(N2 z).trans ((g.trans i).trans k)) (by with_unfolding_all rfl)
end
theorem WL {base:Heap}{k:Nat}{f:Addr}(g:∀n ds M Q,sp n ds M Q->ds.length=ps.length)(b:∀ds M Q,¬sp 0 ds M Q) :
  Y9 P w K mg base CX0 k f fd ps (FN K (sp 0)):=⟨fun d H Q E ⟨ds,M,e,r,_,h,_⟩=>absurd h (b _ _ _),fun A a s H c i d Q E j l m o ⟨ds,M,e,r,_,h,_⟩=>absurd h (b _ _ _)⟩
theorem AL9 (x:Str):x.length=x.cps.toList.length:=by
 show x.cps.size=_
 simp
instance rd_iteNT {P R:Prop}:RdC (if (!true)=true then P else R) (R):=⟨fun h=>h⟩
instance rd_iteNF {P R:Prop}:RdC (if (!false)=true then P else R) (P):=⟨fun h=>h⟩
instance rd_slA {te:TE3}{tl th:TO3}{σ:Lo}{M:Mem}{Q:DK}:RdC (HB te tl th σ M Q) (te σ M fun x M1=>tl σ M1 fun l M2=>th σ M2 fun u M3=>VA x l u M3 Q):=⟨fun h=>h⟩
instance rd_lstM {tas:TA3}{σ:Lo}{M:Mem}{Q:DK}:RdC (J2 tas σ M Q) (tas σ M fun xs M1=>xs.length<=BQ6/\∀p,M1 p=none->Q (.ref p) (D8 M1 p (.lst xs))):=⟨fun h=>h⟩
section
variable {X:Cx}{a b e:Expr}{ta tb te:TE3}{t:TA3}{pos p:Pos}
def BP (c:TT3)(tb:TS3):TS3:=fun T σ M=>∃W:Nat->Lo->Mem->Prop,(∃m,W m σ M)/\∀m σ M,W m σ M ->
 c σ M fun b M1=>if b=true then tb {T with nx:=fun σ' M'=>∃m',m'<m/\W m' σ' M',ct:=fun σ' M'=>∃m',m'<m/\W m' σ' M',bk:=T.nx} σ M1 else T.nx σ M1
theorem XU {c:Expr}{tc:TT3}{tb:TS3}(F:PassesOwn (model X.prog X.w) X.A X.env X.xe)(G:PT3 X c tc)(J:PSs3 X body tb):PS3 X (.While c body [] pos) (BP tc tb) :=
 PS3.of (AF3 F G.dn J.dn) fun C s L H N M T I O P x=>by
  obtain⟨W,⟨Q,R⟩,r⟩:=x
  refine⟨fun m h u=>∃e l,Step M H l u/\MRel X.K l u/\SRel X.K l u e h/\W m e l,⟨Q,N,M,.refl,P,O,R⟩,?_⟩
  rintro m h u ⟨e,l,st,S,y,w⟩
  refine⟨e,l,_,y,S,r m e l w,fun b D U f m1 E=>?_⟩
  cases b with
  | true =>
   refine⟨fun a i=>∃j,j<m/\∃k g,Step M H g i/\MRel X.K g i/\SRel X.K g i k a/\W j k g,fun a i ⟨j,t,z⟩=>⟨j,t,z⟩,e,D,_,y.mono f,m1,E,?_⟩
   have v:=st.trans f
   exact⟨fun a B n i o m2 p ⟨j,t,q⟩=>⟨j,t,a,n,v.trans o,m2,p,q⟩,fun a B n i o m2 p q=>⟨a,n,v.trans o,m2,p,q⟩,
    fun a B n i o m2 p ⟨j,t,q⟩=>⟨j,t,a,n,v.trans o,m2,p,q⟩,fun d B n i o m2 p q=>⟨d,n,v.trans o,m2,p,q⟩⟩
  | false =>
   exact⟨e,D,st.trans f,m1,y.mono f,E⟩
def FS (ta:TA3):TI3:=fun σ M R=>ta σ M fun ds M1=>∃i j:Int,ds=[.int i,.int j]/\(-(2^62)<=i/\i<2^62/\-(2^62)<=j/\j<2^62)/\R ((BS8 (j-i).toNat).map fun k=>D.int (i+(k:Nat))) M1
def GJ:M3:=fun x xs M Q=>∃a b ds es,x=.ref a/\xs=[.ref b]/\M a=some (.lst ds)/\M b=some (.lst es)/\ds.length+es.length<=BQ6/\Q .non (D8 M a (.lst (ds++es)))
theorem WT:MtR3 X "list.extend" GJ:=MtR3.of WX fun H M x C D j Q m k d e=>by
 obtain⟨a,b,l,n,p,s,f,t,u,q⟩:=e
 subst p s
 cases k
 obtain⟨E,rfl,v⟩:=PR d
 cases v
 obtain⟨w,y,r⟩:=m _ _ f
 cases w<;>first|exact(r:False).elim|skip
 rename_i z
 obtain⟨g,A,h⟩:=m _ _ t
 cases g<;>first|exact(h:False).elim|skip
 rename_i B
 have i:=r
 have c:=h
 exact⟨a,b,z,B,rfl,rfl,y,A,by rw[<-i.length,<-c.length];exact u,.non,_,Step.put (.inr (by rw[f];simp)),m.put (.inr (by rw[f];simp)) (o:=.lst (l++n)) (Reps.append i c),.non,q⟩
theorem RP (o:Gl X "range")(s:X.mg "range"=none)(u:PA3 X [a,b] t)(hs:BR9 [a,b] X.env=[(false,eval a X.env),(false,eval b X.env)]:=by rfl) (f:BR9 [b] X.env=[(false,eval b X.env)]:=by rfl) :
  PI3 X tg (.Call (.Name "range" p) [a,b] [] pos) (FS t) :=
 PI.weak (XO o s u.dn hs f) fun v H R2 g=>by
  obtain⟨w,M,R,y,z,h,k⟩:=g
  refine⟨w,M,_,y,z,h,fun P Q A B st m r q=>?_⟩
  obtain⟨i,j,rfl,⟨C,D,E,F⟩,q⟩:=q
  cases r with
  | cons G I =>
   cases G
   cases I with
   | cons J K =>
    cases J
    cases K
    refine⟨i,j,rfl,⟨C,D,E,F⟩,k _ _ A B st m (fun S T U=>⟨fun n l=>?_,fun n d x V c L=>?_,fun n l=>?_⟩) q⟩
    ·show n<(j-i).toNat
     simpa using l
    ·obtain⟨rfl,rfl⟩:=L
     refine⟨rfl,?_⟩
     rw[BQ3] at c
     cases e:(BS8 (j-i).toNat)[n]? with
     | none=>rw[e] at c;cases c
     | some N =>
      rw[e] at c
      have O:N=n:=by
       rw[BX6] at e
       ·exact(Option.some.inj e).symm
       ·have:=(List.getElem?_eq_some_iff.mp e).1;simpa using this
      subst O
      cases c
      exact .int
    ·show(j-i).toNat<=n
     simpa using l
theorem Z7:∀(n:Nat) (l:List Str),Vals (l.map V.str) (strsFrom n l)
 | _,[]=>.nil
 | n,x::l=>.cons ⟨n,rfl⟩ (Z7 (n+1) l)
theorem JU {K:BP3}{M:Mem}{H:Hp}:∀l:List Str,Reps K M H (l.map D.str) (l.map V.str)
 | []=>.nil
 | x::l=>.cons .str (JU l)
def NG (to ti te:TE3):TS3:=fun T σ M=>te σ M fun d M1=>to σ M1 fun o M2=>ti σ M2 fun i M3=>∃a ds j k,o=.ref a/\i=.int k/\M3 a=some (.lst ds)/\ixN ds.length k=some j/\T.nx σ (D8 M3 a (.lst (ds.set j d)))
end
theorem AU:BU2 "enumerate"=some (.type "enumerate"):=by decide +kernel
end L3
namespace MK
open PySem L2 L3
def QJ:Int:=1000000000000000000000000000000
def bnd (n:Int):Prop:=-QJ<n/\n<QJ
def ltr (x:Str):Prop:=∀c∈x.cps.toList,97<=c/\c<=122
def nm (x:Str):Prop:=ltr x/\1<=x.length/\x.length<=8
mutual
inductive Ex where
 | none|num (n:Int)|var (x:Str)|op (s:Str) (a b:Ex)|make (r:Str) (as:Exs)
inductive Exs where
 | nil|cons (a:Ex) (r:Exs)
end
mutual
def eD:Ex->D
 | .none=>.tup [.str "none"]
 | .num n=>.tup [.str "number",.int n]
 | .var x=>.tup [.str "var",.str x]
 | .op s a b=>.tup [.str "op",.str s,eD a,eD b]
 | .make r as=>.tup [.str "make",.str r,.tup (eDs as)]
def eDs:Exs->List D
 | .nil=>[]
 | .cons a r=>eD a::eDs r
end
mutual
def nd:Ex->Nat
 | .none=>1
 | .num _=>1
 | .var _=>1
 | .op _ a b=>1+nd a+nd b
 | .make _ as=>1+nds as
def nds:Exs->Nat
 | .nil=>0
 | .cons a r=>nd a+nds r
end
mutual
def dp:Ex->Nat
 | .none=>1
 | .num _=>1
 | .var _=>1
 | .op _ a b=>1+max (dp a) (dp b)
 | .make _ as=>1+dps as
def dps:Exs->Nat
 | .nil=>0
 | .cons a r=>max (dp a) (dps r)
end
def exl:Exs->Nat
 | .nil=>0
 | .cons _ r=>exl r+1
def sgn (s:Str):Prop:=s="+"\/s="-"\/s="*"\/s="<"\/s="="
mutual
def wf:Ex->Prop
 | .none=>True
 | .num n=>bnd n
 | .var x=>nm x
 | .op s a b=>sgn s/\wf a/\wf b
 | .make r as=>nm r/\exl as<=3/\wfs as
def wfs:Exs->Prop
 | .nil=>True
 | .cons a r=>wf a/\wfs r
end
inductive Head where
 | leaf (h:Str) (rest:List D)|ife (e:D)|whl (e:D)|tr (cs:List (Str×Str))
mutual
inductive Deed where
 | mk (h:Head) (bs:Bls)
inductive Blk where
 | nil|cons (d:Deed) (r:Blk)
inductive Bls where
 | nil|cons (b:Blk) (r:Bls)
end
def F0:List (Str×Str)->List D->List D
 | (w,x)::cs,t::ts=>.tup [.str w,.str x,t]::F0 cs ts
 | _,_=>[]
def headD:Head->List D->D
 | .leaf h r,_=>.tup (.str h::r)
 | .ife e,ts=>.tup (.str "if"::e::ts)
 | .whl e,ts=>.tup (.str "while"::e::ts)
 | .tr cs,ts=>.tup [.str "try",ts.getD 0 (.tup []),.tup (F0 cs ts.tail),ts.getD (cs.length+1) (.tup [])]
mutual
def dD:Deed->D
 | .mk h bs=>headD h (dTs bs)
def dB:Blk->List D
 | .nil=>[]
 | .cons d r=>dD d::dB r
def dTs:Bls->List D
 | .nil=>[]
 | .cons b r=>.tup (dB b)::dTs r
end
mutual
def F8:Deed->Nat
 | .mk _ bs=>1+G9 bs
def C9:Blk->Nat
 | .nil=>0
 | .cons d r=>F8 d+C9 r
def G9:Bls->Nat
 | .nil=>0
 | .cons b r=>C9 b+G9 r
end
mutual
def dpD:Deed->Nat
 | .mk _ bs=>L8 bs
def dpB:Blk->Nat
 | .nil=>0
 | .cons d r=>max (dpD d) (dpB r)
def L8:Bls->Nat
 | .nil=>0
 | .cons b r=>max (1+dpB b) (L8 r)
end
def AX:Blk->Nat
 | .nil=>0
 | .cons _ r=>AX r+1
def bsl:Bls->Nat
 | .nil=>0
 | .cons _ r=>bsl r+1
def CI (d:D):Prop:=∃e,d=eD e/\wf e/\nd e<=9/\dp e<=4
def AE (h:Str)(r:List D):Prop :=
 ((h="let"\/h="give"\/h="on")/\∃x e,r=[.str x,e]/\nm x/\CI e) \/
 ((h="note"\/h="close"\/h="end")/\∃e,r=[e]/\CI e) \/
 (h="ask"/\∃x y g e,r=[.str x,.str y,g,e]/\nm x/\nm y/\CI g/\CI e) \/
 (h="cast"/\∃x y g w e,r=[.str x,.str y,g,.str w,e]/\nm x/\nm y/\nm w/\CI g/\CI e) \/
 (h="leave"/\r=[]) \/
 (h="fault"/\∃w e,r=[.str w,e]/\nm w/\CI e)
def hOk:Head->Nat->Prop
 | .leaf h r,n=>n=0/\AE h r
 | .ife e,n=>n=2/\CI e
 | .whl e,n=>n=1/\CI e
 | .tr cs,n=>n=cs.length+2/\cs.length<=3/\∀c∈cs,nm c.1/\nm c.2
mutual
def okD:Deed->Prop
 | .mk h bs=>hOk h (bsl bs)/\XC bs
def okB:Blk->Prop
 | .nil=>True
 | .cons d r=>okD d/\okB r
def XC:Bls->Prop
 | .nil=>True
 | .cons b r=>okB b/\XC r
end
def BK:Sp3:=fun ds M Q=>∃h bs,ds=[dD (.mk h bs)]/\hOk h (bsl bs)/\Q (.lst (dTs bs)) M
structure Rl where
 name:Str
 pars:List Str
 blk:Blk
def rD (r:Rl):D:=.tup [.str r.name,.tup (r.pars.map D.str),.tup (dB r.blk)]
end MK
variable {d:MK.Deed}
namespace L3
open PySem PySem.Spec PyProof.Rows L2
section
variable {T:N1}{σ:Lo}{M:Mem}{Q:DK}{QB:Bool->Mem->Prop}{d x y:D}
instance rd_tupL {ds:List D}:RdC (J3 [.lst ds] M Q) (Q (.tup ds) M):=⟨fun h=>h⟩
theorem VF {a:Addr}(b:M a=some (.lst ds))(h:Q (.tup ds) M):J3 [.ref a] M Q:=⟨ds,b,h⟩
theorem VD {a:Addr}(b:M a=some (.lst ds))(h:Q (.int ds.length) M):E2 [.ref a] M Q:=⟨ds,b,h⟩
theorem PQ {c:TT3}{tb:TS3}(h:∃W:Nat->Lo->Mem->Prop,(∃m,W m σ M)/\∀m σ M,W m σ M ->
 c σ M fun b M1=>if b=true then tb {T with nx:=fun a M'=>∃d,d<m/\W d a M',ct:=fun a M'=>∃d,d<m/\W d a M',bk:=T.nx} σ M1 else T.nx σ M1):BP c tb T σ M:=h
theorem AG4 {z:Str}{y:D}(e:GU M y=some (ys.map D.str))(h:Q (.bl (neg ^^ ys.any (·==z))) M):Z2 neg (.str z) y M Q:=.inr ⟨z,ys,rfl,e,h⟩
theorem Q0 {a:Addr}{b:List (Key×D)}{k:Str}(c:M a=some (.dct b))(e:IL b (.inr k)=some d)(h:Q d M):E3 (.ref a) (.str k) M Q:=⟨.inr k,d,rfl,⟨b,c,e⟩,h⟩
theorem AR7 {b:List (TE3×TE3)}(h:∀p,M p=none->U4 b σ (D8 M p (.dct [])) fun ps M1=>M1 p=some (.dct [])/\∃a:List (Key×D),ps=a.map (fun kd=>(kD kd.1,kd.2))/\a.length<=15/\Q (.ref p) (D8 M1 p (.dct (FX [] a)))):EX b σ M Q:=h
theorem W3 {tk tv:TE3}{r:List (TE3×TE3)}{QP:List (D×D)->Mem->Prop}(h:tk σ M fun x M1=>tv σ M1 fun y M2=>U4 r σ M2 fun ps M3=>QP ((x,y)::ps) M3):U4 ((tk,tv)::r) σ M QP:=h
theorem AR8 {QP:List (D×D)->Mem->Prop}(h:QP [] M):U4 [] σ M QP:=h
end
theorem View.frz {Q:DK}{a:Addr}(b:M a=some (.lst ds))(q:Q (.lst ds) (J1 M a)):View Q (.ref a) M:=⟨.lst ds,J1 M a,Vs.frzL b,q⟩
theorem ZC {a:List D}{P:Nat->D->D->Prop}(c:a.length=ds.length)(h:∀(k:Nat) d e,ds[k]?=some d->a[k]?=some e->P k d e):∀e∈a,∃(k:Nat) (d:D),ds[k]?=some d/\P k d e:=fun e b=>by
 obtain⟨k,f,rfl⟩:=List.getElem_of_mem b
 exact⟨k,ds[k],by simp,h k ds[k] _ (by simp) (by simp)⟩
theorem AG {α:Type}{f:α->D}{P:α->Prop}:∀{l:List D},(∀e∈l,∃c,e=f c/\P c)->∃cs:List α,l=cs.map f/\∀c∈cs,P c
 | [],_=>⟨[],rfl,fun _ h=>by cases h⟩
 | e::l,h=>by
  obtain⟨c,rfl,b⟩:=h e BQ7
  obtain⟨cs,rfl,a⟩:=AG fun x hx=>h x (BQ4 _ hx)
  exact⟨c::cs,rfl,fun x hx=>by
   rcases BU1.mp hx with rfl|hx
   ·exact b
   ·exact a x hx⟩
theorem AI0 {a:Addr}(h:M a=some (.lst ds)):GU M (.ref a)=some ds:=by
 unfold GU
 dsimp only
 rw[h]
theorem F4 {b:Bool}{P:Prop}(h1:P)(h2:R):if b=true then P else R:=by cases b<;>assumption
theorem FP:BU5 (pyD (.tup ds)) (pyD (.tup []))=ds.isEmpty:=by
 cases ds<;>simp[pyD,L9,BU5,PyData.eqvAll]
theorem LT:dOk (.tup []):=⟨rfl,rfl,by decide⟩
theorem ZE {r:TG3}{M1:Mem}{Q:DK}(l:List α)(f g:α->D)(u:l.length<BQ6)
  (i:∀a∈l,∀M2 (R:D->Mem->Prop) (F:Mem->Prop),(∀x,M1 x≠none->M2 x=M1 x)->R (g a) M2->r (f a) σ0 M2 fun j M3=>tt j M3 fun t M4=>if t=true then te j M4 R else F M4)
  (done:Q (.lst (l.map g)) M1):SO r tt te σ0 (l.map f) M1 Q:=by
 intro p s
 refine⟨fun k h M2=>h=(l.take k).map g/\M2 p=some (.lst h)/\∀a,a≠p->M2 a=M1 a,⟨rfl,B0,fun a e=>B3 e⟩,?_,?_⟩
 ·rintro k d h M2 n ⟨rfl,c,b⟩
  have o:k<l.length:=by simpa using(List.getElem?_eq_some_iff.mp n).1
  have q:d=f l[k]:=by
   rw[BQ3,BQ2 o] at n
   exact(Option.some.inj n).symm
  subst q
  refine i l[k] (BX9 o) M2 _ _ (fun a e=>b a (by rintro rfl;exact e s)) ⟨c,by simp;lia,?_,B0,fun a e=>by rw[B3 e];exact b a e⟩
  rw[BY3,BQ2 o,BR4]
  rfl
 ·rintro h M2 ⟨rfl,c,b⟩
  have m:(l.map f).length=l.length:=by simp
  rw[m,BX8] at c ⊢
  have:J1 M2 p=M1:=funext fun a=>by
   by_cases e:a=p
   ·subst e;rw[P2,s]
   ·rw[G7 e];exact b a e
  rw[this]
  exact⟨c,done⟩
end L3
open L3
namespace MK
open PySem L2 L3
def abc:Str:="abcdefghijklmnopqrstuvwxyz"
theorem YO {n:Int}(b:0<=n)(h1:n<26):∃c,atI abc.cps.toList n=some c/\97<=c/\c<=122:=by
 have e:abc.cps.toList=(BS8 26).map (·+97):=by decide +kernel
 obtain⟨c,d,a⟩:=X9 (ds:=abc.cps.toList) b (by rw[e];simpa using h1)
 refine⟨c,d,?_⟩
 rw[e] at a
 obtain⟨k,f,rfl⟩:=List.mem_map.mp a
 have:=List.mem_range.mp f
 lia
def one (c:Nat):Str:=⟨#[c]⟩
theorem JD:∀(cs:List Nat) (a:Array Nat),(List.foldl (fun b (p:Str)=>b++(("":Str)).cps++p.cps) a (cs.map one)).toList=a.toList++cs
 | [],a=>by simp
 | c::cs,a=>by
  rw[BR7,List.foldl_cons,JD cs]
  have:(("":Str)).cps=#[]:=by decide +kernel
  rw[this]
  simp[one]
theorem JE (cs:List Nat):(Txt.join "" (cs.map one)).cps.toList=cs:=by
 show(List.foldl _ (((cs.map one).headD Str.empty).cps) (BU6 1 (cs.map one))).toList=cs
 cases cs with
 | nil=>rfl
 | cons c cs =>
  rw[BR7,List.drop_one,List.tail_cons]
  refine(JD cs _).trans ?_
  simp[one]
theorem AU0 (x:Str)(h:(x.cps.toList.all fun c=>decide (97<=c/\c<=122))=true)(h1:(decide (1<=x.length) && decide (x.length<=8))=true):nm x:=by
 rw[BV2] at h
 simp only[BQ0,decide_eq_true_eq] at h1
 exact⟨fun c a=>by simpa using h c a,h1⟩
theorem AT9 {l:List Str}(a:∀x∈l,nm x){n:Int}(b:0<=n)(h1:n<(l.length:Int)):∃x,atI (l.map D.str) n=some (.str x)/\nm x:=by
 obtain⟨d,c,e⟩:=X9 (ds:=l.map D.str) b (by rw[BP1];exact h1)
 obtain⟨x,f,rfl⟩:=List.mem_map.mp e
 exact⟨x,c,a x f⟩
end MK
open L3
namespace MK
open PySem L2 L3
theorem BE8 {n:Int}(b:0<=n)(h1:n<5):∃c,atI (("+-*<=":Str)).cps.toList n=some c/\sgn ⟨#[c]⟩:=by
 have e:(("+-*<=":Str)).cps.toList=[43,45,42,60,61]:=by decide +kernel
 obtain⟨c,d,a⟩:=X9 (ds:=(("+-*<=":Str)).cps.toList) b (by rw[e];simpa using h1)
 refine⟨c,d,?_⟩
 rw[e] at a
 simp only[BU1,BS1,or_false] at a
 rcases a with rfl|rfl|rfl|rfl|rfl
 ·exact .inl (by decide +kernel)
 ·exact .inr (.inl (by decide +kernel))
 ·exact .inr (.inr (.inl (by decide +kernel)))
 ·exact .inr (.inr (.inr (.inl (by decide +kernel))))
 ·exact .inr (.inr (.inr (.inr (by decide +kernel))))
end MK
open L3
namespace MK
open PySem L2 L3
theorem LH {x:Ex}(h:wf x)(h1:nd x<=9)(h2:dp x<=4):CI (eD x):=⟨x,rfl,h,h1,h2⟩
theorem three {l:List Str}{n:Int}(a:0<=n)(h1:n<(l.length:Int)):∃x,atI (l.map D.str) n=some (.str x)/\x∈l:=by
 obtain⟨d,b,c⟩:=X9 (ds:=l.map D.str) a (by rw[BP1];exact h1)
 obtain⟨x,e,rfl⟩:=List.mem_map.mp c
 exact⟨x,b,e⟩
end MK
open L3
namespace MK
open PySem L2 L3
def toL:Blk->List Deed
 | .nil=>[]
 | .cons d r=>d::toL r
def C6:Bls->List Blk
 | .nil=>[]
 | .cons b r=>b::C6 r
def tB (b:Blk):D:=.tup (dB b)
theorem IY:∀b:Blk,dB b=(toL b).map dD
 | .nil=>rfl
 | .cons d r=>by show dD d::dB r=_;rw[IY r];rfl
theorem J5:∀bs:Bls,dTs bs=(C6 bs).map tB
 | .nil=>rfl
 | .cons b r=>by show D.tup (dB b)::dTs r=_;rw[J5 r];rfl
theorem N9:∀bs:Bls,(C6 bs).length=bsl bs
 | .nil=>rfl
 | .cons b r=>by show(C6 r).length+1=bsl r+1;rw[N9 r]
theorem SX (bs:Bls):(dTs bs).length=bsl bs:=by rw[J5,BP1,N9]
theorem Y1 {h:Str}{r:List D}(a:AE h r):(h==("if":Str))=false/\(h==("while":Str))=false/\(h==("try":Str))=false:=by
 rcases a with⟨h1|h1|h1,_⟩|⟨h1|h1|h1,_⟩|⟨h1,_⟩|⟨h1,_⟩|⟨h1,_⟩|⟨h1,_⟩<;>subst h1<;>exact⟨by decide +kernel,by decide +kernel,by decide +kernel⟩
def VT:D->D
 | .tup [_,_,t]=>t
 | _=>.non
theorem CC:∀(cs:List (Str×Str)) (ts:List D),cs.length<=ts.length->(F0 cs ts).map VT=ts.take cs.length
 | [],ts,_=>by cases ts<;>rfl
 | (w,x)::cs,[],h=>by simp at h
 | (w,x)::cs,t::ts,h=>by
  show VT (.tup [.str w,.str x,t])::(F0 cs ts).map VT=_
  rw[CC cs ts (by simpa using h)]
  rfl
theorem SS:∀(cs:List (Str×Str)) (ts:List D),(F0 cs ts).length<=cs.length
 | [],ts=>by cases ts<;>simp[F0]
 | (w,x)::cs,[]=>by simp[F0]
 | (w,x)::cs,t::ts=>by
  show(F0 cs ts).length+1<=cs.length+1
  have:=SS cs ts
  lia
theorem ST:∀(cs:List (Str×Str)) (ts:List D) (d:D),d∈F0 cs ts->∃w x t,d=.tup [.str w,.str x,t]
 | [],ts,d,h=>by cases ts<;>simp[F0] at h
 | (w,x)::cs,[],d,h=>by simp[F0] at h
 | (w,x)::cs,t::ts,d,h=>by
  rcases BU1.mp h with rfl|h
  ·exact⟨w,x,t,rfl⟩
  ·exact ST cs ts d h
theorem P5:∀d:Deed,1<=F8 d
 | .mk h bs=>by show 1<=1+G9 bs;lia
theorem VU:∀b:Blk,(toL b).length<=C9 b
 | .nil=>BP5 _
 | .cons d r=>by
  show(toL r).length+1<=F8 d+C9 r
  have:=VU r
  have:=P5 d
  lia
theorem O5:∀(b:Blk) (d:Deed),d∈toL b->F8 d<=C9 b/\dpD d<=dpB b/\(okB b->okD d)
 | .cons x r,d,h=>by
  rcases BU1.mp h with rfl|h
  ·exact⟨CA1 _ _,Nat.le_max_left _ _,fun z=>z.1⟩
  ·obtain⟨a,b,c⟩:=O5 r d h
   exact⟨BS7 a (Nat.le_add_left _ _),BS7 b (Nat.le_max_right _ _),fun z=>c z.2⟩
theorem E8:∀(bs:Bls) (b:Blk),b∈C6 bs->C9 b<=G9 bs/\dpB b+1<=L8 bs/\(XC bs->okB b)
 | .cons x r,b,h=>by
  rcases BU1.mp h with rfl|h
  ·exact⟨CA1 _ _,by show dpB b+1<=max (1+dpB b) (L8 r);lia,fun z=>z.1⟩
  ·obtain⟨a,c,d⟩:=E8 r b h
   exact⟨BS7 a (Nat.le_add_left _ _),by show dpB b+1<=max (1+dpB x) (L8 r);lia,fun z=>d z.2⟩
theorem AL2 {h:Head}{n:Nat}(a:hOk h n):n<=5:=by
 cases h with
 | leaf _ _=>have:=a.1;lia
 | ife _=>have:=a.1;lia
 | whl _=>have:=a.1;lia
 | tr b=>have:=a.1;have:=a.2.1;lia
end MK
open L3
namespace MK
open PySem L2 L3
def N3:Blk->Deed->Blk
 | .nil,x=>.cons x .nil
 | .cons a r,x=>.cons a (N3 r x)
theorem ZN:∀(k:Blk) (d:Deed),dB (N3 k d)=dB k++[dD d]
 | .nil,d=>rfl
 | .cons a r,d=>by show dD a::dB (N3 r d)=_;rw[ZN r d];rfl
theorem NZ:∀(k:Blk) (d:Deed),C9 (N3 k d)=C9 k+F8 d
 | .nil,d=>by show F8 d+0=0+F8 d;lia
 | .cons a r,d=>by show F8 a+C9 (N3 r d)=F8 a+C9 r+F8 d;rw[NZ r d];lia
theorem NW:∀(k:Blk) (d:Deed),AX (N3 k d)=AX k+1
 | .nil,d=>rfl
 | .cons a r,d=>by show AX (N3 r d)+1=AX r+1+1;rw[NW r d]
theorem TH:∀(k:Blk) (d:Deed),dpB (N3 k d)=max (dpB k) (dpD d)
 | .nil,d=>by show max (dpD d) 0=max 0 (dpD d);lia
 | .cons a r,d=>by show max (dpD a) (dpB (N3 r d))=max (max (dpD a) (dpB r)) (dpD d);rw[TH r d];lia
theorem UM:∀(k:Blk) (d:Deed),okB k->okD d->okB (N3 k d)
 | .nil,d,_,h=>⟨h,trivial⟩
 | .cons a r,d,h,b=>⟨h.1,UM r d h.2 b⟩
theorem ZO:∀k:Blk,(dB k).length=AX k
 | .nil=>rfl
 | .cons a r=>by show(dB r).length+1=AX r+1;rw[ZO r]
theorem AW6:∀(k:Blk) (d:Deed),N3 k d≠.nil
 | .nil,d,h=>by cases h
 | .cons a r,d,h=>by cases h
def G2:List Blk->Bls
 | []=>.nil
 | b::r=>.cons b (G2 r)
theorem OD:∀l:List Blk,dTs (G2 l)=l.map tB
 | []=>rfl
 | b::r=>by show D.tup (dB b)::dTs (G2 r)=_;rw[OD r];rfl
theorem NX:∀l:List Blk,bsl (G2 l)=l.length
 | []=>rfl
 | b::r=>by show bsl (G2 r)+1=r.length+1;rw[NX r]
theorem FL:∀l:List Blk,G9 (G2 l)=(l.map C9).sum
 | []=>rfl
 | b::r=>by show C9 b+G9 (G2 r)=_;rw[FL r];rfl
theorem Y0:∀(l:List Blk) (m:Nat),(∀b∈l,dpB b+1<=m)->L8 (G2 l)<=m
 | [],m,_=>BW4 _
 | b::r,m,h=>by
  show max (1+dpB b) (L8 (G2 r))<=m
  have:=h b BQ7
  have:=Y0 r m fun x a=>h x (BQ4 _ a)
  lia
theorem JO:∀l:List Blk,(∀b∈l,okB b)->XC (G2 l)
 | [],_=>trivial
 | b::r,h=>⟨h b BQ7,JO r fun x a=>h x (BQ4 _ a)⟩
theorem SR:∀(cs:List (Str×Str)) (ts:List D) (w x:Str) (t:D),cs.length=ts.length->F0 (cs++[(w,x)]) (ts++[t])=F0 cs ts++[.tup [.str w,.str x,t]]
 | [],[],w,x,t,_=>rfl
 | (a,b)::cs,u::ts,w,x,t,h=>by
  show D.tup [.str a,.str b,u]::F0 (cs++[(w,x)]) (ts++[t])=_
  rw[SR cs ts w x t (by simpa using h)];rfl
theorem R7:∀(cs:List (Str×Str)) (ts us:List D),cs.length=ts.length->F0 cs (ts++us)=F0 cs ts
 | [],[],us,_=>by cases us<;>rfl
 | (a,b)::cs,u::ts,us,h=>by
  show D.tup [.str a,.str b,u]::F0 cs (ts++us)=_
  rw[R7 cs ts us (by simpa using h)];rfl
theorem V1:∀(cs:List (Str×Str)) (ts:List D),cs.length=ts.length->(F0 cs ts).length=cs.length
 | [],[],_=>rfl
 | (a,b)::cs,u::ts,h=>by
  show(F0 cs ts).length+1=cs.length+1
  rw[V1 cs ts (by simpa using h)]
end MK
open L3
namespace MK
open PySem L2 L3
theorem View.only {Q:DK}{d:D}{p:Addr}{M1:Mem}(h:∀a,a≠p->M a≠none->M1 a=M a)(q:Q d (fun a=>if a=p then M1 p else M a)):View Q d M1:=View.sub (fun a o e=>by
 by_cases b:a=p
 ·subst b;rw[if_pos rfl] at e;exact e
 ·rw[if_neg b] at e;rw[h a b (by rw[e];simp)];exact e) q
end MK
namespace L3
open PySem PySem.Spec PyProof.Rows L2
theorem IB (it t:Addr)(i:Nat)(items:Array Value)(x:Value):Meets (Builtin.«tuple_iterator.__next__» {pos:=[.ref it]}) fun A R s =>
  s.heap.IsTupleIter it t i/\s.heap.IsTuple t items/\items[i]?=some x/\∀h',h'.IsTupleIter it t (i+1)->BX4 it s.heap h'->R (.ok (.ret x)) {s with heap:=h'}:=by
 rintro f w A R s ⟨⟨⟨h,j,g,r⟩,a,l,m⟩,⟨u,c,o,n,d⟩,p,k⟩
 subst l m
 refine BP2 (BP6 ?_)
 refine BP2 (BZ7 a rfl rfl ?_)
 refine BP2 (BZ7 a rfl rfl ?_)
 refine BP2 (wpAny_seqItems c d ?_)
 have e:(↑i:Int).toNat=i:=by simp
 simp only[e,p]
 refine BP2 (wpAny_setField a rfl (by simp) ?_)
 refine BP6 (k _ ?_ ?_)
 ·exact⟨_,Heap.get?_update_self _ a rfl,rfl,rfl⟩
 ·exact⟨by simp[Heap.update],fun b q=>CA8 _ _ (Ne.symm q)⟩
theorem LR (it t:Addr)(i:Nat)(items:Array Value):Meets (Builtin.«tuple_iterator.__next__» {pos:=[.ref it]}) fun A R s =>
  A.handled=none/\s.heap.IsTupleIter it t i/\s.heap.IsTuple t items/\items[i]?=none/\∀h' e,Heap.ExtBut it s.heap h'->(∃o,h'.get? e=some o/\o.cls=.type "StopIteration")->R (.error (.ref e)) {s with heap:=h'}:=by
 rintro g w A R s ⟨j,⟨⟨l,m,h,x⟩,a,p,q⟩,⟨y,c,r,n,d⟩,u,k⟩
 subst p q
 refine BP2 (BP6 ?_)
 refine BP2 (BZ7 a rfl rfl ?_)
 refine BP2 (BZ7 a rfl rfl ?_)
 refine BP2 (wpAny_seqItems c d ?_)
 have e:(↑i:Int).toNat=i:=by simp
 simp only[e,u]
 refine BP2 (wpAny_rule ?_)
 refine BP2 (wpAny_setField a rfl (by simp) ?_)
 refine BP2 (BP2 (BT4 ?_))
 refine BP2 (BP2 (BP6 (BP6 ?_)))
 refine BT4 ?_ (by first|decide|(unfold sizeOk;simp[ownMembersOf,BR0]))
 refine wpAny_raiseNew_none j (k _ _ (fun b z v f=>?_) ⟨_,BR2 _ rfl,rfl⟩)
 exact BP4 _ (BP4 _ ((CA8 _ _ (Ne.symm v)).trans f))
theorem FZ {E:Value->BP9->Prop}{x:Value}(hi:s.heap.IsTupleIter it t i)(e:s.heap.IsTuple t items)(f:items[i]?=some x)
  (k:∀h',h'.IsTupleIter it t (i+1)->BX4 it s.heap h'->Q x {s with heap:=h'}):wpAny (model prog w) A (CF1 (.ref it)) Q E s:=by
 obtain⟨o,c,d,g⟩:=id hi
 refine BP2 (BY5 ⟨o,c,d⟩ CD8 ?_)
 refine call_meets CD8 ⟨o,c,d⟩ entry_tupleiter_next (F.args_tuple_iterator_next_1 _) (IB it t i items x) ⟨hi,e,f,fun h' a b=>?_⟩
 exact BP6 (k h' a b)
theorem IC {E:Value->BP9->Prop}(f:A.handled=none)(hi:s.heap.IsTupleIter it t i)(g:s.heap.IsTuple t items)(h:items[i]?=none)
  (k:∀h' e,Heap.ExtBut it s.heap h'->(∃o,h'.get? e=some o/\o.cls=.type "StopIteration")->E (.ref e) {s with heap:=h'}):wpAny (model prog w) A (CF1 (.ref it)) Q E s:=by
 obtain⟨o,c,d,j⟩:=id hi
 refine BP2 (BY5 ⟨o,c,d⟩ CD8 ?_)
 exact call_meets CD8 ⟨o,c,d⟩ entry_tupleiter_next (F.args_tuple_iterator_next_1 _) (LR it t i items) ⟨f,hi,g,h,fun h' e a b=>k h' e a b⟩
theorem DG (n:A.handled=none)(it t:Addr)(e:t≠it)(items:Array Value):Draws prog w A it [it,t] items.size (fun i v=>items[i]?=some v) fun i h=>h.IsTupleIter it t i/\h.IsTuple t items where
 live:=fun i h ⟨⟨o,c,_⟩,_⟩=>⟨o,c⟩
 frame:=fun i h j ⟨⟨o,c,r⟩,⟨l,f,p⟩⟩ k=>⟨⟨o,k it (by simp) o c,r⟩,⟨l,k t (by simp) l f,p⟩⟩
 item:=fun i s Q E m ⟨g,d⟩ k=>FZ g d (x:=items[i]) (by simp[m]) fun j a b=>k _ j s.toks (by simp[m]) ⟨a,by
  obtain⟨o,c,r⟩:=d
  exact⟨o,(b.2 t e).trans c,r⟩⟩ b
 done:=fun s Q E ⟨g,d⟩ k=>IC n g d (by simp) k
theorem QQ {M:Model}{E:Value->BP9->Prop}{b:Bool}{Q:Bool->BP9->Prop}(h:∀b,Q b s):wpAny M A (pure b) Q E s:=BP6 (h b)
theorem OU (t:Addr)(items:Array Value):Meets (Builtin.«enumerate.__new__» {pos:=[.type "enumerate",.ref t]}) fun A R s =>
  s.heap.IsTuple t items/\R (.ok (.ret (.ref (s.heap.push {cls:=.type "tuple_iterator",data:=.fields #[.ref t,.int 0 0]}).objs.size)))
   {s with heap:=(s.heap.push {cls:=.type "tuple_iterator",data:=.fields #[.ref t,.int 0 0]}).push {cls:=.type "enumerate",data:=.fields #[.none,.bool false,.ref s.heap.objs.size,rawInt 0,.none,.none]}}:=by
 rintro b w A R s ⟨c,k⟩
 refine BP2 ?_
 refine BP2 (BP6 ?_)
 refine BP2 ?_
 rw[sub_enumerate]
 refine BP6 (BP6 ?_)
 refine BP2 ?_
 refine BP2 (wpAny_stack fun st _ _ _=>QQ fun a=>?_)
 cases a with
 | true =>
  refine BP2 (BP6 ?_)
  refine BP2 (CE5 c ?_)
  refine BP2 (BT4 (data:=.fields #[.none,.bool false,.ref s.heap.objs.size,rawInt 0,.none,.none]) ?_)
  exact BP6 k
 | false =>
  refine BP2 (BP6 ?_)
  refine BP2 (CE5 c ?_)
  refine BP2 (BT4 (data:=.fields #[.none,.bool false,.ref s.heap.objs.size,rawInt 0,.none,.none]) ?_)
  exact BP6 k
theorem QY {E:Value->BP9->Prop}(a:s.heap.IsTuple t items)
  (k:Q (.ref (s.heap.objs.size+1)) {s with heap:=(s.heap.push {cls:=.type "tuple_iterator",data:=.fields #[.ref t,.int 0 0]}).push {cls:=.type "enumerate",data:=.fields #[.none,.bool false,.ref s.heap.objs.size,rawInt 0,.none,.none]}}) :
  wpAny (model prog w) A (call (.type "enumerate") [.ref t]) Q E s:=by
 refine callType_new F.called_enumerate (by decide) (F.typeCall_enumerate_1 _) (F.newCall_enumerate_1 _) (fun b=>F.args_object_init_2 _ _) F.entry_enumerate_new (OU t items) ⟨a,?_⟩
 have e:(s.heap.push {cls:=.type "tuple_iterator",data:=.fields #[.ref t,.int 0 0]}).objs.size=s.heap.objs.size+1:=by simp[Heap.push]
 rw[e]
 refine⟨⟨{cls:=.type "enumerate",data:=.fields #[.none,.bool false,.ref s.heap.objs.size,rawInt 0,.none,.none]},?_,rfl⟩,k⟩
 rw[<-e]
 exact BR2 _ rfl
def BF6 (K:BP3)(a:Addr):It :=
 ⟨fun i H=>∃xs x,SqT K H a xs/\xs[i]?=some x,fun i H x H'=>∃T v,H T=none/\(∀xs,SqT K H a xs->xs[i]?=some v)/\x=.ref T/\H'=upd H T (.tup [.int (i:Nat),v]),fun i H=>∃xs,SqT K H a xs/\xs.length=i⟩
def BF5 (K:BP3)(a:Addr):It :=
 ⟨fun i H=>∃xs x,SqL K H a xs/\xs[i]?=some x,fun i H x H'=>∃T v,H T=none/\(∀xs,SqL K H a xs->xs[i]?=some v)/\x=.ref T/\H'=upd H T (.tup [.int (i:Nat),v]),fun i H=>∃xs,SqL K H a xs/\xs.length=i⟩
theorem Inv.pair {X:Cx}{σ:L2.St}{e:Addr}{tk:Nat}{t0:Tok}(I:Inv X pins σ H s)(d:KG X pins H e)(f:KG X pins H it)
  (le:e<s.heap.objs.size) (p:it<s.heap.objs.size) (ru:RelV v u) (g:h'.get? s.heap.objs.size=some {cls:=.type "tuple",data:=.seq #[.int (i:Nat) t0,u]})
  (h:∀b o,b≠e->b≠it->s.heap.get? b=some o->h'.get? b=some o):Inv X pins σ (upd H s.heap.objs.size (.tup [.int (i:Nat),v])) {s with heap:=h',toks:=tk}:=by
 have l:=I.fresh
 have j:∀b u,H b=some u->b≠s.heap.objs.size:=fun b u q=>by rintro rfl;rw[l] at q;cases q
 have ne:∀b u,H b=some u->b≠e/\b≠it:=fun b u q=>⟨(by rintro rfl;rw[d.1] at q;cases q),(by rintro rfl;rw[f.1] at q;cases q)⟩
 refine I.call' (s':={s with heap:=h',toks:=tk}) (ch:=[e,it]) rfl ⟨fun b o q n _ a=>?_,fun b o q n _ a=>?_,fun b o q n a=>?_,fun b o q a=>?_,fun b m q=>?_,fun b o u q=>?_,fun b t q=>?_⟩ (fun b o q=>?_) I.bare (fun b k=>?_)
 ·simp only[BU1,BS1,or_false,not_or] at a
  exact h b o a.1 a.2 q
 ·simp only[BU1,BS1,or_false,not_or] at a
  exact⟨o.slots,h b o a.1 a.2 q⟩
 ·rw[D7 (BS3 (BQ9 q))];exact n
 ·simp only[BU1,BS1,or_false,not_or] at a
  exact⟨o,h b o a.1 a.2 q⟩
 ·rw[D7 (j b _ q)];exact q
 ·rw[D7 (j b _ q)];exact q
 ·exact⟨#[],by rw[D7 (j b _ q),q];simp⟩
 ·by_cases k:b=s.heap.objs.size
  ·subst k
   rw[D5] at q
   cases q
   exact⟨by rw[BR0];show 2<=_;lia,[.int (i:Nat) t0,u],.cons ⟨t0,rfl⟩ (.cons ru .nil),⟨_,g,rfl,_,rfl⟩⟩
  ·rw[D7 k] at q
   refine(I.hok b o q).stay (fun c w hc r=>?_) (fun c r=>by rw[D7 (j c _ r)];exact r) fun c m r=>by rw[D7 (j c _ r)];exact r
   rcases hc with rfl|hc
   ·exact h c w (ne c o q).1 (ne c o q).2 r
   ·exact h c w (ne c _ hc).1 (ne c _ hc).2 r
 ·simp only[BU1,BS1,or_false] at k
  rcases k with rfl|rfl
  ·exact⟨d.2.2.2.1,d.2.1,d.2.2.2.2.1,d.2.2.2.2.2⟩
  ·exact⟨f.2.2.2.1,f.2.1,f.2.2.2.2.1,f.2.2.2.2.2⟩
theorem SL {k:Nat}(a it e:Addr)(h1:e≠it)(h2:a≠it)(h3:a≠e) :
  Turn P w K (.Tuple elts k pos) (BF6 K a) [e,it] e (fun i h=>(∃old,IsEnum h e it (i:Nat) old)/\h.IsTupleIter it a i) where
 mem:=by simp
 obj:=fun i h st b l=>by
  obtain⟨⟨old,g⟩,⟨o,m,c,d⟩⟩:=st
  simp only[BU1,BS1,or_false] at l
  rcases l with rfl|rfl
  ·exact⟨_,g,fun v z=>by cases z⟩
  ·exact⟨o,m,fun v z=>by rw[d] at z;cases z⟩
 keep:=fun i h h' st kk=>by
  obtain⟨⟨old,g⟩,⟨o,m,r⟩⟩:=st
  exact⟨⟨old,kk e (by simp) _ g⟩,⟨o,kk it (by simp) o m,r⟩⟩
 item:=by
  intro X L M N O i C s σ H E I B st Q
  subst L M N
  obtain⟨xs,x,J,R⟩:=Q
  obtain⟨f,S,p,hz⟩:=I.tuple J
  obtain⟨u,hu,ru⟩:=S.get R
  have hi:i<f.length:=(List.getElem?_eq_some_iff.mp hu).1
  obtain⟨⟨old,g⟩,j⟩:=st
  have le:=BQ9 g
  have li:it<s.heap.objs.size:=by obtain⟨o,m,_⟩:=j;exact BQ9 m
  refine wpAny_pyNext_enum_itemD (DG (A:=X.A.in1) (by exact I.ok.hd O) it a h2 f.toArray) g ⟨j,p⟩ (by simpa using hi) h1 (by simp;exact⟨h1,Ne.symm h3⟩) fun y h' tk hy D T F hsz n=>?_
  have ey:y=u:=by
   have:f[i]?=some y:=by simpa using hy
   rw[hu] at this;exact(Option.some.inj this).symm
  subst ey
  refine⟨_,rfl,wpAny_letOwnedTupleGo_enum D fun U V t=>?_⟩
  have W:∀b o,b≠e->b≠it->s.heap.get? b=some o->U.get? b=some o:=fun b o G Y q=>(t.2 b G).trans (n b o G Y q)
  refine⟨.ref s.heap.objs.size,_,Inv.pair (s:=s) (tk:=tk+1) (i:=i) (t0:=tk) I (B e (by simp)) (B it (by simp)) le li ru ((t.2 _ (Nat.ne_of_gt le)).trans F) W,rfl,⟨s.heap.objs.size,x,I.fresh,fun ys Z=>by rw[I.tuple_inj Z J];exact R,rfl,rfl⟩,⟨⟨_,V⟩,?_⟩,fun b l=>?_⟩
  ·obtain⟨o,m,r⟩:=T.1
   exact⟨o,(t.2 it (Ne.symm h1)).trans m,r⟩
  ·simp only[BU1,BS1,or_false] at l
   rcases l with rfl|rfl
   ·rw[D7 (BS3 le)];exact(B b (by simp)).1
   ·rw[D7 (BS3 li)];exact(B b (by simp)).1
 done:=by
  intro X L M N O i C s σ H E I B st Q
  subst L M N
  obtain⟨xs,J,R⟩:=Q
  obtain⟨f,S,p,hz⟩:=I.tuple J
  obtain⟨⟨old,g⟩,j⟩:=st
  have hl:=S.length
  obtain⟨f0,f1,f2,f3,f4,f5⟩:=B it (by simp)
  have en:f.toArray.size=i:=by simp;lia
  exact wpAny_pyNext_enum_endD (DG (A:=X.A.in1) (by exact I.ok.hd O) it a h2 f.toArray) g ⟨by rw[en];exact j,p⟩ fun h' eb=>⟨rfl,I.turned (t':=s.toks) (fun b o l e=>eb b o l e) f0 f1 f3 f4 f5⟩
 self:=fun _ _ _ _ _ st h=>by
  obtain⟨⟨old,g⟩,_⟩:=st
  exact CE8 g h
theorem SK {k:Nat}(a it e:Addr)(h1:e≠it)(h2:a≠it)(h3:a≠e) :
  Turn P w K (.Tuple elts k pos) (BF5 K a) [e,it] e (fun i h=>(∃old,IsEnum h e it (i:Nat) old)/\h.IsListIter it a i) where
 mem:=by simp
 obj:=fun i h st b l=>by
  obtain⟨⟨old,g⟩,⟨o,m,c,d⟩⟩:=st
  simp only[BU1,BS1,or_false] at l
  rcases l with rfl|rfl
  ·exact⟨_,g,fun v z=>by cases z⟩
  ·exact⟨o,m,fun v z=>by rw[d] at z;cases z⟩
 keep:=fun i h h' st kk=>by
  obtain⟨⟨old,g⟩,⟨o,m,r⟩⟩:=st
  exact⟨⟨old,kk e (by simp) _ g⟩,⟨o,kk it (by simp) o m,r⟩⟩
 item:=by
  intro X L M N O i C s σ H E I B st Q
  subst L M N
  obtain⟨xs,x,J,R⟩:=Q
  obtain⟨f,S,p,hz⟩:=I.list J
  obtain⟨u,hu,ru⟩:=S.get R
  have hi:i<f.length:=(List.getElem?_eq_some_iff.mp hu).1
  obtain⟨⟨old,g⟩,j⟩:=st
  have le:=BQ9 g
  have li:it<s.heap.objs.size:=by obtain⟨o,m,_⟩:=j;exact BQ9 m
  refine wpAny_pyNext_enum_itemD (Draws.list (prog:=X.prog) (w:=X.w) (A:=X.A.in1) (by exact I.ok.hd O) it a h2 f.toArray) g ⟨j,p.isList⟩ (by simpa using hi) h1 (by simp;exact⟨h1,Ne.symm h3⟩) fun y h' tk hy D T F hsz n=>?_
  have ey:y=u:=by
   have:f[i]?=some y:=by simpa using hy
   rw[hu] at this;exact(Option.some.inj this).symm
  subst ey
  refine⟨_,rfl,wpAny_letOwnedTupleGo_enum D fun U V t=>?_⟩
  have W:∀b o,b≠e->b≠it->s.heap.get? b=some o->U.get? b=some o:=fun b o G Y q=>(t.2 b G).trans (n b o G Y q)
  refine⟨.ref s.heap.objs.size,_,Inv.pair (s:=s) (tk:=tk+1) (i:=i) (t0:=tk) I (B e (by simp)) (B it (by simp)) le li ru ((t.2 _ (Nat.ne_of_gt le)).trans F) W,rfl,⟨s.heap.objs.size,x,I.fresh,fun ys Z=>by rw[I.list_inj Z J];exact R,rfl,rfl⟩,⟨⟨_,V⟩,?_⟩,fun b l=>?_⟩
  ·obtain⟨o,m,r⟩:=T.1
   exact⟨o,(t.2 it (Ne.symm h1)).trans m,r⟩
  ·simp only[BU1,BS1,or_false] at l
   rcases l with rfl|rfl
   ·rw[D7 (BS3 le)];exact(B b (by simp)).1
   ·rw[D7 (BS3 li)];exact(B b (by simp)).1
 done:=by
  intro X L M N O i C s σ H E I B st Q
  subst L M N
  obtain⟨xs,J,R⟩:=Q
  obtain⟨f,S,p,hz⟩:=I.list J
  obtain⟨⟨old,g⟩,j⟩:=st
  have hl:=S.length
  obtain⟨f0,f1,f2,f3,f4,f5⟩:=B it (by simp)
  have en:f.toArray.size=i:=by simp;lia
  exact wpAny_pyNext_enum_endD (Draws.list (prog:=X.prog) (w:=X.w) (A:=X.A.in1) (by exact I.ok.hd O) it a h2 f.toArray) g ⟨by rw[en];exact j,p.isList⟩ fun h' eb=>⟨rfl,I.turned (t':=s.toks) (fun b o l e=>eb b o l e) f0 f1 f3 f4 f5⟩
 self:=fun _ _ _ _ _ st h=>by
  obtain⟨⟨old,g⟩,_⟩:=st
  exact CE8 g h
theorem QX {E:Value->BP9->Prop}(b:s.heap.IsList t items)
  (k:Q (.ref (s.heap.objs.size+1)) {s with heap:=(s.heap.push {cls:=.type "list_iterator",data:=.fields #[.ref t,.int 0 0]}).push {cls:=.type "enumerate",data:=.fields #[.none,.bool false,.ref s.heap.objs.size,rawInt 0,.none,.none]}}) :
  wpAny (model prog w) A (call (.type "enumerate") [.ref t]) Q E s:=by
 obtain⟨⟨cls,a,data,c⟩,d,f,n,g⟩:=b
 subst f g
 refine callType_new F.called_enumerate (by decide) (F.typeCall_enumerate_1 _) (F.newCall_enumerate_1 _) (fun h=>F.args_object_init_2 _ _) F.entry_enumerate_new (meets_enumerate_newL t items n a c) ⟨d,?_⟩
 have e:(s.heap.push {cls:=.type "list_iterator",data:=.fields #[.ref t,.int 0 0]}).objs.size=s.heap.objs.size+1:=by simp[Heap.push]
 rw[e]
 refine⟨⟨{cls:=.type "enumerate",data:=.fields #[.none,.bool false,.ref s.heap.objs.size,rawInt 0,.none,.none]},?_,rfl⟩,k⟩
 rw[<-e]
 exact BR2 _ rfl
theorem AE6 {X:Cx}{ti:TI3}{g:TG3}{tb:TS3}(Z:PassesOwn (model X.prog X.w) X.A X.env X.xe)(hc:X.calm=true)(hi:QV X tg iter ti)
  (hg:PG3 X tg g) (hb:PSs3 X body tb) (hs:∀y,BZ8 iter X.env y=pure y:=by intro _;rfl) :
  PS3 X (.For tg iter body [] pos) (AN ti g tb):=PS3.of (AF1 Z hc hi hg hb.dn hs) fun Q s σv H R M T I S hM h=>by
 refine⟨R,M,_,S,hM,h,fun n J G U j m1 wk ⟨Pv,p0,z,B⟩=>?_⟩
 refine⟨fun k m o C=>m=n.length-k/\k<=n.length/\∃b i,Step G U i C/\MRel X.K i C/\SRel X.K i C b o/\Pv k b i,⟨_,rfl,BW4 _,R,G,.refl,m1,S.mono j,p0⟩,?_⟩
 rintro k m o C ⟨rfl,hk,b,i,r,V,D,W⟩
 obtain⟨go,L,E⟩:=wk i C r V
 by_cases l:k<n.length
 ·refine .inr ⟨go k l,fun a p=>∃c f,Step G U f p/\MRel X.K f p/\SRel X.K f p c a/\Pv (k+1) c f,?_,?_⟩
  ·rintro a p ⟨c,f,q⟩
   exact⟨n.length-(k+1),by lia,rfl,l,c,f,q⟩
  ·intro y N hy
   obtain⟨Y,my,ry⟩:=L k n[k] y N (by simp[l]) hy
   refine⟨n[k],b,i,_,ry,D.mono Y,my,z k n[k] b i (by simp[l]) W,fun O v9 M9 H9 s9 m9 r9 q9=>?_⟩
   refine⟨O,M9,_,r9,m9,q9,?_⟩
   have F:=(r.trans Y).trans s9
   exact⟨fun a P t p u m2 v x=>⟨a,t,F.trans u,m2,v,x⟩,fun a P t p u m2 v x=>⟨a,t,(j.trans F).trans u,m2,v,x⟩,
    fun a P t p u m2 v x=>⟨a,t,F.trans u,m2,v,x⟩,fun d P t p u m2 v x=>⟨d,t,(j.trans F).trans u,m2,v,x⟩⟩
 ·have e:k=n.length:=by lia
  subst e
  exact .inl ⟨E,b,i,j.trans r,V,D,B b i W⟩
def prs:Nat->List D->List D
 | _,[]=>[]
 | n,d::r=>.tup [.int (n:Nat),d]::prs (n+1) r
theorem EQ:∀(ds:List D) (n i:Nat) (d:D),(prs n ds)[i]?=some d->∃x,ds[i]?=some x/\d=.tup [.int ((n+i:Nat):Int),x]
 | [],n,i,d,h=>by simp[prs] at h
 | x::r,n,0,d,h=>by simp[prs] at h;exact⟨x,rfl,by rw[<-h];rfl⟩
 | x::r,n,i+1,d,h=>by
  have a:(prs (n+1) r)[i]?=some d:=by simpa[prs] using h
  obtain⟨y,b,c⟩:=EQ r (n+1) i d a
  exact⟨y,by simpa using b,by rw[c];congr 3;lia⟩
theorem BI:∀(ds:List D) (n:Nat),(prs n ds).length=ds.length
 | [],n=>rfl
 | x::r,n=>by show(prs (n+1) r).length+1=r.length+1;rw[BI r]
def GF (R:List D->Mem->Prop):DK:=fun d M1=>match d with
 | .tup ds=>R (prs 0 ds) M1
 | .lst ds=>R (prs 0 ds) M1
 | _=>False
def CK (te:TE3):TI3:=fun σ M R=>te σ M (GF R)
instance rd_iEnum {te:TE3}{σ:Lo}{M:Mem}{R:List D->Mem->Prop}:RdC (CK te σ M R) (te σ M (GF R)):=⟨fun h=>h⟩
instance rd_onEnumT {ds:List D}{M:Mem}{R:List D->Mem->Prop}:RdC (GF R (.tup ds) M) (R (prs 0 ds) M):=⟨fun h=>h⟩
instance rd_onEnumL {ds:List D}{M:Mem}{R:List D->Mem->Prop}:RdC (GF R (.lst ds) M) (R (prs 0 ds) M):=⟨fun h=>h⟩
theorem AJ3 {M1:Mem}{H1:Hp}{J:It}(b:Hp->List V->Prop)(e:∀i H xs x,b H xs->xs[i]?=some x->J.go i H)(n:∀i H x H',J.yld i H x H'->∃T v,H T=none/\(∀xs,b H xs->xs[i]?=some v)/\x=.ref T/\H'=upd H T (.tup [.int (i:Nat),v]))
  (f:∀i H xs,b H xs->xs.length=i->J.stop i H) (hs:∀M' H',Step M1 H1 M' H'->∃vs,b H' vs/\Reps K M' H' ds vs):WkE K J (prs 0 ds) M1 H1:=by
 intro M' H' st l
 obtain⟨vs,g,r⟩:=hs M' H' st
 refine⟨fun i m=>?_,fun i d x h o j=>?_,?_⟩
 ·rw[BI] at m
  obtain⟨v,k,_⟩:=r.get (i:=i) (d:=ds[i]) (by simp[m])
  exact e i H' vs v g k
 ·obtain⟨T,v,c,k,rfl,rfl⟩:=n i H' x h j
  obtain⟨y,p,rfl⟩:=EQ ds 0 i d o
  obtain⟨s,a,q⟩:=r.get p
  rw[k vs g] at a
  cases a
  refine⟨Step.lay c,l.lay c,.tup (.inl ⟨.inl D5,l.free c⟩) (.cons ?_ (.cons (q.mono (Step.lay c)) .nil))⟩
  rw[BS0];exact .int
 ·rw[BI]
  exact f _ H' vs g r.length.symm
theorem AD6 {X:Cx}{a:Expr}{k:Nat}{tpos p:Pos}(hg:Gl X "enumerate")(hm:X.mg "enumerate"=none)(ha:PE3 X a te)(W:BR9 [a] X.env=(false,eval a X.env)::BR9 [] X.env:=by rfl) (F:(CD9 pos (BR9 [] X.env)).any (·.1)=false:=by rfl) :
  QV X (.Tuple elts k tpos) (.Call (.Name "enumerate" p) [a] [] pos) (CK te):=by
 rintro r s G H R2 I ⟨σ,M,R,hS,hM,h,Y⟩
 refine CB2 (AI I hg hm AU ?_ (by decide) (by decide))
 have t:PA3 X [a] (A0 te A5):=OY ha UO W
 refine BV9 (thn (t pos r s G H σ M (fun J C=>match J with|[d]=>GF R d C|_=>False) I hS hM h) fun us c ⟨J,D,C,E,n,v,m1,L,N,w⟩=>?_) W F
 match J,N,w with
 | [d],N,w =>
  obtain⟨xv,rfl,pd⟩:=PR N
  obtain⟨u,rfl,Z⟩:=vals1 L
  cases pd with
  | @tup f g D y O =>
   cases Z
   obtain⟨z,ri,A,hz⟩:=n.tuple (SqT.of3 y)
   have j:f<c.heap.objs.size:=by obtain⟨o,P,_⟩:=id A;exact BQ9 P
   refine QY (show c.heap.IsTuple f z.toArray from A) ?_
   have Q:∀b o,c.heap.get? b=some o->((c.heap.push {cls:=.type "tuple_iterator",data:=.fields #[.ref f,.int 0 0]}).push {cls:=.type "enumerate",data:=.fields #[.none,.bool false,.ref c.heap.objs.size,rawInt 0,.none,.none]}).get? b=some o:=fun b o e=>BP4 _ (BP4 _ e)
   have S:(c.heap.push {cls:=.type "tuple_iterator",data:=.fields #[.ref f,.int 0 0]}).objs.size=c.heap.objs.size+1:=by simp[Heap.push]
   have l:((c.heap.push {cls:=.type "tuple_iterator",data:=.fields #[.ref f,.int 0 0]}).push {cls:=.type "enumerate",data:=.fields #[.none,.bool false,.ref c.heap.objs.size,rawInt 0,.none,.none]}).get? (c.heap.objs.size+1)=some {cls:=.type "enumerate",data:=.fields #[.none,.bool false,.ref c.heap.objs.size,rawInt 0,.none,.none]}:=by rw[<-S];exact BR2 _ rfl
   refine CE8 (it:=c.heap.objs.size) (i:=0) (old:=.none) l ?_
   refine⟨c.heap.objs.size+1,[c.heap.objs.size+1,c.heap.objs.size],_,BF6 X.K f,E,rfl,n.kept (t':=c.toks) Q,SL f c.heap.objs.size (c.heap.objs.size+1) (Nat.succ_ne_self _) (BS3 j) (BS3 (Nat.lt_succ_of_lt j)),⟨⟨.none,l⟩,⟨_,BP4 _ (BR2 _ rfl),rfl,rfl⟩⟩,fun b B=>?_,?_⟩
   ·have m:c.heap.objs.size<=b:=by
     simp only[BU1,BS1,or_false] at B
     rcases B with rfl|rfl
     ·exact Nat.le_succ _
     ·exact BP5 _
    exact n.fpOk m (n.hok.fresh m)
   ·refine Y (prs 0 g) _ C E v m1 (AJ3 (fun H g=>SqT X.K H f g) (fun i H g x q t=>⟨g,x,q,t⟩) (fun i H x T U=>U) (fun i H g q V=>⟨g,q,V⟩) fun M' T st=>⟨D,SqT.of3 (y.imp (Fix.mono st) id),O.mono st⟩) w
  | @lst f g D y O =>
   cases Z
   obtain⟨z,ri,A,hz⟩:=n.list (SqL.of3 y)
   have j:f<c.heap.objs.size:=by obtain⟨o,P,_⟩:=id A.isList;exact BQ9 P
   refine QX A.isList ?_
   have Q:∀b o,c.heap.get? b=some o->((c.heap.push {cls:=.type "list_iterator",data:=.fields #[.ref f,.int 0 0]}).push {cls:=.type "enumerate",data:=.fields #[.none,.bool false,.ref c.heap.objs.size,rawInt 0,.none,.none]}).get? b=some o:=fun b o e=>BP4 _ (BP4 _ e)
   have S:(c.heap.push {cls:=.type "list_iterator",data:=.fields #[.ref f,.int 0 0]}).objs.size=c.heap.objs.size+1:=by simp[Heap.push]
   have l:((c.heap.push {cls:=.type "list_iterator",data:=.fields #[.ref f,.int 0 0]}).push {cls:=.type "enumerate",data:=.fields #[.none,.bool false,.ref c.heap.objs.size,rawInt 0,.none,.none]}).get? (c.heap.objs.size+1)=some {cls:=.type "enumerate",data:=.fields #[.none,.bool false,.ref c.heap.objs.size,rawInt 0,.none,.none]}:=by rw[<-S];exact BR2 _ rfl
   refine CE8 (it:=c.heap.objs.size) (i:=0) (old:=.none) l ?_
   refine⟨c.heap.objs.size+1,[c.heap.objs.size+1,c.heap.objs.size],_,BF5 X.K f,E,rfl,n.kept (t':=c.toks) Q,SK f c.heap.objs.size (c.heap.objs.size+1) (Nat.succ_ne_self _) (BS3 j) (BS3 (Nat.lt_succ_of_lt j)),⟨⟨.none,l⟩,⟨_,BP4 _ (BR2 _ rfl),rfl,rfl⟩⟩,fun b B=>?_,?_⟩
   ·have m:c.heap.objs.size<=b:=by
     simp only[BU1,BS1,or_false] at B
     rcases B with rfl|rfl
     ·exact Nat.le_succ _
     ·exact BP5 _
    exact n.fpOk m (n.hok.fresh m)
   ·refine Y (prs 0 g) _ C E v m1 (AJ3 (fun H g=>SqL X.K H f g) (fun i H g x q t=>⟨g,x,q,t⟩) (fun i H x T U=>U) (fun i H g q V=>⟨g,q,V⟩) fun M' T st=>⟨D,SqL.of3 (y.imp (Fix.mono st) id),O.mono st⟩) w
  | _=>exact(w:False).elim
section
variable {X:Cx}{o i e:Expr}{to ti te:TE3}{pos p:Pos}
theorem AE7 (ho:PE3 X o to)(hi:PE3 X i ti)(w:PE3 X e te)
  (z:∀v,assign (.Subscript o i p) X.env v=(do
   let ov <-holding [v] (eval o X.env)
   let iv <-holding [v,ov] (eval i X.env)
   standAt p
   holding [v,ov,iv] (setItem ov iv v)
   release [v,ov,iv] []):=by intro _;rfl) (hs:swapsWithSole [.Subscript o i p] e pos.line X.env=pure false:=by rfl) (A:swappedStores [.Subscript o i p] e X.env=pure none:=by rfl)
  (h1:(BV6 [.Subscript o i p] X.env).map (·.2)=[assign (.Subscript o i p) X.env]:=by rfl):PS3 X (.Assign [.Subscript o i p] e pos) (NG to ti te) :=
 PS3.of (AF0 w.dn (BC8 ho.dn hi.dn set_list z) hs A h1) fun t s B H g M T I l C h=>by
  refine⟨g,M,_,l,C,h,fun d v D S b m1 E F=>?_⟩
  refine⟨g,D,_,l.mono b,m1,F,fun x U G V c m2 J K=>?_⟩
  refine⟨g,G,_,(l.mono b).mono c,m2,K,fun y W M3 Y f m3 L N=>?_⟩
  obtain⟨a,O,j,k,rfl,rfl,m,P,q⟩:=N
  cases L
  have n:=J.mono f
  cases n
  obtain⟨ho,Q,r⟩:=m3 _ _ m
  cases ho<;>first|exact(r:False).elim|skip
  rename_i R
  have u:=r
  refine⟨a,R,k,j,rfl,rfl,Q,by rw[<-u.length];exact P,g,_,((b.trans c).trans f).trans (Step.put (.inr (by rw[m];simp))),m3.put (.inr (by rw[m];simp)) (o:=.lst (O.set j d)) (Reps.set u ((E.mono c).mono f) j),?_,q⟩
  exact(((l.mono b).mono c).mono f).mono (Step.put (.inr (by rw[m];simp)))
end
end L3
namespace K11
open PySem L2 L3 MK
mutual
def plB:Blk->List Int->Nat->List (List Int)
 | .nil,_,_=>[]
 | .cons d r,ah,i=>(ah++[(i:Int)])::(plD d (ah++[(i:Int)])++plB r ah (i+1))
def plD:Deed->List Int->List (List Int)
 | .mk _ bs,pl=>P7 bs pl 0
def P7:Bls->List Int->Nat->List (List Int)
 | .nil,_,_=>[]
 | .cons b r,pl,j=>plB b (pl++[(j:Int)]) 0++P7 r pl (j+1)
end
def plT (p:List Int):D:=.tup (p.map D.int)
def BL (n:Nat):Sp3:=fun ds M Q=>∃b ah,ds=[.tup (dB b),plT ah]/\okB b/\dpB b+1<=n/\C9 b<=100/\ah.length+2*n<=30/\∀a M',M a=none->M' a=some (.lst ((plB b ah 0).map plT))->(∀x,x≠a->M' x=M x)->Q (.ref a) M'
def spPlacesR:Sp3:=fun ds M Q=>∃r,ds=[rD r]/\okB r.blk/\dpB r.blk<=4/\C9 r.blk<=100/\∀a M',M a=none->M' a=some (.lst ((plB r.blk [] 0).map plT))->(∀x,x≠a->M' x=M x)->Q (.ref a) M'
end K11
namespace K11
open PySem L2 L3
abbrev CZ:List Str:=["deed"]
def DV:TS3 :=
  (A8 (C1 (B1 (A6 D6 (A6 B7 (A4 0) (tC3 (.int 0))) (tC3 (.str "if")))) (B4 (G0 (A0 (A6 B7 (A4 0) (tC3 (.int 2))) (A0 (A6 B7 (A4 0) (tC3 (.int 3))) A5)))) B6)
  (A8 (C1 (B1 (A6 D6 (A6 B7 (A4 0) (tC3 (.int 0))) (tC3 (.str "while")))) (B4 (G0 (A0 (A6 B7 (A4 0) (tC3 (.int 2))) A5))) B6)
  (A8 (C1 (B1 (A6 D6 (A6 B7 (A4 0) (tC3 (.int 0))) (tC3 (.str "try")))) (B4 (A6 D0 (A6 D0 (G0 (A0 (A6 B7 (A4 0) (tC3 (.int 1))) A5)) (N6 (DH (A6 B7 (A4 0) (tC3 (.int 2)))) 3 [] (U6 [0,1,2]) L5 (A4 2))) (G0 (A0 (A6 B7 (A4 0) (tC3 (.int 3))) A5)))) B6)
  (B4 (G0 A5)))))
theorem NB (d0:D):B9 CZ [d0]=[some d0]:=rfl
abbrev DB:List Str:=["block","ahead","found","at","deed","place","number","inner"]
def DZ (q_places_in:Sp3):TS3 :=
  (A8 (B8 2 (J2 A5))
  (A8 (AN (CK (A4 0)) (U6 [3,4]) (A8 (B8 5 (A6 D0 (A4 1) (C0 (A0 (A4 3) A5))))
  (A8 (F5 (Q5 "list" E4 (A4 2) (A0 (A4 5) A5)))
  (AN (CK (A7 MK.BK (A0 (A4 4) A5))) (U6 [6,7]) (F5 (Q5 "list" GJ (A4 2) (A0 (A7 q_places_in (A0 (A4 7) (A0 (A6 D0 (A4 5) (C0 (A0 (A4 6) A5))) A5))) A5)))))))
  (B4 (A4 2))))
theorem ND (d0 a:D):B9 DB [d0,a]=[some d0,some a,none,none,none,none,none,none]:=rfl
abbrev NU:List Str:=["rule"]
def QH:TS3 :=
  (B4 (A7 (BL 8) (A0 (A6 B7 (A4 0) (tC3 (.int 2))) (A0 (C0 A5) A5))))
theorem YD (d0:D):B9 NU [d0]=[some d0]:=rfl
end K11
namespace MK
open PySem L2 L3
structure Sm (w n:Nat)(d:D):Prop where
 pl:plain d=true
 sh:(pyD d).showable=true
 nd:(pyD d).hasDict=false
 lf:(pyD d).leavesShort 40=true
 wt:(pyD d).weight<=w
 dp:(pyD d).depth<=n
 cl:(pyD d).canLay0=true
structure SmL (w n:Nat)(ds:List D):Prop where
 pl:O2 ds=true
 sh:CC9 (L9 ds)=true
 nd:CD5 (L9 ds)=false
 lf:CA9 40 (L9 ds)=true
 wt:CE4 (L9 ds)<=w
 dp:BY8 (L9 ds)<=n
 cl:BX2 (L9 ds)=true
theorem SmL.nil {w n:Nat}:SmL w n []:=⟨rfl,rfl,rfl,rfl,BW4 _,BW4 _,rfl⟩
theorem SmL.cons {w v n:Nat}{d:D}{ds:List D}(a:Sm w n d)(b:SmL v n ds){u:Nat}(h:w+1+v<=u:=by lia):SmL u n (d::ds):=by
 refine⟨?_,?_,?_,?_,?_,?_,?_⟩
 ·simp only[O2,a.pl,b.pl];rfl
 ·simp only[L9,CC9,a.sh,b.sh];rfl
 ·simp only[L9,CD5,a.nd,b.nd];rfl
 ·simp only[L9,CA9,a.lf,b.lf];rfl
 ·have:=a.wt;have:=b.wt;simp only[L9,CE4];lia
 ·have:=a.dp;have:=b.dp;simp only[L9,BY8];lia
 ·simp only[L9,BX2,a.cl,b.cl];rfl
theorem Sm.tup {w n m:Nat}{ds:List D}(a:SmL w n ds)(h:n+1<=m:=by lia):Sm w m (.tup ds):=by
 refine⟨by simpa[L3.plain] using a.pl,by simpa[pyD,PyData.showable] using a.sh,by simpa[pyD,PyData.hasDict] using a.nd,by simpa[pyD,PyData.leavesShort] using a.lf,by simpa[pyD,PyData.weight] using a.wt,?_,by simpa[pyD,CA7] using a.cl⟩
 have:=a.dp
 simp only[pyD,CB0];lia
theorem Sm.mono {w v n m:Nat}{d:D}(a:Sm w n d)(h1:w<=v:=by lia) (h2:n<=m:=by lia):Sm v m d:=⟨a.pl,a.sh,a.nd,a.lf,BS7 a.wt h1,BS7 a.dp h2,a.cl⟩
theorem SmL.mono {w v n m:Nat}{d:List D}(a:SmL w n d)(h1:w<=v:=by lia) (h2:n<=m:=by lia):SmL v m d:=⟨a.pl,a.sh,a.nd,a.lf,BS7 a.wt h1,BS7 a.dp h2,a.cl⟩
theorem Sm.dok {w n:Nat}{d:D}(a:Sm w n d)(b:n<=60:=by lia):dOk d:=⟨a.pl,a.cl,BS7 a.dp b⟩
theorem Sm.str (h:(x.cps.toList.all fun c=>decide (c<1114112))=true)(w:Nat)(d:x.length<=w):Sm w 0 (.str x):=by
 have b:PyData.strOk x=true:=by
  unfold PyData.strOk
  rw[BV2] at h
  rw[Array.all_eq_true']
  intro c a
  exact h c (Array.mem_toList_iff.mpr a)
 refine⟨rfl,by simpa[pyD,PyData.showable] using b,rfl,?_,?_,by simp[pyD,CB0],by simpa[pyD,CA7] using b⟩
 ·simp only[pyD,PyData.leavesShort]
  rw[BV2] at h ⊢
  intro c a
  have:=h c a
  simp at this ⊢
  lia
 ·simp only[pyD,PyData.weight];exact d
theorem Sm.nm {x:Str}(h:nm x):Sm 8 0 (.str x):=Sm.str (by
 rw[BV2]
 intro c a
 have:=h.1 c a
 simp;lia) 8 h.2.2
theorem OL {n:Int}(h:bnd n):(PyData.shown (.int n)).length<=40:=by
 have a:n.natAbs<10^30:=by unfold bnd QJ at h;lia
 have e:=int_text_length_le10 (k:=30) (by decide) a
 show(Str.ofString (toString n)).length<=40
 rw[ofString_length];lia
theorem Sm.int {n:Int}(h:bnd n):Sm 101 0 (.int n):=by
 have b:n.natAbs<2^100:=by unfold bnd QJ at h;lia
 have c:n.natAbs.log2<100:=by
  by_cases a:n.natAbs=0
  ·rw[a];decide +kernel
  ·exact(Nat.log2_lt a).mpr b
 refine⟨rfl,by simp[pyD,PyData.showable];lia,rfl,?_,?_,by simp[pyD,CB0],by simp[pyD,CA7]⟩
 ·simp only[pyD,PyData.leavesShort,decide_eq_true_eq];exact OL h
 ·simp only[pyD,PyData.weight];split<;>lia
theorem BE7 {s:Str}(h:sgn s):Sm 1 0 (.str s):=by
 rcases h with rfl|rfl|rfl|rfl|rfl<;>exact Sm.str (by decide +kernel) 1 (by decide +kernel)
mutual
theorem TN:∀(e:Ex),wf e->Sm (130*nd e) (2*dp e) (eD e)
 | .none,_=>Sm.tup (w:=130) (n:=0) (SmL.cons (Sm.str (by decide +kernel) 4 (by decide +kernel)) SmL.nil (v:=0)) (by simp[dp])
 | .num n,h=>Sm.tup (w:=130) (n:=0) (SmL.cons (Sm.str (by decide +kernel) 6 (by decide +kernel)) (SmL.cons (Sm.int h) SmL.nil (v:=0) (u:=102))) (by simp[dp])
 | .var x,h=>Sm.tup (w:=130) (n:=0) (SmL.cons (Sm.str (by decide +kernel) 3 (by decide +kernel)) (SmL.cons (Sm.nm h) SmL.nil (v:=0) (u:=102))) (by simp[dp])
 | .op s a b,h=>by
  have c:=TN a h.2.1
  have g:=TN b h.2.2
  have d:nd (.op s a b)=1+nd a+nd b:=rfl
  have f:dp (.op s a b)=1+max (dp a) (dp b):=rfl
  rw[d,f]
  exact Sm.tup (n:=2*max (dp a) (dp b)) (SmL.cons ((Sm.str (by decide +kernel) 2 (by decide +kernel)).mono (v:=2)) (SmL.cons ((BE7 h.1).mono (v:=1)) (SmL.cons (c.mono (v:=130*nd a)) (SmL.cons (g.mono (v:=130*nd b)) SmL.nil (v:=0) (u:=130*nd b+1)) (u:=130*nd a+130*nd b+2)) (u:=130*nd a+130*nd b+4)))
 | .make r as,h=>by
  have c:=ZX as h.2.2
  have i:=h.2.1
  have d:nd (.make r as)=1+nds as:=rfl
  have f:dp (.make r as)=1+dps as:=rfl
  rw[d,f]
  exact Sm.tup (n:=2*dps as+1) (SmL.cons ((Sm.str (by decide +kernel) 4 (by decide +kernel)).mono (v:=4)) (SmL.cons ((Sm.nm h.1).mono (v:=8)) (SmL.cons (Sm.tup (m:=2*dps as+1) c) SmL.nil (v:=0) (u:=130*nds as+exl as+1)) (u:=130*nds as+exl as+10)))
theorem ZX:∀(as:Exs),wfs as->SmL (130*nds as+exl as) (2*dps as) (eDs as)
 | .nil,_=>SmL.nil
 | .cons a r,h=>by
  have b:=TN a h.1
  have c:=ZX r h.2
  have d:nds (.cons a r)=nd a+nds r:=rfl
  have e:dps (.cons a r)=max (dp a) (dps r):=rfl
  have f:exl (.cons a r)=exl r+1:=rfl
  rw[d,e,f]
  exact SmL.cons (b.mono (v:=130*nd a)) (c.mono (v:=130*nds r+exl r))
end
theorem S0 {d:D}(h:CI d):Sm 1170 8 d:=by
 obtain⟨e,rfl,a,b,c⟩:=h
 exact(TN e a).mono
theorem AL6 {h:Str}{r:List D}(i:AE h r):Sm 2500 9 (.tup (.str h::r)):=by
 rcases i with⟨h1|h1|h1,x,e,rfl,b,a⟩|⟨h1|h1|h1,e,rfl,a⟩|⟨h1,x,y,g,e,rfl,b,c,d,a⟩|⟨h1,x,y,g,w,e,rfl,b,c,f,d,a⟩|⟨h1,rfl⟩|⟨h1,w,e,rfl,f,a⟩
 ·subst h1
  exact Sm.tup (n:=8) (SmL.cons ((Sm.str (by decide +kernel) 5 (by decide +kernel)).mono (v:=5)) (SmL.cons ((Sm.nm b).mono (v:=8)) (SmL.cons (S0 a) SmL.nil (v:=0) (u:=1171)) (u:=1180)))
 ·subst h1
  exact Sm.tup (n:=8) (SmL.cons ((Sm.str (by decide +kernel) 5 (by decide +kernel)).mono (v:=5)) (SmL.cons ((Sm.nm b).mono (v:=8)) (SmL.cons (S0 a) SmL.nil (v:=0) (u:=1171)) (u:=1180)))
 ·subst h1
  exact Sm.tup (n:=8) (SmL.cons ((Sm.str (by decide +kernel) 5 (by decide +kernel)).mono (v:=5)) (SmL.cons ((Sm.nm b).mono (v:=8)) (SmL.cons (S0 a) SmL.nil (v:=0) (u:=1171)) (u:=1180)))
 ·subst h1
  exact Sm.tup (n:=8) (SmL.cons ((Sm.str (by decide +kernel) 5 (by decide +kernel)).mono (v:=5)) (SmL.cons (S0 a) SmL.nil (v:=0) (u:=1171)))
 ·subst h1
  exact Sm.tup (n:=8) (SmL.cons ((Sm.str (by decide +kernel) 5 (by decide +kernel)).mono (v:=5)) (SmL.cons (S0 a) SmL.nil (v:=0) (u:=1171)))
 ·subst h1
  exact Sm.tup (n:=8) (SmL.cons ((Sm.str (by decide +kernel) 5 (by decide +kernel)).mono (v:=5)) (SmL.cons (S0 a) SmL.nil (v:=0) (u:=1171)))
 ·subst h1
  exact Sm.tup (n:=8) (SmL.cons ((Sm.str (by decide +kernel) 5 (by decide +kernel)).mono (v:=5)) (SmL.cons ((Sm.nm b).mono (v:=8)) (SmL.cons ((Sm.nm c).mono (v:=8)) (SmL.cons (S0 d) (SmL.cons (S0 a) SmL.nil (v:=0) (u:=1171)) (u:=2342)) (u:=2351)) (u:=2360)))
 ·subst h1
  exact Sm.tup (n:=8) (SmL.cons ((Sm.str (by decide +kernel) 5 (by decide +kernel)).mono (v:=5)) (SmL.cons ((Sm.nm b).mono (v:=8)) (SmL.cons ((Sm.nm c).mono (v:=8)) (SmL.cons (S0 d) (SmL.cons ((Sm.nm f).mono (v:=8)) (SmL.cons (S0 a) SmL.nil (v:=0) (u:=1171)) (u:=1180)) (u:=2351)) (u:=2360)) (u:=2369)))
 ·subst h1
  exact Sm.tup (n:=8) (SmL.cons ((Sm.str (by decide +kernel) 5 (by decide +kernel)).mono (v:=5)) SmL.nil (v:=0))
 ·subst h1
  exact Sm.tup (n:=8) (SmL.cons ((Sm.str (by decide +kernel) 5 (by decide +kernel)).mono (v:=5)) (SmL.cons ((Sm.nm f).mono (v:=8)) (SmL.cons (S0 a) SmL.nil (v:=0) (u:=1171)) (u:=1180)))
theorem YY:∀(cs:List (Str×Str)) (ts:List D) (w n:Nat),(∀c∈cs,nm c.1/\nm c.2)->SmL w n ts->SmL (w+30*cs.length) (n+1) (F0 cs ts)
 | [],ts,w,n,_,_=>by cases ts<;>exact SmL.nil
 | (a,b)::cs,[],w,n,_,_=>SmL.nil
 | (a,b)::cs,t::ts,w,n,hc,h=>by
  have k:Sm (pyD t).weight n t:=by
   have:=h.pl;have d:=h.sh;have e:=h.nd;have f:=h.lf;have l:=h.dp;have g:=h.cl
   simp only[O2,L9,CC9,CD5,CA9,BY8,BX2,BQ0,BU0] at *
   exact⟨this.1,d.1,e.1,f.1,BP5 _,by lia,g.1⟩
  have d:SmL (w-(pyD t).weight-1) n ts:=by
   have:=h.pl;have d:=h.sh;have e:=h.nd;have f:=h.lf;have l:=h.dp;have g:=h.cl;have j:=h.wt
   simp only[O2,L9,CC9,CD5,CA9,BY8,BX2,CE4,BQ0,BU0] at *
   exact⟨this.2,d.2,e.2,f.2,by lia,by lia,g.2⟩
  have j:=h.wt
  simp only[L9,CE4] at j
  have m:=YY cs ts _ n (fun c i=>hc c (BQ4 _ i)) d
  obtain⟨o,p⟩:=hc (a,b) BQ7
  show SmL _ _ (.tup [.str a,.str b,t]::F0 cs ts)
  exact SmL.cons (Sm.tup (w:=(pyD t).weight+19) (n:=n) (SmL.cons ((Sm.nm o).mono (v:=8)) (SmL.cons ((Sm.nm p).mono (v:=8)) (SmL.cons k SmL.nil (v:=0) (u:=(pyD t).weight+1)) (u:=(pyD t).weight+10)))) m (by simp only[BP8];lia)
def Q7:List Blk->Nat
 | []=>0
 | b::l=>2600*C9 b+1+Q7 l
theorem QC:∀(l k:List Blk),Q7 (l++k)=Q7 l+Q7 k
 | [],k=>by simp[Q7]
 | b::l,k=>by
  show 2600*C9 b+1+Q7 (l++k)=2600*C9 b+1+Q7 l+Q7 k
  rw[QC l k];lia
theorem JV:∀bs:Bls,Q7 (C6 bs)=2600*G9 bs+bsl bs
 | .nil=>rfl
 | .cons b r=>by
  show 2600*C9 b+1+Q7 (C6 r)=2600*(C9 b+G9 r)+(bsl r+1)
  rw[JV r];lia
theorem EL {n:Nat}:∀(l:List Blk),(∀b∈l,SmL (2600*C9 b) n (dB b))->SmL (Q7 l) (n+1) (l.map tB)
 | [],_=>SmL.nil
 | b::l,h=>by
  show SmL (2600*C9 b+1+Q7 l) _ (tB b::l.map tB)
  exact SmL.cons (Sm.tup (m:=n+1) (h b BQ7)) (EL l fun x a=>h x (BQ4 _ a))
mutual
theorem BG4:∀(d:Deed),okD d->Sm (2600*F8 d-50) (10+4*dpD d) (dD d)
 | .mk h bs,x=>by
  have j:=SW bs x.2
  have B:=JV bs
  have C:F8 (.mk h bs)=1+G9 bs:=rfl
  have E:dpD (.mk h bs)=L8 bs:=rfl
  have a:∀b∈C6 bs,SmL (2600*C9 b) (6+4*L8 bs) (dB b):=fun b o=>(j b o).mono (h2:=by have:=(E8 bs b o).2.1;lia)
  have g:=x.1
  rw[C,E]
  show Sm _ _ (headD h (dTs bs))
  rw[J5]
  have c:=N9 bs
  cases h with
  | leaf h r=>exact(AL6 g.2).mono
  | ife e =>
   have y:=g.1
   exact Sm.tup (n:=8+4*L8 bs) (SmL.cons ((Sm.str (by decide +kernel) 2 (by decide +kernel)).mono (v:=2)) (SmL.cons ((S0 g.2).mono (v:=1170)) ((EL _ a).mono (v:=Q7 (C6 bs))) (u:=1171+Q7 (C6 bs))))
  | whl e =>
   have y:=g.1
   exact Sm.tup (n:=8+4*L8 bs) (SmL.cons ((Sm.str (by decide +kernel) 5 (by decide +kernel)).mono (v:=5)) (SmL.cons ((S0 g.2).mono (v:=1170)) ((EL _ a).mono (v:=Q7 (C6 bs))) (u:=1171+Q7 (C6 bs))))
  | tr i =>
   obtain⟨y,I,h2⟩:=g
   obtain⟨b0,f,l,F,p⟩:∃b0 f l,C6 bs=b0::(f++[l])/\f.length=i.length:=by
    match e:C6 bs with
    | []=>rw[e] at c;simp at c;lia
    | b0::r =>
     rw[e] at c
     simp only[BP8] at c
     have q:r≠[]:=by intro z;rw[z] at c;simp at c;lia
     exact⟨b0,r.dropLast,r.getLast q,by rw[List.dropLast_concat_getLast],by rw[List.length_dropLast];lia⟩
   rw[F] at a B ⊢
   have ex:headD (.tr i) ((b0::(f++[l])).map tB)=.tup [.str "try",tB b0,.tup (F0 i (f.map tB)),tB l]:=by
    show D.tup [.str "try",tB b0,.tup (F0 i ((f++[l]).map tB)),((b0::(f++[l])).map tB).getD (i.length+1) (.tup [])]=_
    rw[BR4,R7 i (f.map tB) _ (by rw[BP1];lia)]
    have G:((b0::(f++[l])).map tB).getD (i.length+1) (.tup [])=tB l:=by
     rw[<-p]
     simp[BV4]
    rw[G]
   rw[ex]
   have s:=a b0 BQ7
   have H:=a l (by simp)
   have t:=EL f fun b o=>a b (by simp[o])
   have k:=YY i (f.map tB) _ _ h2 t
   have A:Q7 (b0::(f++[l]))=2600*C9 b0+1+(Q7 f+(2600*C9 l+1+0)):=by
    show 2600*C9 b0+1+Q7 (f++[l])=_
    rw[QC];rfl
   exact Sm.tup (n:=9+4*L8 bs) (SmL.cons ((Sm.str (by decide +kernel) 3 (by decide +kernel)).mono (v:=3)) (SmL.cons (Sm.tup (w:=2600*C9 b0) (m:=9+4*L8 bs) s) (SmL.cons (Sm.tup (w:=Q7 f+30*i.length) (m:=9+4*L8 bs) k) (SmL.cons (Sm.tup (w:=2600*C9 l) (m:=9+4*L8 bs) H) SmL.nil (v:=0) (u:=2600*C9 l+1)) (u:=Q7 f+30*i.length+2600*C9 l+2)) (u:=2600*C9 b0+Q7 f+30*i.length+2600*C9 l+3)))
theorem OC:∀(b:Blk),okB b->SmL (2600*C9 b) (10+4*dpB b) (dB b)
 | .nil,_=>SmL.nil
 | .cons d r,h=>by
  have a:=BG4 d h.1
  have c:=OC r h.2
  have e:C9 (.cons d r)=F8 d+C9 r:=rfl
  have f:dpB (.cons d r)=max (dpD d) (dpB r):=rfl
  have g:=P5 d
  rw[e,f]
  show SmL _ _ (dD d::dB r)
  exact SmL.cons (a.mono (v:=2600*F8 d-50)) (c.mono (v:=2600*C9 r))
theorem SW:∀(bs:Bls),XC bs->∀b∈C6 bs,SmL (2600*C9 b) (10+4*dpB b) (dB b)
 | .nil,_,b,hb=>by cases hb
 | .cons c r,h,b,hb=>by
  rcases BU1.mp hb with e|hb
  ·rw[e];exact OC c h.1
  ·exact SW r h.2 b hb
end
end MK
open L3
namespace K11
open PySem L2 L3 MK
theorem rd_blocks_of:∀ds M Q,BK ds M Q->DV {nx:=fun _ M'=>View Q .non M',rt:=View Q} (B9 CZ ds) M:=by
 rintro _ M Q ⟨h,bs,rfl,p,q⟩
 have n:=SX bs
 rw[NB]
 unfold DV
 show _
 change (A8 _ _) _ [some (headD h (dTs bs))] M
 generalize dTs bs=k at q n
 cases h with
 | leaf h r =>
  obtain⟨g,s⟩:=p
  obtain⟨z,A,B⟩:=Y1 s
  have u:k=[]:=List.length_eq_zero_iff.mp (n.trans g)
  subst u
  walk_at "rd"
  refine B5 (d:=.str h) (C2 (j:=0) rfl) ?_
  walk_at "rd"
  refine A9 z ?_
  walk_at "rd"
  refine B5 (d:=.str h) (C2 (j:=0) rfl) ?_
  walk_at "rd"
  refine A9 A ?_
  walk_at "rd"
  refine B5 (d:=.str h) (C2 (j:=0) rfl) ?_
  walk_at "rd"
  refine A9 B ?_
  walk_at "rd"
  exact View.of q
 | ife e =>
  obtain⟨g,_⟩:=p
  obtain⟨f,v,rfl⟩:∃f v,k=[f,v]:=by
   match k,n.trans g with
   | [a,b],_=>exact⟨a,b,rfl⟩
  walk_at "rd"
  refine B5 (d:=.str "if") rfl ?_
  walk_at "rd"
  refine C4 (by decide +kernel) ?_
  walk_at "rd"
  refine B5 (d:=f) rfl ?_
  walk_at "rd"
  refine B5 (d:=v) rfl ?_
  walk_at "rd"
  exact View.of q
 | whl e =>
  obtain⟨g,_⟩:=p
  obtain⟨f,rfl⟩:∃f,k=[f]:=by
   match k,n.trans g with
   | [a],_=>exact⟨a,rfl⟩
  walk_at "rd"
  refine B5 (d:=.str "while") rfl ?_
  walk_at "rd"
  refine A9 (by decide +kernel) ?_
  walk_at "rd"
  refine B5 (d:=.str "while") rfl ?_
  walk_at "rd"
  refine C4 (by decide +kernel) ?_
  walk_at "rd"
  refine B5 (d:=f) rfl ?_
  walk_at "rd"
  exact View.of q
 | tr c =>
  obtain⟨g,C,_⟩:=p
  obtain⟨f,rest,rfl⟩:∃f rest,k=f::rest:=by
   match k,n.trans g with
   | a::r,_=>exact⟨a,r,rfl⟩
  have K:rest.length=c.length+1:=by simpa[g] using n
  walk_at "rd"
  refine B5 (d:=.str "try") rfl ?_
  walk_at "rd"
  refine A9 (by decide +kernel) ?_
  walk_at "rd"
  refine B5 (d:=.str "try") rfl ?_
  walk_at "rd"
  refine A9 (by decide +kernel) ?_
  walk_at "rd"
  refine B5 (d:=.str "try") rfl ?_
  walk_at "rd"
  refine C4 (by decide +kernel) ?_
  walk_at "rd"
  refine B5 (d:=f) rfl ?_
  walk_at "rd"
  refine B5 (d:=.tup (F0 c rest)) rfl ?_
  walk_at "rd"
  have D:F0 c rest=(F0 c rest).map id:=by simp
  rw[D]
  have E:=SS c rest
  refine ZE (F0 c rest) id VT (by rw[BR0];lia) ?_ ?_
  ·intro d G L R F _ H
   obtain⟨w,x,t,rfl⟩:=ST c rest d G
   refine T9 rfl ?_
   walk_at "rd"
   exact H
  rw[CC c rest (by lia)]
  refine MH (by simp;rw[BR0];lia) ?_
  walk_at "rd"
  have m:∃l,rest[c.length]?=some l:=⟨rest[c.length],by simp⟩
  obtain⟨l,o⟩:=m
  have I:(f::rest).getD (c.length+1) (.tup [])=l:=by simp[BV4,o]
  refine B5 (d:=l) (by rw[<-I];rfl) ?_
  walk_at "rd"
  refine MH (by simp;rw[BR0];lia) ?_
  have J:[f]++rest.take c.length++[l]=f::rest:=by
   have:rest.take c.length++[l]=rest:=by
    have y:=BY3 (l:=rest) (i:=c.length)
    rw[o] at y
    rw[show rest.take c.length++[l]=rest.take c.length++(some l).toList from rfl,<-y,List.take_of_length_le (by lia)]
   rw[BS9,this];rfl
  rw[J]
  exact View.of q
def AW:Blk->Nat->Blk
 | b,0=>b
 | .nil,_+1=>.nil
 | .cons _ r,k+1=>AW r k
def S9:Bls->Nat->Bls
 | b,0=>b
 | .nil,_+1=>.nil
 | .cons _ r,k+1=>S9 r k
theorem FF (b:Blk):AW b 0=b:=by cases b<;>rfl
theorem DD (b:Bls):S9 b 0=b:=by cases b<;>rfl
theorem IQ:∀(b:Blk) (k:Nat) (x:D),(dB b)[k]?=some x->∃d,d∈toL b/\x=dD d/\AW b k=.cons d (AW b (k+1))
 | .nil,k,x,h=>by simp[dB] at h
 | .cons d r,0,x,h=>by
  have a:some (dD d)=some x:=by simpa[dB] using h
  cases a
  exact⟨d,BQ7,rfl,by rw[FF];show _=Blk.cons d (AW r 0);rw[FF]⟩
 | .cons d r,k+1,x,h=>by
  have a:(dB r)[k]?=some x:=by simpa[dB] using h
  obtain⟨e,c,f,g⟩:=IQ r k x a
  exact⟨e,BQ4 _ c,f,g⟩
theorem FJ:∀(b:Bls) (k:Nat) (x:D),(dTs b)[k]?=some x->∃d,d∈C6 b/\x=.tup (dB d)/\S9 b k=.cons d (S9 b (k+1))
 | .nil,k,x,h=>by simp[dTs] at h
 | .cons d r,0,x,h=>by
  have a:some (D.tup (dB d))=some x:=by simpa[dTs] using h
  cases a
  exact⟨d,BQ7,rfl,by rw[DD];show _=Bls.cons d (S9 r 0);rw[DD]⟩
 | .cons d r,k+1,x,h=>by
  have a:(dTs r)[k]?=some x:=by simpa[dTs] using h
  obtain⟨e,c,f,g⟩:=FJ r k x a
  exact⟨e,BQ4 _ c,f,g⟩
theorem IP:∀b:Blk,AW b (dB b).length=.nil
 | .nil=>rfl
 | .cons d r=>IP r
theorem FI:∀b:Bls,S9 b (dTs b).length=.nil
 | .nil=>rfl
 | .cons d r=>FI r
mutual
theorem Y2:∀(b:Blk) (ah:List Int) (i:Nat),(plB b ah i).length=C9 b
 | .nil,ah,i=>by simp[plB,C9]
 | .cons d r,ah,i=>by
  have c:=AQ0 d (ah++[(i:Int)])
  have a:=Y2 r ah (i+1)
  simp only[plB,C9,BP8,BP7,a]
  lia
theorem AQ0:∀(d:Deed) (ah:List Int),(plD d ah).length+1=F8 d
 | .mk h bs,ah=>by
  have a:=PH bs ah 0
  simp only[plD,F8,a]
  lia
theorem PH:∀(bs:Bls) (ah:List Int) (j:Nat),(P7 bs ah j).length=G9 bs
 | .nil,ah,j=>by simp[P7,G9]
 | .cons b r,ah,j=>by
  have a:=Y2 b (ah++[(j:Int)]) 0
  have c:=PH r ah (j+1)
  simp only[P7,G9,BP7,a,c]
end
theorem MD (p:List Int)(k:Nat):plT (p++[(k:Int)])=.tup (p.map D.int++[D.int (k:Nat)]):=by unfold plT;rw[BR4];rfl
theorem View.onlyR {Q:DK}{f:Addr}{M1:Mem}(h:∀a,a≠f->M a≠none->M1 a=M a)(q:Q (.ref f) (fun a=>if a=f then M1 f else M a)):View Q (.ref f) M1:=View.only h q
theorem zero_places_in:∀ds M Q,¬BL 0 ds M Q:=by rintro _ _ _ ⟨_,_,rfl,_,h,_⟩;lia
theorem rd_places_in:∀n ds M Q,BL (n+1) ds M Q->DZ (BL n) {nx:=fun _ M'=>View Q .non M',rt:=View Q} (B9 DB ds) M:=by
 rintro lv _ M Q ⟨b,e,rfl,G,Z,W,hah,q⟩
 rw[ND]
 unfold DZ
 walk_at "rd"
 intro f hf
 walk_at "rd"
 have H:=Y2 b e 0
 refine⟨fun k u z=>∃(dn:List (List Int)) (I J K v w:Option D),u=[some (.tup (dB b)),some (plT e),some (.ref f),I,J,K,v,w]/\dn++plB (AW b k) e k=plB b e 0/\z f=some (.lst (dn.map plT))/\∀x,x≠f->M x≠none->z x=M x,
  ⟨[],_,_,_,_,_,rfl,by cases b<;>rfl,B0,fun x m _=>B3 m⟩,?_,?_⟩
 ·rintro k d u z hd ⟨dn,I,J,K,v,w,rfl,g,p,y⟩
  obtain⟨x,m,rfl⟩:=EQ _ _ _ _ hd
  obtain⟨X,A,rfl,L⟩:=IQ b k x m
  obtain⟨c1,c2,c3⟩:=O5 b X A
  cases X with
  | mk h bs =>
   have t:=c3 G
   refine T9 rfl ?_
   walk_at "rd"
   refine T7 (by rw[BP1,BR0];show e.length+1<=_;lia) ?_
   walk_at "rd"
   refine⟨.inl ⟨rfl,_,p⟩,?_⟩
   walk_at "rd"
   have hdl:dn.length<=C9 b:=by rw[<-H,<-g];simp
   refine K5 p (by rw[BP1,BR0];lia) ?_
   walk_at "rd"
   refine⟨h,bs,rfl,t.1,?_⟩
   walk_at "rd"
   rw[L] at g
   have e0:plB (.cons (.mk h bs) (AW b (k+1))) e k=(e++[(k:Int)])::(P7 bs (e++[(k:Int)]) 0++plB (AW b (k+1)) e (k+1)):=by simp only[plB,plD]
   rw[e0] at g
   rw[BS0]
   refine⟨fun j u F=>∃(r:List (List Int)) (v w:Option D),u=[some (.tup (dB b)),some (plT e),some (.ref f),some (.int ((k:Nat):Int)),some (dD (.mk h bs)),some (plT (e++[(k:Int)])),v,w]/\r++P7 (S9 bs j) (e++[(k:Int)]) j=dn++[e++[(k:Int)]]++P7 bs (e++[(k:Int)]) 0/\F f=some (.lst (r.map plT))/\∀x,x≠f->M x≠none->F x=M x,
    ⟨dn++[e++[(k:Int)]],_,_,by rw[MD];rfl,by cases bs<;>rfl,by rw[B0,BR4,List.map_singleton,MD],fun x m o=>by rw[B3 m];exact y x m o⟩,?_,?_⟩
   ·rintro j d u F N ⟨r,v,w,rfl,i,l,s⟩
    obtain⟨x,O,rfl⟩:=EQ _ _ _ _ N
    obtain⟨c,P,rfl,R⟩:=FJ bs j x O
    obtain⟨c4,c5,c6⟩:=E8 bs c P
    have hcD:F8 (.mk h bs)=1+G9 bs:=rfl
    have hdD:dpD (.mk h bs)=L8 bs:=rfl
    rw[R] at i
    have e1:P7 (.cons c (S9 bs (j+1))) (e++[(k:Int)]) j=plB c (e++[(k:Int)]++[(j:Int)]) 0++P7 (S9 bs (j+1)) (e++[(k:Int)]) (j+1):=by simp only[P7]
    rw[e1] at i
    have Y:r.length+C9 c<=C9 b:=by
     have h1:=congrArg BW0 i
     have h2:=congrArg BW0 g
     have h3:=Y2 c (e++[(k:Int)]++[(j:Int)]) 0
     simp only[BP7,BP8,BR8] at h1 h2
     lia
    refine T9 rfl ?_
    walk_at "rd"
    refine⟨.inl ⟨rfl,_,l⟩,?_⟩
    walk_at "rd"
    refine T7 (by rw[BP1,BP7,BR0];show e.length+1+1<=_;lia) ?_
    walk_at "rd"
    rw[BS0]
    refine⟨c,e++[(k:Int)]++[(j:Int)],by rw[MD],c6 t.2,by lia,by lia,by simp only[BP7,BP8,BR8];lia,fun a M3 S T B=>?_⟩
    walk_at "rd"
    have U:f≠a:=by rintro rfl;rw[S] at l;cases l
    have V:M3 f=some (.lst (r.map plT)):=by rw[B f U];exact l
    refine⟨f,a,_,_,rfl,rfl,V,T,by rw[BP1,BP1,Y2,BR0];lia,?_⟩
    refine⟨r++plB c (e++[(k:Int)]++[(j:Int)]) 0,_,_,rfl,by rw[BS9];exact i,by rw[B0,BR4],fun x m o=>?_⟩
    rw[B3 m,B x]
    ·exact s x m o
    ·rintro rfl;rw[s _ m o] at S;exact o S
   ·rintro u F ⟨r,v,w,rfl,i,l,s⟩
    rw[BI,FI] at i
    have C:r=dn++[e++[(k:Int)]]++P7 bs (e++[(k:Int)]) 0:=by simpa[P7] using i
    refine⟨r,_,_,_,_,_,rfl,?_,l,s⟩
    rw[C,<-g]
    simp
 ·rintro u z ⟨dn,I,J,K,v,w,rfl,g,p,y⟩
  rw[BI,IP] at g
  have E:dn=plB b e 0:=by simpa[plB] using g
  subst E
  walk_at "rd"
  refine View.onlyR (f:=f) (M:=M) y (q f _ hf ?_ fun x m=>?_)
  ·show(if f=f then z f else M f)=_
   rw[if_pos rfl];exact p
  ·show(if x=f then z f else M x)=M x
   rw[if_neg m]
theorem rd_places:∀ds M Q,spPlacesR ds M Q->QH {nx:=fun _ M'=>View Q .non M',rt:=View Q} (B9 NU ds) M:=by
 rintro _ M Q ⟨r,rfl,c,e,b,q⟩
 rw[YD]
 unfold QH
 walk_at "rd"
 refine B5 (d:=.tup (dB r.blk)) rfl ?_
 walk_at "rd"
 exact⟨r.blk,[],rfl,c,by lia,b,by simp,fun a M' f g h=>View.of (q a M' f g h)⟩
theorem FW (a:Int)(r s:List Int):HT.lexLt (a::r) (a::s)=HT.lexLt r s:=by
 rw[HT.lexLt];simp
theorem UE:∀(p:List Int) (x:Int) (r:List Int),HT.lexLt p (p++x::r)=true
 | [],x,r=>HT.lexLt.eq_2 x r
 | a::p,x,r=>by
  show HT.lexLt (a::p) (a::(p++x::r))=true
  rw[FW];exact UE p x r
theorem LQ:∀(p:List Int) (i j:Int) (r s:List Int),i<j->HT.lexLt (p++i::r) (p++j::s)=true
 | [],i,j,r,s,h=>by
  show HT.lexLt (i::r) (j::s)=true
  rw[HT.lexLt]
  rw[if_neg (by lia)];simpa using h
 | a::p,i,j,r,s,h=>by
  show HT.lexLt (a::(p++i::r)) (a::(p++j::s))=true
  rw[FW];exact LQ p i j r s h
def Pw (l:List (List Int)):Prop:=l.Pairwise fun p q=>HT.lexLt p q=true
def Fr (ah:List Int)(i:Nat)(l:List (List Int)):Prop:=∀p∈l,∃(j:Nat) (r:List Int),i<=j/\p=ah++(j:Int)::r
mutual
theorem RS:∀(b:Blk) (ah:List Int) (i:Nat),Fr ah i (plB b ah i)/\Pw (plB b ah i)
 | .nil,ah,i=>by simp only[plB];exact⟨(fun p h=>by cases h),.nil⟩
 | .cons d r,ah,i=>by
  obtain⟨g,l⟩:=BD3 d (ah++[(i:Int)])
  obtain⟨c,m⟩:=RS r ah (i+1)
  have a:∀p∈plD d (ah++[(i:Int)]),∃(x:Int) (s:List Int),p=ah++(i:Int)::(x::s):=fun p hp=>by
   obtain⟨j,s,_,e⟩:=g p hp
   exact⟨j,s,by rw[e];simp⟩
  simp only[plB]
  refine⟨fun p hp=>?_,?_⟩
  ·rcases BU1.mp hp with rfl|hp
   ·exact⟨i,[],BP5 _,rfl⟩
   ·rcases List.mem_append.mp hp with hp|hp
    ·obtain⟨x,s,e⟩:=a p hp
     exact⟨i,x::s,BP5 _,e⟩
    ·obtain⟨j,s,k,e⟩:=c p hp
     exact⟨j,s,by lia,e⟩
  ·refine List.Pairwise.cons (fun p hp=>?_) (List.pairwise_append.mpr ⟨l,m,fun p hp n f=>?_⟩)
   ·rcases List.mem_append.mp hp with hp|hp
    ·obtain⟨j,s,_,e⟩:=g p hp
     rw[e];exact UE _ _ _
    ·obtain⟨j,s,k,e⟩:=c p hp
     rw[e];exact LQ ah i j [] s (by lia)
   ·obtain⟨x,s,e⟩:=a p hp
    obtain⟨j,q,k,o⟩:=c n f
    rw[e,o]
    exact LQ ah i j _ _ (by lia)
theorem BD3:∀(d:Deed) (a:List Int),Fr a 0 (plD d a)/\Pw (plD d a)
 | .mk h bs,a=>by simp only[plD];exact US bs a 0
theorem US:∀(bs:Bls) (a:List Int) (j:Nat),Fr a j (P7 bs a j)/\Pw (P7 bs a j)
 | .nil,a,j=>by simp only[P7];exact⟨(fun p h=>by cases h),.nil⟩
 | .cons b r,a,j=>by
  obtain⟨g,i⟩:=RS b (a++[(j:Int)]) 0
  obtain⟨f,l⟩:=US r a (j+1)
  have c:∀p∈plB b (a++[(j:Int)]) 0,∃(x:Int) (s:List Int),p=a++(j:Int)::(x::s):=fun p hp=>by
   obtain⟨k,s,_,e⟩:=g p hp
   exact⟨k,s,by rw[e];simp⟩
  simp only[P7]
  refine⟨fun p hp=>?_,List.pairwise_append.mpr ⟨i,l,fun p hp m d=>?_⟩⟩
  ·rcases List.mem_append.mp hp with hp|hp
   ·obtain⟨x,s,e⟩:=c p hp
    exact⟨j,x::s,BP5 _,e⟩
   ·obtain⟨k,s,n,e⟩:=f p hp
    exact⟨k,s,by lia,e⟩
  ·obtain⟨x,s,e⟩:=c p hp
   obtain⟨k,q,n,o⟩:=f m d
   rw[e,o]
   exact LQ a j k _ _ (by lia)
end
def Bn (n:Nat)(p:List Int):Prop:=p.length<=n/\∀x∈p,0<=x/\x<=1000
theorem Bn.app {n:Nat}(h:Bn n p){k:Nat}(b:k<=1000):Bn (n+1) (p++[(k:Int)]):=by
 refine⟨by have:=h.1;simp;exact this,fun x a=>?_⟩
 rcases List.mem_append.mp a with z|z
 ·exact h.2 x z
 ·have:=List.mem_singleton.mp z
  lia
theorem Bn.mono {n m:Nat}(h:Bn n p)(a:n<=m):Bn m p:=⟨BS7 h.1 a,h.2⟩
mutual
theorem RR:∀(b:Blk) (ah:List Int) (i n:Nat),okB b->i+C9 b<=1000->Bn n ah->∀p∈plB b ah i,Bn (n+1+2*dpB b) p
 | .nil,ah,i,n,_,_,_,p,hp=>by simp only[plB] at hp;cases hp
 | .cons d r,ah,i,n,c,e,a,p,hp=>by
  have f:C9 (.cons d r)=F8 d+C9 r:=rfl
  have g:dpB (.cons d r)=max (dpD d) (dpB r):=rfl
  have h:=P5 d
  simp only[plB] at hp
  rcases BU1.mp hp with rfl|hp
  ·exact(a.app (by lia)).mono (by lia)
  ·rcases List.mem_append.mp hp with hp|hp
   ·exact(BD2 d (ah++[(i:Int)]) (n+1) c.1 (by lia) (a.app (by lia)) p hp).mono (by lia)
   ·exact(RR r ah (i+1) n c.2 (by lia) a p hp).mono (by lia)
theorem BD2:∀(d:Deed) (a:List Int) (n:Nat),okD d->F8 d<=1000->Bn n a->∀p∈plD d a,Bn (n+2*dpD d) p
 | .mk h bs,a,n,b,f,e,p,c=>by
  have g:F8 (.mk h bs)=1+G9 bs:=rfl
  have i:dpD (.mk h bs)=L8 bs:=rfl
  have j:=AL2 b.1
  simp only[plD] at c
  exact UR bs a 0 n b.2 (by lia) (by lia) e p c
theorem UR:∀(bs:Bls) (a:List Int) (j n:Nat),XC bs->j+bsl bs<=1000->G9 bs<=1000->Bn n a->∀p∈P7 bs a j,Bn (n+2*L8 bs) p
 | .nil,a,j,n,_,_,_,_,p,hp=>by simp only[P7] at hp;cases hp
 | .cons b r,a,j,n,c,e,f,d,p,hp=>by
  have g:G9 (.cons b r)=C9 b+G9 r:=rfl
  have h:L8 (.cons b r)=max (1+dpB b) (L8 r):=rfl
  have i:bsl (.cons b r)=bsl r+1:=rfl
  simp only[P7] at hp
  rcases List.mem_append.mp hp with hp|hp
  ·exact(RR b (a++[(j:Int)]) 0 (n+1) c.1 (by lia) (d.app (by lia)) p hp).mono (by lia)
  ·exact(UR r a (j+1) n c.2 (by lia) (by lia) d p hp).mono (by lia)
end
theorem AR9 {tas:TA3}{R:List D->Mem->Prop}(h:tas σ M fun ds M1=>∃i j:Int,ds=[.int i,.int j]/\(-(2^62)<=i/\i<2^62/\-(2^62)<=j/\j<2^62)/\R ((BS8 (j-i).toNat).map fun k=>D.int (i+(k:Nat))) M1):FS tas σ M R:=h
end K11
namespace L2
open PySem PySem.Spec PyProof.Rows
def AW1 (lo c:Int)(n:Nat):It:={go:=fun i _=>i<n,yld:=fun i H x H'=>H'=H/\x=V.int (lo+(i:Nat)*c),stop:=fun i _=>n<=i}
theorem QK (it:Addr)(lo c:Int)(n:Nat):Turn P w K tg (AW1 lo c n) [it] it (fun i h=>IsRangeIter h it (lo+(i:Nat)*c) ((n:Int)-(i:Nat)) c) where
 mem:=by simp
 obj:=fun i h st b d=>by
  have e:b=it:=by simpa using d
  subst e
  exact⟨_,st,fun v z=>by
   have F:Data.fields _=Data.cell v:=z
   cases F⟩
 keep:=fun i h g st k=>k it (by simp) _ st
 item:=by
  intro X l m p q i a s C H E I j st r
  subst l m p
  obtain⟨u,x,G,y,A,B⟩:=j it (by simp)
  have W:=Walks.range (prog:=X.prog) (w:=X.w) (I.ok.hd q) it lo c n
  refine W.item i s _ _ r st fun v g D J f L=>?_
  obtain⟨t,rfl⟩:=J
  have M:Inv X a C H {s with heap:=g,toks:=D}:=I.turned (fun b o d e=>L b o (by simpa using d) e) u x y A B
  exact⟨_,rfl,OK (s:={s with heap:=g,toks:=D}) (n:="range_iterator") f rfl rfl (by decide) ⟨.int (lo+(i:Nat)*c),H,M,⟨t,rfl⟩,⟨rfl,rfl⟩,f,fun b d=>(j b d).1⟩⟩
 done:=by
  intro X l m p q i a s C H E I j st r
  subst l m p
  obtain⟨u,x,G,y,A,B⟩:=j it (by simp)
  exact wpAny_pyNext_range_end (I.ok.hd q) st (by have:n<=i:=r;lia) fun g N=>⟨rfl,I.turned (t':=s.toks) (fun b o d e=>N b o d e) u x y A B⟩
 self:=fun _ _ _ _ _ st h=>wpAny_pyIter_rangeiter st h
section
variable {X:Cx}{tg:Expr}
theorem XY {σ:St}{R:It->Hp->Prop}{E:Value->BP9->Prop}{lo hi c:Int}{t u v:Tok}{tk:Nat}(I:Inv X pins σ H s)(hs:BY9 lo hi c=true)(h:0<=BQ8 lo hi c)
  (q:R (AW1 lo c (BQ8 lo hi c).toNat) H):wpAny (model X.prog X.w) X.A (pyIter (.ref s.heap.objs.size)) (PIE X pins σ tg R) E {s with heap:=s.heap.push {cls:=.type "range",data:=.fields #[.int lo t,.int hi u,.int c v]},toks:=tk}:=by
 refine wpAny_pyIter_range (IsRange.new ..) hs ?_
 have a:Inv X pins σ H {s with heap:=s.heap.push {cls:=.type "range",data:=.fields #[.int lo t,.int hi u,.int c v]},toks:=tk}:=I.kept fun b o e=>BP4 _ e
 refine⟨(s.heap.push {cls:=.type "range",data:=.fields #[.int lo t,.int hi u,.int c v]}).objs.size,[(s.heap.push {cls:=.type "range",data:=.fields #[.int lo t,.int hi u,.int c v]}).objs.size],_,_,H,rfl,
  a.kept (t':=tk) fun b o e=>BP4 _ e,QK _ lo c (BQ8 lo hi c).toNat,?_,fun b d=>?_,q⟩
 ·have f:lo+((0:Nat):Int)*c=lo:=by simp
  have g:(((BQ8 lo hi c).toNat:Nat):Int)-((0:Nat):Int)=BQ8 lo hi c:=by lia
  show IsRangeIter _ _ (lo+((0:Nat):Int)*c) ((((BQ8 lo hi c).toNat:Nat):Int)-((0:Nat):Int)) c
  rw[f,g]
  exact BR2 _ rfl
 ·have e:b=(s.heap.push {cls:=.type "range",data:=.fields #[.int lo t,.int hi u,.int c v]}).objs.size:=by simpa using d
  subst e
  exact a.fpOk (BP5 _) (a.hok.fresh (BP5 _))
def AZ0 (ta:TA):TI:=fun σ H R=>ta σ H fun vs H1=>∃i j c:Int,vs=[.int i,.int j,.int c]/\(c≠0/\BY1 (j-i) c=false/\BY9 i j c=true/\0<=BQ8 i j c)/\R (AW1 i c (BQ8 i j c).toNat) H1
theorem XQ {a b c:Expr}{ta:TA}{p:Pos}(m:Gl X "range")(n:X.mg "range"=none)(o:PA X [a,b,c] ta)(hs:BR9 [a,b,c] X.env=(false,eval a X.env)::BR9 [b,c] X.env:=by rfl) (g:((CD9 pos (BR9 [b,c] X.env)).any (·.1))=false:=by rfl) :
  PI X tg (.Call (.Name "range" p) [a,b,c] [] pos) (AZ0 ta):=by
 intro d s u H R I h
 refine Call_ (AI I m n boot_range (BV9 (thn (o pos d s u H _ I h) fun C D ⟨E,F,v,w,k⟩=>?_) hs g))
 obtain⟨i,j,c,e,⟨k,x,y,z⟩,q⟩:=k
 subst e
 cases w with
 | cons r f =>
  cases f with
  | cons A f =>
   cases f with
   | cons l f =>
    cases f
    obtain⟨t,rfl⟩:=r
    obtain⟨G,rfl⟩:=A
    obtain⟨B,rfl⟩:=l
    exact call_range_3 k (XY v y z q) (.inl x)
end
end L2
namespace L3
open PySem PySem.Spec PyProof.Rows L2
section
variable {X:Cx}{a b c e:Expr}{t:TA3}{te:TE3}{p pos:Pos}
def LL (ta:TA3):TI3:=fun σ M R=>ta σ M fun ds M1=>∃i j c:Int,ds=[.int i,.int j,.int c]/\(c≠0/\BY1 (j-i) c=false/\BY9 i j c=true/\0<=BQ8 i j c)/\R ((BS8 (BQ8 i j c).toNat).map fun k=>D.int (i+(k:Nat)*c)) M1
theorem RQ (s:Gl X "range")(u:X.mg "range"=none)(v:PA3 X [a,b,c] t)(hs:BR9 [a,b,c] X.env=(false,eval a X.env)::BR9 [b,c] X.env:=by rfl) (g:((CD9 pos (BR9 [b,c] X.env)).any (·.1))=false:=by rfl) :
  PI3 X tg (.Call (.Name "range" p) [a,b,c] [] pos) (LL t) :=
 PI.weak (XQ s u v.dn hs g) fun w H R2 l=>by
  obtain⟨y,M,R,z,A,h,k⟩:=l
  refine⟨y,M,_,z,A,h,fun T U B C st m r q=>?_⟩
  obtain⟨i,j,c,rfl,⟨D,E,F,G⟩,q⟩:=q
  cases r with
  | cons I J =>
   cases I
   cases J with
   | cons K L =>
    cases K
    cases L with
    | cons N O =>
    cases N
    cases O
    refine⟨i,j,c,rfl,⟨D,E,F,G⟩,k _ _ B C st m (fun V W Y=>⟨fun n o=>?_,fun n d x Z f P=>?_,fun n o=>?_⟩) q⟩
    ·show n<(BQ8 i j c).toNat
     simpa using o
    ·obtain⟨rfl,rfl⟩:=P
     refine⟨rfl,?_⟩
     rw[BQ3] at f
     cases e:(BS8 (BQ8 i j c).toNat)[n]? with
     | none=>rw[e] at f;cases f
     | some Q =>
      rw[e] at f
      have S:Q=n:=by
       rw[BX6] at e
       ·exact(Option.some.inj e).symm
       ·have:=(List.getElem?_eq_some_iff.mp e).1;simpa using this
      subst S
      cases f
      exact .int
    ·show(BQ8 i j c).toNat<=n
     simpa using o
def AO (te:TE3):TE3:=fun σ M Q=>te σ M fun d M1=>∃p xs,d=.ref p/\M1 p=some (.lst xs)/\Q (.lst xs) (J1 M1 p)
theorem PC (h:PE3 X e te):PE3 X e (AO te):=by
 intro a s b H j M Q I k l m
 refine thn (h a s b H j M _ I k l m) fun u B c=>?_
 obtain⟨x,g,n,i,o,d,m1,f,r,t⟩:=c
 obtain⟨p,v,rfl,w,q⟩:=t
 obtain⟨y,z,A⟩:=Vs.frzL w X.K i g m1 r
 exact⟨.lst v,g,J1 n p,i,o,d.less A,y,f,z,q⟩
end
end L3
namespace HT
open PySem PySem.Spec PyProof.Rows
theorem TQ {α a:Type}{f:α->Option a}{g:α->a}:∀l:List α,(∀x∈l,f x=some (g x))->l.filterMap f=l.map g
 | [],_=>rfl
 | x::l,h=>by rw[CC7,h x BQ7,BR7,TQ l fun y b=>h y (BQ4 _ b)]
theorem PF (its:Array Value)(f:Nat->Nat)(c:∀k,k<its.size->f k=its.size-1-k):((BS8 its.size).filterMap fun k=>its[f k]?)=its.toList.reverse:=by
 have d:∀x∈BS8 its.size,its[f x]?=some (its.toList.reverse.getD x .none):=fun x e=>by
  have a:x<its.size:=by simpa using e
  have g:its.toList.reverse[x]?=its.toList[its.toList.length-1-x]?:=List.getElem?_reverse (by simpa using a)
  rw[c x a,BV4,g]
  have b:its.size-1-x<its.size:=by lia
  simp[b]
 rw[TQ _ d]
 refine List.ext_getElem (by simp) fun i l h=>?_
 have j:=BQ2 h
 rw[List.getElem_map,List.getElem_range,BV4,j]
 rfl
section
variable {prog:BT5}{w:World}{A:BY4}{E:Value->BP9->Prop}{s:BP9}
theorem II (its:Array Value):slicePick its none none (some (-1))=its.toList.reverse.toArray:=by
 have d:(CC0 none none (some (-1)) its.size)=((its.size:Int)-1,-1,-1):=rfl
 unfold slicePick
 show(List.filterMap (fun x=>its[x]?) (sliceRange ((its.size:Int)-1) (-1) (-1))).toArray=_
 have a:sliceRange ((its.size:Int)-1) (-1) (-1)=(BS8 its.size).map fun k=>its.size-1-k:=by
  unfold sliceRange
  have b:((if (-1:Int)>0 then if (its.size:Int)-1 < -1 then(-1-((its.size:Int)-1) + -1-1) / -1 else 0 else if (its.size:Int)-1 > -1 then((its.size:Int)-1 - -1 - -1-1) / - -1 else 0)).toNat=its.size:=by
   rw[if_neg (by decide)]
   split
   ·have:((its.size:Int)-1 - -1 - -1-1) / - -1=its.size:=by
     have e:((- -1:Int))=1:=rfl
     rw[e,Int.ediv_one];lia
    lia
   ·lia
  simp only[b]
  refine List.map_congr_left fun k c=>?_
  have:k<its.size:=by simpa using c
  lia
 rw[a,List.filterMap_map]
 congr 1
 exact PF its _ fun k _=>rfl
theorem CV {t:Tok}{n:Nat}{Q:Int×Int×Nat->BP9->Prop}(hs:s.heap.IsSliceOf sl .none .none (.int (-1) t))
  (h:Q ((n:Int)-1,-1,n) s):wpAny (model prog w) A (Builtin.Slice.sliceApplied (.ref sl) (pure (n:Int))) Q E s:=by
 obtain⟨os,a,c,b⟩:=id hs
 refine BP2 (BP2 (BZ7 a b (x:=.none) rfl (BP2 (BZ7 a b (x:=.none) rfl (BP2 (BZ7 a b (x:=.int (-1) t) rfl (BP6 ?_)))))))
 refine BP2 (slicePart_int ?_)
 have f:BW3 none none (-1) (n:Int)=((n:Int)-1,-1):=rfl
 show wpAny _ _ (match BW3 none none (-1) (n:Int) with|(lo,hi)=>pure (lo,(-1:Int),BT7 lo hi (-1))) _ _ s
 show wpAny _ _ (pure ((n:Int)-1,(-1:Int),BT7 ((n:Int)-1) (-1) (-1))) _ _ s
 have d:BT7 ((n:Int)-1) (-1) (-1)=n:=by
  unfold BT7
  rw[if_neg (by decide)]
  split
  ·have e:((- -1:Int))=1:=rfl
   lia
  ·lia
 rw[d]
 exact BP6 h
theorem BC {tk:Tok}(b:IsTup s.heap t items)(hs:s.heap.IsSliceOf sl .none .none (.int (-1) tk))
  (h:Q (.ref s.heap.objs.size) {s with heap:=s.heap.push {cls:=.type "tuple",data:=.seq items.toList.reverse.toArray}})
  (hsz:items.size<=BQ6):wpAny (model prog w) A (CE6 (.ref t) (.ref sl)) Q E s:=by
 have a:sizeOk (.seq items.toList.reverse.toArray):=by
  show items.toList.reverse.toArray.size<=BQ6
  rw[BR1,CC5,CC4]
  exact hsz
 obtain⟨os,c,d,g⟩:=id hs
 have e:s.TypeIs (.ref sl) "slice":=⟨os,c,d⟩
 unfold CE6
 try with_reducible refine BU9 ?_
 refine BP2 (wpAny_sequenceKey b.typeIs (by decide) ?_)
 refine BP2 (BY5 (name:=Str.ofString "__getitem__") b.typeIs BU4
  (CC8 BU4 b.typeIs entry_tuple_getitem ?_ (args_tuple_getitem _ _)))
 show wpAny _ _ (BY2 (.ref t) >>= _) _ _ s
 refine BP2 (tupleItemsOf_ b ?_)
 refine BP2 (wpAny_typeOf e ?_)
 refine BP2 (CV hs ?_)
 have f:¬((((items.size:Int)-1==0 && (-1:Int)==1 && items.size==items.size))=true):=by simp
 show wpAny _ _ (if ((items.size:Int)-1==0 && (-1:Int)==1 && items.size==items.size)=true then _ else _) _ _ s
 have i:((BS8 items.size).filterMap fun(m:Nat)=>items[((items.size:Int)-1+(m:Int) * -1).toNat]?).toArray=items.toList.reverse.toArray:=by
  congr 1
  exact PF items _ fun k j=>by lia
 rw[if_neg f,i]
 first
  | exact BP2 (m:=BT9 _) (BT4 (BP6 ⟨_,rfl,BP6 h⟩) a)
  | exact BP2 (m:=BT9 _) (BT4 (BP2 (BP6 (BP6 ⟨_,rfl,BP6 h⟩))) a)
  | exact BP2 (BP2 (m:=BT9 _) (BT4 (BP6 (BP6 ⟨_,rfl,BP6 h⟩)) a))
  | exact BP2 (BP2 (m:=BT9 _) (BT4 (BP6 ⟨_,rfl,BP6 h⟩) a))
end
end HT
namespace L3
open PySem PySem.Spec PyProof.Rows L2
theorem HP:∀{xs:List V} {us:List Value},Vals xs us->Vals xs.reverse us.reverse
 | _,_,.nil=>.nil
 | _,_,.cons h r=>by
  rw[CE2,CE2]
  exact(HP r).append (.cons h .nil)
theorem Reps.rev:∀{ds:List D} {vs:List V},Reps K M H ds vs->Reps K M H ds.reverse vs.reverse
 | _,_,.nil=>.nil
 | _,_,.cons h r=>by
  rw[CE2,CE2]
  exact Reps.append (Reps.rev r) (.cons h .nil)
section
variable {X:Cx}{e st:Expr}{te:TE3}{ts:TO3}{pos p2:Pos}
def UZ:D->Mem->DK->Prop:=fun x M Q=>match x with
 | .lst ds=>Q (.lst ds.reverse) M
 | .tup ds=>Q (.tup ds.reverse) M
 | _=>False
def JY (te:TE3)(ts:TO3):TE3:=fun σ M Q=>te σ M fun x M1=>ts σ M1 fun o M2=>o=some (-1)/\UZ x M2 Q
theorem UQ (J:PE3 X e te)(w:PO3 X (some st) ts):PE3 X (.Subscript e (.Slice none none (some st) p2) pos) (JY te ts):=by
 intro a s f H C M Q I D K h
 refine Subscript_ (thn (J a s f H C M _ I D K h) fun v L ⟨x,Y,N,O,P,g,m1,m,R,S⟩=>?_)
 refine wpAny_Slice ?_
 refine BP6 ?_
 refine BP6 ?_
 refine thn (w a L f O C N _ P (D.mono g) m1 S) fun Z c y=>?_
 obtain⟨o,E,T,U,i,m2,V,W,z⟩:=y
 subst W
 cases V with
 | int _ u =>
 have j:Inv X a f T {c with heap:=c.heap.push {cls:=.type "slice",data:=.fields #[.none,.none,.int (-1) u]}}:=U.kept (t':=c.toks) fun b F q=>BP4 _ q
 have k:({c with heap:=c.heap.push {cls:=.type "slice",data:=.fields #[.none,.none,.int (-1) u]}}:BP9).heap.IsSliceOf c.heap.objs.size .none .none (.int (-1) u):=CB5 ..
 have G:=R.mono i
 generalize ({c with heap:=c.heap.push {cls:=.type "slice",data:=.fields #[.none,.none,.int (-1) u]}}:BP9)=s3 at j k ⊢
 cases x<;>first|exact(z:False).elim|skip
 ·cases G with
  | tup A r =>
  rename_i l
  cases m
  obtain⟨B,n,p,t⟩:=j.tuple (SqT.of3 A)
  refine tail_any (ops:=[_,.ref c.heap.objs.size]) p.typeIs PyProof.Rows.slot_tuple_getitem.lookup ?_ (by with_unfolding_all rfl)
  refine HT.BC p k ?_ (by rw[BR1,<-n.length];exact t)
  have d:=j.hok.fresh (BP5 _)
  refine⟨_,.ref s3.heap.objs.size,E,_,j.laid (t':=s3.toks) (o:=.tup l.reverse) (fun b F q=>BP4 _ q) (BP5 _) ⟨by rw[CC5];exact t,_,HP n,IsTup.new _ _⟩,(g.trans i).trans (Step.lay d),m2.lay d,rfl,.tup (.inl ⟨.inl D5,m2.free d⟩) ((Reps.rev r).mono (Step.lay d)),z⟩
 ·cases G with
  | lst A r =>
  rename_i l
  cases m
  obtain⟨B,n,p,t⟩:=j.list (SqL.of3 A)
  refine tail_any (ops:=[_,.ref c.heap.objs.size]) p.isList.typeIs slot_list_getitem.lookup ?_ (by with_unfolding_all rfl)
  refine wpAny_getItem_list_slice p.isList k .none .none (.int _ _) (by simp) ?_ (by rw[BR1,<-n.length];exact t)
  rw[HT.II]
  have d:=j.hok.fresh (BP5 _)
  refine⟨_,.ref s3.heap.objs.size,E,_,j.laid (t':=s3.toks) (o:=.lst l.reverse) (fun b F q=>BP4 _ q) (BP5 _) ⟨by rw[CC5];exact t,_,0,HP n,BR2 _ rfl⟩,(g.trans i).trans (Step.lay d),m2.lay d,rfl,.lst (.inl ⟨.inl D5,m2.free d⟩) ((Reps.rev r).mono (Step.lay d)),z⟩
end
end L3
namespace K12
open PySem L2 L3 MK K11
mutual
def prB:Blk->List Int->Nat->List (List Int×Deed)
 | .nil,_,_=>[]
 | .cons d r,ah,i=>(ah++[(i:Int)],d)::(prD d (ah++[(i:Int)])++prB r ah (i+1))
def prD:Deed->List Int->List (List Int×Deed)
 | .mk _ bs,pl=>ID bs pl 0
def ID:Bls->List Int->Nat->List (List Int×Deed)
 | .nil,_,_=>[]
 | .cons b r,pl,j=>prB b (pl++[(j:Int)]) 0++ID r pl (j+1)
end
def E5:Head->Str
 | .leaf h _=>h
 | .ife _=>"if"
 | .whl _=>"while"
 | .tr _=>"try"
def isSt:Deed->Bool
 | .mk h _=>E5 h=="give" || E5 h=="on"
def nl:D->Nat
 | .tup xs=>xs.length
 | _=>0
def hasL:Deed->Bool
 | .mk (.tr cs) bs=>decide (0<nl ((dTs bs).getD (cs.length+1) (.tup [])))
 | _=>false
def stB (f:Deed->Bool)(b:Blk):List (List Int):=((prB b [] 0).filter fun x=>f x.2).map Prod.fst
def W1 (r:Rl):Prop:=okB r.blk/\dpB r.blk<=4/\C9 r.blk<=100
def spDeedAt:Sp3:=fun ds M Q=>∃r p d,ds=[rD r,plT p]/\W1 r/\(p,d)∈prB r.blk [] 0/\Q (dD d) M
def spTold (f:Deed->Bool):Sp3:=fun ds M Q=>∃d,ds=[dD d]/\okD d/\Q (.bl (f d)) M
def spSome (f:Deed->Bool):Sp3:=fun ds M Q=>∃r,ds=[rD r]/\W1 r/\∀a M',M a=none->M' a=some (.lst ((stB f r.blk).map plT))->(∀x,x≠a->M' x=M x)->Q (.ref a) M'
end K12
namespace K12
open PySem L2 L3
abbrev IM:List Str:=["rule","place","deed","at"]
def KA:TS3 :=
  (A8 (B8 2 (A6 B7 (A6 B7 (A4 0) (tC3 (.int 2))) (A6 B7 (A4 1) (tC3 (.int 0)))))
  (A8 (O4 (LL (A0 (tC3 (.int 1)) (A0 (F2 E2 (A0 (A4 1) A5)) (A0 (tC3 (.int 2)) A5)))) 3 (B8 2 (A6 B7 (A6 B7 (A7 MK.BK (A0 (A4 2) A5)) (A6 B7 (A4 1) (A4 3))) (A6 B7 (A4 1) (A6 D0 (A4 3) (tC3 (.int 1)))))))
  (B4 (A4 2))))
theorem SG (d0 a:D):B9 IM [d0,a]=[some d0,some a,none,none]:=rfl
abbrev FA:List Str:=["deed"]
def HH:TS3 :=
  (B4 (JW (A6 D6 (A6 B7 (A4 0) (tC3 (.int 0))) (tC3 (.str "give"))) (A6 D6 (A6 B7 (A4 0) (tC3 (.int 0))) (tC3 (.str "on")))))
theorem PY (d0:D):B9 FA [d0]=[some d0]:=rfl
abbrev DA:List Str:=["deed"]
def DY:TS3 :=
  (B4 (U2 (A6 D6 (A6 B7 (A4 0) (tC3 (.int 0))) (tC3 (.str "try"))) (A6 GK (F2 E2 (A0 (A6 B7 (A4 0) (tC3 (.int 3))) A5)) (tC3 (.int 0)))))
theorem NC (d0:D):B9 DA [d0]=[some d0]:=rfl
abbrev DC:List Str:=["rule"]
def EA:TS3 :=
  (B4 (EW (O1 (AO (A7 K11.spPlacesR (A0 (A4 0) A5)))) 1 [0] (J0 0) (B1 (A7 (spTold isSt) (A0 (A7 spDeedAt (A0 (A4 1) (A0 (A4 0) A5))) A5))) (A4 0)))
theorem NE (d0:D):B9 DC [d0]=[some d0]:=rfl
end K12
namespace L3
open PySem PySem.Spec PyProof.Rows L2
def isStar:Expr->Bool
 | .Starred ..=>true
 | _=>false
theorem F1 (h:isStar e=false)(es:List Expr)(env:Env):BR9 (e::es) env=(false,eval e env)::BR9 es env:=by
 cases e<;>first|rfl|cases h
theorem BK5 {X:Cx}{t:TA3}(a:PE3 X e te)(b:PA3 X es t)(hs:isStar e=false:=by rfl):PA3 X (e::es) (A0 te t):=OY a b (F1 hs es _)
section
variable {X:Cx}{e i:Expr}{te ti:TE3}{pos:Pos}
def AV4 (i:Nat)(te:TE3):TS3:=fun T σ M=>∃a,σ[i]?=some (some (.int a))/\te σ M fun d M1=>∃b,d=.int b/\T.nx (σ.set i (some (.int (a+b)))) M1
theorem AQ4 {i:Nat}{pos':Pos}(g:X.N.Nodup)(hi:X.N[i]?=some x)(j:Loc X.env.scope x)(k:PE3 X e te)(l:X.fn x=true\/X.env.scope.names.lookup x=some .local:=by first|exact .inl rfl|exact .inr rfl|assumption) :
  PS3 X (.AugAssign (.Name x pos') .Add e pos) (AV4 i te):=PS3.of (BD8 g hi j k.dn AZ1 l) fun f s n H o M T I c p h=>by
 obtain⟨a,t,h⟩:=h
 obtain⟨v,u,r⟩:=c.get _ _ t
 cases r
 refine⟨.int a,u,o,M,_,c,p,h,fun d v w y st m r q=>?_⟩
 obtain⟨b,rfl,q⟩:=q
 cases r
 exact⟨a,b,rfl,rfl,_,w,st,m,(c.mono st).set .int _,q⟩
def OQ (M:Mem)(x:D)(ds:List D):Prop:=x=.lst ds\/∃a,x=.ref a/\M a=some (.lst ds)
theorem OR {x:D}(m:MRel K M H)(r:Rep K M H x v)(e:OQ M x ds):∃p vs,v=.ref p/\SqL K H p vs/\Reps K M H ds vs:=by
 rcases e with rfl|⟨a,rfl,b⟩
 ·cases r with|lst h r=>exact⟨_,_,rfl,SqL.of3 h,r⟩
 ·cases r
  obtain⟨c,d,r⟩:=m _ _ b
  cases c<;>first|exact(r:False).elim|skip
  exact⟨_,_,rfl,.inl (.inl d),r⟩
def G5:R3:=fun x y M Q=>∃ds es,OQ M x ds/\OQ M y es/\ds.length+es.length<=BQ6/\∀p,M p=none->Q (.ref p) (D8 M p (.lst (ds++es)))
theorem AM7:OpR3 X (BY6 .Add) G5:=by
 rintro j s D H M x y xv yv v u Q I m E G J K ⟨L,N,O,P,hz,q⟩
 obtain⟨k,R,rfl,S,l⟩:=OR m J O
 obtain⟨o,T,rfl,U,p⟩:=OR m K P
 cases E;cases G
 obtain⟨b,r,k,z1⟩:=I.list S
 obtain⟨a,t,o,z2⟩:=I.list U
 obtain⟨⟨V,W,w,Y⟩,z,A,n,B⟩:=k.isList
 obtain⟨⟨C,f,g,h⟩,c,d,Z,e⟩:=o.isList
 simp only at A B d e
 subst A B d e
 have l1:=l.length
 have l2:=p.length
 have l3:=r.length
 have l4:=t.length
 refine concat_meets ⟨_,z,rfl⟩ ⟨_,c,rfl⟩ noFill_list_add seq_list_add PySem.F.slot_list_add PySem.F.entry_list_add (PySem.F.args_list_add_2 _ _) (list_addW _ _ _ _ n Z W f Y h (by simp;lia)) ⟨z,c,?_⟩
 have ea:b.toArray++a.toArray=(b++a).toArray:=by simp
 rw[ea]
 have i:=I.fresh
 have rr:=l.append p
 exact⟨.ref s.heap.objs.size,.ref s.heap.objs.size,D8 M s.heap.objs.size (.lst (L++N)),_,I.lnew (t':=s.toks) (r.append t) (by rw[BP7];lia),Step.put (.inl i),m.put (.inl i) rr,rfl,.ref,q _ (m.free i)⟩
theorem K9 {x:D}{es:List D}{Q:DK}(a:OQ M x ds)(b:OQ M y es)(c:ds.length+es.length<=BQ6)(h:∀p,M p=none->Q (.ref p) (D8 M p (.lst (ds++es)))):G5 x y M Q:=⟨ds,es,a,b,c,h⟩
def BN8 (P:Params)(r:Str×Tok×Addr):DictEntry:=⟨BT8 P r.1,.str r.1 r.2.1,.ref r.2.2⟩
inductive GRows (K:BP3):List (Str×Tok×Addr)->List (Str×List Str)->Prop
 | nil:GRows K [] []
 | cons {s:Str} {t:Tok} {b:Addr} {xs:List Str} {rows:List (Str×Tok×Addr)} {tbl:List (Str×List Str)}:AW2 K b (xs.map V.str)->GRows K rows tbl->GRows K ((s,t,b)::rows) ((s,xs)::tbl)
def AS8 (K:BP3)(P:Params)(a:Addr)(tbl:List (Str×List Str)):Prop:=∃(rows:List (Str×Tok×Addr)) (ep:Nat),K.lookup a=some ⟨.type "dict",none,.dict (rows.map (BN8 P)).toArray ep,#[]⟩/\(rows.map (·.1)).Nodup/\GRows K rows tbl
end
end L3
namespace PySem.SeqAt
open AutoSeq1 (wpAny_loadPart')
open MeetsSeq
end PySem.SeqAt
namespace HT
open PySem PySem.Spec PyProof.Rows L2
theorem Z1 {E:Value->BP9->Prop}{f g:Value}(a:IsTup s.heap t items)(hs:s.heap.IsSliceOf sl f g .none)(j:IsPart f lo)(k:IsPart g hi)
  (i:sIx items.size 0 lo=0/\sIx items.size items.size hi=items.size) (h:Q (.ref t) s):wpAny (model prog w) A (CE6 (.ref t) (.ref sl)) Q E s:=by
 obtain⟨os,c,d,l⟩:=id hs
 have e:s.TypeIs (.ref sl) "slice":=⟨os,c,d⟩
 unfold CE6
 try with_reducible refine BU9 ?_
 refine BP2 (wpAny_sequenceKey a.typeIs (by decide) ?_)
 refine BP2 (BY5 (name:=Str.ofString "__getitem__") a.typeIs BU4
  (CC8 BU4 a.typeIs entry_tuple_getitem ?_ (args_tuple_getitem _ _)))
 show wpAny _ _ (BY2 (.ref t) >>= _) _ _ s
 refine BP2 (tupleItemsOf_ a ?_)
 refine BP2 (wpAny_typeOf e ?_)
 refine BP2 (S3 hs j k ?_)
 have b:(((sIx items.size 0 lo:Nat):Int)==0 && (1:Int)==1 && (sIx items.size items.size hi-sIx items.size 0 lo)==items.size)=true:=by
  rw[i.1,i.2];simp
 show wpAny _ _ (if (((sIx items.size 0 lo:Nat):Int)==0 && (1:Int)==1 && (sIx items.size items.size hi-sIx items.size 0 lo)==items.size)=true then _ else _) _ _ s
 rw[if_pos b]
 refine BP2 ?_
 first
  | exact wpAny_typeOf a.typeIs (by rw[if_pos (by decide)];exact BP2 (wpAny_rule (BP6 ⟨_,rfl,BP6 h⟩)))
  | exact BP2 (wpAny_typeOf a.typeIs (BP6 (by exact BP2 (wpAny_rule (BP6 ⟨_,rfl,BP6 h⟩)))))
end HT
namespace L3
open PySem PySem.Spec PyProof.Rows L2
section
variable {X:Cx}{pins:List (Addr×Obj)}{σv:L2.St}{M:Mem}{H:Hp}{s:BP9}
end
section
variable {X:Cx}{e:Expr}{te:TE3}{pos:Pos}
def AU7 (K:BP3):V->Option Int->Option Int->Hp->VK->Prop:=fun x lo hi H Q=>∃a xs,x=.ref a/\SqT K H a xs /\
 (HT.sIx xs.length 0 lo=0/\HT.sIx xs.length xs.length hi=xs.length)/\Q (.ref a) H
theorem AS3:SlR X (AU7 X.K):=by
 intro d s n H x v o p lo t u Q I f g i j h
 obtain⟨a,k,rfl,l,m,q⟩:=h
 cases f
 obtain⟨c,r,e,w⟩:=I.tuple l
 have b:c.toArray.size=k.length:=by rw[BR1];exact r.length.symm
 refine⟨"tuple",_,PyProof.Rows.slot_tuple_getitem.lookup,e.typeIs,?_⟩
 exact HT.Z1 e g i j (by rw[b];exact m) ⟨.ref a,H,I,rfl,q⟩
def Z6:D->Option Int->Option Int->Mem->DK->Prop:=fun x lo hi M Q=>match x with
 | .lst ds=>Q (.lst (cutD ds lo hi)) M
 | .tup ds=>Q (.tup (cutD ds lo hi)) M
 | .str z=>z.length<=BQ6/\Q (.str (Txt.slice z lo hi)) M
 | _=>False
def BO (te:TE3)(tl th:TO3):TE3:=fun σ M Q=>te σ M fun x M1=>tl σ M1 fun l M2=>th σ M2 fun u M3=>Z6 x l u M3 Q
theorem WF (h:HT.sIx ds.length 0 lo=0/\HT.sIx ds.length ds.length hi=ds.length):cutD ds lo hi=ds:=by
 unfold cutD
 rw[h.1,h.2]
 simp
theorem AO3 {lo hi:Option Expr}{tl th:TO3}{p2:Pos}(G:PE3 X e te)(J:PO3 X lo tl)(L:PO3 X hi th) :
  PE3 X (.Subscript e (.Slice lo hi none p2) pos) (BO te tl th):=by
 intro a s c H y M Q I A N h
 refine Subscript_ (thn (G a s c H y M _ I A N h) fun v O ⟨x,n,P,R,S,i,m1,B,U,V⟩=>?_)
 refine wpAny_Slice (thn (J a O c R y P _ S (A.mono i) m1 V) fun C W ⟨l,Y,Z,I2,j,m2,pl,q2⟩=>thn (L a W c Z y Y _ I2 (A.mono (i.trans j)) m2 q2) fun D k ⟨u,M3,d,I3,o,m3,pu,f⟩=>?_)
 refine BP6 ?_
 have I4:Inv X a c d {k with heap:=k.heap.push {cls:=.type "slice",data:=.fields #[C,D,.none]}}:=I3.kept (t':=k.toks) fun b ob q=>BP4 _ q
 have E:=U.mono (j.trans o)
 have F:((AR4 X.K n l u d (Up X.K M3 d Q)\/AR5 X.K n l u d (Up X.K M3 d Q))\/BE4 n l u d (Up X.K M3 d Q))\/AU7 X.K n l u d (Up X.K M3 d Q):=by
  cases x with
  | str z =>
   cases E
   exact .inl (.inr ⟨_,rfl,f.1,up0 m3 .str f.2⟩)
  | tup m =>
   cases E with|tup t r =>
   by_cases w:HT.sIx m.length 0 l=0/\HT.sIx m.length m.length u=m.length
   ·have f:Q (.tup (cutD m l u)) M3:=f
    rw[WF w] at f
    exact .inr ⟨_,_,rfl,SqT.of3 t,by rw[<-r.length];exact w,up0 m3 (.tup t r) f⟩
   ·rw[r.length] at w
    exact .inl (.inl (.inr ⟨_,_,rfl,SqT.of3 t,w,fun p g=>⟨_,M3,Step.lay g,m3.lay g,.tup (.inl ⟨.inl D5,m3.free g⟩) ((r.cut l u).mono (Step.lay g)),f⟩⟩))
  | lst m =>
   cases E with|lst t r =>
   refine .inl (.inl (.inl ⟨_,_,rfl,SqL.of3 t,fun p g=>?_⟩))
   exact⟨_,M3,Step.lay g,m3.lay g,.lst (.inl ⟨.inl D5,m3.free g⟩) ((r.cut l u).mono (Step.lay g)),f⟩
  | _=>exact(f:False).elim
 obtain⟨T,id,hT,ht,hg⟩:=(((sl_list.or SF).or AI1).or AS3) a {k with heap:=k.heap.push {cls:=.type "slice",data:=.fields #[C,D,.none]}} c d n v C D l u k.heap.objs.size _ I4 B (CB5 ..) pl pu F
 exact tail_any (ops:=[.ref k.heap.objs.size,v]) ht hT (thn hg fun _ _ z=>(N2 z).trans ((i.trans j).trans o)) (by with_unfolding_all rfl)
end
theorem BO4 {X:Cx}{tl:TE}(m:PE X l tl):PI X tg l (fun σ H R=>tl σ H fun v H'=>∃a,v=.ref a/\(((∃xs,SqL X.K H' a xs)/\R (Itl X.K a) H')\/((∃xs,SqT X.K H' a xs)/\R (Itt X.K a) H'))):=by
 intro f s σ H R I h
 refine thn (m f s σ H _ I h) fun v c n=>?_
 obtain⟨x,k,d,r,a,rfl,q⟩:=n
 cases r
 rcases q with⟨⟨xs,i⟩,q⟩|⟨⟨xs,i⟩,q⟩
 ·obtain⟨g,t,p,u⟩:=d.list i
  refine wpAny_pyIter_list p.isList ?_
  refine⟨c.heap.objs.size,[c.heap.objs.size],_,_,k,rfl,d.kept (t':=c.toks) fun b o e=>BP4 _ e,KD a _,⟨_,BR2 _ rfl,rfl,rfl⟩,fun b j=>?_,q⟩
  have e:b=c.heap.objs.size:=by simpa using j
  subst e
  exact d.fpOk (BP5 _) (d.hok.fresh (BP5 _))
 ·obtain⟨g,t,p,u⟩:=d.tuple i
  refine CE5 (show c.heap.IsTuple a g.toArray from p) ?_
  refine⟨c.heap.objs.size,[c.heap.objs.size],_,_,k,rfl,d.kept (t':=c.toks) fun b o e=>BP4 _ e,HL a _,⟨_,BR2 _ rfl,rfl,rfl⟩,fun b j=>?_,q⟩
  have e:b=c.heap.objs.size:=by simpa using j
  subst e
  exact d.fpOk (BP5 _) (d.hok.fresh (BP5 _))
def onQ (R:List D->Mem->Prop):DK:=fun d M1=>match d with
 | .lst ds=>R ds M1
 | .tup ds=>R ds M1
 | _=>False
def iQ3 (te:TE3):TI3:=fun σ M R=>te σ M (onQ R)
theorem BK7 {X:Cx}{a:Expr}(A:PE3 X a te):PI3 X tg a (iQ3 te):=by
 refine PI.weak (BO4 A.dn) fun B H R2 p=>?_
 obtain⟨C,M,R,D,E,h,k⟩:=p
 refine⟨C,M,_,D,E,h,fun d v y z st m r q=>?_⟩
 cases r<;>first|exact(q:False).elim|skip
 ·rename_i s l b n t
  refine⟨s,rfl,.inr ⟨⟨b,SqT.of3 n⟩,k l _ y z st m (fun F G o=>?_) q⟩⟩
  have e:=SqT.of3 (n.imp (Fix.mono o) id)
  have f:=t.mono o
  refine⟨fun i g=>?_,fun i d x I u j=>?_,fun i g=>?_⟩
  ·obtain⟨v,c,_⟩:=f.get (i:=i) (d:=l[i]) (by simp[g])
   exact⟨b,v,e,c⟩
  ·obtain⟨rfl,j⟩:=j
   obtain⟨v,c,w⟩:=f.get u
   rw[j b e] at c
   cases c
   exact⟨rfl,w⟩
  ·exact⟨b,e,by rw[<-f.length];exact g⟩
 ·rename_i s l b n t
  refine⟨s,rfl,.inl ⟨⟨b,SqL.of3 n⟩,k l _ y z st m (fun F G o=>?_) q⟩⟩
  have e:=SqL.of3 (n.imp (Fix.mono o) id)
  have f:=t.mono o
  refine⟨fun i g=>?_,fun i d x I u j=>?_,fun i g=>?_⟩
  ·obtain⟨v,c,_⟩:=f.get (i:=i) (d:=l[i]) (by simp[g])
   exact⟨b,v,e,c⟩
  ·obtain⟨rfl,j⟩:=j
   obtain⟨v,c,w⟩:=f.get u
   rw[j b e] at c
   cases c
   exact⟨rfl,w⟩
  ·exact⟨b,e,by rw[<-f.length];exact g⟩
end L3
namespace L3
open PySem L2
instance rd_slW {te:TE3}{tl th:TO3}{σ:Lo}{M:Mem}{Q:DK}:RdC (BO te tl th σ M Q) (te σ M fun x M1=>tl σ M1 fun l M2=>th σ M2 fun u M3=>Z6 x l u M3 Q):=⟨fun h=>h⟩
instance rd_slWT {ds:List D}{l u:Option Int}{M:Mem}{Q:DK}:RdC (Z6 (.tup ds) l u M Q) (Q (.tup (cutD ds l u)) M):=⟨fun h=>h⟩
def YK (g:TG3)(tt:TT3)(te:TE3)(σ0:Lo)(ds:List D)(M1:Mem)(Q:DK):Prop:=∀p,M1 p=none->∃Pv:Nat->List D->Mem->Prop,Pv 0 [] (D8 M1 p (.lst [])) /\
 (∀k d acc M,ds[k]?=some d->Pv k acc M->g d σ0 M fun σ' M0=>tt σ' M0 fun b M' =>
  if b=true then te σ' M' fun e M''=>M'' p=some (.lst acc)/\acc.length<BQ6/\Pv (k+1) (acc++[e]) (D8 M'' p (.lst (acc++[e]))) else Pv (k+1) acc M') /\
 ∀acc M,Pv ds.length acc M->M p=some (.lst acc)/\Q (.ref p) M
instance rd_compM {ti:TI3}{n:Nat}{slots:List Nat}{g:TG3}{tt:TT3}{te:TE3}{σ:Lo}{M:Mem}{Q:DK}:RdC (EW ti n slots g tt te σ M Q) (ti σ M fun ds M1=>YK g tt te (BR6 n none++slots.map fun j=>(σ[j]?).getD none) ds M1 Q):=⟨fun h=>h⟩
theorem K0 {t:TG3}{M1:Mem}{Q:DK}(l:List α)(f g:α->D)(c:α->Bool)(y:l.length<BQ6)
  (m:∀a∈l,∀M2 (R:D->Mem->Prop) (F:Mem->Prop),(∀x,M1 x≠none->M2 x=M1 x)->(c a=true->R (g a) M2)->(c a=false->F M2)->t (f a) σ0 M2 fun n M3=>tt n M3 fun w M4=>if w=true then te n M4 R else F M4)
  (done:Q (.lst ((l.filter c).map g)) M1):SO t tt te σ0 (l.map f) M1 Q:=by
 intro p u
 refine⟨fun k i M2=>i=((l.take k).filter c).map g/\M2 p=some (.lst i)/\∀a,a≠p->M2 a=M1 a,⟨rfl,B0,fun a h=>B3 h⟩,?_,?_⟩
 ·rintro k d i M2 o ⟨rfl,e,b⟩
  have q:k<l.length:=by simpa using(List.getElem?_eq_some_iff.mp o).1
  have r:d=f l[k]:=by
   rw[BQ3,BQ2 q] at o
   exact(Option.some.inj o).symm
  subst r
  have j:(((l.take k).filter c).map g).length<=k:=by
   rw[BP1]
   exact BS7 (CB9 _ _) (by simp;lia)
  have v:l.take (k+1)=l.take k++[l[k]]:=by rw[BY3,BQ2 q];rfl
  refine m l[k] (BX9 q) M2 _ _ (fun a h=>b a (by rintro rfl;exact h u)) (fun s=>⟨e,by lia,?_,B0,fun a h=>by rw[B3 h];exact b a h⟩) (fun s=>⟨?_,e,b⟩)
  ·rw[v,CD3,List.filter_cons_of_pos s,BR4];rfl
  ·rw[v,CD3,List.filter_cons_of_neg (by rw[s];simp),BR4];simp
 ·rintro i M2 ⟨rfl,e,b⟩
  have j:(l.map f).length=l.length:=by simp
  rw[j,BX8] at e ⊢
  have:J1 M2 p=M1:=funext fun a=>by
   by_cases h:a=p
   ·subst h;rw[P2,u]
   ·rw[G7 h];exact b a h
  rw[this]
  exact⟨e,done⟩
theorem View.keep {Q:DK}{d:D}{M1:Mem}(h:∀x,M x≠none->M1 x=M x)(q:Q d M):View Q d M1:=View.sub (fun a o e=>by rw[h a (by rw[e];simp)];exact e) q
instance rd_revE {te:TE3}{ts:TO3}{σ:Lo}{M:Mem}{Q:DK}:RdC (JY te ts σ M Q) (te σ M fun x M1=>ts σ M1 fun o M2=>o=some (-1)/\UZ x M2 Q):=⟨fun h=>h⟩
instance rd_revL {ds:List D}{M:Mem}{Q:DK}:RdC (UZ (.lst ds) M Q) (Q (.lst ds.reverse) M):=⟨fun h=>h⟩
theorem QZ {r:TG3}{M1:Mem}{Q:DK}(l:List α)(f:α->D)(c:α->Bool)(w:l.length<BQ6)
  (i:∀a∈l,∀M2 (R:D->Mem->Prop) (F:Mem->Prop),(∀x,M1 x≠none->M2 x=M1 x)->(c a=true->R (f a) M2)->(c a=false->F M2)->r (f a) σ0 M2 fun j M3=>tt j M3 fun v M4=>if v=true then te j M4 R else F M4)
  (done:∀p M',M1 p=none->M' p=some (.lst ((l.filter c).map f))->(∀x,x≠p->M' x=M1 x)->Q (.ref p) M'):YK r tt te σ0 (l.map f) M1 Q:=by
 intro p s
 refine⟨fun k g M2=>g=((l.take k).filter c).map f/\M2 p=some (.lst g)/\∀a,a≠p->M2 a=M1 a,⟨rfl,B0,fun a h=>B3 h⟩,?_,?_⟩
 ·rintro k d g M2 m ⟨rfl,e,b⟩
  have n:k<l.length:=by simpa using(List.getElem?_eq_some_iff.mp m).1
  have o:d=f l[k]:=by
   rw[BQ3,BQ2 n] at m
   exact(Option.some.inj m).symm
  subst o
  have t:(((l.take k).filter c).map f).length<=k:=by
   rw[BP1]
   exact BS7 (CB9 _ _) (by simp;lia)
  have u:l.take (k+1)=l.take k++[l[k]]:=by rw[BY3,BQ2 n];rfl
  refine i l[k] (BX9 n) M2 _ _ (fun a h=>b a (by rintro rfl;exact h s)) (fun q=>⟨e,by lia,?_,B0,fun a h=>by rw[B3 h];exact b a h⟩) (fun q=>⟨?_,e,b⟩)
  ·rw[u,CD3,List.filter_cons_of_pos q,BR4];rfl
  ·rw[u,CD3,List.filter_cons_of_neg (by rw[q];simp),BR4];simp
 ·rintro g M2 ⟨rfl,e,b⟩
  rw[BP1,BX8] at e
  refine⟨?_,done p M2 s e b⟩
  rw[BP1,BX8];exact e
end L3
open L3
namespace K12
open PySem L2 L3 MK K11
mutual
theorem O8:∀(b:Blk) (ah:List Int) (i:Nat),(prB b ah i).map Prod.fst=plB b ah i
 | .nil,ah,i=>by simp only[prB,plB,CB8]
 | .cons d r,ah,i=>by simp only[prB,plB,BR7,BR4,AQ2 d,O8 r]
theorem AQ2:∀(d:Deed) (a:List Int),(prD d a).map Prod.fst=plD d a
 | .mk h bs,a=>by simp only[prD,plD,PJ bs]
theorem PJ:∀(bs:Bls) (a:List Int) (j:Nat),(ID bs a j).map Prod.fst=P7 bs a j
 | .nil,a,j=>by simp only[ID,P7,CB8]
 | .cons b r,a,j=>by simp only[ID,P7,BR4,O8 b,PJ r]
end
theorem EO (b:Blk)(ah:List Int)(i:Nat):(prB b ah i).length=C9 b:=by rw[<-Y2 b ah i,<-O8,BP1]
inductive Go:Deed->List Int->Deed->Prop
 | nil {d:Deed}:Go d [] d
 | cons {h:Head} {bs:Bls} {j i:Nat} {b:Blk} {d' d:Deed} {r:List Int}:(C6 bs)[j]?=some b->(toL b)[i]?=some d'->Go d' r d->Go (.mk h bs) ((j:Int)::(i:Int)::r) d
mutual
theorem W0:∀(b:Blk) (ah:List Int) (i:Nat) (p:List Int) (d:Deed),(p,d)∈prB b ah i->∃(k:Nat) (r:List Int) (d0:Deed),p=ah++((i+k:Nat):Int)::r/\(toL b)[k]?=some d0/\Go d0 r d
 | .nil,ah,i,p,d,h=>by simp only[prB] at h;cases h
 | .cons x y,ah,i,p,d,h=>by
  simp only[prB] at h
  rcases BU1.mp h with h|h
  ·cases h
   exact⟨0,[],x,rfl,rfl,.nil⟩
  ·rcases List.mem_append.mp h with h|h
   ·obtain⟨r,e,g⟩:=BD4 x _ p d h
    exact⟨0,r,x,by rw[e];simp,rfl,g⟩
   ·obtain⟨k,r,d0,e,g,z⟩:=W0 y ah (i+1) p d h
    exact⟨k+1,r,d0,by rw[e,show i+1+k=i+(k+1) by lia],g,z⟩
theorem BD4:∀(d0:Deed) (a:List Int) (p:List Int) (d:Deed),(p,d)∈prD d0 a->∃r:List Int,p=a++r/\Go d0 r d
 | .mk h bs,a,p,d,c=>by
  simp only[prD] at c
  obtain⟨m,k,r,b,d0,e,g1,g2,g⟩:=UT bs a 0 p d c
  exact⟨_,e,.cons (j:=0+m) (by rw[BS0];exact g1) g2 g⟩
theorem UT:∀(bs:Bls) (a:List Int) (j:Nat) (p:List Int) (d:Deed),(p,d)∈ID bs a j->∃(m k:Nat) (r:List Int) (b:Blk) (d0:Deed),p=a++((j+m:Nat):Int)::(k:Int)::r/\(C6 bs)[m]?=some b/\(toL b)[k]?=some d0/\Go d0 r d
 | .nil,a,j,p,d,h=>by simp only[ID] at h;cases h
 | .cons x y,a,j,p,d,h=>by
  simp only[ID] at h
  rcases List.mem_append.mp h with h|h
  ·obtain⟨k,r,d0,e,g,z⟩:=W0 x _ 0 p d h
   exact⟨0,k,r,x,d0,by rw[e];simp,rfl,g,z⟩
  ·obtain⟨m,k,r,b,d0,e,g1,g2,g⟩:=UT y a (j+1) p d h
   exact⟨m+1,k,r,b,d0,by rw[e,show j+1+m=j+(m+1) by lia],g1,g2,g⟩
end
theorem Go.ok {d':Deed}(g:Go d r d'):okD d->okD d':=by
 induction g with
 | nil=>exact id
 | cons a b _ c=>exact fun e=>c ((O5 _ _ (BQ1 b)).2.2 ((E8 _ _ (BQ1 a)).2.2 e.2))
theorem BH {b:Blk}(a:okB b)(h:(p,d)∈prB b [] 0):okD d:=by
 obtain⟨k,r,e,_,c,g⟩:=W0 b [] 0 p d h
 exact g.ok ((O5 _ _ (BQ1 c)).2.2 a)
theorem J7 {r:Rl}(a:W1 r)(h:(p,d)∈prB r.blk [] 0):p.length<=9:=by
 obtain⟨b,g,i⟩:=a
 have c:p∈plB r.blk [] 0:=by rw[<-O8];exact List.mem_map_of_mem (f:=Prod.fst) h
 have:=(RR r.blk [] 0 0 b (by lia) ⟨BP5 _,fun x e=>by cases e⟩ p c).1
 lia
theorem JF (h:Head)(ts:List D):∃rest,headD h ts=.tup (.str (E5 h)::rest):=by
 cases h<;>exact⟨_,rfl⟩
theorem rd_is_stand:∀ds M Q,spTold isSt ds M Q->HH {nx:=fun _ M'=>View Q .non M',rt:=View Q} (B9 FA ds) M:=by
 rintro _ M Q ⟨d,rfl,c,q⟩
 rw[PY]
 unfold HH
 cases d with
 | mk h bs =>
  obtain⟨a,e⟩:=JF h (dTs bs)
  have f:dD (.mk h bs)=.tup (.str (E5 h)::a):=e
  have b:Q (.bl (E5 h=="give" || E5 h=="on")) M:=q
  rw[f]
  walk_at "rd"
  refine B5 (d:=.str (E5 h)) (C2 (j:=0) rfl) ?_
  walk_at "rd"
  cases e1:(E5 h==("give":Str)) with
  | true =>
   rw[if_pos rfl]
   rw[e1] at b
   exact View.of b
  | false =>
   rw[if_neg BQ5]
   rw[e1] at b
   walk_at "rd"
   refine B5 (d:=.str (E5 h)) (C2 (j:=0) rfl) ?_
   walk_at "rd"
   exact View.of b
theorem SY (bs:Bls)(k:Nat):∃xs,(dTs bs).getD k (.tup [])=.tup xs:=by
 rw[J5,BV4,BQ3]
 cases(C6 bs)[k]? with
 | none=>exact⟨_,rfl⟩
 | some b=>exact⟨_,rfl⟩
theorem AY9 (n:Nat):decide ((0:Int)<(n:Nat))=decide (0<n):=by
 rcases CA5 n with h|h
 ·subst h;rfl
 ·rw[decide_eq_true (by lia),decide_eq_true h]
theorem rd_has_lasts:∀ds M Q,spTold hasL ds M Q->DY {nx:=fun _ M'=>View Q .non M',rt:=View Q} (B9 DA ds) M:=by
 rintro _ M Q ⟨d,rfl,c,q⟩
 rw[NC]
 unfold DY
 cases d with
 | mk h bs =>
  have no:(E5 h==("try":Str))=false->hasL (.mk h bs)=false->(B4 (U2 (A6 D6 (A6 B7 (A4 0) (tC3 (.int 0))) (tC3 (.str "try"))) (A6 GK (F2 E2 (A0 (A6 B7 (A4 0) (tC3 (.int 3))) A5)) (tC3 (.int 0))))) {nx:=fun _ M'=>View Q .non M',rt:=View Q} [some (dD (.mk h bs))] M:=by
   intro k l
   obtain⟨a,e⟩:=JF h (dTs bs)
   have f:dD (.mk h bs)=.tup (.str (E5 h)::a):=e
   rw[l] at q
   rw[f]
   walk_at "rd"
   refine B5 (d:=.str (E5 h)) (C2 (j:=0) rfl) ?_
   walk_at "rd"
   rw[k,if_neg BQ5]
   exact View.of q
  cases h with
  | leaf h r=>exact no (Y1 c.1.2).2.2 rfl
  | ife e=>exact no (show((("if":Str))==("try":Str))=false by decide +kernel) rfl
  | whl e=>exact no (show((("while":Str))==("try":Str))=false by decide +kernel) rfl
  | tr b =>
   obtain⟨g,ex⟩:=SY bs (b.length+1)
   have i:Q (.bl (decide (0<nl ((dTs bs).getD (b.length+1) (.tup []))))) M:=q
   have f:dD (.mk (.tr b) bs)=.tup [.str "try",(dTs bs).getD 0 (.tup []),.tup (F0 b (dTs bs).tail),.tup g]:=by rw[<-ex];rfl
   rw[ex] at i
   rw[f]
   walk_at "rd"
   refine B5 (d:=.str "try") rfl ?_
   walk_at "rd"
   rw[show((("try":Str))==("try":Str))=true by decide +kernel]
   walk_at "rd"
   refine B5 (d:=.tup g) rfl ?_
   walk_at "rd"
   rw[AY9]
   exact View.of i
theorem AS0 {tas:TA3}{R:List D->Mem->Prop}(h:tas σ M fun ds M1=>∃i j c:Int,ds=[.int i,.int j,.int c]/\(c≠0/\BY1 (j-i) c=false/\BY9 i j c=true/\0<=BQ8 i j c)/\R ((BS8 (BQ8 i j c).toNat).map fun k=>D.int (i+(k:Nat)*c)) M1):LL tas σ M R:=h
theorem AS1 (n:Nat)(h:n<=9):BY1 ((n:Int)-1) 2=false/\BY9 1 (n:Int) 2=true/\0<=BQ8 1 (n:Int) 2:=by
 have:n=0\/n=1\/n=2\/n=3\/n=4\/n=5\/n=6\/n=7\/n=8\/n=9:=by lia
 rcases this with h|h|h|h|h|h|h|h|h|h<;>subst h<;>exact⟨by decide +kernel,by decide +kernel,by decide +kernel⟩
theorem AH0 (n:Nat):(BQ8 1 (n:Int) 2).toNat=n / 2:=by
 unfold BQ8
 rw[if_pos (by decide)]
 split<;>lia
theorem rd_deed_at:∀ds M Q,spDeedAt ds M Q->KA {nx:=fun _ M'=>View Q .non M',rt:=View Q} (B9 IM ds) M:=by
 rintro _ M Q ⟨r,p,d,rfl,B,C,q⟩
 have s:=J7 B C
 obtain⟨E,L,F,G,H,N⟩:=W0 r.blk [] 0 p d C
 rw[SG]
 unfold KA
 walk_at "rd"
 refine B5 (d:=.tup (dB r.blk)) rfl ?_
 walk_at "rd"
 refine B5 (d:=.int (E:Nat)) (by rw[G];rw[BS0];exact C2 (j:=0) rfl) ?_
 walk_at "rd"
 refine B5 (d:=dD F) (C2 (by rw[IY,BQ3,H];rfl)) ?_
 walk_at "rd"
 refine AS0 ?_
 walk_at "rd"
 obtain⟨O,P,R⟩:=AS1 p.length s
 refine⟨1,(p.length:Nat),2,by rw[BP1],⟨by decide,O,P,R⟩,?_⟩
 rw[AH0]
 refine⟨fun k t u=>u=M/\∃(l:Deed) (a o:List Int) (v:Option D),t=[some (rD r),some (plT p),some (dD l),v]/\p=a++o/\a.length=1+2*k/\Go l o d/\okD l,⟨rfl,F,[((0+E:Nat):Int)],L,_,rfl,by rw[G];rfl,rfl,N,(O5 _ _ (BQ1 H)).2.2 B.1⟩,?_,?_⟩
 ·rintro k x t u w ⟨rfl,l,a,o,v,rfl,f,m,g,e⟩
  have I:k<p.length / 2:=by simpa using(List.getElem?_eq_some_iff.mp w).1
  have y:x=.int (1+(k:Nat)*2):=by
   rw[BQ3,BX6 I] at w
   exact(Option.some.inj w).symm
  subst y
  cases g with
  | nil =>
   exfalso
   rw[f,BV1] at I
   lia
  | @cons h bs j i b n _ S J K T =>
  have z:p[1+2*k]?=some (j:Int):=by rw[f,<-m,BS6 (BP5 _),Nat.sub_self];rfl
  have A:p[1+2*k+1]?=some (i:Int):=by rw[f,<-m,BS6 (by lia),show a.length+1-a.length=1 by lia];rfl
  walk_at "rd"
  refine⟨h,bs,rfl,e.1,?_⟩
  walk_at "rd"
  refine B5 (d:=.int (j:Nat)) (by rw[show(1:Int)+(k:Nat)*2=((1+2*k:Nat):Int) by lia];exact C2 (by rw[BQ3,z];rfl)) ?_
  refine R4 (d:=.tup (dB b)) (C2 (by rw[J5,BQ3,J];rfl)) ?_
  walk_at "rd"
  refine B5 (d:=.int (i:Nat)) (by rw[show(1:Int)+(k:Nat)*2+1=((1+2*k+1:Nat):Int) by lia];exact C2 (by rw[BQ3,A];rfl)) ?_
  refine B5 (d:=dD n) (C2 (by rw[IY,BQ3,K];rfl)) ?_
  walk_at "rd"
  exact⟨rfl,n,a++[(j:Int),(i:Int)],S,_,rfl,by rw[f];simp,by simp[m];lia,T,(O5 _ _ (BQ1 K)).2.2 ((E8 _ _ (BQ1 J)).2.2 e.2)⟩
 ·rintro t u ⟨rfl,l,a,o,v,rfl,f,m,g,e⟩
  rw[BP1,BZ3] at m
  have c:=congrArg BW0 f
  rw[BP7] at c
  cases g with
  | nil =>
   walk_at "rd"
   exact View.of q
  | cons _ _ _=>exfalso;simp only[BP8] at c;lia
end K12
open L3
namespace K12
open PySem L2 L3 MK K11
theorem AP9 (b:Blk):(plB b [] 0).map plT=(prB b [] 0).map fun x=>plT x.1:=by rw[<-O8,BW9];rfl
theorem AS4 (f:Deed->Bool)(b:Blk):(stB f b).map plT=((prB b [] 0).filter fun x=>f x.2).map fun x=>plT x.1:=by unfold stB;rw[BW9];rfl
theorem OS {M':Mem}{a:Addr}(h:M a=none)(hs:∀x,x≠a->M' x=M x):J1 M' a=M:=funext fun x=>by
 unfold J1
 split
 ·rename_i e;rw[e,h]
 ·rename_i e;exact hs x e
instance rd_frzE {te:TE3}{σ:Lo}{M:Mem}{Q:DK}:RdC (AO te σ M Q) (te σ M fun d M1=>∃p xs,d=.ref p/\M1 p=some (.lst xs)/\Q (.lst xs) (J1 M1 p)):=⟨fun h=>h⟩
theorem rd_stands_of:∀ds M Q,spSome isSt ds M Q->EA {nx:=fun _ M'=>View Q .non M',rt:=View Q} (B9 DC ds) M:=by
 rintro _ M Q ⟨r,rfl,c,q⟩
 rw[NE]
 unfold EA
 walk_at "rd"
 try refine rd_frzE.g ?_
 walk_at "rd"
 refine⟨r,rfl,c.1,c.2.1,c.2.2,fun a M' j b k=>⟨a,_,rfl,b,?_⟩⟩
 rw[OS j k,AP9]
 walk_at "rd"
 have f:=EO r.blk [] 0
 have o:=c.2.2
 refine QZ (prB r.blk [] 0) (fun x=>plT x.1) (fun x=>isSt x.2) (by rw[f,BR0];lia) ?_ ?_
 ·rintro⟨p,d⟩ i s R F _ l m
  walk_at "rd"
  refine⟨r,p,d,rfl,c,i,?_⟩
  walk_at "rd"
  refine⟨d,rfl,BH c.1 i,?_⟩
  cases e:isSt d with
  | true =>
   walk_at "rd"
   exact l e
  | false =>
   walk_at "rd"
   exact m e
 ·intro p M' n b h
  rw[<-AS4] at b
  exact View.of (q p M' n b h)
end K12
namespace L3
open PySem PySem.Spec PyProof.Rows L2
section
variable {X:Cx}{pins:List (Addr×Obj)}{σv:L2.St}{H:Hp}{s:BP9}{M:Mem}
theorem AL4:∀{vs:List V},Reps K M H (ks.map D.int) vs->vs=ks.map V.int:=by
 induction ks with
 | nil=>intro vs h;cases h;rfl
 | cons k ks b =>
  intro vs h
  cases h with
  | cons a r=>cases a;rw[b r];rfl
theorem FT {P:BT5}{w:World}:∀{ks:List Int} {us:List Value},Vals (ks.map V.int) us->ItemsAre (intKind P w) ks us
 | [],_,.nil=>.nil
 | k::ks,_,.cons ⟨t,e⟩ r=>by subst e;exact .cons (by simp[intKind,Value.isInt]) (FT r)
theorem BO3 (I:Inv X pins σv H s){b:Addr}(r:Rep X.K M H (.tup (ks.map D.int)) (.ref b)):IsTupleKey (intKind X.prog X.w) s.heap ks b:=by
 cases r with
 | tup h r =>
  have e:=AL4 r
  subst e
  obtain⟨a,c,⟨o,d,f,n,g⟩,i⟩:=I.tuple (SqT.of3 h)
  exact⟨o,a.toArray,n,d,f,g,by simpa using FT c⟩
end
section
variable {X:Cx}{a b e:Expr}{ta tb:TE3}{t:TA3}{pos p:Pos}
end
end L3
namespace GO
open PySem L2 L3 MK K11 K12
theorem UD:∀p:List Int,HT.lexLt p p=false
 | []=>rfl
 | x::p=>by rw[FW];exact UD p
theorem BG (b:Blk):((prB b [] 0).map Prod.fst).Nodup:=by
 rw[O8]
 exact(RS b [] 0).2.imp fun{p q} h e=>by subst e;rw[UD] at h;cases h
theorem BD {α:Type}:∀{l:List (List Int×α)} {p:List Int} {d:α},(l.map Prod.fst).Nodup->(p,d)∈l->BR3 p l=some d
 | [],_,_,_,h=>by cases h
 | (q,e)::l,p,d,hn,h=>by
  rw[BR7,List.nodup_cons] at hn
  rcases BU1.mp h with z|z
  ·cases z;simp[BR3]
  ·have a:¬p=q:=fun b=>hn.1 (by rw[<-b];exact List.mem_map.mpr ⟨(p,d),z,rfl⟩)
   have c:(p==q)=false:=by simpa using a
   simp only[BR3,c]
   exact BD hn.2 z
theorem UL {α:Type}:∀{l:List (List Int×α)} {p:List Int} {d:α},BR3 p l=some d->(p,d)∈l
 | [],_,_,h=>by cases h
 | (q,e)::l,p,d,h=>by
  by_cases b:p=q
  ·subst b
   simp only[BR3,beq_self_eq_true] at h
   cases h;exact BQ7
  ·have a:(p==q)=false:=by simpa using b
   simp only[BR3,a] at h
   exact BQ4 _ (UL h)
theorem BD6 {b:Blk}{e:Deed}(h:(p,d)∈prB b [] 0)(g:(p,e)∈prB b [] 0):d=e :=
 Option.some.inj ((BD (BG b) h).symm.trans (BD (BG b) g))
def dflt:Deed:=.mk (.leaf "" []) .nil
def dA (b:Blk)(p:List Int):Deed:=(BR3 p (prB b [] 0)).getD dflt
theorem AS9 {b:Blk}(h:(p,d)∈prB b [] 0):dA b p=d:=by unfold dA;rw[BD (BG b) h];rfl
theorem Go.out {d0:Deed}(g:Go d0 r d):(r=[]/\d=d0)\/∃(r':List Int) (j i:Nat) (h:Head) (bs:Bls) (bk:Blk),r=r'++[(j:Int),(i:Int)]/\Go d0 r' (.mk h bs)/\(C6 bs)[j]?=some bk/\(toL bk)[i]?=some d:=by
 induction g with
 | nil=>exact .inl ⟨rfl,rfl⟩
 | @cons h bs j i b s d r e f g k =>
  right
  rcases k with⟨rfl,rfl⟩|⟨r',l,m,n,a,c,rfl,o,p,q⟩
  ·exact⟨[],j,i,h,bs,b,rfl,.nil,e,f⟩
  ·exact⟨(j:Int)::(i:Int)::r',l,m,n,a,c,rfl,.cons e f o,p,q⟩
theorem Go.snoc {d0:Deed}{c:Deed}(g:Go d0 r c):∀{h:Head} {bs:Bls} {j i:Nat} {bk:Blk} {d:Deed},c=.mk h bs->(C6 bs)[j]?=some bk->(toL bk)[i]?=some d->Go d0 (r++[(j:Int),(i:Int)]) d:=by
 induction g with
 | nil=>intro h bs j i bk d e a b;subst e;exact .cons a b .nil
 | cons f k _ l=>intro h bs j i bk d e a b;exact .cons f k (l e a b)
theorem BH3 {h:Head}{bs:Bls}(g:Go (.mk h bs) r d):(r=[]/\d=.mk h bs)\/∃(j i:Nat) (b:Blk) (d':Deed) (r':List Int),r=(j:Int)::(i:Int)::r'/\(C6 bs)[j]?=some b/\(toL b)[i]?=some d'/\Go d' r' d:=by
 cases g with
 | nil=>exact .inl ⟨rfl,rfl⟩
 | cons a c e=>exact .inr ⟨_,_,_,_,_,rfl,a,c,e⟩
mutual
theorem CS:∀(b:Blk) (ah:List Int) (i k:Nat) (r:List Int) (d0 d:Deed),(toL b)[k]?=some d0->Go d0 r d->(ah++((i+k:Nat):Int)::r,d)∈prB b ah i
 | .nil,ah,i,k,r,d0,d,h,g=>by simp[toL] at h
 | .cons x y,ah,i,k,r,d0,d,h,g=>by
  have a:=BD5 x
  have c:=CS y
  simp only[prB]
  cases k with
  | zero =>
   have e:x=d0:=by simpa[toL] using h
   subst e
   cases g with
   | nil=>exact BQ7
   | cons f j l =>
    refine BQ4 _ (CC1 _ ?_)
    have:=a (ah++[(i:Int)]) _ d (.cons f j l) (by simp)
    simpa using this
  | succ k =>
   refine BQ4 _ (BR5 _ ?_)
   rw[show i+(k+1)=i+1+k by lia]
   exact c ah (i+1) k r d0 d (by simpa[toL] using h) g
termination_by structural b=>b
theorem BD5:∀(d0:Deed) (a r:List Int) (d:Deed),Go d0 r d->r≠[]->(a++r,d)∈prD d0 a
 | .mk h bs,a,r,d,g,c=>by
  rcases BH3 g with⟨rfl,_⟩|⟨j,i,b,l,m,rfl,e,f,k⟩
  ·exact absurd rfl c
  ·simp only[prD]
   have:=UU bs a 0 j i _ b _ d e f k
   rwa [BS0] at this
termination_by structural d0=>d0
theorem UU:∀(bs:Bls) (a:List Int) (j m k:Nat) (r:List Int) (b:Blk) (d0 d:Deed),(C6 bs)[m]?=some b->(toL b)[k]?=some d0->Go d0 r d->(a++((j+m:Nat):Int)::(k:Int)::r,d)∈ID bs a j
 | .nil,a,j,m,k,r,b,d0,d,c,f,g=>by simp[C6] at c
 | .cons x y,a,j,m,k,r,b,d0,d,c,f,g=>by
  have h:=CS x
  have i:=UU y
  simp only[ID]
  cases m with
  | zero =>
   have e:x=b:=by simpa[C6] using c
   subst e
   refine CC1 _ ?_
   simpa using h (a++[(j:Int)]) 0 k r d0 d f g
  | succ m =>
   refine BR5 _ ?_
   rw[show j+(m+1)=j+1+m by lia]
   exact i a (j+1) m k r b d0 d (by simpa[C6] using c) f g
termination_by structural bs=>bs
end
theorem T5 {b:Blk}{h:Head}{bs:Bls}{bk:Blk}(c:(q,.mk h bs)∈prB b [] 0)(h1:(C6 bs)[j]?=some bk)(h2:(toL bk)[i]?=some d):(q++[(j:Int),(i:Int)],d)∈prB b [] 0:=by
 obtain⟨k,r,f,e,a,g⟩:=W0 b [] 0 q _ c
 have:=CS b [] 0 k _ f d a (Go.snoc g rfl h1 h2)
 rw[e];exact this
inductive Inb (b:Blk):List Int->Blk->Nat->Prop
 | top {i:Nat}:Inb b [(i:Int)] b i
 | inner {q:List Int} {h:Head} {bs:Bls} {bk:Blk} {j i:Nat}:(q,.mk h bs)∈prB b [] 0->(C6 bs)[j]?=some bk->Inb b (q++[(j:Int),(i:Int)]) bk i
theorem AK {b:Blk}(c:(p,d)∈prB b [] 0):∃bk i,Inb b p bk i/\(toL bk)[i]?=some d:=by
 obtain⟨k,r,f,e,a,g⟩:=W0 b [] 0 p _ c
 rw[BS0] at e
 rcases Go.out g with⟨rfl,rfl⟩|⟨l,j,i,h,bs,bk,rfl,m,n,o⟩
 ·subst e;exact⟨b,k,.top,a⟩
 ·subst e
  refine⟨bk,i,?_,o⟩
  have:=Inb.inner (i:=i) (CS b [] 0 k l f _ a m) n
  rw[BS0] at this
  simpa using this
theorem Inb.mem {b:Blk}{bk:Blk}(x:Inb b p bk i){k:Nat}(h:(toL bk)[k]?=some d):(p.dropLast++[(k:Int)],d)∈prB b [] 0:=by
 cases x with
 | top =>
  have:=CS b [] 0 k [] d d h .nil
  rw[BS0] at this
  simpa using this
 | @inner q e bs _ j _ a c =>
  have:=T5 a c h
  rw[show(q++[(j:Int),(i:Int)]).dropLast++[(k:Int)]=q++[(j:Int),(k:Int)] by rw[show q++[(j:Int),(i:Int)]=(q++[(j:Int)])++[(i:Int)] by simp,List.dropLast_concat];simp]
  exact this
theorem T2 {b:Blk}{bk:Blk}(x:Inb b p bk i):(p=[(i:Int)]/\bk=b)\/∃(q:List Int) (h:Head) (bs:Bls) (j:Nat),p=q++[(j:Int),(i:Int)]/\(q,.mk h bs)∈prB b [] 0/\(C6 bs)[j]?=some bk:=by
 cases x with
 | top=>exact .inl ⟨rfl,rfl⟩
 | inner a c=>exact .inr ⟨_,_,_,_,rfl,a,c⟩
theorem Inb.of_mem {b:Blk}{bk:Blk}(x:Inb b p bk i){k:Nat}(h:(p.dropLast++[(k:Int)],d)∈prB b [] 0):(toL bk)[k]?=some d:=by
 obtain⟨o,i',y,e⟩:=AK h
 rcases T2 x with⟨rfl,rfl⟩|⟨g,A,bs,j,rfl,q,r⟩
 ·rcases T2 y with⟨a,rfl⟩|⟨s,t,l,m,a,f,c⟩
  ·have:(k:Int)=i':=by simpa using a
   rw[show k=i' by lia];exact e
  ·exfalso
   have:=congrArg BW0 a
   simp at this
 ·rw[show(g++[(j:Int),(i:Int)]).dropLast++[(k:Int)]=g++[(j:Int),(k:Int)] by rw[show g++[(j:Int),(i:Int)]=(g++[(j:Int)])++[(i:Int)] by simp,List.dropLast_concat];simp] at y
  rcases T2 y with⟨a,rfl⟩|⟨s,t,l,m,a,f,c⟩
  ·exfalso
   have:=congrArg BW0 a
   simp at this
  ·have n:=congrArg BW0 a
   simp at n
   obtain⟨u,v⟩:=List.append_inj a n
   subst u
   simp only[List.cons.injEq,and_true] at v
   have w:m=j:=by lia
   have z:i'=k:=by lia
   subst w z
   have:=BD6 q f
   cases this
   rw[r] at c
   cases c
   exact e
def nxt (p:List Int):List Int:=p.dropLast++[p.getLastD 0+1]
theorem Inb.last {b:Blk}{bk:Blk}(x:Inb b p bk i):p.getLastD 0=(i:Int)/\p≠[]:=by
 cases x with
 | top=>exact⟨rfl,by simp⟩
 | inner _ _=>exact⟨by simp,by simp⟩
theorem Inb.next {b:Blk}{bk:Blk}(x:Inb b p bk i):(BR3 (nxt p) (prB b [] 0)).isSome=decide (i+1<(toL bk).length):=by
 have e:nxt p=p.dropLast++[((i+1:Nat):Int)]:=by unfold nxt;rw[x.last.1];rfl
 rw[e]
 by_cases h:i+1<(toL bk).length
 ·rw[decide_eq_true h,BD (BG b) (x.mem (BQ2 h))];rfl
 ·rw[decide_eq_false h]
  cases hl:BR3 (p.dropLast++[((i+1:Nat):Int)]) (prB b [] 0) with
  | none=>rfl
  | some d =>
   have:=x.of_mem (UL hl)
   have:=(List.getElem?_eq_some_iff.mp this).1
   lia
def G3 (p:List Int):List Int:=p.take (p.length-2)
def LX (p:List Int):Int:=p.getD (p.length-2) 0
theorem AY (q:List Int)(j i:Int):G3 (q++[j,i])=q/\LX (q++[j,i])=j:=by
 unfold G3 LX
 simp[BV4]
theorem R9 (h:1<p.length):(G3 p).length<p.length:=by unfold G3;rw[BT3];lia
def ar (b:Blk)(p:List Int):List (List Int×Deed×Int):=if h:1<p.length then(G3 p,dA b (G3 p),LX p)::ar b (G3 p) else[]
termination_by p.length
decreasing_by exact R9 h
theorem KW {b:Blk}(h:1<p.length):ar b p=(G3 p,dA b (G3 p),LX p)::ar b (G3 p):=by rw[ar,dif_pos h]
theorem KU {b:Blk}(h:¬1<p.length):ar b p=[]:=by rw[ar,dif_neg h]
def arT (x:List Int×Deed×Int):D:=.tup [plT x.1,dD x.2.1,.int x.2.2]
def nC:Deed->Nat
 | .mk (.tr cs) _=>cs.length
 | _=>0
def OP (d:Deed)(j:Int):Bool:=hasL d && !decide (j=(nC d:Int)+1)
structure Way (b:Blk)(x:List Int×Deed×Int):Prop where
 at_:(x.1,x.2.1)∈prB b [] 0
 num:∃j bk i d,x.2.2=((j:Nat):Int)/\(match x.2.1 with|.mk _ bs=>(C6 bs)[j]?=some bk)/\(toL bk)[(i:Nat)]?=some d
theorem GI {b:Blk}(f:(p,d)∈prB b [] 0)(h:1<p.length):∃(q:List Int) (j i:Nat) (a:Head) (bs:Bls) (bk:Blk),p=q++[(j:Int),(i:Int)]/\G3 p=q/\LX p=(j:Int)/\(q,.mk a bs)∈prB b [] 0/\dA b q=.mk a bs/\(C6 bs)[j]?=some bk/\(toL bk)[i]?=some d:=by
 obtain⟨bk,i,x,e⟩:=AK f
 cases x with
 | top=>simp at h
 | @inner q a bs _ j _ c g=>exact⟨q,j,i,a,bs,bk,rfl,(AY _ _ _).1,(AY _ _ _).2,c,AS9 c,g,e⟩
theorem FE {b:Blk}:∀(n:Nat) {p:List Int} {d:Deed},p.length<=n->(p,d)∈prB b [] 0->∀x∈ar b p,Way b x
 | 0,p,d,hn,hp,x,hx=>by
  rw[KU (by lia)] at hx;cases hx
 | n+1,p,d,hn,hp,x,hx=>by
  by_cases h:1<p.length
  ·obtain⟨q,j,i,m,bs,bk,o,a,f,c,e,g,k⟩:=GI hp h
   rw[KW h] at hx
   have l:=R9 h
   rcases BU1.mp hx with rfl|hx
   ·refine⟨?_,j,bk,i,d,f,?_,k⟩
    ·show(G3 p,dA b (G3 p))∈_
     rw[a,e];exact c
    ·show(match dA b (G3 p) with|.mk _ bs=>(C6 bs)[j]?=some bk)
     rw[a,e];exact g
   ·rw[a] at hx l
    exact FE n (by lia) c x hx
  ·rw[KU h] at hx;cases hx
def spAround:Sp3:=fun ds M Q=>∃r p d,ds=[rD r,plT p]/\W1 r/\(p,d)∈prB r.blk [] 0/\Q (.lst ((ar r.blk p).map arT)) M
def JR:Sp3:=fun ds M Q=>∃cs bs,ds=[dD (.mk (.tr cs) bs)]/\okD (.mk (.tr cs) bs)/\Q (.int ((cs.length:Int)+1)) M
def CW:Sp3:=fun ds M Q=>∃cs bs,∃j:Int,ds=[dD (.mk (.tr cs) bs),.int j]/\okD (.mk (.tr cs) bs)/\Q (.bl (decide (j=(cs.length:Int)+1))) M
def VI:Sp3:=fun ds M Q=>∃d,∃j:Int,ds=[dD d,.int j]/\okD d/\Q (.bl (OP d j)) M
def isW:Deed->Bool
 | .mk (.whl _) _=>true
 | _=>false
def VG:Sp3:=fun ds M Q=>∃r p bk i,ds=[rD r,plT p]/\W1 r/\Inb r.blk p bk i/\Q (.tup (dB bk)) M
def bhF (b:Blk)(p:List Int):D :=
 if (BR3 (nxt p) (prB b [] 0)).isSome=true then .tup [.str "deed",plT (nxt p)]
 else if h:1<p.length then
  if isW (dA b (G3 p))=true then .tup [.str "test",plT (G3 p)]
  else if hasL (dA b (G3 p))=true then(if LX p=(nC (dA b (G3 p)):Int)+1 then .tup [.str "resume",plT (G3 p)] else .tup [.str "last",plT (G3 p)])
  else bhF b (G3 p)
 else .tup [.str "end"]
termination_by p.length
decreasing_by exact R9 h
def spBehind (n:Nat):Sp3:=fun ds M Q=>∃r p d,ds=[rD r,plT p]/\W1 r/\(p,d)∈prB r.blk [] 0/\2*p.length+1<=n/\Q (bhF r.blk p) M
def Y7 (n:Nat):Sp3:=fun ds M Q=>∃r p d bk i,ds=[rD r,plT (G3 p),.int (LX p)]/\W1 r/\(p,d)∈prB r.blk [] 0/\1<p.length/\Inb r.blk p bk i/\¬(i+1<(toL bk).length)/\2*p.length<=n/\Q (bhF r.blk p) M
end GO
namespace GO
open PySem L2 L3
abbrev NQ:List Str:=["rule","place","found","number"]
def QD:TS3 :=
  (A8 (B8 2 (J2 A5))
  (A8 (BP (B1 (A6 GK (F2 E2 (A0 (A4 1) A5)) (tC3 (.int 1)))) (A8 (B8 3 (A6 B7 (A4 1) (P0 J4 (tC3 (.int 2)))))
  (A8 (B8 1 (HB (A4 1) G4 (K2 (P0 J4 (tC3 (.int 2))))))
  (F5 (Q5 "list" E4 (A4 2) (A0 (C0 (A0 (A4 1) (A0 (A7 K12.spDeedAt (A0 (A4 0) (A0 (A4 1) A5))) (A0 (A4 3) A5)))) A5))))))
  (B4 (A4 2))))
theorem YB (d0 a:D):B9 NQ [d0,a]=[some d0,some a,none,none]:=rfl
abbrev V0:List Str:=["deed"]
def X1:TS3 :=
  (B4 (A6 D0 (F2 E2 (A0 (A6 B7 (A4 0) (tC3 (.int 2))) A5)) (tC3 (.int 1))))
theorem EE (d0:D):B9 V0 [d0]=[some d0]:=rfl
abbrev Z3:List Str:=["deed","number"]
def AD:TS3 :=
  (B4 (A6 D6 (A4 1) (A7 JR (A0 (A4 0) A5))))
theorem GX (d0 a:D):B9 Z3 [d0,a]=[some d0,some a]:=rfl
abbrev R6:List Str:=["deed","number"]
def S7:TS3 :=
  (B4 (U2 (A7 (K12.spTold K12.hasL) (A0 (A4 0) A5)) (NI (A7 CW (A0 (A4 0) (A0 (A4 1) A5))))))
theorem BM (d0 a:D):B9 R6 [d0,a]=[some d0,some a]:=rfl
abbrev U9:List Str:=["rule","place"]
def W9:TS3 :=
  (A8 (C1 (B1 (A6 D6 (F2 E2 (A0 (A4 1) A5)) (tC3 (.int 1)))) (B4 (A6 B7 (A4 0) (tC3 (.int 2)))) B6)
  (B4 (A6 B7 (A7 MK.BK (A0 (A7 K12.spDeedAt (A0 (A4 0) (A0 (HB (A4 1) G4 (K2 (P0 J4 (tC3 (.int 2))))) A5))) A5)) (A6 B7 (A4 1) (P0 J4 (tC3 (.int 2)))))))
theorem ED (d0 a:D):B9 U9 [d0,a]=[some d0,some a]:=rfl
abbrev U8:List Str:=["rule","outer","number","deed"]
def W8 (q_behind_block q_behind:Sp3):TS3 :=
  (A8 (B8 3 (A7 K12.spDeedAt (A0 (A4 0) (A0 (A4 1) A5))))
  (A8 (C1 (B1 (A6 D6 (A6 B7 (A4 3) (tC3 (.int 0))) (tC3 (.str "while")))) (B4 (C0 (A0 (tC3 (.str "test")) (A0 (A4 1) A5)))) B6)
  (A8 (C1 (B1 (A7 VI (A0 (A4 3) (A0 (A4 2) A5)))) (B4 (C0 (A0 (tC3 (.str "last")) (A0 (A4 1) A5)))) B6)
  (A8 (C1 (HA (B1 (A6 D6 (A6 B7 (A4 3) (tC3 (.int 0))) (tC3 (.str "try")))) (B1 (A7 CW (A0 (A4 3) (A0 (A4 2) A5))))) (B4 (C0 (A0 (tC3 (.str "resume")) (A0 (A4 1) A5)))) B6)
  (B4 (A7 q_behind (A0 (A4 0) (A0 (A4 1) A5))))))))
theorem EC (d0 a d2:D):B9 U8 [d0,a,d2]=[some d0,some a,some d2,none]:=rfl
abbrev NR:List Str:=["rule","place"]
def QE (q_behind_block q_behind:Sp3):TS3 :=
  (A8 (C1 (B1 (A6 T6 (A6 D0 (A6 B7 (A4 1) (P0 J4 (tC3 (.int 1)))) (tC3 (.int 1))) (F2 E2 (A0 (A7 VG (A0 (A4 0) (A0 (A4 1) A5))) A5)))) (B4 (C0 (A0 (tC3 (.str "deed")) (A0 (A6 D0 (HB (A4 1) G4 (K2 (P0 J4 (tC3 (.int 1))))) (C0 (A0 (A6 D0 (A6 B7 (A4 1) (P0 J4 (tC3 (.int 1)))) (tC3 (.int 1))) A5))) A5)))) B6)
  (A8 (C1 (B1 (A6 D6 (F2 E2 (A0 (A4 1) A5)) (tC3 (.int 1)))) (B4 (C0 (A0 (tC3 (.str "end")) A5))) B6)
  (B4 (A7 q_behind_block (A0 (A4 0) (A0 (HB (A4 1) G4 (K2 (P0 J4 (tC3 (.int 2))))) (A0 (A6 B7 (A4 1) (P0 J4 (tC3 (.int 2)))) A5)))))))
theorem YC (d0 a:D):B9 NR [d0,a]=[some d0,some a]:=rfl
end GO
open L3
namespace GO
open PySem L2 L3 MK K11 K12
theorem BM2 (n:Nat):HT.sIx (n+2) (n+2) (some (-2))=n:=by
 show(if (-2:Int)<0 then((-2:Int)+((n+2:Nat):Int)).toNat else min (-2:Int).toNat (n+2))=n
 rw[if_pos (by decide)];lia
theorem BM1 (n:Nat):HT.sIx (n+1) (n+1) (some (-1))=n:=by
 show(if (-1:Int)<0 then((-1:Int)+((n+1:Nat):Int)).toNat else min (-1:Int).toNat (n+1))=n
 rw[if_pos (by decide)];lia
theorem ZL (q:List Int)(j i:Int):cutD ((q++[j,i]).map D.int) none (some (-2))=q.map D.int:=by
 unfold cutD
 rw[show((q++[j,i]).map D.int).length=q.length+2 by simp,BM2,HT.PV]
 simp
theorem AY1 (q:List Int)(i:Int):cutD ((q++[i]).map D.int) none (some (-1))=q.map D.int:=by
 unfold cutD
 rw[show((q++[i]).map D.int).length=q.length+1 by simp,BM1,HT.PV]
 simp
theorem AW9 (q:List Int)(j i:Int):atI ((q++[j,i]).map D.int) (-2)=some (.int j):=by
 unfold atI ixN
 rw[show((q++[j,i]).map D.int).length=q.length+2 by simp,if_neg (by decide),if_pos (by lia),show((-2:Int)+((q.length+2:Nat):Int)).toNat=q.length by lia]
 simp
theorem AW8 (q:List Int)(i:Int):atI ((q++[i]).map D.int) (-1)=some (.int i):=by
 unfold atI ixN
 rw[show((q++[i]).map D.int).length=q.length+1 by simp,if_neg (by decide),if_pos (by lia),show((-1:Int)+((q.length+1:Nat):Int)).toNat=q.length by lia]
 simp
theorem MI {j i:Int}{Q:DK}(h:Q (plT q) M):VA (plT (q++[j,i])) none (some (-2)) M Q:=by
 refine⟨?_,?_⟩
 ·rintro⟨_,e⟩
  rw[show((q++[j,i]).map D.int).length=q.length+2 by simp,BM2] at e
  lia
 ·rw[ZL];exact h
theorem AR6 {i:Int}{Q:DK}(h:Q (plT q) M):VA (plT (q++[i])) none (some (-1)) M Q:=by
 refine⟨?_,?_⟩
 ·rintro⟨_,e⟩
  rw[show((q++[i]).map D.int).length=q.length+1 by simp,BM1] at e
  lia
 ·rw[AY1];exact h
theorem ML {j i:Int}{Q:DK}(h:Q (.int j) M):B7 (plT (q++[j,i])) (.int (-2)) M Q:=⟨_,AW9 q j i,h⟩
theorem VE {i:Int}{Q:DK}(h:Q (.int i) M):B7 (plT (q++[i])) (.int (-1)) M Q:=⟨_,AW8 q i,h⟩
theorem ES {Q:DK}(h:Q (.int (p.length:Nat)) M):E2 [plT p] M Q:=by
 show Q (.int ((p.map D.int).length:Nat)) M
 rw[BP1];exact h
theorem rd_around:∀ds M Q,spAround ds M Q->QD {nx:=fun _ M'=>View Q .non M',rt:=View Q} (B9 NQ ds) M:=by
 rintro _ M Q ⟨r,p,d,rfl,v,w,q⟩
 have s:=J7 v w
 rw[YB]
 unfold QD
 walk_at "rd"
 intro f C
 walk_at "rd"
 refine PQ ⟨fun m y n=>∃(a:List Int) (z:Deed) (A:Option D) (dn:List (List Int×Deed×Int)),y=[some (rD r),some (plT a),some (.ref f),A]/\(a,z)∈prB r.blk [] 0/\m=a.length/\dn++ar r.blk a=ar r.blk p/\dn.length+a.length<=9/\n f=some (.lst (dn.map arT))/\∀x,x≠f->n x=M x,
  ⟨p.length,p,d,_,[],rfl,w,rfl,rfl,by simpa using s,B0,fun x o=>B3 o⟩,?_⟩
 rintro m y n ⟨a,z,A,dn,rfl,t,rfl,c,E,e,k⟩
 walk_at "rd"
 refine ES ?_
 walk_at "rd"
 by_cases h:1<a.length
 ·rw[decide_eq_true (show(1:Int)<(a.length:Nat) by lia)]
  obtain⟨g,j,i,u,bs,bk,F,G,H,B,I,K,L⟩:=GI t h
  have l:=KW (b:=r.blk) h
  rw[G,H,I] at l
  rw[l] at c
  subst F
  walk_at "rd"
  refine ML ?_
  walk_at "rd"
  refine MI ?_
  walk_at "rd"
  refine⟨.inl ⟨rfl,_,e⟩,?_⟩
  walk_at "rd"
  refine⟨r,g,.mk u bs,rfl,v,B,?_⟩
  walk_at "rd"
  have J:(g++[(j:Int),(i:Int)]).length=g.length+2:=by simp
  refine K5 e (by rw[BP1,BR0];lia) ?_
  refine⟨g.length,by lia,g,.mk u bs,_,dn++[(g,.mk u bs,(j:Int))],rfl,B,rfl,by rw[BS9];exact c,by simp;lia,?_,fun x o=>by rw[B3 o];exact k x o⟩
  rw[B0,BR4];rfl
 ·rw[decide_eq_false (show¬(1:Int)<(a.length:Nat) by lia)]
  rw[KU h,BV1] at c
  subst c
  walk_at "rd"
  refine View.frz e ?_
  have:J1 n f=M:=OS C k
  rw[this];exact q
theorem BP0 {bs:Bls}(hok:okD (.mk (.tr cs) bs)):∃xs ys b0,dD (.mk (.tr cs) bs)=.tup [.str "try",b0,.tup xs,.tup ys]/\xs=F0 cs (dTs bs).tail/\xs.length=cs.length/\hasL (.mk (.tr cs) bs)=decide (0<ys.length):=by
 obtain⟨ys,a⟩:=SY bs (cs.length+1)
 refine⟨F0 cs (dTs bs).tail,ys,(dTs bs).getD 0 (.tup []),by rw[<-a];rfl,rfl,?_,?_⟩
 ·have b:bsl bs=cs.length+2:=hok.1.1
  have d:(dTs bs).tail.length=cs.length+1:=by rw[List.length_tail,SX,b];lia
  have c:=congrArg BW0 (CC cs (dTs bs).tail (by lia))
  rw[BP1,BT3] at c
  lia
 ·show decide (0<nl ((dTs bs).getD (cs.length+1) (.tup [])))=_
  rw[a];rfl
theorem LG (x y:Int):(x==y)=decide (x=y):=by
 by_cases h:x=y
 ·subst h;simp
 ·rw[decide_eq_false h];simpa using h
theorem rd_lasts_number:∀ds M Q,JR ds M Q->X1 {nx:=fun _ M'=>View Q .non M',rt:=View Q} (B9 V0 ds) M:=by
 rintro _ M Q ⟨f,bs,rfl,a,q⟩
 obtain⟨c,g,h,e,_,b,_⟩:=BP0 a
 rw[EE]
 unfold X1
 rw[e]
 walk_at "rd"
 refine B5 (d:=.tup c) rfl ?_
 walk_at "rd"
 rw[b]
 exact View.of q
theorem rd_is_in_lasts:∀ds M Q,CW ds M Q->AD {nx:=fun _ M'=>View Q .non M',rt:=View Q} (B9 Z3 ds) M:=by
 rintro _ M Q ⟨b,bs,j,rfl,a,q⟩
 rw[GX]
 unfold AD
 walk_at "rd"
 refine⟨b,bs,rfl,a,?_⟩
 walk_at "rd"
 rw[LG]
 exact View.of q
theorem rd_leads_to_lasts:∀ds M Q,VI ds M Q->S7 {nx:=fun _ M'=>View Q .non M',rt:=View Q} (B9 R6 ds) M:=by
 rintro _ M Q ⟨d,j,rfl,a,q⟩
 rw[BM]
 unfold S7
 walk_at "rd"
 refine⟨d,rfl,a,?_⟩
 unfold OP at q
 cases e:hasL d with
 | false =>
  rw[e] at q
  walk_at "rd"
  exact View.of q
 | true =>
  rw[e] at q
  match d,a,e,q with
  | .mk (.tr b) bs,a,e,q =>
  walk_at "rd"
  refine⟨b,bs,j,rfl,a,?_⟩
  walk_at "rd"
  exact View.of q
  | .mk (.leaf _ _) _,a,e,q=>cases e
  | .mk (.ife _) _,a,e,q=>cases e
  | .mk (.whl _) _,a,e,q=>cases e
theorem BF3 {r:Rl}(a:W1 r){x:List Int×Deed×Int}(w:Way r.blk x):okD x.2.1:=BH a.1 w.at_
theorem LJ (d:Deed):∃h rest,dD d=.tup (.str h::rest)/\(okD d->(h==("while":Str))=isW d)/\(okD d->(h==("try":Str))=(match d with|.mk (.tr _) _=>true|_=>false)):=by
 cases d with
 | mk h bs =>
  obtain⟨rest,e⟩:=JF h (dTs bs)
  refine⟨E5 h,rest,e,fun a=>?_,fun a=>?_⟩
  ·cases h with
   | leaf h r=>exact(Y1 a.1.2).2.1
   | ife e=>exact(by decide +kernel:((("if":Str))==("while":Str))=false)
   | whl e=>exact(by decide +kernel:((("while":Str))==("while":Str))=true)
   | tr b=>exact(by decide +kernel:((("try":Str))==("while":Str))=false)
  ·cases h with
   | leaf h r=>exact(Y1 a.1.2).2.2
   | ife e=>exact(by decide +kernel:((("if":Str))==("try":Str))=false)
   | whl e=>exact(by decide +kernel:((("while":Str))==("try":Str))=false)
   | tr b=>exact(by decide +kernel:((("try":Str))==("try":Str))=true)
theorem ZV {l:List α}{k:Nat}{x:α}(h:l[k]?=some x):l.drop k=x::l.drop (k+1):=by
 obtain⟨a,e⟩:=List.getElem?_eq_some_iff.mp h
 rw[List.drop_eq_getElem_cons a,e]
theorem AM0 {f:α->D}{l:List α}{k:Nat}(h:(l.map f)[k]?=some y):∃x,l[k]?=some x/\y=f x:=by
 rw[BQ3] at h
 cases e:l[k]? with
 | none=>rw[e] at h;cases h
 | some x=>rw[e] at h;exact⟨x,rfl,(Option.some.inj h).symm⟩
theorem Inb.snoc {b:Blk}{bk:Blk}(x:Inb b p bk i):∃a,p=a++[(i:Int)]:=by
 rcases T2 x with⟨rfl,rfl⟩|⟨q,h,bs,j,rfl,c,d⟩
 ·exact⟨[],rfl⟩
 ·exact⟨q++[(j:Int)],by simp⟩
theorem AM6 (a:List Int)(i:Int):nxt (a++[i])=a++[i+1]:=by unfold nxt;simp
theorem AK1 {b:Blk}(h:(BR3 (nxt p) (prB b [] 0)).isSome=true):bhF b p=.tup [.str "deed",plT (nxt p)]:=by rw[bhF,if_pos h]
theorem AX3 {b:Blk}(h:(BR3 (nxt p) (prB b [] 0)).isSome=false)(a:¬1<p.length):bhF b p=.tup [.str "end"]:=by rw[bhF,if_neg (by rw[h];exact BQ5),dif_neg a]
theorem FG {b:Blk}(h:(BR3 (nxt p) (prB b [] 0)).isSome=false)(a:1<p.length):bhF b p =
  (if isW (dA b (G3 p))=true then .tup [.str "test",plT (G3 p)]
  else if hasL (dA b (G3 p))=true then(if LX p=(nC (dA b (G3 p)):Int)+1 then .tup [.str "resume",plT (G3 p)] else .tup [.str "last",plT (G3 p)])
  else bhF b (G3 p)):=by rw[bhF,if_neg (by rw[h];exact BQ5),dif_pos a]
theorem rd_block_around:∀ds M Q,VG ds M Q->W9 {nx:=fun _ M'=>View Q .non M',rt:=View Q} (B9 U9 ds) M:=by
 rintro _ M Q ⟨r,p,bk,i,rfl,a,x,q⟩
 rw[ED]
 unfold W9
 walk_at "rd"
 refine ES ?_
 walk_at "rd"
 rcases T2 x with⟨rfl,rfl⟩|⟨b,h,bs,j,rfl,c,e⟩
 ·rw[show(((([(i:Int)]:List Int).length:Nat):Int)==1)=true by rfl]
  walk_at "rd"
  refine B5 (d:=.tup (dB r.blk)) rfl ?_
  exact View.of q
 ·rw[show((((b++[(j:Int),(i:Int)]).length:Nat):Int)==1)=false by rw[LG];exact decide_eq_false (by simp;lia)]
  walk_at "rd"
  refine MI ?_
  walk_at "rd"
  refine⟨r,b,.mk h bs,rfl,a,c,?_⟩
  walk_at "rd"
  refine⟨h,bs,rfl,(BH a.1 c).1,?_⟩
  walk_at "rd"
  refine ML ?_
  refine R4 (d:=.tup (dB bk)) (C2 (by rw[J5,BQ3,e];rfl)) ?_
  exact View.of q
theorem AL3 {bs:Bls}{bk:Blk}(h1:(C6 bs)[cs.length+1]?=some bk)(h2:(toL bk)[i]?=some d):hasL (.mk (.tr cs) bs)=true:=by
 show decide (0<nl ((dTs bs).getD (cs.length+1) (.tup [])))=true
 have:(dTs bs).getD (cs.length+1) (.tup [])=.tup (dB bk):=by rw[J5,BV4,BQ3,h1];rfl
 rw[this]
 have a:=(List.getElem?_eq_some_iff.mp h2).1
 exact decide_eq_true (by show 0<(dB bk).length;rw[IY,BP1];lia)
theorem zero_behind_block:∀ds M Q,¬Y7 0 ds M Q:=by rintro _ _ _ ⟨_,_,_,_,_,rfl,_,_,h,_,_,a,_⟩;lia
theorem zero_behind:∀ds M Q,¬spBehind 0 ds M Q:=by rintro _ _ _ ⟨_,_,_,rfl,_,_,h,_⟩;lia
theorem rd_behind:∀n ds M Q,spBehind (n+1) ds M Q->QE (Y7 n) (spBehind n) {nx:=fun _ M'=>View Q .non M',rt:=View Q} (B9 NR ds) M:=by
 rintro n _ M Q ⟨r,p,d,rfl,k,f,v,q⟩
 obtain⟨bk,i,x,w⟩:=AK f
 have g:=x.next
 obtain⟨b,c⟩:=x.snoc
 have m:=J7 k f
 rw[YC]
 unfold QE
 walk_at "rd"
 rw[c]
 refine VE ?_
 walk_at "rd"
 refine⟨r,p,bk,i,by rw[c],k,x,?_⟩
 walk_at "rd"
 rw[show(dB bk).length=(toL bk).length by rw[IY,BP1]]
 by_cases h:i+1<(toL bk).length
 ·rw[decide_eq_true h] at g
  rw[decide_eq_true (show(i:Int)+1<((toL bk).length:Nat) by lia)]
  rw[AK1 g,c,AM6] at q
  walk_at "rd"
  refine AR6 ?_
  walk_at "rd"
  refine VE ?_
  walk_at "rd"
  have a:=congrArg BW0 c
  rw[BP7] at a
  refine T7 (by rw[BP1,BR0];show b.length+1<=_;simp at a;lia) ?_
  walk_at "rd"
  have e:plT (b++[(i:Int)+1])=.tup (b.map D.int++[.int ((i:Int)+1)]):=by unfold plT;rw[BR4];rfl
  rw[e] at q
  exact View.of q
 ·rw[decide_eq_false h] at g
  rw[decide_eq_false (show¬(i:Int)+1<((toL bk).length:Nat) by lia)]
  walk_at "rd"
  refine ES ?_
  rw[<-c]
  walk_at "rd"
  by_cases a:1<p.length
  ·rw[show(((p.length:Nat):Int)==1)=false by rw[LG];exact decide_eq_false (by lia)]
   obtain⟨y,j,z,A,bs,o,s,t,u,B,C,E,F⟩:=GI f a
   walk_at "rd"
   rw[s]
   refine MI ?_
   walk_at "rd"
   refine ML ?_
   walk_at "rd"
   exact⟨r,p,d,bk,i,by rw[t,u],k,f,a,x,h,by lia,View.of q⟩
  ·have l:p.length=1:=by rw[c] at a ⊢;simp at a ⊢;lia
   rw[show(((p.length:Nat):Int)==1)=true by rw[l];rfl]
   rw[AX3 g a] at q
   walk_at "rd"
   exact View.of q
theorem rd_behind_block:∀n ds M Q,Y7 (n+1) ds M Q->W8 (Y7 n) (spBehind n) {nx:=fun _ M'=>View Q .non M',rt:=View Q} (B9 U8 ds) M:=by
 rintro n _ M Q ⟨r,p,d,bk,i,rfl,s,C,v,x,D,N,q⟩
 have w:=x.next
 rw[decide_eq_false D] at w
 rw[FG w v] at q
 obtain⟨m,j,O,c,bs,E,F,y,z,f,k,A,G⟩:=GI C v
 rw[y,z,k] at q
 rw[y,z]
 have a:=BH s.1 f
 have H:m.length+2=p.length:=by rw[F];simp
 obtain⟨h,B,g,I,J⟩:=LJ (.mk c bs)
 rw[EC]
 unfold W8
 walk_at "rd"
 refine⟨r,m,.mk c bs,rfl,s,f,?_⟩
 walk_at "rd"
 rw[g]
 refine B5 (d:=.str h) (C2 (j:=0) rfl) ?_
 walk_at "rd"
 rw[I a]
 cases e:isW (.mk c bs) with
 | true =>
  rw[e,if_pos rfl] at q
  walk_at "rd"
  exact View.of q
 | false =>
  rw[e,if_neg BQ5] at q
  walk_at "rd"
  refine⟨.mk c bs,j,by rw[g],a,?_⟩
  cases b:OP (.mk c bs) j with
  | true =>
   unfold OP at b
   rw[BQ0] at b
   have t:¬(j:Int)=(nC (.mk c bs):Int)+1:=by simpa using b.2
   rw[if_pos b.1,if_neg t] at q
   walk_at "rd"
   exact View.of q
  | false =>
   walk_at "rd"
   refine B5 (d:=.str h) (C2 (j:=0) rfl) ?_
   walk_at "rd"
   rw[J a]
   have last:hasL (.mk c bs)=false->spBehind n [rD r,plT m] M (View Q):=fun K=>by
    rw[K,if_neg BQ5] at q
    exact⟨r,m,.mk c bs,rfl,s,f,by lia,View.of q⟩
   match c,a,g,e,b,q,last,k,f with
   | .tr cs,a,g,e,b,q,last,k,f =>
    show if true=true then _ else _
    walk_at "rd"
    refine⟨cs,bs,j,by rw[g],a,?_⟩
    have l:nC (.mk (.tr cs) bs)=cs.length:=rfl
    by_cases o:(j:Int)=(cs.length:Int)+1
    ·rw[decide_eq_true o]
     have u:j=cs.length+1:=by lia
     rw[u] at A
     have L:=AL3 (cs:=cs) A G
     rw[if_pos L,if_pos (by rw[l];exact o)] at q
     walk_at "rd"
     exact View.of q
    ·rw[decide_eq_false o]
     walk_at "rd"
     refine last ?_
     unfold OP at b
     rw[l,decide_eq_false o,Bool.not_false,Bool.and_true] at b
     exact b
   | .leaf _ _,a,g,e,b,q,last,k,f =>
    show if false=true then _ else _
    walk_at "rd"
    exact last rfl
   | .ife _,a,g,e,b,q,last,k,f =>
    show if false=true then _ else _
    walk_at "rd"
    exact last rfl
   | .whl _,a,g,e,b,q,last,k,f=>cases e
end GO
namespace L3
open PySem PySem.Spec PyProof.Rows L2
section
variable {X:Cx}
def UY:C3:=fun ds M Q=>match ds with
 | [.int i,.int j]=>Q (.int (if j>i then j else i)) M
 | _=>False
theorem AX8 (d:X.calm=true):CallR3 X (.builtin "max") UY:=CallR3.of (WC d) fun H M h e Q m f q=>by
 cases f with
 | nil=>exact(q:False).elim
 | cons b g =>
 cases g with
 | nil=>first|exact(q:False).elim|(cases b<;>exact(q:False).elim)
 | cons c a =>
 cases b with
 | int =>
  cases c with
  | int =>
   cases a with
   | nil=>exact⟨_,_,rfl,up0 m .int q⟩
   | cons _ _=>exact(q:False).elim
  | _=>first|exact(q:False).elim|(cases a<;>exact(q:False).elim)
 | _=>first|exact(q:False).elim|(cases a<;>exact(q:False).elim)|(cases c<;>cases a<;>exact(q:False).elim)
theorem AX1:BU2 "max"=some (.builtin "max"):=by decide +kernel
instance rd_maxI {i j:Int}{M:Mem}{Q:DK}:RdC (UY [.int i,.int j] M Q) (Q (.int (if j>i then j else i)) M):=⟨fun h=>h⟩
def GP:M3:=fun x xs M Q=>∃z,x=.str z/\xs=[]/\z.length<=BQ6/\(Builtin.Str.spaceWords z (z.length+1)).length<=BQ6/\(Builtin.Str.spaceWords z (z.length+1)==[(0,z.length)])=false/\(wordsOf z).length<=BQ6/\Q (.lst ((wordsOf z).map D.str)) M
theorem WU:MtR3 X "str.split" GP:=by
 rintro d s e H M x n o f v p Q I m g a h b ⟨z,rfl,rfl,i,j,k,l,q⟩
 cases b
 cases a
 cases h
 obtain⟨t,rfl⟩:=g
 refine call_meets F.slot_str_split (typeIs_str _ _ _) F.entry_str_split (F.args_str_split_1 _) (meets_str_split_space z t i j) ?_
 rw[if_neg (by rw[k];decide)]
 have c:=I.fresh
 exact⟨_,.ref _,M,_,(I.lnew (Z7 _ _) (by rw[BP1];exact l)),Step.lay c,m.lay c,rfl,.lst (.inl ⟨.inl D5,m.free c⟩) (JU _),q⟩
def ME:M3:=fun x xs M Q=>∃z a,∃ys:List Str,x=.str z/\xs=[.ref a]/\M a=some (.lst (ys.map D.str))/\AA7 z ys/\Q (.str (Txt.join z ys)) M
theorem AB3:MtR3 X "str.join" ME:=by
 rintro d s e H M x B C f v D Q I m g b h c ⟨z,a,E,rfl,rfl,i,j,q⟩
 obtain⟨F,rfl,l⟩:=PR c
 obtain⟨u,rfl,n⟩:=vals1 b
 cases h
 obtain⟨t,rfl⟩:=g
 cases l
 cases n
 obtain⟨o,p,r⟩:=m _ _ i
 cases o<;>first|exact r.elim|skip
 obtain⟨w,y,A,G⟩:=I.list (.inl (.inl p))
 exact join_list A.isList (by simpa using VO (show Reps _ _ _ _ _ from r) y) j fun J k=>⟨_,.str _,M,H,I.tok k,.refl,m,⟨_,rfl⟩,.str,q⟩
def ER:C3:=fun ds M Q=>∃a xs,ds=[.ref a]/\M a=some (.lst xs)/\Q (.lst xs) M
theorem YW:CallR3 X (.type "list") ER:=CallR3.of LE fun H M j c Q m d q=>by
 obtain⟨a,k,rfl,e,q⟩:=q
 obtain⟨n,rfl,f⟩:=PR d
 cases f
 obtain⟨g,h,r⟩:=m _ _ e
 cases g<;>first|exact r.elim|skip
 have i:Reps _ _ _ _ _:=r
 exact⟨_,_,rfl,.inl (.inl (.inl h)),fun l b=>⟨_,M,Step.lay b,m.lay b,.lst (.inl ⟨.inl D5,m.free b⟩) (i.mono (Step.lay b)),q⟩⟩
theorem AG6 {a:Addr}{xs:List D}{Q:DK}(h:M a=some (.lst xs))(q:Q (.lst xs) M):ER [.ref a] M Q:=⟨a,xs,rfl,h,q⟩
end
end L3
namespace L3
open PySem L2
instance rd_slWL {ds:List D}{l u:Option Int}{M:Mem}{Q:DK}:RdC (Z6 (.lst ds) l u M Q) (Q (.lst (cutD ds l u)) M):=⟨fun h=>h⟩
end L3
open L3
namespace K01
open PySem L2 L3
end K01
namespace L3
open PySem PySem.Spec PyProof.Rows L2
theorem RB {R:Result->BP9->Prop}{kx vx a:Expr}{it:Value}{D:Addr}(I:Nat->BP9->Prop)
  (o:∀n s,I n s->wpAny (model prog w) A (pyNext it) (fun r s₁=>match r with
   | none=>R (.ok .next) s₁
   | some v=>wpAny (model prog w) A (CB3 a it v) (fun _ d=>wpAny (model prog w) A (assign a env v) (fun _ s₂ =>
     wpAny (model prog w) A (forIn ifs true fun c r=>if r=true then do let ok <-isTrue c env (eval c env);pure (ForInStep.yield ok) else pure (ForInStep.yield r)) (fun ok e =>
      if ok=true then wpAny (model prog w) A (eval kx env) (fun x f=>wpAny (model prog w) A (eval vx env) (fun y g =>
       wpAny (model prog w) A (dictSet D x y) (fun _ i=>∃m,m<n/\I m i) (fun _ _=>False) g) (fun _ _=>False) f) (fun _ _=>False) e
      else∃m,m<n/\I m e) (fun _ _=>False) s₂) (fun _ _=>False) d) (fun _ _=>False) s₁) (fun _ _=>False) s)
  (n:Nat) (h:I n s):codeAny (model prog w) A (.compLoop (.DictComp kx vx [⟨a,iter,ifs,0⟩] scope pos) 0 it (.ref D) env) R s:=by
 refine codeAny_loop rfl I (fun n s z=>?_) n h
 refine wpAny_noted ?_
 refine BP2 (CD1 (BP2 (BV0 (o n s z) (fun r s₁ j=>?_) fun _ _ b=>b.elim)))
 cases r with
 | none=>exact BP6 j
 | some v =>
  refine BP2 (BV0 j (fun _ d l=>?_) fun _ _ b=>b.elim)
  refine BP2 (BV0 l (fun _ s₂ p=>BP2 (BV0 p (fun ok e k=>?_) fun _ _ b=>b.elim)) fun _ _ b=>b.elim)
  cases ok with
  | false=>exact BP6 ⟨rfl,k⟩
  | true =>
   exact BP2 (BP2 (BV0 k (fun x f q=>BP2 (BU9 (BV0 q (fun y g t=>BP2 (CD1 (BU9 (BV0 t (fun _ i u=>BP6 ⟨rfl,u⟩) fun _ _ b=>b.elim)))) fun _ _ b=>b.elim))) fun _ _ b=>b.elim))
def Fg (K:BP3)(x:Str)(st:Stmt):Prop:=∃(f:Addr) (oc:Value) (od an:Option Addr) (osl:Array (Option Value)) (kV doc pm cdv ct:Value),
 BW6 K BT1 x=some (some (.ref f))/\K.lookup f=some ⟨oc,od,.func (BW1 x x (K7 st) (G1 st) (D4 st) .none kV doc pm an cdv ct),osl⟩ /\
 CA6 K cdv x=true/\BV3 K (.ref f)=true
theorem Fg.of {f:Addr}{kV pm ct:Value}
  (a:BW6 K BT1 x=some (some (.ref f))) (l:K.lookup f=some ⟨oc,od,.func (BW1 x x (K7 st) (G1 st) (D4 st) .none kV doc pm an cdv ct),osl⟩)
  (c:CA6 K cdv x=true) (k:BV3 K (.ref f)=true):Fg K x st:=⟨f,oc,od,an,osl,kV,doc,pm,cdv,ct,a,l,c,k⟩
def Bd (x:Str)(st:Stmt)(ps:List Str):Prop:=∀(kV doc pm:Value) (an:Option Addr) (cdv ct:Value) (us:List Value),us.length=ps.length->bindArgs (BW1 x x (K7 st) (G1 st) (D4 st) .none kV doc pm an cdv ct) ⟨us,[]⟩=pure (ps.zip us)
section
variable {K:BP3}{h:Heap}{mg:Str->Option Value}{x:Str}{st:Stmt}{fa:Addr}(X:K.In h)(G:h.Ns BT1 mg)
include X G
theorem Fg.at (b:Bd x st ps)(p:Fg K x st):∃f fd,VX K mg x st ps f fd:=by
 obtain⟨f,h,i,j,d,kV,e,pm,g,ct,a,l,c,k⟩:=p
 exact⟨f,_,TR X G a l c k b⟩
theorem Fg.law {q:Str}(b:mg x=some (.ref fa))(g:Bd x st [q])(p:Fg K x st):∃fd,VX K mg x st [q] fa fd/\∀(s:BP9) (v:Value),BindsTo s fd ⟨[v],[]⟩ [(q,v)]:=by
 obtain⟨f,j,m,h,i,kV,d,pm,e,ct,a,l,c,k⟩:=p
 cases b.symm.trans (PySem.W.mg_of X G a)
 exact⟨_,TR X G a l c k g,fun s v=>.of_eq (g kV d pm h e ct [v] rfl)⟩
end
section
variable {X:Cx}{pos:Pos}{f:Addr}{fd:CD4}{ps:List Str}{k:Nat}{x:Str}{p:Pos}{sp:Sp3}{e:Expr}{es:List Expr}{t:TA3}{st:Stmt}
end
section
variable {X:Cx}{i:Expr}{ti:TE3}{pos:Pos}
def ZY (P:Params)(r:Str×Tok×Str×Tok):DictEntry:=⟨BT8 P r.1,.str r.1 r.2.1,.str r.2.2.1 r.2.2.2⟩
def DN (rows:List (Str×Tok×Str×Tok)):List (Key×Value):=rows.map fun r=>(Sum.inr r.1,.str r.2.2.1 r.2.2.2)
def KH (K:BP3)(P:Params)(a:Addr)(tbl:List (Str×Str)):Prop:=∃(rows:List (Str×Tok×Str×Tok)) (ep:Nat),K.lookup a=some ⟨.type "dict",none,.dict (rows.map (ZY P)).toArray ep,#[]⟩/\(rows.map (·.1)).Nodup/\rows.map (fun r=>(r.1,r.2.2.1))=tbl
theorem GT:∀{a:List (Str×Tok×Str×Tok)} {w y:Str},(a.map (fun r=>(r.1,r.2.2.1))).lookup w=some y->∃t,valueAt (DN a) (Sum.inr w)=some (.str y t)
 | [],w,y,h=>by simp at h
 | (s,t,y',t')::a,w,y,h=>by
  simp only[BR7,BR3] at h
  by_cases b:w=s
  ·subst b
   simp only[beq_self_eq_true] at h
   cases h
   exact⟨t',by simp[valueAt,DN]⟩
  ·have c:(w==s)=false:=by simpa using b
   rw[c] at h
   obtain⟨u,d⟩:=GT h
   refine⟨u,?_⟩
   have:¬(Sum.inr s:Key)=Sum.inr w:=fun z=>b (Sum.inr.inj z).symm
   unfold valueAt DN at d ⊢
   rw[BR7,List.find?_cons_of_neg (by simpa using this)]
   exact d
theorem DO {P:BT5}{w:World}:∀a:List (Str×Tok×Str×Tok),Pairs (D9 P w) (a.map (ZY w.params)) (DN a)
 | []=>.nil
 | r::a=>.cons (N8 P w r.1 r.2.1) rfl (DO a)
theorem WN {a:Addr}{c:List (Str×Tok×Str×Tok)}{g:Nat}(i:h.get? a=some ⟨.type "dict",none,.dict (c.map (ZY w.params)).toArray g,#[]⟩)(j:(c.map (·.1)).Nodup) :
  h.DictOf (D9 P w) a (DN c):=by
 refine⟨_,_,g,i,⟨rfl,rfl,rfl⟩,rfl,fun e k=>?_,by simpa using DO c,?_⟩
 ·obtain⟨s,t,y,d,_,rfl⟩:∃s t y d,(s,t,y,d)∈c/\ZY w.params (s,t,y,d)=e:=by simpa using k
  exact⟨.inr s,N8 P w s t,rfl⟩
 ·have:(DN c).map (·.1)=(c.map (·.1)).map Sum.inr:=by unfold DN;rw[BW9,BW9];rfl
  rw[this]
  exact List.Pairwise.map _ (fun a b f l=>f (Sum.inr.inj l)) j
def AS6 (tbl:List (Str×Str))(ti:TE3):TE3:=fun σ M Q=>ti σ M fun d M1=>∃w y,d=.str w/\tbl.lookup w=some y/\Q (.str y) M1
theorem BB7 {tbl:List (Str×Str)}{j:Pos}(A:Gl X x)(l:∃a,X.mg x=some (.ref a)/\KH X.K X.w.params a tbl)(hi:PE3 X i ti)(hs:WA i)(hd:(x==("__debug__":Str))=false:=by decide):PE3 X (.Subscript (.Name x j) i pos) (AS6 tbl ti):=by
 obtain⟨a,l,c,Z,B,C,gr⟩:=l
 intro b s e H m M Q I o D h
 refine NF PySem.F.slot_dict_getitem.lookup hs (thn (PD (d:=.ref a) (v:=.ref a) A l rfl (fun _ _=>.ref) hd b s e H m M (fun d f=>d=.ref a/\ti m f fun d f=>∃w y,d=.str w/\tbl.lookup w=some y/\Q (.str y) f) I o D ⟨rfl,h⟩) fun u E ⟨d,v,f,G,J,g,m1,L,j,N,O⟩=>?_)
 subst N
 cases j
 obtain rfl:u=Value.ref a:=L
 refine thn (hi b E e G m f _ J (o.mono g) m1 O) fun iv P ⟨y,yv,R,S,p,n,m2,T,U,w,z,V,q,W⟩=>?_
 subst V
 cases U
 have r:P.heap.DictOf (D9 X.prog X.w) a (DN c):=WN (p.kIn a _ B) C
 rw[<-gr] at q
 obtain⟨t,Y⟩:=GT q
 exact⟨r.typeIs,wpAny_getItem_of (ON (k:=.inr w) T) r.mapOf Y ⟨_,.str z,R,S,p.tok _,g.trans n,m2,⟨_,rfl⟩,.str,W⟩⟩
instance rd_gs {tbl:List (Str×Str)}{σ:Lo}{M:Mem}{Q:DK}:RdC (AS6 tbl ti σ M Q) (ti σ M fun d M1=>∃w y,d=.str w/\tbl.lookup w=some y/\Q (.str y) M1):=⟨fun h=>h⟩
end
structure Book where
 bin:Nat->Operator->R3
 cmp:Nat->CmpOp->R3
 call:Nat->Str->Option (Value×C3)
 meth:Nat->Str->Option (String×String×M3)
structure BookOk (B:Book)(X:Cx):Prop where
 bin:∀n op,OpR3 X (BY6 op) (B.bin n op)
 cmp:∀n op,OpR3 X (BT0 op) (B.cmp n op)
 call:∀n x u r,B.call n x=some (u,r)->X.mg x=none/\BU2 x=some u/\((∃i,u=.builtin i)\/∃T,u=.type T)/\CallR3 X u r
 meth:∀n x T i r,B.meth n x=some (T,i,r)->PlainAttrs T/\Slot T x i/\typeOf (.builtin i)=pure (.type "method_descriptor")/\MtR3 X i r
structure Ct where
 N:List Str
 sc:Scope
 fns:Str->Option Sp3
 con:Str->Option D
 tb:Str->Option (List (Str×List Str))
 ts:Str->Option (List (Str×Str))
 h:Pos->Nat
 hi:Pos->Nat
 cp:Pos->Option (List Str)
 fz:Nat->List Nat
 B:Book
def AV9 (P:BT5)(w:World)(K:BP3)(mg:Str->Option Value)(base:Heap)(A:BY4)(x:Str)(sp:Sp3):Prop :=
 ∃k f fd ps,Y9 P w K mg base CX0 k f fd ps (FN K sp)/\Room k A/\mg x=some (.ref f)/\BV3 K (.ref f)=true/\Binds K fd ps []
structure OkC (Γ:Ct)(X:Cx):Prop where
 N:X.N=Γ.N
 nd:Γ.N.Nodup
 sc:∀x,X.env.kindOf x=Γ.sc.names.lookup x\/(Γ.sc.names.lookup x=some .free/\X.env.kindOf x=some .cell)
 cel:∀x,Γ.sc.names.lookup x=some .cell->X.fn x=true
 fns:∀x sp,Γ.fns x=some sp->AV9 X.prog X.w X.K X.mg X.base X.A x sp
 con:∀x d,Γ.con x=some d->(∃u v,X.mg x=some u/\RelV v u/\∀M H,Rep X.K M H d v)\/∃n,d=.ty n/\X.mg x=none/\BU2 x=some (.type n)
 tb:∀x l,Γ.tb x=some l->∃a,X.mg x=some (.ref a)/\AS8 X.K X.w.params a l/\(a==BW5)=false
 ts:∀x l,Γ.ts x=some l->∃a,X.mg x=some (.ref a)/\KH X.K X.w.params a l
 calm:X.calm=true
 un:X.A.units+2<cLine
 bk:∀Y:Cx,Y.mg=X.mg->Y.A=X.A->Y.calm=true->BookOk Γ.B Y
theorem OkC.b {Γ:Ct}{X:Cx}(o:OkC Γ X):BookOk Γ.B X:=o.bk X rfl rfl o.calm
structure Rc where
 E:Ct->Expr->TE3
 T:Ct->Expr->TT3
def Z0 (R:Rc):Prop:=∀Γ X,OkC Γ X->(∀e,PE3 X e (R.E Γ e))/\∀e,PT3 X e (R.T Γ e)
structure Ext where
 E:Rc->Ct->Expr->Option TE3
 I:Rc->Ct->Expr->Expr->Option TI3
 J:Rc->Ct->Expr->Expr->Option TI3
 S:Rc->(Ct->List Stmt->TS3)->Ct->Stmt->Option TS3
def Pw (X:Cx):Prop:=PassesOwn (model X.prog X.w) X.A X.env X.xe
def YI (b:Ct->List Stmt->TS3):Prop:=∀Γ X,OkC Γ X->Pw X->∀ss,PSs3 X ss (b Γ ss)
structure ExtOk (x:Ext):Prop where
 E:∀R,Z0 R->∀Γ X,OkC Γ X->∀e t,x.E R Γ e=some t->PE3 X e t
 I:∀R,Z0 R->∀Γ X,OkC Γ X->∀g i t,x.I R Γ g i=some t->PI3 X g i t
 J:∀R,Z0 R->∀Γ X,OkC Γ X->∀g i t,x.J R Γ g i=some t->QV X g i t
 S:∀R,Z0 R->∀b,YI b->∀Γ X,OkC Γ X->Pw X->∀s t,x.S R b Γ s=some t->PS3 X s t
def CJ:Ext:=⟨fun _ _ _=>none,fun _ _ _ _=>none,fun _ _ _ _=>none,fun _ _ _ _=>none⟩
theorem J9:ExtOk CJ:=⟨fun _ _ _ _ _ _ _ h=>(by cases h),fun _ _ _ _ _ _ _ _ h=>(by cases h),fun _ _ _ _ _ _ _ _ h=>(by cases h),fun _ _ _ _ _ _ _ _ _ _ h=>(by cases h)⟩
def or1 {α:Type}(a b:Option α):Option α:=match a with|some x=>some x|none=>b
theorem MB {a b:Option α}{t:α}(h:or1 a b=some t):a=some t\/b=some t:=by
 unfold or1 at h
 split at h
 ·exact .inl h
 ·exact .inr h
def Ext.or (x y:Ext):Ext:=⟨fun R Γ e=>or1 (x.E R Γ e) (y.E R Γ e),fun R Γ g i=>or1 (x.I R Γ g i) (y.I R Γ g i),fun R Γ g i=>or1 (x.J R Γ g i) (y.J R Γ g i),fun R b Γ s=>or1 (x.S R b Γ s) (y.S R b Γ s)⟩
theorem ExtOk.or {x y:Ext}(a:ExtOk x)(b:ExtOk y):ExtOk (x.or y) where
 E:=fun R h d X o e t q=>(MB q).elim (a.E R h d X o e t) (b.E R h d X o e t)
 I:=fun R h d X o g i t q=>(MB q).elim (a.I R h d X o g i t) (b.I R h d X o g i t)
 J:=fun R h d X o g i t q=>(MB q).elim (a.J R h d X o g i t) (b.J R h d X o g i t)
 S:=fun R h c k d X o p s t q=>(MB q).elim (a.S R h c k d X o p s t) (b.S R h c k d X o p s t)
def bad:TE3:=fun _ _ _=>False
def YU:TT3:=fun _ _ _=>False
def BG1:TA3:=fun _ _ _=>False
def AV:TS3:=fun _ _ _=>False
section
variable {Γ:Ct}{X:Cx}{R:Rc}
theorem F7:PE3 X e bad:=fun _ _ _ _ _ _ _ _ _ _ h=>h.elim
theorem LA:PT3 X e YU:=fun _ _ _ _ _ _ _ _ _ _ h=>h.elim
theorem AK0:PA3 X es BG1:=fun _ _ _ _ _ _ _ _ _ _ _ h=>h.elim
theorem K6:PS3 X st AV:=fun _ _ _ _ _ _ _ _ _ _ h=>h.elim
theorem YT {st:List Stmt}:PSs3 X st AV:=fun _ _ _ _ _ _ _ _ _ _ h=>h.elim
def dbg (x:Str):Bool:=x=="__debug__" || x=="__classdict__" || x=="__name__"
def ixn (x:Str):List Str->Nat->Option Nat
 | [],_=>none
 | y::ys,n=>match x==y with|true=>some n|false=>ixn x ys (n+1)
theorem AA6 {x:Str}:∀{l:List Str} {n i:Nat},ixn x l n=some i->n<=i/\l[i-n]?=some x
 | [],n,i,h=>by cases h
 | y::ys,n,i,h=>by
  unfold ixn at h
  split at h
  ·cases h
   rename_i e
   simp only[BP5,Nat.sub_self,List.getElem?_cons_zero,true_and]
   rw[eq_of_beq e]
  ·obtain⟨a,b⟩:=AA6 h
   refine⟨by lia,?_⟩
   have:i-n=i-(n+1)+1:=by lia
   rw[this,CA4]
   exact b
theorem LO (o:OkC Γ X)(h:ixn x Γ.N 0=some i):X.N[i]?=some x:=by
 rw[o.N];simpa using(AA6 h).2
def rNm (Γ:Ct)(x:Str):TE3:=match dbg x,Γ.sc.names.lookup x with
 | false,some .globalImplicit=>match Γ.con x with|some d=>tC3 d|none=>bad
 | false,some .globalExplicit=>bad
 | false,some _=>match ixn x Γ.N 0 with|some i=>A4 i|none=>bad
 | _,_=>bad
theorem TB (h:dbg x=false):(x==("__debug__":Str))=false:=by
 unfold dbg at h;simp only[BU0] at h;exact h.1.1
theorem BG5 (h:dbg x=false):(x==("__classdict__":Str))=false:=by
 unfold dbg at h;simp only[BU0] at h;exact h.1.2
theorem AT1 (h:dbg x=false):x≠"__name__":=by
 unfold dbg at h;simp only[BU0] at h;exact ne_of_beq_false h.2
theorem OkC.gl (o:OkC Γ X)(h:Γ.sc.names.lookup x=some .globalImplicit):Gl X x:=by
 rcases o.sc x with e|⟨e,_⟩
 ·exact e.trans h
 ·rw[h] at e;cases e
theorem OkC.lcl (o:OkC Γ X)(h:Γ.sc.names.lookup x=some .local):X.env.scope.names.lookup x=some .local:=by
 rcases o.sc x with e|⟨e,_⟩
 ·exact e.trans h
 ·rw[h] at e;cases e
theorem OkC.cll (o:OkC Γ X)(h:Γ.sc.names.lookup x=some .cell):X.env.scope.names.lookup x=some .cell:=by
 rcases o.sc x with e|⟨e,_⟩
 ·exact e.trans h
 ·rw[h] at e;cases e
theorem OkC.fre (o:OkC Γ X)(h:Γ.sc.names.lookup x=some .free):Vis X.env.scope x:=by
 rcases o.sc x with e|⟨_,e⟩
 ·exact .inr (.inr (e.trans h))
 ·exact .inr (.inl e)
theorem BI7 (o:OkC Γ X):PE3 X (.Name x pos) (rNm Γ x):=by
 unfold rNm
 cases hd:dbg x
 case true=>exact F7
 cases hk:Γ.sc.names.lookup x with
 | none=>exact F7
 | some k =>
  have lo:Vis X.env.scope x->PE3 X (.Name x pos) (match ixn x Γ.N 0 with|some i=>A4 i|none=>bad):=fun c=>by
   cases hi:ixn x Γ.N 0 with
   | none=>exact F7
   | some i=>exact pv3 i (LO o hi) c (TB hd) (BG5 hd)
  cases k with
  | «local»=>exact lo (.inl (o.lcl hk))
  | cell=>exact lo (.inr (.inl (o.cll hk)))
  | free=>exact lo (o.fre hk)
  | globalExplicit=>exact F7
  | globalImplicit =>
   cases hc:Γ.con x with
   | none=>exact F7
   | some d =>
    rcases o.con x d hc with⟨u,v,a,b,e⟩|⟨n,rfl,a,b⟩
    ·exact PD (o.gl hk) a b e (TB hd)
    ·exact AC7 (d:=.ty n) (v:=.ty n) (o.gl hk) a b rfl (fun _ _ _=>.ty) (AT1 hd) (TB hd)
def rA (f:Expr->TE3):List Expr->TA3
 | []=>A5
 | e::es=>match isStar e with|true=>BG1|false=>A0 (f e) (rA f es)
theorem HX {f:Expr->TE3}(a:∀e,PE3 X e (f e)):∀es,PA3 X es (rA f es)
 | []=>UO
 | e::es=>by
  unfold rA
  cases h:isStar e
  ·exact BK5 (a e) (HX a es) h
  ·exact AK0
def rO (f:Expr->TE3):Option Expr->TO3
 | none=>G4
 | some e=>K2 (f e)
theorem XA {f:Expr->TE3}(a:∀e,PE3 X e (f e)):∀e,PO3 X e (rO f e)
 | none=>AE1
 | some e=>GH (a e)
def AF8 (f:Expr->TE3):List Expr->TE3
 | []=>bad
 | e::r=>match r with|[]=>f e|_::_=>U2 (f e) (AF8 f r)
def BE3 (f:Expr->TE3):List Expr->TE3
 | []=>bad
 | e::r=>match r with|[]=>f e|_::_=>JW (f e) (BE3 f r)
theorem SQ {f:Expr->TE3}(a:∀e,PE3 X e (f e)){pos:Pos}:∀vs,PE3 X (.BoolOp .And vs pos) (AF8 f vs)
 | []=>F7
 | [e]=>UP (a e)
 | e::b::r=>AN5 (a e) (SQ a (b::r))
theorem AC4 {f:Expr->TE3}(a:∀e,PE3 X e (f e)){pos:Pos}:∀vs,PE3 X (.BoolOp .Or vs pos) (BE3 f vs)
 | []=>F7
 | [e]=>UP (a e)
 | e::b::r=>BC0 (a e) (AC4 a (b::r))
def RZ (f:Expr->TT3):List Expr->TT3
 | []=>YU
 | e::r=>match r with|[]=>f e|_::_=>HA (f e) (RZ f r)
def AG1 (f:Expr->TT3):List Expr->TT3
 | []=>YU
 | e::r=>match r with|[]=>f e|_::_=>CY (f e) (AG1 f r)
theorem QI {f:Expr->TT3}(a:∀e,PT3 X e (f e)){pos:Pos}:∀b r,PW3 X (.BoolOp .And (b::r) pos) (RZ f (b::r))
 | e,[]=>AF7 (a e)
 | e,b::r=>AR0 (a e) (QI a b r)
theorem VW {f:Expr->TT3}(a:∀e,PT3 X e (f e)){pos:Pos}:∀b r,PW3 X (.BoolOp .Or (b::r) pos) (AG1 f (b::r))
 | e,[]=>AR1 (a e)
 | e,b::r=>BE0 (a e) (VW a b r)
def AG0 (R:Rc)(Γ:Ct)(a:Expr)(ops:List CmpOp)(bs:List Expr)(pos:Pos):TE3:=match ops,bs with
 | [op],[b]=>match behindInMarks op b with|true=>bad|false=>A6 (Γ.B.cmp (Γ.h pos) op) (R.E Γ a) (R.E Γ b)
 | [op,op'],[b,c]=>match lastMarks [op,op'] [b,c] with|true=>bad|false=>O9 (Γ.B.cmp (Γ.h pos) op) (Γ.B.cmp (Γ.h pos) op') (R.E Γ a) (R.E Γ b) (R.E Γ c)
 | _,_=>bad
theorem LB:PT3 X e (B1 bad):=fun _ _ _ _ _ _ _ _ _ _ h=>h.elim
theorem YZ (o:OkC Γ X)(d:∀e,PE3 X e (R.E Γ e)){a:Expr}{ops:List CmpOp}{bs:List Expr}:PE3 X (.Compare a ops bs pos) (AG0 R Γ a ops bs pos)/\PT3 X (.Compare a ops bs pos) (B1 (AG0 R Γ a ops bs pos)):=by
 unfold AG0
 split
 ·rename_i f b
  cases h:behindInMarks f b
  ·exact⟨AN7 (o.b.cmp _ _) (d _) (d _) h,AQ8 (o.b.cmp _ _) (d _) (d _) h⟩
  ·exact⟨F7,LB⟩
 ·rename_i f g b c
  cases h:lastMarks [f,g] [b,c]
  ·exact⟨XG (o.b.cmp _ _) (o.b.cmp _ _) (d _) (d _) (d _) h,XX (o.b.cmp _ _) (o.b.cmp _ _) (d _) (d _) (d _) h⟩
  ·exact⟨F7,LB⟩
 ·exact⟨F7,LB⟩
def BE5 (R:Rc)(Γ:Ct)(a b:Expr)(pos:Pos):TE3:=match b with
 | .Slice lo hi none _=>BO (R.E Γ a) (rO (R.E Γ) lo) (rO (R.E Γ) hi)
 | .Slice _ _ (some _) _=>bad
 | .Constant (.str _) _ _=>A6 E3 (R.E Γ a) (R.E Γ b)
 | _=>match Γ.h pos with|0=>A6 B7 (R.E Γ a) (R.E Γ b)|_=>A6 E3 (R.E Γ a) (R.E Γ b)
theorem AB7 {b:Expr}(h:∀l u s p,b≠.Slice l u s p):WA b:=by
 intro o i;cases b<;>first|rfl|exact absurd rfl (h _ _ _ _)
theorem BE9 (o:OkC Γ X)(c:∀e,PE3 X e (R.E Γ e)){a b:Expr}:PE3 X (.Subscript a b pos) (BE5 R Γ a b pos):=by
 unfold BE5
 split
 ·exact AO3 (c _) (XA c _) (XA c _)
 ·exact F7
 ·exact PB (Nat.lt_of_succ_lt o.un) (c _) (c _) (AB7 fun _ _ _ _ h=>by cases h)
 ·rename_i f g i
  have d:∀l u s p,b≠.Slice l u s p:=fun l u s p e=>by
   cases s with
   | none=>exact f _ _ _ e
   | some s=>exact g _ _ _ _ e
  split
  ·exact BB8 (c _) (c _) (AB7 d)
  ·exact PB (Nat.lt_of_succ_lt o.un) (c _) (c _) (AB7 d)
end
section
variable {Γ:Ct}{X:Cx}{R:Rc}
def gl (Γ:Ct)(x:Str):Bool:=!dbg x && (match Γ.sc.names.lookup x with|some .globalImplicit=>true|_=>false)
theorem OJ (o:OkC Γ X)(h:gl Γ x=true):Gl X x/\(x==("__debug__":Str))=false/\x≠"__name__":=by
 unfold gl at h
 simp only[BQ0,BU8] at h
 refine⟨o.gl ?_,TB h.1,AT1 h.1⟩
 have a:=h.2
 split at a
 ·assumption
 ·cases a
theorem GY (h:es.any isStar=false):((CD9 pos (BR9 es env)).any (·.1))=false:=by
 induction es with
 | nil=>rfl
 | cons e es a =>
  rw[BT6,BU0] at h
  rw[F1 h.1]
  show(false || _)=false
  exact a h.2
theorem JT (h:es.any isStar=false):((CD9 pos (BR9 es env)).all (!·.1))=true:=by
 have:=GY (env:=env) (pos:=pos) h
 simpa using this
def UK:Expr->Bool
 | .Call _ [] _ _=>false
 | _=>true
theorem SI {o:Expr}{n:Str}(h:UK o=true):attributeBase o n env (eval o env)=eval o env:=by
 cases o with
 | Call f b c p =>
  cases b with
  | nil=>cases h
  | cons a b=>cases f<;>rfl
 | _=>rfl
def AF9 (R:Rc)(Γ:Ct)(f:Expr)(args:List Expr)(kws:List Keyword)(pos:Pos):TE3:=match f,kws with
 | .Name x _,[]=>match gl Γ x && !args.any isStar with
  | false=>bad
  | true=>match Γ.fns x with
   | some sp=>A7 sp (rA (R.E Γ) args)
   | none=>match Γ.B.call (Γ.h pos) x,args with
    | some (_,r),_::_=>F2 r (rA (R.E Γ) args)
    | _,_=>bad
 | .Attribute o m ap,[]=>match ap.endLine==pos.line && !args.any isStar && UK o && decide (args.length<30) with
  | false=>bad
  | true=>match Γ.B.meth (Γ.h pos) m with
   | none=>bad
   | some (T,_,r)=>match args with
    | []=>VQ T r (R.E Γ o)
    | _::_=>Q5 T r (R.E Γ o) (rA (R.E Γ) args)
 | _,_=>bad
theorem AK2 (o:OkC Γ X)(j:∀e,PE3 X e (R.E Γ e)){f:Expr}{args:List Expr}{kws:List Keyword}:PE3 X (.Call f args kws pos) (AF9 R Γ f args kws pos):=by
 unfold AF9
 split
 ·rename_i x p
  cases h:(gl Γ x && !args.any isStar)
  ·exact F7
  rw[BQ0,BU8] at h
  obtain⟨l,n,q⟩:=OJ o h.1
  have d:=HX j args
  cases hf:Γ.fns x with
  | some G =>
   obtain⟨k,f,L,M,s,t,v,w,y⟩:=o.fns x G hf
   cases args with
   | nil=>exact XE s t l v w y n
   | cons a A =>
    have c:=h.2
    rw[BT6,BU0] at c
    exact AC8 s t l v w y d n (F1 c.1 _ _) (GY c.2)
  | none =>
   dsimp only
   split
   ·rename_i u r a A H
    obtain⟨m1,m2,m3,g⟩:=o.b.call _ _ _ _ H
    have c:=h.2
    rw[BT6,BU0] at c
    rcases m3 with⟨i,rfl⟩|⟨T,rfl⟩
    ·exact XF g l m1 m2 d q n (F1 c.1 _ _) (GY c.2)
    ·exact RM g l m1 m2 d q n (F1 c.1 _ _) (GY c.2)
   ·exact F7
 ·rename_i I m J
  cases h:(J.endLine==pos.line && !args.any isStar && UK I && decide (args.length<30))
  ·exact F7
  rw[BQ0,BQ0,BQ0,BU8] at h
  obtain⟨⟨⟨C,D⟩,F⟩,K⟩:=h
  cases hm:Γ.B.meth (Γ.h pos) m with
  | none=>exact F7
  | some z =>
   obtain⟨m1,m2,m3,g⟩:=o.b.meth _ _ _ _ _ hm
   have d:=HX j args
   cases args with
   | nil=>exact AN6 m1 m2 m3 g (j _) (SI F) C
   | cons a A =>
    have c:=D
    rw[BT6,BU0] at c
    refine BB5 m1 m2 m3 g (j _) d (SI F) ?_ C (F1 c.1 _ _) (GY c.2)
    rw[BQ0,BQ0]
    exact⟨⟨JT D,rfl⟩,by simpa using K⟩
 ·exact F7
inductive Gi where
 | one (i:Nat)|many (is:List Nat)|lsts (is:List Nat)
def gD:Gi->TG3
 | .one i=>J0 i
 | .many is=>U6 is
 | .lsts is=>AT7 is
def lc (Γ:Ct)(x:Str):Option Nat:=match Γ.sc.names.lookup x with
 | some .local=>ixn x Γ.N 0
 | some .cell=>ixn x Γ.N 0
 | _=>none
theorem OO (o:OkC Γ X)(h:lc Γ x=some i):X.N.Nodup/\X.N[i]?=some x/\Loc X.env.scope x/\(X.fn x=true\/X.env.scope.names.lookup x=some .local):=by
 refine⟨by rw[o.N];exact o.nd,?_⟩
 unfold lc at h
 split at h
 ·rename_i k;exact⟨LO o h,.inl (o.lcl k),.inr (o.lcl k)⟩
 ·rename_i k;exact⟨LO o h,.inr (o.cll k),.inl (o.cel x k)⟩
 ·cases h
def lcs (Γ:Ct):List Expr->Option (List Nat)
 | []=>some []
 | .Name x _::es=>match lc Γ x,lcs Γ es with|some i,some is=>some (i::is)|_,_=>none
 | _=>none
theorem RF (o:OkC Γ X):∀{es:List Expr} {is:List Nat},lcs Γ es=some is->PGs X es (WM is)/\(BV6 es X.env).length=is.length/\(BV6 es X.env).findIdx? (·.1)=none
 | [],is,h=>by cases h;exact⟨AD4,rfl,rfl⟩
 | e::es,is,h=>by
  cases e with
  | Name x p =>
   unfold lcs at h
   split at h
   ·rename_i i d f g
    cases h
    obtain⟨a,b,c⟩:=RF o g
    obtain⟨j,k,l,m⟩:=OO o f
    refine⟨XM j k l a m rfl,congrArg (·+1) b,?_⟩
    show((false,_)::BV6 es X.env).findIdx? _=none
    rw[List.findIdx?_cons]
    simp only[if_false,c]
    rfl
   ·cases h
  | _=>cases h
def rG (Γ:Ct):Expr->Option Gi
 | .Name x _=>(lc Γ x).map .one
 | .Tuple es _ p=>match Γ.h p with|0=>(lcs Γ es).map .many|_=>(lcs Γ es).map .lsts
 | _=>none
theorem AY6 (o:OkC Γ X){g:Gi}(h:rG Γ tg=some g):PG3 X tg (gD g):=by
 unfold rG at h
 split at h
 ·obtain⟨i,d,rfl⟩:=Option.map_eq_some_iff.mp h
  obtain⟨e,f,j,k⟩:=OO o d
  exact AD3 e f j k
 ·split at h
  ·obtain⟨l,d,rfl⟩:=Option.map_eq_some_iff.mp h
   obtain⟨a,b,c⟩:=RF o d
   exact AP4 o.calm a b c
  ·obtain⟨l,d,rfl⟩:=Option.map_eq_some_iff.mp h
   obtain⟨a,b,c⟩:=RF o d
   exact AP2 o.calm a b c
 ·cases h
def LI (n:Nat):Gi->Bool
 | .one i=>i<n
 | .many is=>is.all (·<n)
 | .lsts _=>false
theorem BH2 {n:Nat}:∀{g:Gi},LI n g=true->∀(d:D) (M:Mem) (Q:Lo->Mem->Prop) (cs:Lo),gD g d (BR6 n none++cs) M Q->gD g d (BR6 n none++cs) M fun a M'=>a.drop n=cs/\Q a M'
 | .one i,h=>AL0 (by simpa[LI] using h)
 | .many b,h=>AY7 (by simpa[LI] using h)
 | .lsts b,h=>by cases h
def rI (x:Ext)(R:Rc)(Γ:Ct)(tg it:Expr):Option TI3:=match x.I R Γ tg it with
 | some t=>some t
 | none=>match it with
  | .Call (.Name "range" _) as [] _=>match gl Γ "range" && (match Γ.B.call 0 "range" with|some _=>true|none=>false),as with
   | true,[a]=>if isStar a then none else some (O3 (rA (R.E Γ) [a]))
   | true,[a,b]=>if isStar a || isStar b then none else some (FS (rA (R.E Γ) [a,b]))
   | _,_=>none
  | .Tuple es k p=>some (DH (R.E Γ (.Tuple es k p)))
  | .Constant c k p=>some (AA4 (R.E Γ (.Constant c k p)))
  | it=>match Γ.hi it.pos with
   | 0=>some (O1 (R.E Γ it))
   | 1=>some (DH (R.E Γ it))
   | 2=>some (AA4 (R.E Γ it))
   | _=>none
theorem BI0 {x:Ext}(j:ExtOk x)(i:Z0 R)(o:OkC Γ X){it:Expr}{t:TI3}(h:rI x R Γ tg it=some t):PI3 X tg it t:=by
 have c:=(i Γ X o).1
 unfold rI at h
 split at h
 ·rename_i l e;cases h;exact j.I R i Γ X o _ _ _ e
 split at h
 ·rename_i m k
  split at h
  ·rename_i a d
   rw[BQ0] at d
   obtain⟨g1,_,_⟩:=OJ o d.1
   split at h
   ·cases h
   rename_i f
   cases h
   have g:X.mg "range"=none:=by
    have:=d.2
    split at this
    ·rename_i z e;exact(o.b.call _ _ z.1 z.2 e).1
    ·cases this
   exact RO g1 g (HX c _) (F1 (by simpa using f) _ _)
  ·rename_i a b d
   rw[BQ0] at d
   obtain⟨g1,_,_⟩:=OJ o d.1
   split at h
   ·cases h
   rename_i f
   cases h
   have g:X.mg "range"=none:=by
    have:=d.2
    split at this
    ·rename_i z e;exact(o.b.call _ _ z.1 z.2 e).1
    ·cases this
   simp only[Bool.or_eq_true,not_or,Bool.not_eq_true] at f
   refine RP g1 g (HX c _) ?_ (F1 f.2 _ _)
   rw[F1 f.1,F1 f.2];rfl
  ·cases h
 ·cases h;exact AU6 (c _)
 ·cases h;exact AU5 (c _)
 ·split at h<;>cases h
  ·exact AU4 (c _)
  ·exact AU6 (c _)
  ·exact AU5 (c _)
def rJ (x:Ext)(R:Rc)(Γ:Ct)(tg it:Expr):Option TI3:=match x.J R Γ tg it with
 | some t=>some t
 | none=>rI x R Γ tg it
theorem BI2 {x:Ext}(a:ExtOk x)(b:Z0 R)(o:OkC Γ X){it:Expr}{t:TI3}(h:rJ x R Γ tg it=some t):QV X tg it t:=by
 unfold rJ at h
 split at h
 ·rename_i c e;cases h;exact a.J R b Γ X o _ _ _ e
 ·exact PI3.toE (BI0 a b o h)
end
structure CH (X:Cx)(tg iter:Expr)(ifs:List Expr)(scope:Scope)(tns caps:List Str)(slots:List Nat)(ti:TI3)(g:TG3)(tt:TT3):Prop where
 cm:X.calm=true
 hi:QV X tg iter ti
 hk:scope.kind=.function
 ok:FM X.env scope caps=true
 hc:slots.map (fun j=>X.N[j]?)=caps.map some
 gk:∀d M Q (cs:Lo),g d (BR6 tns.length none++cs) M Q->g d (BR6 tns.length none++cs) M (fun σ' M'=>σ'.drop tns.length=cs/\Q σ' M')
 hg:∀cl s₀ H₀ ex,PG3 (F3 X scope cl s₀ H₀ ex (tns++caps)) tg g
 ht:∀cl s₀ H₀ ex,AJ7 (F3 X scope cl s₀ H₀ ex (tns++caps)) ifs tt
 hs:∀y,BZ8 iter X.env y=pure y
section
variable {α:Type}{X:Cx}{tg iter ce:Expr}{ifs:List Expr}{scope:Scope}{tns caps N:List Str}{slots:List Nat}{ti:TI3}{g:TG3}{tt:TT3}{mk:Sem Value}{ty:String}{dat:Data}{ho:HO}{a0:α}{mo:α->MO}{tb:Addr->α->(α->Mem->Prop)->Lo->Mem->Prop}{B:Addr->Env->BP9->(BP9->Prop)->Prop}{pos:Pos}
def tCG (a0:α)(mo:α->MO)(tb:Addr->α->(α->Mem->Prop)->Lo->Mem->Prop)(ti:TI3)(n:Nat)(slots:List Nat)(g:TG3)(tt:TT3)(F:Addr->α->Mem->Prop)(σ:Lo)(M:Mem):Prop:=ti σ M fun ds M1=>∀p,M1 p=none->∃Pv:Nat->α->Mem->Prop,Pv 0 a0 (D8 M1 p (mo a0)) /\
 (∀k d acc M,ds[k]?=some d->Pv k acc M->g d (BR6 n none++slots.map fun j=>(σ[j]?).getD none) M fun σ' M0=>tt σ' M0 fun b M'=>if b=true then tb p acc (Pv (k+1)) σ' M' else Pv (k+1) acc M') /\
 ∀acc M,Pv ds.length acc M->M p=some (mo acc)/\F p acc M
structure CB (X:Cx)(tg iter:Expr)(ifs:List Expr)(scope:Scope)(N:List Str)(ce:Expr)(mk:Sem Value)(ty:String)(dat:Data)(ho:HO)(a0:α)(mo:α->MO)(tb:Addr->α->(α->Mem->Prop)->Lo->Mem->Prop)(B:Addr->Env->BP9->(BP9->Prop)->Prop):Prop where
 cl:clausesOf ce=[⟨tg,iter,ifs,0⟩]
 fr:({cls:=.type ty,data:=dat}:Obj).isFreed=false
 new:∀{s:BP9} {Q:Value->BP9->Prop},Q (.ref s.heap.objs.size) {s with heap:=s.heap.push {cls:=.type ty,data:=dat}}->wpAny (model X.prog X.w) X.A mk Q X.xe s
 lay:∀{pins σv H s},Inv X pins σv H s->Inv X pins σv (upd H s.heap.objs.size ho) {s with heap:=s.heap.push {cls:=.type ty,data:=dat},toks:=s.toks}
 r0:∀{M H p},RepO X.K M H p (mo a0) ho
 lp:∀{it D env R s} (I:Nat->BP9->Prop),(∀n s,I n s->wpAny (model X.prog X.w) X.A (pyNext it) (fun r s₁=>match r with
   | none=>R (.ok .next) s₁
   | some v=>wpAny (model X.prog X.w) X.A (CB3 tg it v) (fun _ s₁'=>wpAny (model X.prog X.w) X.A (assign tg env v) (fun _ s₂ =>
     wpAny (model X.prog X.w) X.A (forIn ifs true fun c r=>if r=true then do let ok <-isTrue c env (eval c env);pure (ForInStep.yield ok) else pure (ForInStep.yield r)) (fun ok s₃ =>
      if ok=true then B D env s₃ (fun s₄=>∃m,m<n/\I m s₄) else∃m,m<n/\I m s₃) (fun _ _=>False) s₂) (fun _ _=>False) s₁') (fun _ _=>False) s₁) (fun _ _=>False) s) ->
   ∀n,I n s->codeAny (model X.prog X.w) X.A (.compLoop ce 0 it (.ref D) env) R s
 st:∀{it D env R s},codeAny (model X.prog X.w) X.A (.compLoop ce 0 it (.ref D) env) R s->wpAny (model X.prog X.w) X.A (pyIter it) (fun it' s'=>codeAny (model X.prog X.w) X.A (.compLoop ce 0 it' (.ref D) env) R s') (notedBy (model X.prog X.w) X.A env fun x s'=>R (.error x) s') s ->
   codeAny (model X.prog X.w) X.A (.compStart ce 0 it (.ref D) env) R s
 bd:∀{cl s₀ H₀ ex pins s σv H σ M D acc} {P:α->Mem->Prop} {R:BP9->Prop},Inv (F3 X scope cl s₀ H₀ ex N) pins σv H s->SRel X.K M H σ σv->MRel X.K M H->tb D acc P σ M ->
   (∀sF HF MF accF,Inv (F3 X scope cl s₀ H₀ ex N) pins σv HF sF->Step M H MF HF->MRel X.K MF HF->P accF MF->R sF)->B D (compEnvC scope cl s₀.heap.objs.size X.env) s R
set_option maxHeartbeats 2000000 in
theorem OA (C:CH X tg iter ifs scope tns caps slots ti g tt)(Kd:CB X tg iter ifs scope (tns++caps) ce mk ty dat ho a0 mo tb B)
  {use:Option (Value->Sem Unit)} {Post:Value->BP9->Prop} {σv:L2.St} {F:Addr->α->Mem->Prop} (I:Inv X pins σv H s) (hS:SRel X.K M H σ σv) (hM:MRel X.K M H) (h:tCG a0 mo tb ti tns.length slots g tt F σ M)
  (fin:∀(D C:Addr) (G:α) (H5:Hp) (M5:Mem) (s6:BP9) (m:Str->Option Value),s6.heap.Ns C m->Inv X pins σv H5 s6->H5 C=none->C≠X.env.locals->C∉X.fs->X.s₀.heap.objs.size<=C->(∀x c,X.env.cells.lookup x=some c->c≠C)->(∀p∈X.pn++pins,p.1≠C) ->
   Step M H M5 H5->MRel X.K M5 H5->M5 D=some (mo G)->F D G M5->compPost (model X.prog X.w) X.A X.xe use Post (.ref D) C (.ok .next) s6) :
  wpAny (model X.prog X.w) X.A (comprehension ce scope X.env (firstIterPos [⟨tg,iter,ifs,0⟩] pos) mk false (firstIter [⟨tg,iter,ifs,0⟩] X.env) use) Post X.xe s:=by
 have hok:=C.ok
 unfold FM at hok
 rw[BQ0,BV2,BV2] at hok
 obtain⟨h1,h2⟩:=hok
 have hcell:∀y∈scope.names,y.2≠.cell:=fun y hy e=>by have:=h1 y hy;rw[e] at this;cases this
 have hnames:∀y∈scope.names,y.2=.local->scope.names.lookup y.1=some .local:=fun y hy e=>by
  have:=h1 y hy
  rw[e] at this
  dsimp only at this
  split at this
  ·assumption
  ·cases this
 have W:∀y∈scope.names,y.2=.free->X.env.kindOf y.1=some .cell\/X.env.kindOf y.1=some .free:=fun y hy e=>by
  have:=h1 y hy
  rw[e] at this
  dsimp only at this
  split at this
  ·exact .inl (by assumption)
  ·exact .inr (by assumption)
  ·cases this
 have hcf:∀y∈caps,scope.names.lookup y=some .free:=fun y hy=>by
  have:=h2 y hy
  split at this
  ·assumption
  ·cases this
 clear h1 h2
 obtain⟨hc,hi,Y,_,Z,hgk,hg,ht,hs⟩:=C
 have hclos:closureFor scope X.env=pure (Q8 (fun n=>(X.env.cells.lookup n).getD 0) scope.names []):=HZ fun p hp hk=>by
  obtain⟨a,e⟩:=I.ok.has p.1 (W p hp hk)
  rw[e];rfl
 have f:∀x c,(Q8 (fun n=>(X.env.cells.lookup n).getD 0) scope.names []).lookup x=some c->X.env.cells.lookup x=some c:=fun x c e=>by
  obtain⟨e1,e2⟩:=AC1 e
  obtain⟨a,e3⟩:=I.ok.has x (W _ e2 rfl)
  rw[e3] at e1
  rw[e3,e1];rfl
 have clHas:∀n,(n,NameKind.free)∈scope.names->∃c,(Q8 (fun n=>(X.env.cells.lookup n).getD 0) scope.names []).lookup n=some c:=fun n hn=>⟨_,LF hn⟩
 generalize Q8 (fun n=>(X.env.cells.lookup n).getD 0) scope.names []=cl at hclos f clHas
 refine wpAny_comprehension_free Kd.cl hs hclos Y hnames ?_
 refine thn (hi pins s σv H (fun J L=>∃ds M1,Step M H M1 L/\MRel X.K M1 L/\WkE X.K J ds M1 L/\_) I ⟨σ,M,_,hS,hM,h,fun ds J M1 H1 st m wk q=>⟨ds,M1,st,m,wk,q⟩⟩) fun v s1 h1=>thn h1 fun itv P h2=>?_
 obtain⟨it,Q,tn,J,L,e0,I2,T,st2,f2,ds,M1,stp,m1,wk,cont⟩:=h2
 subst e0
 refine Kd.new ?_
 have R:=Kd.lay I2
 have hget:∀b o,P.heap.get? b=some o->({P with heap:=P.heap.push {cls:=.type ty,data:=dat},toks:=P.toks}:BP9).heap.get? b=some o:=fun b o e=>BP4 _ e
 have hsz:P.heap.objs.size<({P with heap:=P.heap.push {cls:=.type ty,data:=dat},toks:=P.toks}:BP9).heap.objs.size:=BQ9 (BR2 _ Kd.fr)
 have hos3:({P with heap:=P.heap.push {cls:=.type ty,data:=dat},toks:=P.toks}:BP9).os=P.os:=rfl
 generalize ({P with heap:=P.heap.push {cls:=.type ty,data:=dat},toks:=P.toks}:BP9)=s3 at R hget hsz hos3 ⊢
 refine wpAny_newFunctionEnv hcell (fun _ hx=>absurd hx (by simp)) (fun h4 hns hsb=>?_) Y
 have hDn:=I2.fresh
 have hD:upd L P.heap.objs.size ho P.heap.objs.size=some ho:=D5
 have fpne:∀b∈Q,b≠P.heap.objs.size:=fun b t=>by
  obtain⟨o,e,_⟩:=T.obj _ _ st2 b t
  exact BS3 (BQ9 e)
 generalize P.heap.objs.size=D at hDn hD hsz R fpne ⊢
 have stD:Step M1 L (D8 M1 D (mo a0)) (upd L D ho):=Step.put (.inl hDn)
 have mD:MRel X.K (D8 M1 D (mo a0)) (upd L D ho):=m1.put (.inl hDn) Kd.r0
 have k4:∀b o,s3.heap.get? b=some o->h4.get? b=some o:=fun b o e=>(hsb.2 b (BS3 (BQ9 e))).trans (BP4 _ e)
 have fpold:∀b∈Q,b<s3.heap.objs.size:=fun b t=>by
  obtain⟨o,e,_⟩:=T.obj _ _ st2 b t
  exact BQ9 (hget b o e)
 have fpD:∀b∈Q,upd L D ho b=none:=fun b t=>by
  rw[D7 (fpne b t)];exact(f2 b t).1
 have xok:(F3 X scope cl s3 (upd L D ho) Q (tns++caps)).Ok:={
  mod:=I.ok.mod
  kind:=Y
  glob:=I.ok.glob
  blt:=I.ok.blt
  above:=BP5 _
  inj:=fun x y c e1 e2=>I.ok.inj x y c (f x c e1) (f y c e2)
  has:=fun x hx=>clHas x (MN hcell hx)
  cab:=fun x c hf=>by cases hf
  hd:=I.ok.hd
  frames:=I.ok.frames
  stk:=.inl rfl
  exf:=fun b t=>⟨BS3 (fpold b t),fun x c e=>(f2 b t).2.2.2.2.1 x c (f x c e)⟩
  bs:=R.bs
  bsz:=BS7 R.ok.bsz R.sz
  noex:=fun b o e t=>by
   rcases(f2 b t).2.2.2.1 with z|z
   ·exact I.ok.noex b o e z
   ·exact absurd (BS5 (BQ9 e) (BS7 I.ok.bsz z)) (BZ5 _)
  exfs:=fun b t z=>by
   rcases BU1.mp (I2.stkSub b z) with z|z
   ·exact(f2 b t).2.1 z
   ·exact(f2 b t).2.2.1 z
  funs:=R.stack
  frf:=R.stkFree}
 have I4:Inv (F3 X scope cl s3 (upd L D ho) Q (tns++caps)) [] (BR6 tns.length none++slots.map fun j=>(σv[j]?).getD none) (upd L D ho) {s3 with heap:=h4,toks:=s3.toks+([]:List (Str×Value)).length}:={
  ok:=xok
  os:=rfl
  bare:=R.bare
  base:=Un.kept k4
  loc:=by
   refine⟨_,hns,fun i x v e1 e2 vis=>?_⟩
   have hi:tns.length<=i:=by
    rcases CD6 i tns.length with z|z
    ·rw[BS2 (by simpa using z),BX5] at e2
     split at e2<;>cases e2
    ·exact z
   change (tns++caps)[i]?=some x at e1
   rw[BS6 hi] at e1
   rw[BS6 (by simpa using hi),BZ0,BQ3] at e2
   cases e3:slots[i-tns.length]? with
   | none=>rw[e3] at e2;cases e2
   | some j =>
    rw[e3,CA3] at e2
    have O:=Option.some.inj e2
    have e5:σv[j]?=some (some v):=by
     cases q:σv[j]? with
     | none=>rw[q] at O;cases O
     | some z=>rw[q] at O;simp only[Option.getD_some] at O;rw[O]
    have e4:X.N[j]?=some x:=by
     have:=congrArg (fun l=>l[i-tns.length]?) Z
     simp only[BQ3,e3,e1,CA3] at this
     exact Option.some.inj this
    have hxf:=hcf x (BQ1 e1)
    have hk:=W (x,.free) (BS4 hxf) rfl
    obtain⟨m,hm,hl⟩:=R.loc
    obtain⟨u,ru,lk⟩:=hl j x v e4 e5 (hk.elim (fun z=>.inr (.inl z)) fun z=>.inr (.inr z))
    refine⟨u,ru,.inr ⟨IE hxf,?_⟩⟩
    rcases lk with⟨z,_⟩|⟨_,c,ec,ic⟩
    ·rcases hk with y|y<;>(rw[show X.env.kindOf x=_ from z] at y;cases y)
    ·obtain⟨c',ec'⟩:=clHas x (BS4 hxf)
     have:=f x c' ec'
     rw[ec] at this
     cases this
     obtain⟨o,ho,r⟩:=ic
     exact⟨c,ec',o,k4 _ _ ho,r⟩
  cell:=fun x c e=>by
   obtain⟨v,o,ho,r⟩:=R.cell x c (f x c e)
   exact⟨v,o,k4 _ _ ho,r⟩
  free:=R.fresh
  freeC:=fun x c e=>R.freeC x c (f x c e)
  pin:=fun p hp=>absurd hp (by simp[F3])
  hok:=R.hok.kept k4
  len:=by
   have:=congrArg BW0 Z
   simp at this
   simp[F3,this]}
 have hlen:caps.length=slots.length:=by
  have:=congrArg BW0 Z
  simpa using this.symm
 have stat:∀{S:Hp},(∀b∈Q,S b=none)->∀b∈Q,KG (F3 X scope cl s3 (upd L D ho) Q (tns++caps)) [] S b:=fun hn b t =>
  ⟨hn b t,(xok.exf b t).1,xok.exfs b t,.inl t,(xok.exf b t).2,fun p hp=>absurd hp (by simp[F3])⟩
 have hMD:=m1.free hDn
 obtain⟨Pv,p0,turn,done⟩:=cont D hMD
 have hS0:SRel X.K (D8 M1 D (mo a0)) (upd L D ho) (BR6 tns.length none++slots.map fun j=>(σ[j]?).getD none) (BR6 tns.length none++slots.map fun j=>(σv[j]?).getD none):=by
  refine⟨by simp,fun i d e=>?_⟩
  rcases CD6 i tns.length with z|z
  ·rw[BS2 (by simpa using z),BX5] at e
   split at e<;>cases e
  ·rw[BS6 (by simpa using z),BZ0,BQ3] at e ⊢
   cases e3:slots[i-tns.length]? with
   | none=>rw[e3] at e;cases e
   | some j =>
    rw[e3,CA3] at e
    have O:=Option.some.inj e
    have e5:σ[j]?=some (some d):=by
     cases q:σ[j]? with
     | none=>rw[q] at O;cases O
     | some z=>rw[q] at O;simp only[Option.getD_some] at O;rw[O]
    obtain⟨v,ev,rv⟩:=hS.get j d e5
    exact⟨v,by rw[CA3,ev];rfl,rv.mono (stp.trans stD)⟩
 generalize hcs:(slots.map fun j=>(σ[j]?).getD none)=cs at turn hS0
 have hcsl:cs.length=caps.length:=by rw[<-hcs,hlen];simp
 have loop:codeAny (model X.prog X.w) X.A (.compLoop ce 0 (.ref it) (.ref D) (compEnvC scope cl s3.heap.objs.size X.env)) (compPost (model X.prog X.w) X.A X.xe use Post (.ref D) s3.heap.objs.size) {s3 with heap:=h4,toks:=s3.toks+([]:List (Str×Value)).length}:=by
  refine Kd.lp (fun n s'=>∃k G E S M',n=ds.length-k/\k<=ds.length/\Inv (F3 X scope cl s3 (upd L D ho) Q (tns++caps)) [] E S s'/\tn k s'.heap/\(∀b∈Q,S b=none) /\
   Step (D8 M1 D (mo a0)) (upd L D ho) M' S/\MRel X.K M' S/\SRel X.K M' S (BR6 tns.length none++cs) E/\Pv k G M') ?_ _ ⟨0,a0,_,_,_,rfl,BW4 _,I4,T.keep _ _ _ st2 fun b t o e=>k4 _ _ (hget _ _ e),fpD,.refl,mD,hS0,p0⟩
  rintro n s5 ⟨k,G,σv5,H5,M5,rfl,hk,I5,tn5,fr5,st5,m5,hS5,pk⟩
  obtain⟨go,yld,stop⟩:=wk M5 H5 (stD.trans st5) m5
  by_cases hlt:k<ds.length
  ·refine thn (T.item (F3 X scope cl s3 (upd L D ho) Q (tns++caps)) rfl rfl rfl hc k [] s5 σv5 H5 (fun _ _=>False) I5 (stat fr5) tn5 (go k hlt)) fun r s6 U=>?_
   obtain⟨u,hr,h6⟩:=U
   subst hr
   refine thn h6 fun _ s7 U=>?_
   obtain⟨x,H7,I7,r7,y7,tn7,fr7⟩:=U
   obtain⟨sy,my,ry⟩:=yld k ds[k] x H7 (by simp[hlt]) y7
   have I7':=I7.pinned (stat fr7) (T.obj _ _ tn7)
   refine thn (hg cl s3 (upd L D ho) Q _ s7 σv5 _ x u (fun E S=>∃σ' M',Step M5 H7 M' S/\MRel X.K M' S/\SRel X.K M' S σ' E/\_) I7' r7 ⟨ds[k],_,M5,_,ry,hS5.mono sy,my,hgk _ _ _ _ (turn k ds[k] G M5 (by simp[hlt]) pk),fun σ' E M' S st m r q=>⟨σ',M',st,m,r,q⟩⟩) fun _ s8 U=>?_
   obtain⟨σ8,H8,I8,σ',M8,st8,m8,hS8,hdr,q8⟩:=U
   have again:∀(sF:BP9) (HF:Hp) (MF:Mem) (V:α),Inv (F3 X scope cl s3 (upd L D ho) Q (tns++caps)) ([]++GG Q s7.heap) σ8 HF sF->Step M8 H8 MF HF->MRel X.K MF HF->Pv (k+1) V MF ->
     ∃m,m<ds.length-k/\∃k G E S M',m=ds.length-k/\k<=ds.length/\Inv (F3 X scope cl s3 (upd L D ho) Q (tns++caps)) [] E S sF/\tn k sF.heap/\(∀b∈Q,S b=none) /\
      Step (D8 M1 D (mo a0)) (upd L D ho) M' S/\MRel X.K M' S/\SRel X.K M' S (BR6 tns.length none++cs) E/\Pv k G M':=by
    intro sF HF MF V IF stF mF pF
    refine⟨ds.length-(k+1),by lia,k+1,V,σ8,HF,MF,rfl,hlt,IF.unpinned,T.keep _ _ _ tn7 fun b t o e=>(IF.pin (b,o) (BR5 _ (BR5 _ (T3 t e)))).1,fun b t=>?_,((st5.trans sy).trans st8).trans stF,mF,?_,pF⟩
    ·obtain⟨o,e,d⟩:=T.obj _ _ tn7 b t
     exact(IF.pin (b,o) (BR5 _ (BR5 _ (T3 t e)))).2.1
    ·refine SRel.mono stF ⟨?_,fun i d e=>?_⟩
     ·have:=I8.len
      rw[this,BP7,BZ0,hcsl]
      simp[F3]
     ·rcases CD6 i tns.length with z|z
      ·rw[BS2 (by simpa using z),BX5] at e
       split at e<;>cases e
      ·rw[BS6 (by simpa using z),BZ0,<-hdr,BX0] at e
       have:tns.length+(i-tns.length)=i:=by lia
       rw[this] at e
       exact hS8.get i d e
   refine thn (ht cl s3 (upd L D ho) Q _ s8 σ8 H8 σ' M8 _ I8 hS8 m8 q8) fun ok s9 U=>?_
   obtain⟨M9,H9,I9,st9,m9,q9⟩:=U
   cases ok with
   | false=>exact again s9 H9 M9 G I9 st9 m9 q9
   | true=>exact Kd.bd I9 (hS8.mono st9) m9 q9 fun sF HF MF V i st m p=>again sF HF MF V i (st9.trans st) m p
  ·have e:k=ds.length:=by lia
   subst e
   refine thn (T.done (F3 X scope cl s3 (upd L D ho) Q (tns++caps)) rfl rfl rfl hc _ [] s5 σv5 H5 (fun _ _=>False) I5 (stat fr5) tn5 stop) fun r s6 U=>?_
   obtain⟨hr,I6⟩:=U
   subst hr
   obtain⟨m,hn,_⟩:=I6.loc
   obtain⟨hp,hq⟩:=done G M5 pk
   refine fin D s3.heap.objs.size G H5 M5 s6 m hn (R.call' (ch:=Q) I6.os I6.base I6.hok I6.bare (fun b t=>⟨(f2 b t).2.2.2.1,(f2 b t).2.1,(f2 b t).2.2.2.2.1,(f2 b t).2.2.2.2.2⟩)) I6.free (Nat.ne_of_gt R.lt) (R.nofs (BP5 _)) R.sz (fun x c e z=>?_) (fun p hp z=>absurd (BQ9 (R.pin p hp).1) (by rw[z];exact BZ5 _)) ((stp.trans stD).trans st5) m5 hp hq
   obtain⟨v,q⟩:=R.cell x c e
   exact absurd q.lt (by rw[z];exact BZ5 _)
 exact Kd.st loop (T.self _ _ _ _ _ (T.keep _ _ _ st2 fun b t o e=>k4 _ _ (hget _ _ e)) loop)
structure Vw (K:BP3)(mo:α->MO)(vw:Addr->α->D)(md:Mem->Addr->Mem):Prop where
 ok:∀{M H p acc},M p=some (mo acc)->MRel K M H->MRel K (md M p) H/\Rep K (md M p) H (vw p acc) (.ref p)/\∀b,md M p b≠none->M b≠none
theorem SN {mo:α->MO}:Vw K mo (fun p _=>.ref p) fun M _=>M:=⟨fun _ m=>⟨m,.ref,fun _ h=>h⟩⟩
theorem AJ2:Vw K .lst (fun _ a=>.lst a) J1:=⟨fun{M H p a} b m=>Vs.frzL b K H (.ref p) m .ref⟩
variable {vw:Addr->α->D}{md:Mem->Addr->Mem}
theorem RN (C:CH X tg iter ifs scope tns caps slots ti g tt)(d:CB X tg iter ifs scope (tns++caps) ce mk ty dat ho a0 mo tb B)(V:Vw X.K mo vw md)(f:eval ce X.env=comprehension ce scope X.env (firstIterPos [⟨tg,iter,ifs,0⟩] pos) mk false (firstIter [⟨tg,iter,ifs,0⟩] X.env) none) :
  PE3 X ce (fun σ M Q=>tCG a0 mo tb ti tns.length slots g tt (fun p a M=>Q (vw p a) (md M p)) σ M):=by
 intro c s i H σ M Q I j k h
 rw[f]
 refine OA C d I j k h fun D C a l N n m q r t u O v w x st y z A=>?_
 obtain⟨E,F,G⟩:=V.ok z y
 exact⟨m,q,fun P J=>⟨_,.ref D,_,l,r.turned (t':=n.toks) (it:=C) (fun b o L e=>(J.2 b L).trans e) t u (.inr v) w x,st.less G,E,rfl,F,A⟩⟩
theorem AF2 {y:Str}{k a:Pos}{l:Nat}(C:CH X tg iter ifs scope tns caps slots ti g tt)(P:CB X tg iter ifs scope (tns++caps) ce mk ty dat ho a0 mo tb B)(V:Vw X.K mo vw md)(R:X.N.Nodup)(n:X.N[l]?=some y)(S:Loc X.env.scope y)(T:X.fn y=true\/X.env.scope.names.lookup y=some .local)
  (q:CE9 ce (some (.Name y k)) a.line X.env=pure true) (U:evalThenUse ce X.env (assign (.Name y k) X.env)=(comprehension ce scope X.env (firstIterPos [⟨tg,iter,ifs,0⟩] pos) mk false (firstIter [⟨tg,iter,ifs,0⟩] X.env) (some (assign (.Name y k) X.env)) >>= fun _=>pure ())) :
  PS3 X (.Assign [.Name y k] ce a) (B8 l (fun σ M Q=>tCG a0 mo tb ti tns.length slots g tt (fun p d M=>Q (vw p d) (md M p)) σ M)):=by
 intro c s f H σ M T0 I A W h
 rw[exec_Assign_Name_used _ _ _ _ q,U]
 refine BP2 (CD1 (BP2 ?_))
 refine BP2 ?_
 refine OA C P I A W h fun D C d r M5 s6 m Y E F G Z c4 c5 c6 st m5 t hq=>?_
 obtain⟨mF,rF,J⟩:=V.ok t m5
 obtain⟨u,es,ep,w,i,rC⟩:=Y
 have j:Inv X (c++[(C,u)]) f r s6:=E.pins_of fun p t=>by
  rcases List.mem_append.mp t with z|z
  ·exact E.pin p (BR5 _ z)
  ·cases List.mem_singleton.mp z
   exact⟨w,F,G,Z,fun v z=>by rw[i] at z;cases z⟩
 refine wpAny_assign_Name (BN j R n S (v:=.ref D) rfl (fun L O=>?_) T)
 have x:=(O.pin (C,u) (BR5 _ (BR5 _ BQ7))).1
 refine⟨m,⟨u,es,ep,x,i,rC⟩,fun h' sb=>BP6 (BP6 ?_)⟩
 have I9:Inv X c (f.set l (some (.ref D))) r {L with heap:=h',toks:=L.toks}:=O.unpinned.turned (it:=C) (fun b o hb e=>(sb.2 b hb).trans e) F G (.inr c4) c5 c6
 exact⟨_,_,_,r,I9,st.less J,mF,((A.mono st).mono ⟨fun _ _ h _=>h,fun b h=>.inl (J b h)⟩).set rF l,hq⟩
end
section
variable {X:Cx}{tg iter elt kx vx:Expr}{ifs:List Expr}{scope:Scope}{N:List Str}{te tk tv:TE3}{pos:Pos}
def tbL (te:TE3)(p:Addr)(acc:List D)(P:List D->Mem->Prop)(σ:Lo)(M:Mem):Prop:=te σ M fun e M2=>M2 p=some (.lst acc)/\acc.length<BQ6/\P (acc++[e]) (D8 M2 p (.lst (acc++[e])))
theorem EG (O:∀cl s₀ H₀ ex,PE3 (F3 X scope cl s₀ H₀ ex N) elt te):CB X tg iter ifs scope N (.ListComp elt [⟨tg,iter,ifs,0⟩] scope pos) (newList []) "list" (.seq #[]) (.lst []) [] .lst (tbL te)
  (fun D env s R=>wpAny (model X.prog X.w) X.A (eval elt env) (fun x f=>wpAny (model X.prog X.w) X.A (call (.builtin "list.append") [.ref D,x]) (fun _=>R) (fun _ _=>False) f) (fun _ _=>False) s) where
 cl:=rfl
 fr:=rfl
 new:=fun h=>BT4 h
 lay:=fun I=>I.lnew (its:=[]) (ys:=[]) .nil (BW4 _)
 r0:=.nil
 lp:=fun I g n h=>WE I g n h
 st:=codeAny_compStart_list
 bd:=fun{cl s₀ H₀ ex i s j H Q M D l P R} I S m q k=>by
  refine thn (O cl s₀ H₀ ex i s j H Q M _ I S m q) fun T y a=>?_
  obtain⟨e,v,z,b,B,p,r,C,c,d,t,E⟩:=a
  obtain⟨U,F,rO⟩:=r D _ d
  cases U<;>first|exact(rO:False).elim|skip
  rename_i vs
  have u:Reps X.K z b l vs:=rO
  refine thn (JK _ y j b (.ref D) [v] (.ref D) [T] (fun w V=>V=upd b D (.lst (vs++[v]))) B rfl (.cons C .nil) ⟨D,vs,v,rfl,rfl,F,by rw[<-u.length];exact t,rfl⟩) fun _ G a=>?_
  obtain⟨w,W,J,_,L⟩:=a
  subst L
  exact k G _ _ _ J (p.trans (Step.put (.inr (by rw[d];simp)))) (r.put (.inr (by rw[d];simp)) (o:=.lst (l++[e])) (Reps.append u (.cons c .nil))) E
end
section
variable {Γ:Ct}{X:Cx}{R:Rc}{x:Ext}
def frees (sc:Scope):List Str:=sc.names.filterMap fun y=>match y.2 with|.free=>some y.1|_=>none
def EV (N:List Str):List Str->Option (List Nat)
 | []=>some []
 | y::ys=>match ixn y N 0,EV N ys with|some i,some is=>some (i::is)|_,_=>none
theorem PW (o:OkC Γ X):∀{ys:List Str} {is:List Nat},EV Γ.N ys=some is->is.map (fun j=>X.N[j]?)=ys.map some
 | [],is,h=>by cases h;rfl
 | y::ys,is,h=>by
  unfold EV at h
  split at h
  ·rename_i i a b c
   cases h
   rw[BR7,BR7,LO o b,PW o c]
  ·cases h
def cok (sc scope:Scope)(caps:List Str):Bool :=
 (scope.names.all fun y=>match y.2 with
  | .free=>(match sc.names.lookup y.1 with|some .cell=>true|some .free=>true|_=>false)
  | .cell=>false
  | .local=>(match scope.names.lookup y.1 with|some .local=>true|_=>false)
  | _=>true) && caps.all fun y=>match scope.names.lookup y with|some .free=>true|_=>false
theorem AX9 (o:OkC Γ X)(h:cok Γ.sc scope caps=true):FM X.env scope caps=true:=by
 unfold cok at h
 unfold FM
 rw[BQ0,BV2] at h ⊢
 refine⟨fun y a=>?_,h.2⟩
 have:=h.1 y a
 obtain⟨n,k⟩:=y
 cases k with
 | free =>
  show(match X.env.kindOf n with|some .cell=>true|some .free=>true|_=>false)=true
  rcases o.sc n with z|⟨_,z⟩
  ·rw[z];exact this
  ·rw[z]
 | cell=>cases this
 | «local»=>exact this
 | _=>rfl
def dif:List Str->Bool
 | []=>true
 | y::ys=>!(ys.any (·==y)) && dif ys
theorem ZQ:∀{ys:List Str},dif ys=true->ys.Nodup
 | [],_=>.nil
 | y::ys,h=>by
  unfold dif at h
  rw[BQ0,BU8,List.any_eq_false] at h
  refine List.nodup_cons.mpr ⟨fun m=>h.1 y m (beq_self_eq_true y),ZQ h.2⟩
def RJ:Expr->Bool
 | .Set ..=>false
 | _=>true
theorem CP (h:RJ e=true)(y:Value):BZ8 e env y=pure y:=by
 cases e<;>first|rfl|cases h
def BM8:Expr->Option (List Str)
 | .Name x _=>some [x]
 | .Tuple es _ _=>es.mapM fun e=>match e with|.Name x _=>some x|_=>none
 | _=>none
def cΓ (Γ:Ct)(scope:Scope)(N:List Str):Ct:={Γ with N:=N,sc:=scope}
theorem AK4 {cl:List (Str×Addr)}{s₀:BP9}{H₀:Hp}{ex:List Addr}{b:List Str}(o:OkC Γ X)(h:cok Γ.sc scope caps=true)(c:dif b=true):OkC (cΓ Γ scope b) (F3 X scope cl s₀ H₀ ex b) where
 N:=rfl
 nd:=ZQ c
 sc:=fun y=>by
  show(relabel scope X.env).names.lookup y=scope.names.lookup y\/(scope.names.lookup y=some .free/\(relabel scope X.env).names.lookup y=some .cell)
  rw[W4]
  cases e:scope.names.lookup y with
  | none=>exact .inl rfl
  | some k =>
   show some (if _ then _ else _)=_\/_
   by_cases a:(k==NameKind.free && X.env.scope.kind==.function && X.env.kindOf y==some .cell)=true
   ·simp only[BQ0] at a
    exact .inr ⟨by rw[eq_of_beq a.1.1],by rw[CA3,if_pos (by simp only[BQ0];exact a)]⟩
   ·exact .inl (by rw[if_neg a])
 cel:=fun y e=>by
  have d:=BS4 (show scope.names.lookup y=some .cell from e)
  unfold cok at h
  rw[BQ0,BV2] at h
  have:=h.1 _ d
  cases this
 fns:=o.fns
 con:=o.con
 tb:=o.tb
 ts:=o.ts
 calm:=o.calm
 un:=o.un
 bk:=o.bk
def BK9 (R:Rc)(Γ:Ct):List Expr->Option TT3
 | []=>some L5
 | [c]=>some (R.T Γ c)
 | _=>none
structure Cp where
 ti:TI3
 n:Nat
 sl:List Nat
 g:Gi
 tt:TT3
 Γ:Ct
def rCp (x:Ext)(R:Rc)(Γ:Ct)(gens:List Comprehension)(scope:Scope)(pos:Pos):Option Cp:=match gens with
 | [⟨tg,it,ifs,z⟩]=>match BM8 tg,EV Γ.N ((Γ.cp pos).getD (frees scope)) with
  | some tns,some sl=>match z==0 && scope.kind==.function && cok Γ.sc scope ((Γ.cp pos).getD (frees scope)) && dif (tns++(Γ.cp pos).getD (frees scope)) && RJ it with
   | false=>none
   | true=>match rJ x R Γ tg it,rG (cΓ Γ scope (tns++(Γ.cp pos).getD (frees scope))) tg,BK9 R (cΓ Γ scope (tns++(Γ.cp pos).getD (frees scope))) ifs with
    | some ti,some g,some tt=>match LI tns.length g with
     | true=>some ⟨ti,tns.length,sl,g,tt,cΓ Γ scope (tns++(Γ.cp pos).getD (frees scope))⟩
     | false=>none
    | _,_,_=>none
  | _,_=>none
 | _=>none
structure CpOk (X:Cx)(gens:List Comprehension)(scope:Scope)(c:Cp)(tg it:Expr)(ifs:List Expr)(tns caps:List Str):Prop where
 eq:gens=[⟨tg,it,ifs,0⟩]
 n:c.n=tns.length
 hi:QV X tg it c.ti
 hk:scope.kind=.function
 ok:FM X.env scope caps=true
 hc:c.sl.map (fun j=>X.N[j]?)=caps.map some
 gk:∀(d:D) (M:Mem) (Q:Lo->Mem->Prop) (cs:Lo),gD c.g d (BR6 tns.length none++cs) M Q->gD c.g d (BR6 tns.length none++cs) M fun σ' M'=>σ'.drop tns.length=cs/\Q σ' M'
 o:∀cl s₀ H₀ ex,OkC c.Γ (F3 X scope cl s₀ H₀ ex (tns++caps))
 hg:∀cl s₀ H₀ ex,PG3 (F3 X scope cl s₀ H₀ ex (tns++caps)) tg (gD c.g)
 ht:∀cl s₀ H₀ ex,AJ7 (F3 X scope cl s₀ H₀ ex (tns++caps)) ifs c.tt
 hs:∀y,BZ8 it X.env y=pure y
theorem CpOk.ch {c:Cp}{it:Expr}{tns:List Str}(q:CpOk X gens scope c tg it ifs tns caps)(h:X.calm=true):CH X tg it ifs scope tns caps c.sl c.ti (gD c.g) c.tt:=⟨h,q.hi,q.hk,q.ok,q.hc,q.gk,q.hg,q.ht,q.hs⟩
theorem ZJ (i:ExtOk x)(d:Z0 R)(o:OkC Γ X){c:Cp}(h:rCp x R Γ gens scope pos=some c):∃tg it ifs tns caps,CpOk X gens scope c tg it ifs tns caps:=by
 unfold rCp at h
 split at h
 case h_2=>cases h
 rename_i tg it ifs z
 split at h
 case h_2=>cases h
 rename_i tns s t j
 split at h
 ·cases h
 rename_i e
 simp only[BQ0] at e
 obtain⟨⟨⟨⟨k,l⟩,f⟩,m⟩,n⟩:=e
 split at h
 case h_2=>cases h
 rename_i u g v p q a
 split at h
 case h_2=>cases h
 rename_i r
 cases h
 cases eq_of_beq k
 have b:=fun cl s₀ H₀ ex=>AK4 (cl:=cl) (s₀:=s₀) (H₀:=H₀) (ex:=ex) o f m
 refine⟨tg,it,ifs,tns,_,rfl,rfl,BI2 i d o p,eq_of_beq l,AX9 o f,PW o j,BH2 r,b,fun cl s₀ H₀ ex=>AY6 (b cl s₀ H₀ ex) q,fun cl s₀ H₀ ex=>?_,CP n⟩
 unfold BK9 at a
 split at a
 ·cases a;exact AD9
 ·cases a;exact AE0 ((d _ _ (b cl s₀ H₀ ex)).2 _)
 ·cases a
def PM (x:Ext)(R:Rc)(Γ:Ct)(elt:Expr)(gens:List Comprehension)(scope:Scope)(pos:Pos):TE3:=match rCp x R Γ gens scope pos with
 | none=>bad
 | some c=>match Γ.h pos with
  | 0=>N6 c.ti c.n c.sl (gD c.g) c.tt (R.E c.Γ elt)
  | _=>EW c.ti c.n c.sl (gD c.g) c.tt (R.E c.Γ elt)
theorem SV (g:ExtOk x)(d:Z0 R)(o:OkC Γ X){elt:Expr}:PE3 X (.ListComp elt gens scope pos) (PM x R Γ elt gens scope pos):=by
 unfold PM
 cases h:rCp x R Γ gens scope pos with
 | none=>exact F7
 | some c =>
  obtain⟨k,l,i,j,f,q⟩:=ZJ g d o h
  cases q.eq
  dsimp only
  rw[q.n]
  split
  ·exact RN (q.ch o.calm) (EG fun e a b ex=>(d _ _ (q.o e a b ex)).1 _) AJ2 rfl
  ·exact RN (q.ch o.calm) (EG fun e a b ex=>(d _ _ (q.o e a b ex)).1 _) SN rfl
def ZF (x:Ext)(R:Rc)(Γ:Ct):Expr->TE3
 | .Name y _=>rNm Γ y
 | .Constant c _ _=>match c with|.none=>tC3 .non|.bool b=>tC3 (.bl b)|.int i=>tC3 (.int i)|.str s=>tC3 (.str s)|_=>bad
 | .BinOp a op b pos=>A6 (Γ.B.bin (Γ.h pos) op) (R.E Γ a) (R.E Γ b)
 | .UnaryOp op a _=>match op with|.USub=>P0 J4 (R.E Γ a)|.Not=>NI (R.E Γ a)|_=>bad
 | .Compare a ops bs pos=>AG0 R Γ a ops bs pos
 | .BoolOp op vs _=>match op with|.And=>AF8 (R.E Γ) vs|.Or=>BE3 (R.E Γ) vs
 | .IfExp c a b _=>SJ (R.T Γ c) (R.E Γ a) (R.E Γ b)
 | .Tuple es _ _=>C0 (rA (R.E Γ) es)
 | .List es pos=>match Γ.h pos with|0=>G0 (rA (R.E Γ) es)|_=>J2 (rA (R.E Γ) es)
 | .Subscript a b pos=>BE5 R Γ a b pos
 | .Call f as ks pos=>AF9 R Γ f as ks pos
 | .ListComp elt gens scope pos=>PM x R Γ elt gens scope pos
 | _=>bad
def BM0 (x:Ext)(R:Rc)(Γ:Ct)(e:Expr):TE3:=match x.E R Γ e with
 | some t=>t
 | none=>ZF x R Γ e
def AV3 (R:Rc)(Γ:Ct)(e:Expr):TT3:=match e with
 | .Compare a ops bs pos=>B1 (AG0 R Γ a ops bs pos)
 | .BoolOp op vs _=>match op with|.And=>RZ (R.T Γ) vs|.Or=>AG1 (R.T Γ) vs
 | .UnaryOp op a _=>match op with|.Not=>W5 (R.T Γ a)|_=>B1 (R.E Γ e)
 | .IfExp ..=>YU
 | _=>B1 (R.E Γ e)
theorem AK5 (r:ExtOk x)(l:Z0 R)(o:OkC Γ X)(e:Expr):PE3 X e (ZF x R Γ e):=by
 have d:=(l Γ X o).1
 have t:=(l Γ X o).2
 cases e with
 | Name y p=>exact BI7 o
 | Constant c k p =>
  cases c with
  | none=>exact AO0
  | bool b=>exact BB4
  | int i=>exact AN8
  | str s=>exact AO4
  | _=>exact F7
 | BinOp a g b p=>exact BB9 (o.b.bin _ _) (d _) (d _)
 | UnaryOp g a p =>
  cases g with
  | USub=>show PE3 X _ (P0 J4 (R.E Γ a));exact BC2 BF1 (d _)
  | Not=>exact AO1 (d _)
  | _=>exact F7
 | Compare a u bs p=>exact(YZ o d).1
 | BoolOp g n p=>cases g with
  | And=>exact SQ d n
  | Or=>exact AC4 d n
 | IfExp c a b p=>exact XI (t _) (d _) (d _)
 | Tuple j k p=>exact AO5 (HX d j)
 | List j p =>
  show PE3 X _ (match Γ.h p with|0=>_|_=>_)
  split
  ·exact AN9 (HX d j)
  ·exact AC9 (HX d j)
 | Subscript a b p=>exact BE9 o d
 | Call f w z p=>exact AK2 o d
 | ListComp v q m p=>exact SV r l o
 | _=>exact F7
theorem AI7 (h:Z0 R)(o:OkC Γ X)(e:Expr):PT3 X e (AV3 R Γ e):=by
 have f:=(h Γ X o).1
 have g:=(h Γ X o).2
 cases e with
 | Compare a i bs p=>exact(YZ o f).2
 | BoolOp d j p =>
  cases j with
  | nil=>cases d<;>exact LA
  | cons b r=>cases d with
   | And=>exact PW3.pt (QI g b r)
   | Or=>exact PW3.pt (VW g b r)
 | UnaryOp d a p=>cases d with
  | Not=>exact AQ9 (g _)
  | _=>exact UW (f _)
 | IfExp c a b p=>exact LA
 | _=>exact UW (f _)
noncomputable def rc (x:Ext) (n:Nat):Rc:=Nat.rec ⟨fun _ _=>bad,fun _ _=>YU⟩ (fun _ R=>⟨BM0 x R,AV3 R⟩) n
theorem VC (a:ExtOk x):∀n,Z0 (rc x n)
 | 0=>fun _ _ _=>⟨fun _=>F7,fun _=>LA⟩
 | n+1=>fun b X o=>⟨fun e=>by
   show PE3 X e (match x.E (rc x n) b e with|some t=>t|none=>ZF x (rc x n) b e)
   cases h:x.E (rc x n) b e with
   | some t=>exact a.E _ (VC a n) b X o e t h
   | none=>exact AK5 a (VC a n) o e,AI7 (VC a n) o⟩
end
section
variable {Γ:Ct}{X:Cx}{R:Rc}{x:Ext}
def GA:Expr->Bool
 | .ListComp ..=>false
 | .SetComp ..=>false
 | .DictComp ..=>false
 | _=>true
theorem JM {t:Option Expr}{n:Nat}(h:GA e=true):CE9 e t n env=pure false:=by
 cases e<;>first|rfl|cases h
def BI8:Expr->Bool
 | .Tuple ..=>false
 | _=>true
def BI1:Expr->Bool
 | .Slice ..=>true
 | _=>false
def BE1 (x:Ext)(R:Rc)(Γ:Ct)(tg e:Expr)(pos:Pos):TS3:=match tg with
 | .Name y _=>match lc Γ y with
  | none=>AV
  | some i=>match e with
   | .ListComp elt gens scope p=>B8 i (PM x R Γ elt gens scope p)
   | e=>match GA e with|true=>B8 i (R.E Γ e)|false=>AV
 | .Tuple es k p=>match rG Γ (.Tuple es k p),BI8 e with
  | some g,true=>VP (gD g) (R.E Γ e)
  | _,_=>AV
 | .Subscript o i p=>match BI1 i,Γ.h p with
  | true,_=>AV
  | false,0=>R5 (R.E Γ o) (R.E Γ i) (R.E Γ e)
  | false,_=>NG (R.E Γ o) (R.E Γ i) (R.E Γ e)
 | _=>AV
theorem AX2:PS3 X st (B8 i bad):=fun _ _ _ _ _ _ _ _ _ _ h=>h.elim
theorem AW7 (C:ExtOk x)(k:Z0 R)(o:OkC Γ X):PS3 X (.Assign [tg] e pos) (BE1 x R Γ tg e pos):=by
 have f:=(k Γ X o).1
 unfold BE1
 split
 ·rename_i y p
  cases hl:lc Γ y with
  | none=>exact K6
  | some i =>
   obtain⟨l,m,r,s⟩:=OO o hl
   dsimp only
   split
   ·rename_i t j a D
    have u:∃B:Bool,CE9 (.ListComp t j a D) (some (.Name y p)) pos.line X.env=pure B:=⟨_,rfl⟩
    obtain⟨B,w⟩:=u
    cases B
    ·exact UV l m r (SV C k o) w s
    ·unfold PM
     cases h:rCp x R Γ j a D with
     | none=>exact AX2
     | some c =>
      obtain⟨tg,J,F,G,E,q⟩:=ZJ C k o h
      cases q.eq
      dsimp only
      rw[q.n]
      split
      ·exact AF2 (q.ch o.calm) (EG fun z b d ex=>(k _ _ (q.o z b d ex)).1 _) AJ2 l m r s w rfl
      ·exact AF2 (q.ch o.calm) (EG fun z b d ex=>(k _ _ (q.o z b d ex)).1 _) SN l m r s w rfl
   ·cases h:GA e
    ·exact K6
    ·exact UV l m r (f _) (JM h) s
 ·split
  ·rename_i g H I
   refine AQ3 (f _) (AY6 o H) ?_ ?_ rfl
   ·cases e<;>rfl
   ·cases e<;>first|rfl|cases I
  ·exact K6
 ·rename_i K i p
  split
  ·exact K6
  ·refine AE4 (Nat.lt_of_succ_lt o.un) (f _) (f _) (f _) ?_
   cases e<;>rfl
  ·rename_i A _
   refine AE7 (f _) (f _) (f _) ?_ ?_ ?_ rfl
   ·intro v;cases i<;>first|rfl|cases A
   ·cases e<;>rfl
   ·cases e<;>rfl
 ·exact K6
def BE2 (x:Ext)(R:Rc)(b:Ct->List Stmt->TS3)(Γ:Ct)(tg it:Expr)(body:List Stmt):TS3:=match RJ it,tg with
 | true,.Name y p=>match lc Γ y,rI x R Γ (.Name y p) it with
  | some i,some ti=>O4 ti i (b Γ body)
  | _,_=>AV
 | true,tg=>match rG Γ tg,rJ x R Γ tg it with
  | some g,some ti=>AN ti (gD g) (b Γ body)
  | _,_=>AV
 | _,_=>AV
theorem AY5 (f:ExtOk x)(h:Z0 R){b:Ct->List Stmt->TS3}(j:YI b)(o:OkC Γ X)(a:Pw X){it:Expr}:PS3 X (.For tg it body [] pos) (BE2 x R b Γ tg it body):=by
 unfold BE2
 split
 ·rename_i y p c
  split
  ·rename_i i k d e
   obtain⟨l,m,n,q⟩:=OO o d
   exact AQ5 a o.calm (BI0 f h o e) l m n (j Γ X o a body) (CP c) q
  ·exact K6
 ·rename_i tg c _
  split
  ·rename_i g k d e
   exact AE6 a o.calm (BI2 f h o e) (AY6 o d) (j Γ X o a body) (CP c)
  ·exact K6
 ·exact K6
def ZH (x:Ext)(R:Rc)(b:Ct->List Stmt->TS3)(Γ:Ct):Stmt->TS3
 | .Return none _=>AI8
 | .Return (some e) _=>B4 (R.E Γ e)
 | .Expr e _=>match GA e with|true=>F5 (R.E Γ e)|false=>AV
 | .Assign [tg] e pos=>BE1 x R Γ tg e pos
 | .AugAssign (.Name y _) .Add e _=>match lc Γ y with|some i=>AV4 i (R.E Γ e)|none=>AV
 | .If c a d _=>C1 (R.T Γ c) (b Γ a) (b Γ d)
 | .For tg it body [] _=>BE2 x R b Γ tg it body
 | .While c body [] _=>BP (R.T Γ c) (b Γ body)
 | .Pass _=>B6
 | .Raise ..=>VS
 | _=>AV
theorem ZI (g:ExtOk x)(c:Z0 R){b:Ct->List Stmt->TS3}(d:YI b)(o:OkC Γ X)(a:Pw X)(s:Stmt):PS3 X s (ZH x R b Γ s):=by
 have f:=(c Γ X o).1
 have j:=(c Γ X o).2
 unfold ZH
 split
 ·exact AE9
 ·exact AQ6 (f _)
 ·rename_i e p
  cases h:GA e
  ·exact K6
  ·exact AE5 (f _) (JM h)
 ·exact AW7 g c o
 ·rename_i y p e q
  cases h:lc Γ y with
  | none=>exact K6
  | some i =>
   obtain⟨k,l,m,n⟩:=OO o h
   exact AQ4 k l m (f _) n
 ·exact BD7 (j _) (d Γ X o a _) (d Γ X o a _)
 ·exact AY5 g c d o a
 ·exact XU a (j _) (d Γ X o a _)
 ·exact AE8
 ·exact XT
 ·exact K6
def VN (x:Ext)(R:Rc)(b:Ct->List Stmt->TS3)(Γ:Ct)(s:Stmt):TS3:=match x.S R b Γ s with
 | some t=>t
 | none=>ZH x R b Γ s
def frzs:List Nat->TS3->TS3
 | [],t=>t
 | i::is,t=>VR i (frzs is t)
theorem TU {a:List Stmt}{t:TS3}(h:PSs3 X a t):∀is,PSs3 X a (frzs is t)
 | []=>h
 | i::is=>AF4 i (TU h is)
def AV2 (x:Ext)(R:Rc)(b:Ct->List Stmt->TS3)(Γ:Ct)(ss:List Stmt):TS3:=match ss with
 | []=>B6
 | s::r=>frzs (Γ.fz s.pos.line) (match r with|[]=>VN x R b Γ s|_::_=>A8 (VN x R b Γ s) (b Γ r))
noncomputable def rb (x:Ext) (R:Rc) (n:Nat):Ct->List Stmt->TS3:=Nat.rec (fun _ _=>AV) (fun _ b=>AV2 x R b) n
theorem PZ (a:ExtOk x)(c:Z0 R){b:Ct->List Stmt->TS3}(d:YI b)(o:OkC Γ X)(e:Pw X)(s:Stmt):PS3 X s (VN x R b Γ s):=by
 unfold VN
 cases h:x.S R b Γ s with
 | some t=>exact a.S R c b d Γ X o e s t h
 | none=>exact ZI a c d o e s
theorem VB (a:ExtOk x)(b:Z0 R):∀n,YI (rb x R n)
 | 0=>fun _ _ _ _ _=>YT
 | n+1=>fun e X o c d=>by
  show PSs3 X d (AV2 x R (rb x R n) e d)
  cases d with
  | nil=>exact AF5
  | cons s r =>
   refine TU ?_ _
   cases r with
   | nil=>exact AF6 (PZ a b (VB a b n) o c s)
   | cons f r=>exact XW (PZ a b (VB a b n) o c s) (VB a b n e X o c _)
end
section
variable {P:BT5}{w:World}{K:BP3}{mg:Str->Option Value}{base:Heap}
structure Gd where
 con:List (Str×D)
 tb:List (Str×List (Str×List Str))
 ts:List (Str×List (Str×Str))
 B:Book
structure AJ6 (G:Gd)(w:World)(K:BP3)(mg:Str->Option Value):Prop where
 con:∀p∈G.con,(∃u v,mg p.1=some u/\RelV v u/\∀M H,Rep K M H p.2 v)\/∃n,p.2=.ty n/\mg p.1=none/\BU2 p.1=some (.type n)
 tb:∀p∈G.tb,∃a,mg p.1=some (.ref a)/\AS8 K w.params a p.2/\(a==BW5)=false
 ts:∀p∈G.ts,∃a,mg p.1=some (.ref a)/\KH K w.params a p.2
 bk:∀Y:Cx,Y.mg=mg->(∃k,Room k Y.A)->Y.calm=true->BookOk G.B Y
def F (P:BT5)(w:World)(K:BP3)(mg:Str->Option Value)(base:Heap)(k:Nat)(x:Str)(sp:Sp3):Prop :=
 ∃f fd ps,Y9 P w K mg base CX0 k f fd ps (FN K sp)/\mg x=some (.ref f)/\BV3 K (.ref f)=true/\Binds K fd ps []
def Cs (P:BT5)(w:World)(K:BP3)(mg:Str->Option Value)(base:Heap)(r:Nat)(L:List (Str×Sp3)):Prop:=∀p∈L,∃k,k<=r/\F P w K mg base k p.1 p.2
theorem Cs.n {r:Nat}:Cs P w K mg base r []:=fun _ h=>absurd h BS1
theorem Cs.c {r k:Nat}{sp:Sp3}{L:List (Str×Sp3)}(f:F P w K mg base k x sp)(a:k<=r)(h:Cs P w K mg base r L):Cs P w K mg base r ((x,sp)::L):=fun p hp=>by
 rcases BU1.mp hp with rfl|hp
 ·exact⟨k,a,f⟩
 ·exact h p hp
structure Hs where
 h:List (Nat×Nat):=[]
 hi:List (Nat×Nat):=[]
 cp:List (Nat×List Str):=[]
 fz:List (Nat×List Nat):=[]
def ct (G:Gd)(N:List Str)(sc:Scope)(L:List (Str×Sp3))(s:Hs):Ct where
 N:=N
 sc:=sc
 fns:=fun x=>L.lookup x
 con:=fun x=>G.con.lookup x
 tb:=fun x=>G.tb.lookup x
 ts:=fun x=>G.ts.lookup x
 h:=fun p=>(s.h.lookup ((p.line*1000+p.col)*1000+p.endCol)).getD 0
 hi:=fun p=>(s.hi.lookup ((p.line*1000+p.col)*1000+p.endCol)).getD 0
 cp:=fun p=>s.cp.lookup ((p.line*1000+p.col)*1000+p.endCol)
 fz:=fun n=>(s.fz.lookup n).getD []
 B:=G.B
theorem BJ7 {e:Ext}(p:ExtOk e){G:Gd}(a:AJ6 G w K mg){k:Nat}{sp:Sp3}{f:Addr}(A:VX K mg x st ps f fd)(S:S8 N ps (D4 st))
  (len:∀ds M Q,sp ds M Q->ds.length=ps.length) {L:List (Str×Sp3)} (q:Cs P w K mg base k L) (s:Hs) {t:TS3} (u:∀ds M Q,sp ds M Q->t {nx:=fun _ M'=>View Q .non M',rt:=View Q} (B9 N ds) M)
  (v:rb e (rc e 40) 60 (ct G N (D4 st) L s) (G1 st)=t):Y9 P w K mg base CX0 (k+1) f fd ps (FN K sp):=by
 refine Fun.ok3 A.fn S len fun z I b J H E c=>⟨t,?_,u⟩
 rw[<-v]
 refine VB p (VC p 40) 60 _ _ ?_ (by exact PassesOwn.never) _
 exact{
  N:=rfl
  nd:=S.nd
  sc:=fun _=>.inl rfl
  cel:=fun _ _=>rfl
  fns:=fun y g h=>by
   obtain⟨B,C,D,i,j,m,n,o,F⟩:=q _ (BS4 (show L.lookup y=some g from h))
   exact⟨B,D,i,j,m,c.mono C,n,o,F⟩
  con:=fun y d h=>a.con _ (BS4 (show G.con.lookup y=some d from h))
  tb:=fun y l h=>a.tb _ (BS4 (show G.tb.lookup y=some l from h))
  ts:=fun y l h=>a.ts _ (BS4 (show G.ts.lookup y=some l from h))
  calm:=rfl
  un:=(fun{A:BY4} (r:Room _ A)=>(by have:=r.un;lia:A.units+2<cLine)) c
  bk:=fun Y m n o=>a.bk Y m ⟨k,by rw[n];exact c⟩ o}
theorem okR {e:Ext}(a:ExtOk e){G:Gd}(b:AJ6 G w K mg){k:Nat}{sp:Sp3}(A:∃f fd,VX K mg x st ps f fd)(S:S8 N ps (D4 st))
  (len:∀ds M Q,sp ds M Q->ds.length=ps.length) {L:List (Str×Sp3)} (c:Cs P w K mg base k L) (s:Hs) {t:TS3} (d:∀ds M Q,sp ds M Q->t {nx:=fun _ M'=>View Q .non M',rt:=View Q} (B9 N ds) M)
  (g:rb e (rc e 40) 60 (ct G N (D4 st) L s) (G1 st)=t):F P w K mg base (k+1) x sp:=by
 obtain⟨f,fd,A⟩:=A
 exact⟨f,fd,ps,BJ7 a b A S len c s d g,A.gl,A.fn.kp,A.bd⟩
theorem O0 {k:Nat}(A:∃f fd,VX K mg x st ps f fd)(a:∀n ds M Q,sp n ds M Q->ds.length=ps.length)(b:∀ds M Q,¬sp 0 ds M Q):F P w K mg base k x (sp 0):=by
 obtain⟨f,fd,A⟩:=A
 exact⟨f,fd,ps,WL a b,A.gl,A.fn.kp,A.bd⟩
theorem AW5 {p:α->Prop}:∀x∈([]:List α),p x:=fun _ h=>absurd h BS1
theorem AJ9 {p:α->Prop}{a:α}{l:List α}(h:p a)(t:∀x∈l,p x):∀x∈a::l,p x:=fun x hx=>by
 rcases BU1.mp hx with rfl|hx
 ·exact h
 ·exact t x hx
end
def rNo:R3:=fun _ _ _ _=>False
theorem RY {X:Cx}{f:Value->Value->Sem Value}:OpR3 X f rNo:=by
 intro a s b H M x y c d u v Q
 intros
 rename_i h
 exact h.elim
def BN2:Operator->R3
 | .Add=>D0
 | .Sub=>P9
 | .Mult=>W2
 | .FloorDiv=>RV
 | .Mod=>E7
 | .Pow=>PN
 | _=>rNo
def BN3:CmpOp->R3
 | .Eq=>D6
 | .NotEq=>CU
 | .Lt=>T6
 | .LtE=>RX
 | .Gt=>GK
 | .GtE=>BK8
 | .Is=>RW
 | .IsNot=>UX
 | .In=>Z2 false
 | .NotIn=>Z2 true
def bk0:Book:=⟨fun _=>BN2,fun _=>BN3,fun _ _=>none,fun _ _=>none⟩
variable {X:Cx}{B:Book}
theorem AX5 {k:Nat}(b:Room k X.A):BookOk bk0 X where
 bin:=fun n a=>by
  cases a with
  | Add=>exact BA1
  | Sub=>exact BA7
  | Mult=>exact BA5
  | FloorDiv=>exact AM8
  | Mod=>exact BA4
  | Pow=>exact BA6
  | _=>exact RY
 cmp:=fun n a=>by
  cases a with
  | Eq=>exact BI9 b
  | NotEq=>exact BJ6 b
  | Lt=>exact BJ5
  | LtE=>exact BJ4
  | Gt=>exact BJ1
  | GtE=>exact BJ0
  | Is=>exact BJ3
  | IsNot=>exact AB9
  | In=>exact BJ2
  | NotIn=>exact AC0
 call:=fun _ _ _ _ h=>by cases h
 meth:=fun _ _ _ _ _ h=>by cases h
def Book.b (B:Book)(n:Nat)(o:Operator)(r:R3):Book:={B with bin:=fun m op=>if m=n then(if op=o then r else rNo) else B.bin m op}
def Book.m (B:Book)(n:Nat)(o:CmpOp)(r:R3):Book:={B with cmp:=fun m op=>if m=n then(if op=o then r else rNo) else B.cmp m op}
def Book.c (B:Book)(n:Nat)(x:Str)(u:Value)(r:C3):Book:={B with call:=fun m y=>if m=n/\y=x then some (u,r) else B.call m y}
def Book.a (B:Book)(n:Nat)(x:Str)(T i:String)(r:M3):Book:={B with meth:=fun m y=>if m=n/\y=x then some (T,i,r) else B.meth m y}
theorem BookOk.b (h:BookOk B X){n:Nat}{o:Operator}{r:R3}(d:OpR3 X (BY6 o) r):BookOk (B.b n o r) X:={h with
 bin:=fun m a=>by
  show OpR3 X _ (if m=n then(if a=o then r else rNo) else B.bin m a)
  by_cases e:m=n
  ·rw[if_pos e]
   by_cases c:a=o
   ·rw[if_pos c,c];exact d
   ·rw[if_neg c];exact RY
  ·rw[if_neg e];exact h.bin m a}
theorem BookOk.m (h:BookOk B X){n:Nat}{o:CmpOp}{r:R3}(c:OpR3 X (BT0 o) r):BookOk (B.m n o r) X:={h with
 cmp:=fun m a=>by
  show OpR3 X _ (if m=n then(if a=o then r else rNo) else B.cmp m a)
  by_cases e:m=n
  ·rw[if_pos e]
   by_cases b:a=o
   ·rw[if_pos b,b];exact c
   ·rw[if_neg b];exact RY
  ·rw[if_neg e];exact h.cmp m a}
theorem BookOk.c (h:BookOk B X){n:Nat}{r:C3}(h1:X.mg x=none)(h2:BU2 x=some u)(f:(∃i,u=.builtin i)\/∃T,u=.type T)(g:CallR3 X u r):BookOk (B.c n x u r) X:={h with
 call:=fun m y b d e=>by
  replace e:(if m=n/\y=x then some (u,r) else B.call m y)=some (b,d):=e
  by_cases a:m=n/\y=x
  ·rw[if_pos a] at e;cases e;rw[a.2];exact⟨h1,h2,f,g⟩
  ·rw[if_neg a] at e;exact h.call m y b d e}
theorem BookOk.a (h:BookOk B X){n:Nat}{T i:String}{r:M3}(h1:PlainAttrs T)(h2:Slot T x i)(g:typeOf (.builtin i)=pure (.type "method_descriptor"))(j:MtR3 X i r):BookOk (B.a n x T i r) X:={h with
 meth:=fun m y c d f e=>by
  replace e:(if m=n/\y=x then some (T,i,r) else B.meth m y)=some (c,d,f):=e
  by_cases b:m=n/\y=x
  ·rw[if_pos b] at e;cases e;rw[b.2];exact⟨h1,h2,g,j⟩
  ·rw[if_neg b] at e;exact h.meth m y c d f e}
variable {Γ:Ct}{X:Cx}{R:Rc}
def fr (Γ:Ct)(x:Str):Bool:=gl Γ x && (match Γ.B.call 0 x with|some _=>true|none=>false)
theorem AT6 (o:OkC Γ X)(h:fr Γ x=true):Gl X x/\X.mg x=none:=by
 unfold fr at h
 rw[BQ0] at h
 refine⟨(OJ o h.1).1,?_⟩
 have:=h.2
 split at this
 ·rename_i z e;exact(o.b.call _ _ z.1 z.2 e).1
 ·cases this
theorem BL9 (h:isStar e=false):BR9 [e] env=(false,eval e env)::BR9 [] env:=F1 h _ _
def qI (R:Rc)(Γ:Ct)(_ i:Expr):Option TI3:=match Γ.hi i.pos with
 | 3=>some (iQ3 (R.E Γ i))
 | 4=>some (O1 (AO (R.E Γ i)))
 | _=>none
def extQ:Ext:={CJ with I:=qI}
theorem extQ_ok:ExtOk extQ:={J9 with
 I:=fun R c a X o g i t h=>by
  have b:=(c a X o).1
  replace h:qI R a g i=some t:=h
  unfold qI at h
  split at h
  ·cases h;exact BK7 (b _)
  ·cases h;exact AU4 (PC (b _))
  ·cases h}
def sE (R:Rc)(Γ:Ct)(e:Expr):Option TE3:=match e with
 | .Subscript a (.Slice lo hi none _) p=>match Γ.h p with
  | 1=>some (BM6 (R.E Γ a) (rO (R.E Γ) lo) (rO (R.E Γ) hi))
  | 2=>some (HB (R.E Γ a) (rO (R.E Γ) lo) (rO (R.E Γ) hi))
  | _=>none
 | _=>none
def extS:Ext:={CJ with E:=sE}
theorem extS_ok:ExtOk extS:={J9 with
 E:=fun R c b X o e t h=>by
  have a:=(c b X o).1
  replace h:sE R b e=some t:=h
  unfold sE at h
  split at h
  ·split at h<;>cases h
   ·exact BC1 (a _) (XA a _) (XA a _)
   ·exact AO2 (a _) (XA a _) (XA a _)
  ·cases h}
def vE (R:Rc)(Γ:Ct)(e:Expr):Option TE3:=match e with
 | .Subscript a (.Slice none none (some s) _) _=>some (JY (R.E Γ a) (K2 (R.E Γ s)))
 | _=>none
def extV:Ext:={CJ with E:=vE}
theorem extV_ok:ExtOk extV:={J9 with
 E:=fun R c a X o e t h=>by
  have b:=(c a X o).1
  replace h:vE R a e=some t:=h
  unfold vE at h
  split at h
  ·cases h;exact UQ (b _) (GH (b _))
  ·cases h}
def pRs (R:Rc)(Γ:Ct):List (Option Expr)->List Expr->Option (List (TE3×TE3))
 | [],[]=>some []
 | some k::ks,v::vs=>(pRs R Γ ks vs).map fun r=>(R.E Γ k,R.E Γ v)::r
 | _,_=>none
theorem AC6 (d:∀e,PE3 X e (R.E Γ e)){pos:Pos}:∀{ks:List (Option Expr)} {vs:List Expr} {l:List (TE3×TE3)},pRs R Γ ks vs=some l->YN X pos ks vs l/\ks.all (·.isSome)=true/\ks.length=vs.length
 | [],[],l,h=>by cases h;exact⟨AE2,rfl,rfl⟩
 | some k::ks,v::vs,l,h=>by
  obtain⟨r,f,rfl⟩:=Option.map_eq_some_iff.mp (show(pRs R Γ ks vs).map _=some l from h)
  obtain⟨a,b,c⟩:=AC6 d f
  exact⟨XS (d _) (d _) a,by rw[List.all_cons,b];rfl,congrArg (·+1) c⟩
 | none::_,_,_,h=>by cases h
 | [],_::_,_,h=>by cases h
 | some _::_,[],_,h=>by cases h
def dE (R:Rc)(Γ:Ct)(e:Expr):Option TE3:=match e with
 | .Dict (k::ks) vs _=>match decide (ks.length<15),pRs R Γ (k::ks) vs with
  | true,some l=>some (EX l)
  | _,_=>none
 | _=>none
def extD:Ext:={CJ with E:=dE}
theorem extD_ok:ExtOk extD:={J9 with
 E:=fun R f d X o e t h=>by
  have g:=(f d X o).1
  replace h:dE R d e=some t:=h
  unfold dE at h
  split at h
  ·split at h
   ·rename_i i j
    cases h
    obtain⟨a,b,c⟩:=AC6 g j
    exact XH a b c (by simp) (by simpa[Nat.lt_succ_iff] using i)
   ·cases h
  ·cases h}
variable {X:Cx}
def DL (neg:Bool):R3:=fun x y M Q=>∃(b:Bool) (bs:List Bool),x=.bl b/\GU M y=some (bs.map D.bl)/\Q (.bl (neg ^^ bs.contains b)) M
variable {X:Cx}
theorem LC {K:BP3}{M:Mem}{H:Hp}:∀{ys:List Bool} {vs:List V},Reps K M H (ys.map D.bl) vs->vs=ys.map V.bl
 | [],_,r=>by cases r;rfl
 | y::ys,_,.cons p1 p2=>by
  cases p1
  rw[LC p2];rfl
theorem AA5 {b:Bool}{ys:List Bool}:inV (.bl b) (ys.map V.bl)=ys.contains b:=by
 unfold inV
 induction ys with
 | nil=>rfl
 | cons y ys a =>
  rw[BR7,BT6,a,List.contains_cons]
  cases y<;>cases b<;>rfl
theorem OG (ys:List Bool):(ys.map V.bl).all Z4=true:=by
 rw[List.all_map,BV2]
 intro _ _;rfl
theorem BA2:OpR3 X (BT0 .In) (DL false):=by
 rintro a s c H M x y n o v u Q I m d f g i ⟨b,j,rfl,k,q⟩
 cases g
 obtain⟨p,t,rfl,l,r⟩:=Y3 m i k
 have e:=LC r
 subst e
 exact thn (JP a s c H _ _ v u _ I d f ⟨p,_,rfl,l,rfl,OG j,up0 m .bl (by rw[AA5];rw[CB7] at q;exact q)⟩) fun _ _ h=>N2 h
theorem WY:OpR3 X (BT0 .NotIn) (DL true):=by
 rintro a s c H M x y n o v u Q I m d f g i ⟨b,j,rfl,k,q⟩
 cases g
 obtain⟨p,t,rfl,l,r⟩:=Y3 m i k
 have e:=LC r
 subst e
 exact thn (BF a s c H _ _ v u _ I d f ⟨p,_,rfl,l,rfl,OG j,up0 m .bl (by rw[AA5];rw[Bool.true_xor] at q;exact q)⟩) fun _ _ h=>N2 h
theorem AG3 {b:Bool}{bs:List Bool}{Q:DK}(e:GU M y=some (bs.map D.bl))(h:Q (.bl (neg ^^ bs.contains b)) M):DL neg (.bl b) y M Q:=⟨b,bs,rfl,e,h⟩
end L3
namespace TK
open PySem L2 L3 MK
def hNe:Head->List Blk->Prop
 | .leaf _ _,_=>True
 | .ife _,l=>∃a b,l=[a,b]/\a≠.nil
 | .whl _,l=>∃a,l=[a]/\a≠.nil
 | .tr cs,l=>∃a ms z,l=a::(ms++[z])/\ms.length=cs.length/\a≠.nil/\(∀m∈ms,m≠.nil)/\(cs=[]->z≠.nil)
mutual
def neD:Deed->Prop
 | .mk h bs=>hNe h (C6 bs)/\O6 bs
def neB:Blk->Prop
 | .nil=>True
 | .cons d r=>neD d/\neB r
def O6:Bls->Prop
 | .nil=>True
 | .cons b r=>neB b/\O6 r
end
def dOk (ds:List Int):Prop:=(1<=ds.length/\ds.length<=1000)/\∀d∈ds,0<=d/\d<100
def Kit (M:Mem)(k:Addr)(x y z:D):Prop:=∃(a:Int) (ds:List Int),M k=some (.dct [(.inr "at",.int a),(.inr "draws",.lst (ds.map D.int)),(.inr "names",x),(.inr "rules",y),(.inr "room",z)])/\(0<=a/\a<ds.length)/\dOk ds
def hD (h:Str×Int):D:=.tup [.str h.1,.int h.2]
structure KF (ys:List Str)(hs:List (Str×Int)):Prop where
 n8:ys.length=8
 nm:∀y∈ys,MK.nm y
 h0:hs≠[]
 h8:hs.length<=8
 ho:∀h∈hs,MK.nm h.1/\0<=h.2/\h.2<=3
def KR (M:Mem)(k r:Addr)(ys:List Str)(hs:List (Str×Int))(z:Int):Prop:=Kit M k (.lst (ys.map D.str)) (.ref r) (.int z)/\M r=some (.lst (hs.map hD))/\r≠k/\KF ys hs
def AI2:Sp3:=fun ds M Q=>∃c k:Int,ds=[.int c,.int k]/\(0<=c/\c<10^60)/\(0<=k/\k<1000)/\∀r:Int,0<=r->r<2147483587->Q (.int r) M
def VH:Sp3:=fun ds M Q=>∃ns:List Int,ds=[.lst (ns.map D.int)]/\ns.length<=63/\∀es,dOk es->Q (.lst (es.map D.int)) M
def E1:Sp3:=fun ds M Q=>∃k x y z,ds=[.ref k]/\Kit M k x y z/\∀(n:Int) M',0<=n->n<100->Kit M' k x y z->Same3 k M M'->Q (.int n) M'
def NA:Sp3:=fun ds M Q=>∃k x y z,ds=[.ref k]/\Kit M k x y z/\∀(ys:List Str) M',ys.length=8->(∀y∈ys,nm y)->Kit M' k x y z->Same3 k M M'->Q (.lst (ys.map D.str)) M'
def N5:Sp3:=fun ds M Q=>∃k r ys hs z,ds=[.ref k]/\KR M k r ys hs z/\∀x M',wf x->nd x=1->dp x=1->KR M' k r ys hs z->Same3 k M M'->Q (eD x) M'
def JS:Sp3:=fun ds M Q=>∃k r ys hs z a b,ds=[.ref k,eD a,eD b]/\KR M k r ys hs z/\∀s M',sgn s->KR M' k r ys hs z->Same3 k M M'->Q (eD (.op s a b)) M'
def AM:Sp3:=fun ds M Q=>∃k r ys hs z,ds=[.ref k]/\KR M k r ys hs z/\∀x M',wf x->nd x<=9->dp x<=4->KR M' k r ys hs z->Same3 k M M'->Q (eD x) M'
def Y8:Sp3:=fun ds M Q=>∃k r ys hs z w,ds=[.ref k,.bl w]/\KR M k r ys hs z/\∀h rs M',AE h rs->KR M' k r ys hs z->Same3 k M M'->Q (dD (.mk (.leaf h rs) .nil)) M'
def L1 (n:Nat):Sp3:=fun ds M Q=>∃k r ys hs z w,∃deep:Nat,ds=[.ref k,.int deep,.bl w]/\KR M k r ys hs z/\(0<=z/\z<=29)/\(1<=deep/\deep<=5/\3*(5-deep)+4<=n) /\
 ∀c x b z' M',nm c->nm x->okB b->neB b->b≠.nil->dpB b<=5-deep->(C9 b:Int)+z'<=1+z->0<=z'->KR M' k r ys hs z'->Same3 k M M'->Q (.tup [.str c,.str x,.tup (dB b)]) M'
def L4 (n:Nat):Sp3:=fun ds M Q=>∃k r ys hs z w,∃deep:Nat,∃kind:Int,ds=[.ref k,.int kind,.int deep,.bl w]/\KR M k r ys hs z/\(0<=z/\z<=29)/\(1<=deep/\deep<=4/\3*(5-deep)+2<=n) /\
 ∀d z' M',okD d->neD d->dpD d<=5-deep->(F8 d:Int)+z'<=1+z->0<=z'->KR M' k r ys hs z'->Same3 k M M'->Q (dD d) M'
def L0 (n:Nat):Sp3:=fun ds M Q=>∃k r ys hs z w,∃deep:Nat,ds=[.ref k,.int deep,.bl w]/\KR M k r ys hs z/\(0<=z/\z<=29)/\(1<=deep/\deep<=5/\3*(5-deep)+3<=n) /\
 ∀b z' M',okB b->neB b->b≠.nil->dpB b<=5-deep->(C9 b:Int)+z'<=1+z->0<=z'->KR M' k r ys hs z'->Same3 k M M'->Q (.tup (dB b)) M'
def rOk (r:Rl):Prop:=okB r.blk/\neB r.blk/\r.blk≠.nil/\dpB r.blk<=4/\C9 r.blk<=30
def spBook:Sp3:=fun ds M Q=>∃ns:List Int,∃most:Nat,ds=[.lst (ns.map D.int),.int most]/\ns.length<=63/\(1<=most/\most<=8)/\∀bk:List Rl,(1<=bk.length/\bk.length<=most)->(∀r∈bk,rOk r)->Q (.tup (bk.map rD)) M
end TK
namespace TK
open PySem L2 L3
abbrev QR:List Str:=["_law_cell","_law_k","_law_number"]
def HC:TS3 :=
  (A8 (B8 2 (A6 E7 (A6 D0 (A6 D0 (A6 D0 (A6 W2 (A6 E7 (A4 0) (tC3 (.int 2147483647))) (tC3 (.int 48271))) (A6 W2 (A6 W2 (A4 1) (A4 1)) (tC3 (.int 69621)))) (A4 1)) (tC3 (.int 11))) (tC3 (.int 2147483629))))
  (B4 (A6 E7 (A6 PN (A4 2) (tC3 (.int 5))) (tC3 (.int 2147483587)))))
abbrev KJ:List Str:=["_law_script","_law_cells","_law_found","_law_k","_law_cell","_law_left_here","_law_j"]
def BR:TS3 :=
  (A8 (B8 1 (A6 D0 (N6 (O1 (BO (A4 0) G4 (K2 (tC3 (.int 63))))) 1 [] (J0 0) L5 (A6 E7 (A4 0) (A6 PN (tC3 (.int 10)) (tC3 (.int 60))))) (G0 (A0 (tC3 (.int 7)) A5))))
  (A8 (B8 2 (J2 A5))
  (A8 (O4 (O3 (A0 (F2 UY (A0 (tC3 (.int 24)) (A0 (F2 E2 (A0 (A4 1) A5)) A5))) A5)) 3 (A8 (B8 4 (A6 B7 (A4 1) (A6 E7 (A4 3) (F2 E2 (A0 (A4 1) A5)))))
  (A8 (B8 5 (A4 4))
  (O4 (O3 (A0 (tC3 (.int 9)) A5)) 6 (A8 (C1 (CY (B1 (A6 T6 (A4 4) (A6 PN (tC3 (.int 10)) (tC3 (.int 18))))) (B1 (A6 BK8 (A4 3) (F2 E2 (A0 (A4 1) A5))))) (B8 5 (A7 AI2 (A0 (A4 4) (A0 (A6 D0 (A6 W2 (tC3 (.int 9)) (A4 3)) (A4 6)) A5)))) B6)
  (A8 (F5 (Q5 "list" E4 (A4 2) (A0 (A6 E7 (A4 5) (tC3 (.int 100))) A5)))
  (B8 5 (A6 RV (A4 5) (tC3 (.int 100))))))))))
  (B4 (A4 2)))))
abbrev NP:List Str:=["_law_kit"]
def DU:TS3 :=
  (A8 (R5 (A4 0) (tC3 (.str "at")) (A6 E7 (A6 D0 (A6 E3 (A4 0) (tC3 (.str "at"))) (tC3 (.int 1))) (F2 E2 (A0 (A6 E3 (A4 0) (tC3 (.str "draws"))) A5))))
  (B4 (A6 B7 (A6 E3 (A4 0) (tC3 (.str "draws"))) (A6 E3 (A4 0) (tC3 (.str "at"))))))
abbrev KL:List Str:=["_law_kit","_law_letters","_law_size","_law_at","_law_base","_law_start","_law_found","_law_k","_law_shut"]
def BS:TS3 :=
  (A8 (B8 1 (tC3 (.str "abcdefghijklmnopqrstuvwxyz")))
  (A8 (B8 2 (A6 D0 (tC3 (.int 1)) (A6 E7 (A7 E1 (A0 (A4 0) A5)) (tC3 (.int 8)))))
  (A8 (B8 3 (A6 E7 (A7 E1 (A0 (A4 0) A5)) (A4 2)))
  (A8 (B8 4 (EW (O3 (A0 (A4 2) A5)) 1 [1,0] (J0 0) L5 (A6 B7 (A4 1) (A6 E7 (A7 E1 (A0 (A4 2) A5)) (tC3 (.int 26))))))
  (A8 (B8 5 (A7 E1 (A0 (A4 0) A5)))
  (A8 (B8 6 (J2 A5))
  (A8 (O4 (O3 (A0 (tC3 (.int 8)) A5)) 7 (A8 (NG (A4 4) (A4 3) (A6 B7 (A4 1) (A6 E7 (A6 D0 (A4 5) (A6 W2 (tC3 (.int 3)) (A4 7))) (tC3 (.int 26)))))
  (F5 (Q5 "list" E4 (A4 6) (A0 (Q5 "str" ME (tC3 (.str "")) (A0 (A4 4) A5)) A5)))))
  (A8 (B8 8 (tC3 (.str "any ask cast catch close else end fault give if last leave make none note on rule try while")))
  (A8 (C1 (B1 (A6 (DL false) (tC3 (.bl true)) (N6 (O1 (VQ "str" GP (A4 8))) 1 [6] (J0 0) L5 (A6 (Z2 false) (A4 0) (A4 1))))) (B4 (G0 (A0 (tC3 (.str "aa")) (A0 (tC3 (.str "b")) (A0 (tC3 (.str "aac")) (A0 (tC3 (.str "ad")) (A0 (tC3 (.str "dd")) (A0 (tC3 (.str "abcdefgh")) (A0 (tC3 (.str "abcdefgi")) (A0 (tC3 (.str "z")) A5)))))))))) B6)
  (B4 (A4 6)))))))))))
abbrev NN:List Str:=["_law_kit","_law_kind","_law_number"]
def DS:TS3 :=
  (A8 (B8 1 (A6 E7 (A7 E1 (A0 (A4 0) A5)) (tC3 (.int 7))))
  (A8 (C1 (B1 (A6 D6 (A4 1) (tC3 (.int 0)))) (B4 (C0 (A0 (tC3 (.str "none")) A5))) B6)
  (A8 (C1 (B1 (A6 GK (A4 1) (tC3 (.int 3)))) (B4 (C0 (A0 (tC3 (.str "var")) (A0 (A6 B7 (A6 E3 (A4 0) (tC3 (.str "names"))) (A6 E7 (A7 E1 (A0 (A4 0) A5)) (tC3 (.int 8)))) A5)))) B6)
  (A8 (B8 2 (A6 P9 (A6 E7 (A7 E1 (A0 (A4 0) A5)) (tC3 (.int 9))) (tC3 (.int 4))))
  (A8 (C1 (B1 (A6 D6 (A4 1) (tC3 (.int 3)))) (B8 2 (A6 W2 (A6 P9 (A6 P9 (A6 PN (tC3 (.int 10)) (tC3 (.int 30))) (tC3 (.int 1))) (A7 E1 (A0 (A4 0) A5))) (A6 P9 (tC3 (.int 1)) (A6 W2 (tC3 (.int 2)) (A6 E7 (A4 2) (tC3 (.int 2))))))) B6)
  (B4 (C0 (A0 (tC3 (.str "number")) (A0 (A4 2) A5)))))))))
abbrev QS:List Str:=["_law_kit","_law_one","_law_other"]
def HD:TS3 :=
  (B4 (C0 (A0 (tC3 (.str "op")) (A0 (A6 B7 (tC3 (.str "+-*<=")) (A6 E7 (A7 E1 (A0 (A4 0) A5)) (tC3 (.int 5)))) (A0 (A4 1) (A0 (A4 2) A5))))))
abbrev AQ:List Str:=["_law_kit","_law_kind","_law_inner","_law_name","_law_count"]
def Q9:TS3 :=
  (A8 (B8 1 (A6 E7 (A7 E1 (A0 (A4 0) A5)) (tC3 (.int 9))))
  (A8 (C1 (B1 (A6 T6 (A4 1) (tC3 (.int 5)))) (B4 (A7 N5 (A0 (A4 0) A5))) B6)
  (A8 (C1 (B1 (A6 D6 (A4 1) (tC3 (.int 5)))) (B4 (A7 JS (A0 (A4 0) (A0 (A7 N5 (A0 (A4 0) A5)) (A0 (A7 N5 (A0 (A4 0) A5)) A5))))) B6)
  (A8 (C1 (B1 (A6 D6 (A4 1) (tC3 (.int 6)))) (A8 (B8 2 (A7 JS (A0 (A4 0) (A0 (A7 JS (A0 (A4 0) (A0 (A7 N5 (A0 (A4 0) A5)) (A0 (A7 N5 (A0 (A4 0) A5)) A5)))) (A0 (A7 N5 (A0 (A4 0) A5)) A5)))))
  (B4 (A7 JS (A0 (A4 0) (A0 (A7 N5 (A0 (A4 0) A5)) (A0 (A4 2) A5)))))) B6)
  (A8 (VP (U6 [3,4]) (A6 B7 (A6 E3 (A4 0) (tC3 (.str "rules"))) (A6 E7 (A7 E1 (A0 (A4 0) A5)) (F2 E2 (A0 (A6 E3 (A4 0) (tC3 (.str "rules"))) A5)))))
  (B4 (C0 (A0 (tC3 (.str "make")) (A0 (A4 3) (A0 (F2 J3 (A0 (N6 (O3 (A0 (A4 4) A5)) 1 [0] (J0 0) L5 (A7 N5 (A0 (A4 1) A5))) A5)) A5))))))))))
abbrev KM:List Str:=["_law_kit","_law_loop","_law_kind","_law_x","_law_word","_law_one"]
def BT:TS3 :=
  (A8 (B8 2 (A6 E7 (A7 E1 (A0 (A4 0) A5)) (tC3 (.int 12))))
  (A8 (B8 3 (A6 B7 (A6 E3 (A4 0) (tC3 (.str "names"))) (A6 E7 (A7 E1 (A0 (A4 0) A5)) (tC3 (.int 8)))))
  (A8 (B8 4 (A6 B7 (G0 (A0 (tC3 (.str "kind")) (A0 (tC3 (.str "close")) (A0 (tC3 (.str "ring")) (A0 (tC3 (.str "a")) A5))))) (A6 E7 (A7 E1 (A0 (A4 0) A5)) (tC3 (.int 4)))))
  (A8 (C1 (HA (B1 (A6 D6 (A4 2) (tC3 (.int 11)))) (B1 (A4 1))) (B4 (C0 (A0 (tC3 (.str "leave")) A5))) B6)
  (A8 (B8 5 (A7 AM (A0 (A4 0) A5)))
  (A8 (C1 (B1 (A6 T6 (A4 2) (tC3 (.int 2)))) (B4 (C0 (A0 (tC3 (.str "fault")) (A0 (A4 4) (A0 (A4 5) A5))))) B6)
  (A8 (C1 (B1 (A6 D6 (A4 2) (tC3 (.int 2)))) (B4 (C0 (A0 (tC3 (.str "end")) (A0 (A4 5) A5)))) B6)
  (A8 (C1 (B1 (A6 T6 (A4 2) (tC3 (.int 5)))) (B4 (C0 (A0 (tC3 (.str "give")) (A0 (A4 3) (A0 (A4 5) A5))))) B6)
  (A8 (C1 (B1 (A6 D6 (A4 2) (tC3 (.int 5)))) (B4 (C0 (A0 (tC3 (.str "on")) (A0 (A4 3) (A0 (A4 5) A5))))) B6)
  (A8 (C1 (B1 (A6 D6 (A4 2) (tC3 (.int 6)))) (B4 (C0 (A0 (tC3 (.str "close")) (A0 (A4 5) A5)))) B6)
  (A8 (C1 (B1 (A6 D6 (A4 2) (tC3 (.int 7)))) (B4 (C0 (A0 (tC3 (.str "note")) (A0 (A4 5) A5)))) B6)
  (A8 (C1 (B1 (A6 D6 (A4 2) (tC3 (.int 8)))) (B4 (C0 (A0 (tC3 (.str "ask")) (A0 (A4 3) (A0 (A6 B7 (A6 E3 (A4 0) (tC3 (.str "names"))) (A6 E7 (A7 E1 (A0 (A4 0) A5)) (tC3 (.int 8)))) (A0 (A4 5) (A0 (A7 N5 (A0 (A4 0) A5)) A5))))))) B6)
  (A8 (C1 (B1 (A6 D6 (A4 2) (tC3 (.int 9)))) (B4 (C0 (A0 (tC3 (.str "cast")) (A0 (A4 3) (A0 (A6 B7 (A6 E3 (A4 0) (tC3 (.str "names"))) (A6 E7 (A7 E1 (A0 (A4 0) A5)) (tC3 (.int 8)))) (A0 (A4 5) (A0 (A4 4) (A0 (A7 N5 (A0 (A4 0) A5)) A5)))))))) B6)
  (B4 (C0 (A0 (tC3 (.str "let")) (A0 (A4 3) (A0 (A4 5) A5))))))))))))))))))
abbrev HR:List Str:=["_law_kit","_law_deep","_law_loop","_law_word"]
def Z8 (q__law_caught q__law_nested q__law_block:Sp3):TS3 :=
  (A8 (B8 3 (A6 B7 (G0 (A0 (tC3 (.str "any")) (A0 (tC3 (.str "kind")) (A0 (tC3 (.str "close")) (A0 (tC3 (.str "ring")) (A0 (tC3 (.str "a")) A5)))))) (A6 E7 (A7 E1 (A0 (A4 0) A5)) (tC3 (.int 5)))))
  (B4 (C0 (A0 (A4 3) (A0 (A6 B7 (A6 E3 (A4 0) (tC3 (.str "names"))) (A6 E7 (A7 E1 (A0 (A4 0) A5)) (tC3 (.int 8)))) (A0 (A7 q__law_block (A0 (A4 0) (A0 (A4 1) (A0 (A4 2) A5)))) A5))))))
abbrev HS:List Str:=["_law_kit","_law_kind","_law_deep","_law_loop","_law_more","_law_last","_law_one","_law_block_here","_law_catches","_law_lasts"]
def Z9 (q__law_caught q__law_nested q__law_block:Sp3):TS3 :=
  (A8 (B8 4 (A6 E7 (A7 E1 (A0 (A4 0) A5)) (tC3 (.int 4))))
  (A8 (B8 5 (F2 DM (A0 (JW (A6 D6 (A4 4) (tC3 (.int 0))) (A6 D6 (A6 E7 (A7 E1 (A0 (A4 0) A5)) (tC3 (.int 2))) (tC3 (.int 0)))) A5)))
  (A8 (C1 (B1 (A6 T6 (A4 1) (tC3 (.int 3)))) (A8 (B8 5 (F2 DM (A0 (A6 GK (A4 4) (tC3 (.int 1))) A5)))
  (B8 4 (tC3 (.int 0)))) B6)
  (A8 (C1 (B1 (O9 RX T6 (tC3 (.int 3)) (A4 1) (tC3 (.int 5)))) (A8 (B8 4 (tC3 (.int 0)))
  (B8 5 (tC3 (.int 0)))) B6)
  (A8 (C1 (B1 (A6 T6 (A6 E3 (A4 0) (tC3 (.str "room"))) (A6 D0 (A6 D0 (tC3 (.int 1)) (A4 4)) (A4 5)))) (B4 (A7 Y8 (A0 (A4 0) (A0 (A4 3) A5)))) B6)
  (A8 (R5 (A4 0) (tC3 (.str "room")) (A6 P9 (A6 P9 (A6 P9 (A6 E3 (A4 0) (tC3 (.str "room"))) (tC3 (.int 1))) (A4 4)) (A4 5)))
  (A8 (C1 (B1 (O9 RX T6 (tC3 (.int 3)) (A4 1) (tC3 (.int 5)))) (B4 (C0 (A0 (tC3 (.str "while")) (A0 (A7 AM (A0 (A4 0) A5)) (A0 (A7 q__law_block (A0 (A4 0) (A0 (A6 D0 (A4 2) (tC3 (.int 1))) (A0 (tC3 (.bl true)) A5)))) A5))))) B6)
  (A8 (B8 6 (A7 AM (A0 (A4 0) A5)))
  (A8 (B8 7 (A7 q__law_block (A0 (A4 0) (A0 (A6 D0 (A4 2) (tC3 (.int 1))) (A0 (A4 3) A5)))))
  (A8 (B8 8 (F2 J3 (A0 (N6 (O3 (A0 (A4 4) A5)) 1 [0,3,2] (J0 0) L5 (A7 q__law_caught (A0 (A4 1) (A0 (A6 D0 (A4 3) (tC3 (.int 1))) (A0 (A4 2) A5))))) A5)))
  (A8 (B8 9 (C0 A5))
  (A8 (C1 (B1 (A6 D6 (A4 5) (tC3 (.int 1)))) (B8 9 (A7 q__law_block (A0 (A4 0) (A0 (A6 D0 (A4 2) (tC3 (.int 1))) (A0 (A4 3) A5))))) B6)
  (A8 (C1 (B1 (A6 T6 (A4 1) (tC3 (.int 3)))) (B4 (C0 (A0 (tC3 (.str "if")) (A0 (A4 6) (A0 (A4 7) (A0 (A4 9) A5)))))) B6)
  (B4 (C0 (A0 (tC3 (.str "try")) (A0 (A4 7) (A0 (A4 8) (A0 (A4 9) A5)))))))))))))))))))
abbrev KI:List Str:=["_law_kit","_law_deep","_law_loop","_law_block_here","_law_k","_law_kind"]
def BQ (q__law_caught q__law_nested q__law_block:Sp3):TS3 :=
  (A8 (B8 3 (J2 A5))
  (A8 (O4 (O3 (A0 (A6 D0 (tC3 (.int 1)) (A6 E7 (A7 E1 (A0 (A4 0) A5)) (tC3 (.int 3)))) A5)) 4 (C1 (CY (B1 (A6 D6 (A4 4) (tC3 (.int 0)))) (B1 (A6 GK (A6 E3 (A4 0) (tC3 (.str "room"))) (tC3 (.int 0))))) (A8 (R5 (A4 0) (tC3 (.str "room")) (A6 P9 (A6 E3 (A4 0) (tC3 (.str "room"))) (F2 DM (A0 (A6 GK (A4 4) (tC3 (.int 0))) A5))))
  (A8 (B8 5 (A6 E7 (A7 E1 (A0 (A4 0) A5)) (tC3 (.int 20))))
  (C1 (CY (B1 (A6 T6 (A4 5) (tC3 (.int 9)))) (B1 (A6 D6 (A4 1) (tC3 (.int 5))))) (F5 (Q5 "list" E4 (A4 3) (A0 (A7 Y8 (A0 (A4 0) (A0 (A4 2) A5))) A5))) (F5 (Q5 "list" E4 (A4 3) (A0 (A7 q__law_nested (A0 (A4 0) (A0 (A6 P9 (A4 5) (tC3 (.int 9))) (A0 (A4 1) (A0 (A4 2) A5))))) A5)))))) B6))
  (B4 (F2 J3 (A0 (A4 3) A5)))))
abbrev NL:List Str:=["_law_script","_law_most","_law_kit","_law_called","_law_k","_law_book_here","_law_name","_law_count"]
def DQ:TS3 :=
  (A8 (B8 2 (EX [((tC3 (.str "at")),(tC3 (.int 0))),((tC3 (.str "draws")),(A7 VH (A0 (A4 0) A5))),((tC3 (.str "names")),(G0 A5)),((tC3 (.str "rules")),(J2 A5)),((tC3 (.str "room")),(tC3 (.int 0)))]))
  (A8 (R5 (A4 2) (tC3 (.str "names")) (A7 NA (A0 (A4 2) A5)))
  (A8 (B8 3 (A7 NA (A0 (A4 2) A5)))
  (A8 (O4 (O3 (A0 (A6 D0 (tC3 (.int 1)) (A6 E7 (A7 E1 (A0 (A4 2) A5)) (A4 1))) A5)) 4 (F5 (Q5 "list" E4 (A6 E3 (A4 2) (tC3 (.str "rules"))) (A0 (C0 (A0 (A6 B7 (A4 3) (A4 4)) (A0 (A6 E7 (A7 E1 (A0 (A4 2) A5)) (tC3 (.int 4))) A5))) A5))))
  (A8 (B8 5 (J2 A5))
  (A8 (AN (O1 (F2 ER (A0 (A6 E3 (A4 2) (tC3 (.str "rules"))) A5))) (U6 [6,7]) (A8 (R5 (A4 2) (tC3 (.str "room")) (A6 B7 (G0 (A0 (tC3 (.int 3)) (A0 (tC3 (.int 7)) (A0 (tC3 (.int 12)) (A0 (tC3 (.int 29)) (A0 (tC3 (.int 7)) A5)))))) (A6 E7 (A7 E1 (A0 (A4 2) A5)) (tC3 (.int 5)))))
  (F5 (Q5 "list" E4 (A4 5) (A0 (C0 (A0 (A4 6) (A0 (F2 J3 (A0 (BO (A6 E3 (A4 2) (tC3 (.str "names"))) G4 (K2 (A4 7))) A5)) (A0 (A7 (L0 20) (A0 (A4 2) (A0 (tC3 (.int 1)) (A0 (tC3 (.bl false)) A5)))) A5)))) A5)))))
  (B4 (F2 J3 (A0 (A4 5) A5)))))))))
end TK
open L3
namespace TK
open PySem L2 L3 MK
theorem ZD {g:TG3}{M1:Mem}{Q:DK}{q:Addr}(S:Nat->Mem->Prop)(P:Nat->D->D->Prop)(G:S 0 M1)(H:M1 q≠none)(O:ds.length<BQ6)
  (hs:∀p,M1 p=none->∀k M M',(∀a,a≠p->M' a=M a)->S k M->S k M')
  (s:∀k d M2 (R:D->Mem->Prop) (F:Mem->Prop),ds[k]?=some d->S k M2->(∀e M5,P k d e->S (k+1) M5->Same3 q M2 M5->R e M5) ->
   g d σ0 M2 fun t M3=>tt t M3 fun I M4=>if I=true then te t M4 R else F M4)
  (done:∀b M2,b.length=ds.length->(∀k d e,ds[k]?=some d->b[k]?=some e->P k d e)->S ds.length M2->Same3 q M1 M2->Q (.lst b) M2) :
  SO g tt te σ0 ds M1 Q:=by
 intro p u
 have y:q≠p:=fun e=>H (by rw[e];exact u)
 refine⟨fun k b M2=>b.length=k/\(∀j d e,ds[j]?=some d->b[j]?=some e->P j d e)/\S k M2/\M2 p=some (.lst b)/\∀a,a≠q->a≠p->M2 a=M1 a,⟨rfl,fun j d e _ h=>by simp at h,hs p u 0 _ _ (fun a n=>B3 n) G,B0,fun a _ n=>B3 n⟩,?_,?_⟩
 ·rintro k d b M2 A ⟨B,i,l,m,c⟩
  have J:=(List.getElem?_eq_some_iff.mp A).1
  refine s k d M2 _ _ A l fun e M5 K C v=>?_
  refine⟨by rw[v p (Ne.symm y)];exact m,by lia,by simp[B],fun j L N o f=>?_,hs p u _ _ _ (fun a n=>B3 n) C,B0,fun a w x=>?_⟩
  ·rcases CD6 j b.length with hj|hj
   ·rw[BS2 hj] at f
    exact i j L N o f
   ·rw[BS6 hj] at f
    have E:j-b.length=0:=by
     rcases CA5 (j-b.length) with z|z
     ·exact z
     ·rw[List.getElem?_eq_none (by simp;lia)] at f;cases f
    rw[E] at f
    cases f
    have:j=k:=by lia
    subst this
    rw[A] at o;cases o
    exact K
  ·rw[B3 x,v a w];exact c a w x
 ·rintro b M2 ⟨B,i,l,m,c⟩
  refine⟨m,done b (J1 M2 p) B i (hs p u _ _ _ (fun a n=>G7 n) l) fun a n=>?_⟩
  by_cases r:a=p
  ·subst r;rw[P2,u]
  ·rw[G7 r];exact c a n r
theorem Kit.ne {k:Addr}{x z:D}(h:Kit M k x y z):M k≠none:=by obtain⟨a,b,e,_⟩:=h;rw[e];simp
theorem Kit.same {M':Mem}{k:Addr}{x z:D}(h:Kit M k x y z)(e:M' k=M k):Kit M' k x y z:=by
 obtain⟨a,b,c,r⟩:=h
 exact⟨a,b,e.trans c,r⟩
theorem Kit.names {M:Mem}{k:Addr}{x y z:D}{Q:DK}(h:Kit M k x y z)(q:Q x M):E3 (.ref k) (.str "names") M Q:=by
 obtain⟨a,c,b,r⟩:=h;exact Q0 b rfl q
theorem Kit.rules {M:Mem}{k:Addr}{x y z:D}{Q:DK}(h:Kit M k x y z)(q:Q y M):E3 (.ref k) (.str "rules") M Q:=by
 obtain⟨a,c,b,r⟩:=h;exact Q0 b rfl q
theorem Kit.room {M:Mem}{k:Addr}{x y z:D}{Q:DK}(h:Kit M k x y z)(q:Q z M):E3 (.ref k) (.str "room") M Q:=by
 obtain⟨a,c,b,r⟩:=h;exact Q0 b rfl q
theorem take {k:Addr}{x z:D}{Q:DK}(h:Kit M k x y z)(q:∀(n:Int) M',0<=n->n<100->Kit M' k x y z->Same3 k M M'->Q (.int n) M'):E1 [.ref k] M Q:=⟨k,x,y,z,rfl,h,q⟩
theorem rd__law_mix:∀ds M Q,AI2 ds M Q->HC {nx:=fun _ M'=>View Q .non M',rt:=View Q} (B9 QR ds) M:=by
 rintro _ M Q ⟨c,k,rfl,⟨a,b⟩,⟨d,e⟩,q⟩
 unfold HC
 walk_at "rd"
 refine F6 (by decide) ?_
 walk_at "rd"
 refine F6 (.inl (.inr ⟨by decide,by decide⟩)) ?_
 walk_at "rd"
 refine F6 (.inl (.inl ⟨by lia,by lia⟩)) ?_
 walk_at "rd"
 refine F6 (.inl (.inr ⟨by decide,by decide⟩)) ?_
 walk_at "rd"
 refine F6 (by decide) ?_
 walk_at "rd"
 refine F6 ⟨by decide,by decide,?_⟩ ?_
 ·have f:=BZ2 (c % 2147483647*48271+k*k*69621+k+11) (show(2147483629:Int)≠0 by decide)
  have g:=BX1 (c % 2147483647*48271+k*k*69621+k+11) (show(0:Int)<2147483629 by decide)
  lia
 walk_at "rd"
 refine F6 (by decide) ?_
 exact View.of (q _ (BZ2 _ (by decide)) (BX1 _ (by decide)))
theorem rd__law_take:∀ds M Q,E1 ds M Q->DU {nx:=fun _ M'=>View Q .non M',rt:=View Q} (B9 NP ds) M:=by
 rintro _ M Q ⟨k,x,y,z,rfl,⟨a,ds,e,⟨l,m⟩,f⟩,q⟩
 unfold DU
 walk_at "rd"
 refine PP ?_
 walk_at "rd"
 refine Q0 e rfl ?_
 walk_at "rd"
 refine Q0 e rfl ?_
 walk_at "rd"
 have n:0<ds.length:=f.1.1
 refine F6 (by rw[BP1];lia) ?_
 walk_at "rd"
 refine⟨.inr "at",k,_,rfl,rfl,e,by show 5<_;decide,?_⟩
 have c:=BZ2 (a+1) (show(((ds.map D.int).length:Nat):Int)≠0 by rw[BP1];lia)
 have g:=BX1 (a+1) (show(0:Int)<((ds.map D.int).length:Nat) by rw[BP1];lia)
 rw[BP1] at c g ⊢
 generalize o:(a+1) % (ds.length:Int)=b at c g ⊢
 walk_at "rd"
 refine Q0 B0 rfl ?_
 walk_at "rd"
 refine Q0 B0 rfl ?_
 obtain⟨i,rfl⟩:=Int.eq_ofNat_of_zero_le c
 have j:i<ds.length:=by lia
 refine R4 (d:=.int ds[i]) ?_ ?_
 ·unfold atI
  simp[ixN,j]
 have:=f.2 ds[i] (BX9 j)
 exact View.of (q _ _ this.1 this.2 ⟨_,ds,B0,⟨c,g⟩,f⟩ fun _ h=>B3 h)
end TK
open L3
namespace TK
open PySem L2 L3 MK
theorem ZK (ns:List Int)(l h:Option Int):∃a:List Int,cutD (ns.map D.int) l h=a.map D.int/\a.length<=ns.length:=by
 refine⟨(ns.drop (HT.sIx (ns.map D.int).length 0 l)).take (HT.sIx (ns.map D.int).length (ns.map D.int).length h-HT.sIx (ns.map D.int).length 0 l),?_,?_⟩
 ·unfold cutD
  rw[<-List.map_drop,<-List.map_take]
 ·rw[BT3,CA0];lia
theorem rng_at {n k:Nat}{d:D}(h:((BS8 n).map fun k=>D.int (k:Nat))[k]?=some d):d=.int k/\k<n:=by
 have a:k<n:=by simpa using(List.getElem?_eq_some_iff.mp h).1
 rw[BQ3,BX6 a] at h
 exact⟨by simpa using h.symm,a⟩
theorem rd__law_draws:∀ds M Q,VH ds M Q->BR {nx:=fun _ M'=>View Q .non M',rt:=View Q} (B9 KJ ds) M:=by
 rintro _ M Q ⟨v,rfl,hn,q⟩
 unfold BR
 walk_at "rd"
 obtain⟨K,e,hm⟩:=ZK v none (some 63)
 rw[e]
 refine K0 K D.int (fun c=>.int (c % 10^60)) (fun _=>true) (by rw[BR0];lia) ?_ ?_
 ·intro c J M2 R F hs Y hF
  walk_at "rd"
  refine F6 ⟨by decide,by decide,by decide⟩ ?_
  walk_at "rd"
  refine F6 (by decide) ?_
  exact Y rfl
 rw[CC6.mpr (fun _ _=>rfl)]
 walk_at "rd"
 refine MH (by rw[BP1,BR0];simp;lia) ?_
 have y:∃o:List Int,(K.map fun c=>D.int (c % 10^60))++[.int 7]=o.map D.int/\1<=o.length/\o.length<=64/\∀c∈o,0<=c/\c<10^60:=by
  refine⟨K.map (fun c=>c % 10^60)++[7],by simp,by simp,by simp;lia,fun c J=>?_⟩
  rcases List.mem_append.mp J with h|h
  ·obtain⟨x,_,rfl⟩:=List.mem_map.mp h
   exact⟨BZ2 _ (by decide),BX1 _ (by decide)⟩
  ·cases List.mem_singleton.mp h;decide
 obtain⟨o,Z,c1,c64,y⟩:=y
 rw[Z]
 walk_at "rd"
 intro f hf
 walk_at "rd"
 generalize W:(if (((o.map D.int).length:Nat):Int)>24 then(((o.map D.int).length:Nat):Int) else 24)=w
 rw[BP1] at W
 have w0:24<=w/\w<=64:=by rw[<-W];split<;>lia
 refine⟨by lia,by lia,fun k p E=>∃(b:List Int) (L N O s:Option D),p=[some (.lst (v.map D.int)),some (.lst (o.map D.int)),some (.ref f),L,N,O,s]/\b.length=9*k/\(∀d∈b,0<=d/\d<100)/\E f=some (.lst (b.map D.int))/\∀a,a≠f->E a=M a,⟨[],_,_,_,_,rfl,rfl,fun _ h=>(by cases h),B0,fun a u=>B3 u⟩,?_,?_⟩
 ·rintro k d p E G ⟨b,L,N,O,s,rfl,l,i,z,A⟩
  obtain⟨rfl,hk⟩:=rng_at G
  walk_at "rd"
  refine F6 (by rw[BP1];lia) ?_
  rw[BP1]
  obtain⟨c,J,P⟩:=X9 (ds:=o.map D.int) (n:=(k:Int) % (o.length:Int)) (BZ2 _ (by lia)) (by rw[BP1];exact BX1 _ (by lia))
  obtain⟨c,H,rfl⟩:=List.mem_map.mp P
  obtain⟨S,U⟩:=y c H
  refine R4 J ?_
  walk_at "rd"
  refine⟨fun j p M2=>∃(b:List Int) (m:Int) (s:Option D),p=[some (.lst (v.map D.int)),some (.lst (o.map D.int)),some (.ref f),some (.int k),some (.int c),some (.int m),s]/\b.length=9*k+j/\(∀d∈b,0<=d/\d<100)/\M2 f=some (.lst (b.map D.int))/\∀a,a≠f->M2 a=M a,⟨b,c,_,rfl,by lia,i,z,A⟩,?_,?_⟩
  ·rintro j d p M2 G ⟨b,m,s,rfl,l,i,t,B⟩
   obtain⟨rfl,X⟩:=rng_at G
   have X:j<9:=X
   have C:∀(T:N1) (m:Int),(∀p M2,(∃(b:List Int) (m:Int) (s:Option D),p=[some (.lst (v.map D.int)),some (.lst (o.map D.int)),some (.ref f),some (.int k),some (.int c),some (.int m),s]/\b.length=9*k+(j+1)/\(∀d∈b,0<=d/\d<100)/\M2 f=some (.lst (b.map D.int))/\∀a,a≠f->M2 a=M a)->T.nx p M2) ->
     A8 (F5 (Q5 "list" E4 (A4 2) (A0 (A6 E7 (A4 5) (tC3 (.int 100))) A5))) (B8 5 (A6 RV (A4 5) (tC3 (.int 100)))) T
     [some (.lst (v.map D.int)),some (.lst (o.map D.int)),some (.ref f),some (.int k),some (.int c),some (.int m),some (.int j)] M2:=by
    intro T m V
    walk_at "rd"
    refine⟨.inl ⟨rfl,_,t⟩,?_⟩
    walk_at "rd"
    refine F6 (by decide) ?_
    walk_at "rd"
    refine K5 t (by rw[BP1,BR0];lia) ?_
    walk_at "rd"
    refine F6 ⟨by decide,by decide⟩ ?_
    refine V _ _ ⟨b++[m % 100],m / 100,_,rfl,by simp[l];lia,fun d G=>?_,by rw[B0];simp,fun a u=>by rw[B3 u];exact B a u⟩
    rcases List.mem_append.mp G with h|h
    ·exact i d h
    ·cases List.mem_singleton.mp h
     exact⟨BZ2 _ (by decide),BX1 _ (by decide)⟩
   have I:∀T:N1,(∀m:Int,T.nx [some (.lst (v.map D.int)),some (.lst (o.map D.int)),some (.ref f),some (.int k),some (.int c),some (.int m),some (.int j)] M2)->B8 5 (A7 AI2 (A0 (A4 4) (A0 (A6 D0 (A6 W2 (tC3 (.int 9)) (A4 3)) (A4 6)) A5))) T
     [some (.lst (v.map D.int)),some (.lst (o.map D.int)),some (.ref f),some (.int k),some (.int c),some (.int m),some (.int j)] M2:=by
    intro T V
    walk_at "rd"
    refine F6 (.inl (.inl ⟨by decide,by decide⟩)) ?_
    walk_at "rd"
    exact⟨c,9*(k:Int)+j,rfl,⟨S,U⟩,⟨by lia,by lia⟩,fun r _ _=>V r⟩
   refine rd_seq.g ?_
   refine rd_ifs.g ?_
   refine rd_or.g ?_
   walk_at "rd"
   refine F6 ⟨by decide,by decide,by decide⟩ ?_
   walk_at "rd"
   refine F4 ?_ ?_
   ·exact rd_iteT.g (I _ fun m=>C _ m fun _ _ h=>h)
   ·walk_at "rd"
    exact F4 (I _ fun m=>C _ m fun _ _ h=>h) (C _ m fun _ _ h=>h)
  ·rintro p M2 ⟨b,m,s,rfl,l,i,t,B⟩
   have hl9:b.length=9*k+9:=by simpa using l
   exact⟨b,_,_,_,_,rfl,by lia,i,t,B⟩
 ·rintro p E ⟨b,L,N,O,s,rfl,l,i,z,A⟩
  walk_at "rd"
  refine View.frz z ?_
  have:J1 E f=M:=by
   funext a
   by_cases u:a=f
   ·subst u;rw[P2,hf]
   ·rw[G7 u,A a u]
  rw[this]
  simp at l
  exact q b ⟨⟨by lia,by lia⟩,i⟩
end TK
open L3
namespace TK
open PySem L2 L3 MK
theorem pm {n m:Int}(h:0<m:=by decide):0<=n % m/\n % m<m:=⟨BZ2 _ (by lia),BX1 _ h⟩
theorem AC2 (cs:List Nat):((cs.map one).map fun y=>y.length).sum=cs.length:=by
 induction cs with
 | nil=>rfl
 | cons c cs a =>
  rw[BR7,BR7,List.sum_cons,a]
  show 1+cs.length=cs.length+1
  lia
theorem AN0 {cs:List Nat}(h:∀c∈cs,97<=c/\c<=122)(h1:1<=cs.length)(b:cs.length<=8):nm (Txt.join "" (cs.map one)):=by
 refine⟨fun c a=>h c (by rw[JE] at a;exact a),?_,?_⟩<;>rw[AL9,JE]<;>assumption
theorem BG0:∀x∈(["aa","b","aac","ad","dd","abcdefgh","abcdefgi","z"]:List Str),nm x:=by
 intro x a
 simp only[BU1,BS1,or_false] at a
 rcases a with rfl|rfl|rfl|rfl|rfl|rfl|rfl|rfl<;>exact AU0 _ (by decide +kernel) (by decide +kernel)
theorem BL5 {to ti:TE3}(h:te σ M fun d M1=>to σ M1 fun o M2=>ti σ M2 fun i M3=>∃a ds j k,o=.ref a/\i=.int k/\M3 a=some (.lst ds)/\ixN ds.length k=some j/\T.nx σ (D8 M3 a (.lst (ds.set j d)))):NG to ti te T σ M:=h
theorem AZ2 {n:Nat}{k:Int}(a:0<=k)(h1:k<n):ixN n k=some k.toNat:=by
 obtain⟨i,rfl⟩:=Int.eq_ofNat_of_zero_le a
 unfold ixN
 have:i<n:=by lia
 simp[this]
def kM (M M5:Mem)(k:Addr):Mem:=fun a=>if a=k then M5 k else M a
theorem AZ5 {M5:Mem}{k:Addr}:kM M M5 k k=M5 k:=by unfold kM;rw[if_pos rfl]
theorem EK {M5:Mem}{k:Addr}:Same3 k M (kM M M5 k):=fun a h=>by unfold kM;rw[if_neg h]
theorem YH {k f:Addr}{M5:Mem}{Q:DK}(d:M5 f=some (.lst ds))(b:k≠f)(h:∀a,a≠k->M a≠none->a≠f/\M5 a=M a)(q:Q (.lst ds) (kM M M5 k)):View Q (.ref f) M5 :=
 ⟨.lst ds,_,(Vs.frzL d).trans (.sub (fun a o e=>by
  unfold kM at e
  by_cases c:a=k
  ·subst c;rw[if_pos rfl] at e;rw[G7 b];exact e
  ·rw[if_neg c] at e
   obtain⟨g,i⟩:=h a c (by rw[e];simp)
   rw[G7 g,i];exact e) _),q⟩
theorem AJ1 {k:Addr}{d:D}{M5:Mem}{Q:DK}(h:∀a,a≠k->M a≠none->M5 a=M a)(q:Q d (kM M M5 k)):View Q d M5 :=
 View.sub (fun a o e=>by
  unfold kM at e
  by_cases b:a=k
  ·subst b;rw[if_pos rfl] at e;exact e
  ·rw[if_neg b] at e
   rw[h a b (by rw[e];simp)];exact e) q
theorem rd__law_names:∀ds M Q,NA ds M Q->BS {nx:=fun _ M'=>View Q .non M',rt:=View Q} (B9 KL ds) M:=by
 rintro _ M Q ⟨k,x,y,z,rfl,hK,q⟩
 unfold BS
 walk_at "rd"
 refine take hK fun n1 M1 _ _ hK1 e1=>?_
 walk_at "rd"
 refine F6 (by decide) ?_
 walk_at "rd"
 obtain⟨z0,z1⟩:=pm (n:=n1) (m:=8)
 generalize hz:1+n1 % 8=sz
 have sz0:1<=sz/\sz<=8:=by lia
 refine take hK1 fun n2 M2 _ _ hK2 e2=>?_
 walk_at "rd"
 refine F6 (by lia) ?_
 walk_at "rd"
 obtain⟨at0,at1⟩:=pm (n:=n2) (m:=sz) (by lia)
 generalize n2 % sz=g at at0 at1
 refine⟨by lia,by lia,?_⟩
 intro b hb
 have s:k≠b:=fun e=>hK2.ne (by rw[e];exact hb)
 refine⟨fun j t M3=>t.length=j/\(∀e∈t,∃c,e=.str (one c)/\97<=c/\c<=122)/\Kit M3 k x y z/\M3 b=some (.lst t)/\∀a,a≠k->a≠b->M3 a=M2 a,⟨rfl,fun _ h=>(by cases h),hK2.same (B3 s),B0,fun a _ l=>B3 l⟩,?_,?_⟩
 ·rintro j d t M3 hd ⟨Y,u,N,C,v⟩
  obtain⟨rfl,hj2⟩:=rng_at hd
  walk_at "rd"
  refine take N fun n3 M4 _ _ E O=>?_
  walk_at "rd"
  refine F6 (by decide) ?_
  obtain⟨c0,c1⟩:=pm (n:=n3) (m:=26)
  obtain⟨c,hc,S⟩:=YO c0 c1
  refine SA (by decide +kernel) hc ?_
  refine⟨by rw[O b (Ne.symm s)];exact C,by rw[BR0];lia,by simp[Y],fun e he=>?_,E.same (B3 s),B0,fun a A G=>by rw[B3 G,O a A];exact v a A G⟩
  rcases List.mem_append.mp he with h|h
  ·exact u e h
  ·cases List.mem_singleton.mp h;exact⟨c,rfl,S⟩
 rintro t M3 ⟨Y,u,N,C,v⟩
 refine⟨C,?_⟩
 obtain⟨i,rfl,H⟩:=AG (f:=fun c=>D.str (one c)) (P:=fun c=>97<=c/\c<=122) u
 have hl:i.length=sz.toNat:=by simpa using Y
 walk_at "rd"
 refine take N fun n3 M4 _ _ E O=>?_
 walk_at "rd"
 intro f Z
 have T:k≠f:=fun e=>E.ne (by rw[e];exact Z)
 have U:M4 b=some (.lst (i.map fun c=>D.str (one c))):=by rw[O b (Ne.symm s)];exact C
 have I:b≠f:=fun e=>by rw[e,Z] at U;cases U
 have same:∀r:Mem,(∀a,a≠k->a≠b->a≠f->r a=M4 a)->∀a,a≠k->M a≠none->r a=M a:=by
  intro r h a l hm
  have B:a≠b:=fun e=>by
   rw[<-e,e2 a l,e1 a l] at hb
   exact hm hb
  have haf:a≠f:=fun e=>by
   rw[<-e,O a l,v a l B,e2 a l,e1 a l] at Z
   exact hm Z
  rw[h a l B haf,O a l,v a l B,e2 a l,e1 a l]
 walk_at "rd"
 refine⟨fun j σ r=>∃(ys:List Str) (i:List Nat) (s7:Option D),σ=[some (.ref k),some (.str "abcdefghijklmnopqrstuvwxyz"),some (.int sz),some (.int g),some (.ref b),some (.int n3),some (.ref f),s7,none]/\ys.length=j/\(∀y∈ys,nm y)/\i.length=sz.toNat/\(∀c∈i,97<=c/\c<=122)/\Kit r k x y z/\r b=some (.lst (i.map fun c=>D.str (one c)))/\r f=some (.lst (ys.map D.str))/\∀a,a≠k->a≠b->a≠f->r a=M4 a,
  ⟨[],i,_,rfl,rfl,fun _ h=>(by cases h),hl,H,E.same (B3 T),by rw[B3 I];exact U,B0,fun a _ _ l=>B3 l⟩,?_,?_⟩
 ·rintro j d σ r hd ⟨ys,i,s7,rfl,V,W,hl,H,J,hb5,p,X⟩
  obtain⟨rfl,Y⟩:=rng_at hd
  have Y:j<8:=Y
  walk_at "rd"
  refine BL5 ?_
  walk_at "rd"
  refine F6 (.inl (.inl ⟨by decide,by decide⟩)) ?_
  walk_at "rd"
  refine F6 (by decide) ?_
  obtain⟨c0,c1⟩:=pm (n:=n3+3*(j:Int)) (m:=26)
  obtain⟨c,hc,S⟩:=YO c0 c1
  refine SA (by decide +kernel) hc ?_
  walk_at "rd"
  refine⟨b,_,g.toNat,g,rfl,rfl,hb5,AZ2 at0 (by rw[BP1];lia),?_⟩
  have K:(i.map fun c=>D.str (one c)).set g.toNat (.str (one c))=((i.set g.toNat c).map one).map D.str:=by
   rw[BW9,<-List.map_set];rfl
  have L:∀c'∈i.set g.toNat c,97<=c'/\c'<=122:=fun c' h=>by
   rcases List.mem_or_eq_of_mem_set h with h|rfl
   ·exact H c' h
   ·exact S
  have hl':(i.set g.toNat c).length=sz.toNat:=by rw[List.length_set];exact hl
  have hf6:∀o,D8 r b o f=some (.lst (ys.map D.str)):=fun o=>by rw[B3 (Ne.symm I)];exact p
  walk_at "rd"
  refine⟨.inl ⟨rfl,_,hf6 _⟩,?_⟩
  walk_at "rd"
  refine⟨rfl,?_⟩
  walk_at "rd"
  refine⟨"",b,(i.set g.toNat c).map one,rfl,rfl,by rw[B0];exact congrArg (fun z=>some (MO.lst z)) K,?_,?_⟩
  ·unfold AA7
   rw[AC2,BP1,show(("":Str)).length=0 by decide +kernel]
   lia
  walk_at "rd"
  refine K5 (hf6 _) (by rw[BP1,BR0];lia) ?_
  refine⟨ys++[Txt.join "" ((i.set g.toNat c).map one)],i.set g.toNat c,_,rfl,by simp[V],fun y' hy'=>?_,hl',L,(J.same (B3 s)).same (B3 T),by rw[B3 I,B0];exact congrArg (fun z=>some (MO.lst z)) (K.trans (by rw[BW9];rfl)),by rw[B0];simp,fun a A G h3=>by rw[B3 h3,B3 G];exact X a A G h3⟩
  rcases List.mem_append.mp hy' with h|h
  ·exact W y' h
  ·cases List.mem_singleton.mp h;exact AN0 L (by lia) (by lia)
 ·rintro σ r ⟨ys,i,s7,rfl,V,W,hl,H,J,hb5,p,X⟩
  walk_at "rd"
  refine⟨rfl,⟨_,rfl,rfl,by decide +kernel,by decide +kernel,by decide +kernel,by decide +kernel,?_⟩⟩
  walk_at "rd"
  refine K0 _ D.str (fun w=>.bl (ys.any (·==w))) (fun _=>true) (by decide +kernel) ?_ ?_
  ·intro w hw M6 R F hs hR hF
   walk_at "rd"
   refine AG4 (ys:=ys) (AI0 (by rw[hs f (by rw[p];simp)];exact p)) ?_
   rw[CB7];exact hR rfl
  rw[CC6.mpr (fun _ _=>rfl)]
  generalize wordsOf _=ws
  refine⟨true,ws.map fun w=>ys.any (·==w),rfl,by rw[BW9];rfl,?_⟩
  walk_at "rd"
  have h5:=same r X
  refine F4 ?_ ?_
  ·walk_at "rd"
   exact AJ1 h5 (q ["aa","b","aac","ad","dd","abcdefgh","abcdefgi","z"] _ rfl BG0 (J.same AZ5) EK)
  ·walk_at "rd"
   refine YH p T (fun a A G=>⟨?_,h5 a A G⟩) (q ys _ (by simpa using V) W (J.same AZ5) EK)
   rintro rfl
   have:=h5 a A G
   rw[p] at this
   have B:a≠b:=Ne.symm I
   rw[O a A,v a A B,e2 a A,e1 a A] at Z
   exact G Z
end TK
open L3
namespace TK
open PySem L2 L3 MK
section
variable {M M':Mem}{k r:Addr}{ys:List Str}{hs:List (Str×Int)}{z:Int}{Q:DK}
theorem KR.next (h:KR M k r ys hs z){z':Int}(a:Kit M' k (.lst (ys.map D.str)) (.ref r) (.int z'))(e:Same3 k M M'):KR M' k r ys hs z':=⟨a,by rw[e r h.2.2.1];exact h.2.1,h.2.2.1,h.2.2.2⟩
theorem L6 (h:KR M k r ys hs z)(q:∀(n:Int) M',0<=n->n<100->KR M' k r ys hs z->Same3 k M M'->Q (.int n) M'):E1 [.ref k] M Q :=
 take h.1 fun n M' a b c d=>q n M' a b (h.next c d) d
theorem BE (h:KR M k r ys hs z){n:Int}(q:∀x,nm x->Q (.str x) M):B7 (.lst (ys.map D.str)) (.int (n % 8)) M Q:=by
 obtain⟨a,b⟩:=pm (n:=n) (m:=8)
 obtain⟨x,c,d⟩:=AT9 h.2.2.2.nm a (by rw[h.2.2.2.n8];exact b)
 exact R4 c (q x d)
end
theorem rd__law_leaf:∀ds M Q,N5 ds M Q->DS {nx:=fun _ M'=>View Q .non M',rt:=View Q} (B9 NN ds) M:=by
 rintro _ M Q ⟨k,r,w,y,z,rfl,l,q⟩
 unfold DS
 walk_at "rd"
 refine L6 l fun n A _ _ c e=>?_
 walk_at "rd"
 refine F6 (by decide) ?_
 walk_at "rd"
 refine F4 ?_ ?_
 ·walk_at "rd"
  exact View.of (q .none _ trivial rfl rfl c e)
 walk_at "rd"
 refine F4 ?_ ?_
 ·walk_at "rd"
  refine c.1.names ?_
  walk_at "rd"
  refine L6 c fun n o _ _ a f=>?_
  walk_at "rd"
  refine F6 (by decide) ?_
  refine BE a fun x p=>?_
  walk_at "rd"
  exact View.of (q (.var x) _ p rfl rfl a (e.trans f))
 walk_at "rd"
 refine L6 c fun g o _ _ a f=>?_
 walk_at "rd"
 refine F6 (by decide) ?_
 walk_at "rd"
 have d:QJ=10^30:=rfl
 refine F4 ?_ ?_
 ·walk_at "rd"
  refine F6 ⟨by decide,by decide,by decide⟩ ?_
  walk_at "rd"
  refine L6 a fun B M3 s t h u=>?_
  walk_at "rd"
  refine F6 (by decide) ?_
  walk_at "rd"
  refine F6 (.inl (.inl ⟨by decide,by decide⟩)) ?_
  walk_at "rd"
  obtain⟨i,j⟩:=pm (n:=g % 9-4) (m:=2)
  generalize (g % 9-4) % 2=b at i j
  refine F6 (.inl (.inr ⟨by lia,by lia⟩)) ?_
  walk_at "rd"
  refine View.of (q (.num _) _ ?_ rfl rfl h (e.trans (f.trans u)))
  show bnd _
  unfold bnd
  rw[d]
  have v:b=0\/b=1:=by lia
  rcases v with rfl|rfl
  ·constructor<;>(simp;lia)
  ·constructor<;>(simp;lia)
 ·walk_at "rd"
  obtain⟨i,j⟩:=pm (n:=g) (m:=9)
  refine View.of (q (.num _) _ ?_ rfl rfl a (e.trans f))
  show bnd _
  unfold bnd
  rw[d]
  constructor<;>lia
theorem rd__law_two:∀ds M Q,JS ds M Q->HD {nx:=fun _ M'=>View Q .non M',rt:=View Q} (B9 QS ds) M:=by
 rintro _ M Q ⟨k,r,l,o,z,a,b,rfl,f,q⟩
 unfold HD
 walk_at "rd"
 refine L6 f fun n p _ _ d g=>?_
 walk_at "rd"
 refine F6 (by decide) ?_
 obtain⟨h,i⟩:=pm (n:=n) (m:=5)
 obtain⟨c,j,e⟩:=BE8 h i
 refine SA (by decide +kernel) j ?_
 walk_at "rd"
 exact View.of (q _ _ e d g)
def FY:List Ex->Exs
 | []=>.nil
 | a::l=>.cons a (FY l)
theorem AB5:∀l:List Ex,eDs (FY l)=l.map eD
 | []=>rfl
 | a::l=>by simp[FY,eDs,AB5 l]
theorem AB6:∀l:List Ex,exl (FY l)=l.length
 | []=>rfl
 | a::l=>by simp[FY,exl,AB6 l]
theorem UG:∀l:List Ex,(∀e∈l,wf e/\nd e=1/\dp e=1)->wfs (FY l)/\nds (FY l)=l.length/\dps (FY l)<=1
 | [],_=>⟨trivial,rfl,BW4 _⟩
 | a::l,h=>by
  obtain⟨b,c,j⟩:=UG l fun e d=>h e (BQ4 _ d)
  obtain⟨f,g,i⟩:=h a BQ7
  refine⟨⟨f,b⟩,?_,?_⟩
  ·simp only[FY,nds,g,c,BP8];lia
  ·simp only[FY,dps,i];lia
theorem rd__law_expression:∀ds M Q,AM ds M Q->Q9 {nx:=fun _ M'=>View Q .non M',rt:=View Q} (B9 AQ ds) M:=by
 rintro _ M Q ⟨k,r,B,w,z,rfl,J,q⟩
 unfold Q9
 walk_at "rd"
 refine L6 J fun n M1 _ _ u H=>?_
 walk_at "rd"
 refine F6 (by decide) ?_
 walk_at "rd"
 have i:∀{t:Mem} {Q2:DK},KR t k r B w z->(∀x M',wf x->nd x=1->dp x=1->KR M' k r B w z->Same3 k t M'->Q2 (eD x) M')->N5 [.ref k] t Q2:=fun h q=>⟨k,r,B,w,z,rfl,h,q⟩
 have y:∀{t:Mem} {Q2:DK} {a b:Ex},KR t k r B w z->(∀s M',sgn s->KR M' k r B w z->Same3 k t M'->Q2 (eD (.op s a b)) M')->JS [.ref k,eD a,eD b] t Q2:=fun h q=>⟨k,r,B,w,z,_,_,rfl,h,q⟩
 refine F4 ?_ ?_
 ·walk_at "rd"
  exact i u fun x t h1 h2 h3 g C=>View.of (q x t h1 (by lia) (by lia) g (H.trans C))
 walk_at "rd"
 refine F4 ?_ ?_
 ·walk_at "rd"
  refine i u fun a t K L N g C=>?_
  walk_at "rd"
  refine i g fun b M3 O S T l D=>?_
  walk_at "rd"
  refine y l fun s I o v E=>?_
  exact View.of (q _ I ⟨o,K,O⟩ (by simp only[nd,L,S];decide) (by simp only[dp,N,T];decide) v (H.trans (C.trans (D.trans E))))
 walk_at "rd"
 refine F4 ?_ ?_
 ·walk_at "rd"
  refine i u fun a t K L N g C=>?_
  walk_at "rd"
  refine i g fun b M3 O S T l D=>?_
  walk_at "rd"
  refine y l fun s I o v E=>?_
  walk_at "rd"
  refine i v fun c M5 c1 c2 c3 U e5=>?_
  walk_at "rd"
  refine y U fun s' M6 V W e6=>?_
  walk_at "rd"
  refine i W fun d M7 d1 d2 d3 X e7=>?_
  walk_at "rd"
  refine y X fun s'' M8 Y Z e8=>?_
  exact View.of (q _ M8 ⟨Y,d1,V,⟨o,K,O⟩,c1⟩ (by simp only[nd,L,S,c2,d2];decide) (by simp only[dp,N,T,c3,d3];decide) Z (H.trans (C.trans (D.trans (E.trans (e5.trans (e6.trans (e7.trans e8))))))))
 walk_at "rd"
 refine u.1.rules ?_
 walk_at "rd"
 refine L6 u fun n2 t _ _ g C=>?_
 walk_at "rd"
 refine g.1.rules ?_
 walk_at "rd"
 refine VD g.2.1 ?_
 have hl0:0<w.length:=List.length_pos_iff.mpr J.2.2.2.h0
 rw[BP1]
 refine F6 (by lia) ?_
 obtain⟨p0,p1⟩:=pm (n:=n2) (m:=(w.length:Int)) (by lia)
 obtain⟨d,hd,hdm⟩:=X9 (ds:=w.map hD) p0 (by rw[BP1];exact p1)
 obtain⟨h,hm,rfl⟩:=List.mem_map.mp hdm
 obtain⟨hn,hc0,hc3⟩:=J.2.2.2.ho h hm
 refine⟨_,_,g.2.1,hd,?_⟩
 walk_at "rd"
 refine T9 rfl ?_
 walk_at "rd"
 refine⟨by show _<=h.2;lia,by show h.2<_;lia,?_⟩
 refine ZD (q:=k) (fun _ M=>KR M k r B w z) (fun _ _ e=>∃x,e=eD x/\wf x/\nd x=1/\dp x=1) g g.1.ne (by rw[BP1,BZ3,BR0];lia) ?_ ?_ ?_
 ·intro p hp _ M3 I o l
  have hkp:k≠p:=fun e=>g.1.ne (by rw[e];exact hp)
  have hrp:r≠p:=fun e=>by have:=g.2.1;rw[e,hp] at this;cases this
  exact⟨l.1.same (o k hkp),by rw[o r hrp];exact l.2.1,l.2.2⟩
 ·intro j d M3 R F hd l hR
  walk_at "rd"
  exact i l fun x I x1 x2 x3 v E=>hR _ _ ⟨x,rfl,x1,x2,x3⟩ v E
 intro acc M3 A G l D
 obtain⟨xs,rfl,hxs⟩:=AG (f:=eD) (P:=fun x=>wf x/\nd x=1/\dp x=1) fun e he=>by
  obtain⟨_,_,_,x,hx,h2⟩:=ZC A G e he
  exact⟨x,hx,h2⟩
 have hl2:xs.length=h.2.toNat:=by simpa using A
 walk_at "rd"
 obtain⟨w1,w2,w3⟩:=UG xs hxs
 rw[<-AB5]
 exact View.of (q (.make h.1 (FY xs)) M3 ⟨hn,by rw[AB6];lia,w1⟩ (by simp only[nd,w2];lia) (by simp only[dp];lia) l (H.trans (C.trans D)))
end TK
open L3
namespace TK
open PySem L2 L3 MK
theorem QN:∀x∈(["any","kind","close","ring","a"]:List Str),nm x:=by
 intro x a
 simp only[BU1,BS1,or_false] at a
 rcases a with rfl|rfl|rfl|rfl|rfl<;>exact AU0 _ (by decide +kernel) (by decide +kernel)
theorem AT4 {x:Ex}(h:wf x)(h1:nd x=1)(h2:dp x=1):CI (eD x):=LH h (by lia) (by lia)
theorem AG2 {a b:Bool}{F:Bool->Mem->Prop}(e:σ[i]?=some (some (.bl b)))(d:F true M)(c:F false M):if a=true then B1 (A4 i) σ M F else F false M:=by
 cases a with
 | false=>rw[if_neg BQ5];exact c
 | true =>
  rw[if_pos rfl]
  refine rd_test.g (MM e ⟨b,rfl,?_⟩)
  cases b<;>assumption
theorem rd__law_plain:∀ds M Q,Y8 ds M Q->BT {nx:=fun _ M'=>View Q .non M',rt:=View Q} (B9 KM ds) M:=by
 rintro _ M Q ⟨k,r,v,A,z,w,rfl,J,q⟩
 unfold BT
 have f:∀{B:Mem} {Q2:DK},KR B k r v A z->(∀x M',wf x->nd x=1->dp x=1->KR M' k r v A z->Same3 k B M'->Q2 (eD x) M')->N5 [.ref k] B Q2:=fun h q=>⟨k,r,v,A,z,rfl,h,q⟩
 walk_at "rd"
 refine L6 J fun n M1 _ _ i K=>?_
 walk_at "rd"
 refine F6 (by decide) ?_
 walk_at "rd"
 refine i.1.names ?_
 walk_at "rd"
 refine L6 i fun n2 B _ _ j L=>?_
 walk_at "rd"
 refine F6 (by decide) ?_
 refine BE j fun x p=>?_
 walk_at "rd"
 refine L6 j fun N M3 _ _ s O=>?_
 walk_at "rd"
 refine F6 (by decide) ?_
 obtain⟨P,R⟩:=pm (n:=N) (m:=4)
 obtain⟨wd,S,C⟩:=three (l:=["kind","close","ring","a"]) P (by simpa using R)
 have t:nm wd:=QN wd (BQ4 _ C)
 refine R4 S ?_
 walk_at "rd"
 have u:=K.trans (L.trans O)
 refine AG2 rfl ?_ ?_
 ·walk_at "rd"
  exact View.of (q "leave" [] _ (.inr (.inr (.inr (.inr (.inl ⟨rfl,rfl⟩))))) s u)
 walk_at "rd"
 refine⟨k,r,v,A,z,rfl,s,fun o M4 T U V b W=>?_⟩
 have e:=LH T U V
 have c:=u.trans W
 walk_at "rd"
 refine F4 ?_ ?_
 ·walk_at "rd"
  exact View.of (q "fault" [.str wd,eD o] _ (.inr (.inr (.inr (.inr (.inr ⟨rfl,wd,_,rfl,t,e⟩))))) b c)
 walk_at "rd"
 refine F4 ?_ ?_
 ·walk_at "rd"
  exact View.of (q "end" [eD o] _ (.inr (.inl ⟨.inr (.inr rfl),_,rfl,e⟩)) b c)
 walk_at "rd"
 refine F4 ?_ ?_
 ·walk_at "rd"
  exact View.of (q "give" [.str x,eD o] _ (.inl ⟨.inr (.inl rfl),x,_,rfl,p,e⟩) b c)
 walk_at "rd"
 refine F4 ?_ ?_
 ·walk_at "rd"
  exact View.of (q "on" [.str x,eD o] _ (.inl ⟨.inr (.inr rfl),x,_,rfl,p,e⟩) b c)
 walk_at "rd"
 refine F4 ?_ ?_
 ·walk_at "rd"
  exact View.of (q "close" [eD o] _ (.inr (.inl ⟨.inr (.inl rfl),_,rfl,e⟩)) b c)
 walk_at "rd"
 refine F4 ?_ ?_
 ·walk_at "rd"
  exact View.of (q "note" [eD o] _ (.inr (.inl ⟨.inl rfl,_,rfl,e⟩)) b c)
 walk_at "rd"
 refine F4 ?_ ?_
 ·walk_at "rd"
  refine b.1.names ?_
  walk_at "rd"
  refine L6 b fun X Y _ _ d D=>?_
  walk_at "rd"
  refine F6 (by decide) ?_
  refine BE d fun y E=>?_
  walk_at "rd"
  refine f d fun a Z F G H g I=>?_
  walk_at "rd"
  exact View.of (q "ask" [.str x,.str y,eD o,eD a] _ (.inr (.inr (.inl ⟨rfl,x,y,_,_,rfl,p,E,e,AT4 F G H⟩))) g (c.trans (D.trans I)))
 walk_at "rd"
 refine F4 ?_ ?_
 ·walk_at "rd"
  refine b.1.names ?_
  walk_at "rd"
  refine L6 b fun X Y _ _ d D=>?_
  walk_at "rd"
  refine F6 (by decide) ?_
  refine BE d fun y E=>?_
  walk_at "rd"
  refine f d fun a Z F G H g I=>?_
  walk_at "rd"
  exact View.of (q "cast" [.str x,.str y,eD o,.str wd,eD a] _ (.inr (.inr (.inr (.inl ⟨rfl,x,y,_,wd,_,rfl,p,E,t,e,AT4 F G H⟩)))) g (c.trans (D.trans I)))
 walk_at "rd"
 exact View.of (q "let" [.str x,eD o] _ (.inl ⟨.inl rfl,x,_,rfl,p,e⟩) b c)
theorem zero__law_caught:∀ds M Q,¬L1 0 ds M Q:=by rintro _ _ _ ⟨_,_,_,_,_,_,_,_,_,_,⟨_,_,h⟩,_⟩;lia
theorem rd__law_caught:∀n ds M Q,L1 (n+1) ds M Q->Z8 (L1 n) (L4 n) (L0 n) {nx:=fun _ M'=>View Q .non M',rt:=View Q} (B9 HR ds) M:=by
 rintro m _ M Q ⟨k,r,g,h,z,w,a,rfl,i,j,⟨o,p,dn⟩,q⟩
 unfold Z8
 walk_at "rd"
 refine L6 i fun n J _ _ c s=>?_
 walk_at "rd"
 refine F6 (by decide) ?_
 obtain⟨t,u⟩:=pm (n:=n) (m:=5)
 obtain⟨wd,v,e⟩:=three (l:=["any","kind","close","ring","a"]) t (by simpa using u)
 refine R4 v ?_
 walk_at "rd"
 refine c.1.names ?_
 walk_at "rd"
 refine L6 c fun K L _ _ d y=>?_
 walk_at "rd"
 refine F6 (by decide) ?_
 refine BE d fun x A=>?_
 walk_at "rd"
 refine⟨k,r,g,h,z,w,a,rfl,d,j,⟨o,p,by lia⟩,fun b B M3 C D E F G H f I=>?_⟩
 walk_at "rd"
 exact View.of (q wd x b B M3 (QN wd e) A C D E F G H f (s.trans (y.trans I)))
end TK
open L3
namespace TK
open PySem L2 L3 MK
theorem KC:∀l:List Blk,C6 (G2 l)=l
 | []=>rfl
 | b::l=>by rw[G2,C6,KC l]
theorem JL:∀l:List Blk,(∀b∈l,neB b)->O6 (G2 l)
 | [],_=>trivial
 | b::l,h=>⟨h b BQ7,JL l fun c a=>h c (BQ4 _ a)⟩
theorem GS {k r:Addr}{hs:List (Str×Int)}{z z':Int}(h:KR M k r ys hs z)(q:∀M',KR M' k r ys hs z'->Same3 k M M'->T.nx σ M') :
  ∃c a b,dK? (.str "room")=some c/\D.ref k=.ref a/\M a=some (.dct b)/\b.length<BQ6/\T.nx σ (D8 M a (.dct (putD b c (.int z')))):=by
 obtain⟨⟨a,f,e,g,i⟩,j,d,l⟩:=h
 refine⟨.inr "room",k,_,rfl,rfl,e,by show 5<_;decide,q _ ⟨⟨a,f,B0,g,i⟩,by rw[B3 d];exact j,d,l⟩ fun _ h=>B3 h⟩
theorem ZA {b:Blk}(h:b≠.nil):1<=C9 b:=by
 cases b with
 | nil=>exact absurd rfl h
 | cons d r=>have:=P5 d;simp only[C9];lia
def X3 (q__law_caught q__law_nested q__law_block:Sp3):TS3 :=
  (A8 (B8 6 (A7 AM (A0 (A4 0) A5)))
  (A8 (B8 7 (A7 q__law_block (A0 (A4 0) (A0 (A6 D0 (A4 2) (tC3 (.int 1))) (A0 (A4 3) A5)))))
  (A8 (B8 8 (F2 J3 (A0 (N6 (O3 (A0 (A4 4) A5)) 1 [0,3,2] (J0 0) L5 (A7 q__law_caught (A0 (A4 1) (A0 (A6 D0 (A4 3) (tC3 (.int 1))) (A0 (A4 2) A5))))) A5)))
  (A8 (B8 9 (C0 A5))
  (A8 (C1 (B1 (A6 D6 (A4 5) (tC3 (.int 1)))) (B8 9 (A7 q__law_block (A0 (A4 0) (A0 (A6 D0 (A4 2) (tC3 (.int 1))) (A0 (A4 3) A5))))) B6)
  (A8 (C1 (B1 (A6 T6 (A4 1) (tC3 (.int 3)))) (B4 (C0 (A0 (tC3 (.str "if")) (A0 (A4 6) (A0 (A4 7) (A0 (A4 9) A5)))))) B6)
  (B4 (C0 (A0 (tC3 (.str "try")) (A0 (A4 7) (A0 (A4 8) (A0 (A4 9) A5))))))))))))
def X2 (q__law_caught q__law_nested q__law_block:Sp3):TS3 :=
  (A8 (C1 (B1 (A6 T6 (A6 E3 (A4 0) (tC3 (.str "room"))) (A6 D0 (A6 D0 (tC3 (.int 1)) (A4 4)) (A4 5)))) (B4 (A7 Y8 (A0 (A4 0) (A0 (A4 3) A5)))) B6)
  (A8 (R5 (A4 0) (tC3 (.str "room")) (A6 P9 (A6 P9 (A6 P9 (A6 E3 (A4 0) (tC3 (.str "room"))) (tC3 (.int 1))) (A4 4)) (A4 5)))
  (A8 (C1 (B1 (O9 RX T6 (tC3 (.int 3)) (A4 1) (tC3 (.int 5)))) (B4 (C0 (A0 (tC3 (.str "while")) (A0 (A7 AM (A0 (A4 0) A5)) (A0 (A7 q__law_block (A0 (A4 0) (A0 (A6 D0 (A4 2) (tC3 (.int 1))) (A0 (tC3 (.bl true)) A5)))) A5))))) B6) (X3 q__law_caught q__law_nested q__law_block))))
def HI (q__law_caught q__law_nested q__law_block:Sp3):TS3 :=
  (A8 (C1 (B1 (A6 T6 (A4 1) (tC3 (.int 3)))) (A8 (B8 5 (F2 DM (A0 (A6 GK (A4 4) (tC3 (.int 1))) A5)))
  (B8 4 (tC3 (.int 0)))) B6)
  (A8 (C1 (B1 (O9 RX T6 (tC3 (.int 3)) (A4 1) (tC3 (.int 5)))) (A8 (B8 4 (tC3 (.int 0)))
  (B8 5 (tC3 (.int 0)))) B6) (X2 q__law_caught q__law_nested q__law_block)))
theorem MJ {b:Bool}{P:Prop}(h1:b=true->P)(h2:b=false->R):if b=true then P else R:=by
 cases b with
 | false=>exact h2 rfl
 | true=>exact h1 rfl
theorem b01 (b:Bool):(if b=true then(1:Int) else 0)=0\/(if b=true then(1:Int) else 0)=1:=by cases b<;>simp
theorem zero__law_nested:∀ds M Q,¬L4 0 ds M Q:=by rintro _ _ _ ⟨_,_,_,_,_,_,_,_,_,_,_,⟨_,_,h⟩,_⟩;lia
set_option maxHeartbeats 1000000 in
theorem rd__law_nested:∀n ds M Q,L4 (n+1) ds M Q->Z9 (L1 n) (L4 n) (L0 n) {nx:=fun _ M'=>View Q .non M',rt:=View Q} (B9 HS ds) M:=by
 rintro m _ M Q ⟨k,r,A,B,z,w,i,o,rfl,hK,⟨z0,z29⟩,⟨d1,d4,dn⟩,q⟩
 have ed:((i+1:Nat):Int)=(i:Int)+1:=by lia
 have E:∀(more last:Int) (M2:Mem),KR M2 k r A B z->Same3 k M M2->(0<=more/\more<=3)->(last=0\/last=1)->(o<5->more=0)->(3<=o->o<5->last=0)->(5<=o->more=0->last=1) ->
   X2 (L1 m) (L4 m) (L0 m) {nx:=fun _ M'=>View Q .non M',rt:=View Q} [some (.ref k),some (.int o),some (.int i),some (.bl w),some (.int more),some (.int last),none,none,none,none] M2:=by
  intro more last M2 s O hm hl hif hwh htry
  have hl2:0<=last/\last<=1:=by lia
  unfold X2
  walk_at "rd"
  refine s.1.room ?_
  walk_at "rd"
  refine T8 (fun hlt=>?_) fun hge=>?_
  ·walk_at "rd"
   refine⟨k,r,A,B,z,w,rfl,s,fun h rs M3 hl3 H e3=>?_⟩
   exact View.of (q (.mk (.leaf h rs) .nil) z M3 ⟨⟨rfl,hl3⟩,trivial⟩ ⟨trivial,trivial⟩ (BW4 _) (by simp only[F8,G9];lia) z0 H (O.trans e3))
  walk_at "rd"
  refine PP ?_
  walk_at "rd"
  refine s.1.room ?_
  walk_at "rd"
  generalize hz1:z-1-more-last=z1
  have P:0<=z1/\z1<=29:=by lia
  refine GS s fun M3 H e3=>?_
  have e03:=O.trans e3
  have U:∀{I:Mem} {Q2:DK} {z2:Int} (w2:Bool),KR I k r A B z2->(0<=z2/\z2<=29)->(∀b z' M',okB b->neB b->b≠.nil->dpB b+1<=5-i->(C9 b:Int)+z'<=1+z2->0<=z'->KR M' k r A B z'->Same3 k I M'->Q2 (.tup (dB b)) M')->L0 m [.ref k,.int ((i:Int)+1),.bl w2] I Q2:=fun w2 h1 h2 q2 =>
   ⟨k,r,A,B,_,w2,i+1,by rw[ed],h1,h2,⟨by lia,by lia,by lia⟩,fun b z' M' a1 a2 a3 a4=>q2 b z' M' a1 a2 a3 (by lia)⟩
  have ex:∀{I:Mem} {Q2:DK} {z2:Int},KR I k r A B z2->(∀x M',CI (eD x)->KR M' k r A B z2->Same3 k I M'->Q2 (eD x) M')->AM [.ref k] I Q2:=fun h q2=>⟨k,r,A,B,_,rfl,h,fun x M' a1 a2 a3=>q2 x M' (LH a1 a2 a3)⟩
  have tail:¬(3<=o/\o<5)->X3 (L1 m) (L4 m) (L0 m) {nx:=fun _ M'=>View Q .non M',rt:=View Q} [some (.ref k),some (.int o),some (.int i),some (.bl w),some (.int more),some (.int last),none,none,none,none] M3:=by
   intro hk
   unfold X3
   walk_at "rd"
   refine ex H fun x I hx V e4=>?_
   walk_at "rd"
   refine U w V P fun b z2 M5 b1 b2 b3 b4 b5 b6 u e5=>?_
   walk_at "rd"
   refine⟨by lia,by lia,?_⟩
   intro f hf
   have J:k≠f:=fun e=>u.1.ne (by rw[e];exact hf)
   have W:r≠f:=fun e=>by have:=u.2.1;rw[e,hf] at this;cases this
   refine⟨fun j K R=>∃(t:List (Str×Str)) (p:List Blk) (z3:Int),K=F0 t (p.map tB)/\t.length=j/\p.length=j/\(∀c∈t,nm c.1/\nm c.2)/\(∀b∈p,okB b/\neB b/\b≠.nil/\dpB b+1<=5-i)/\(((p.map C9).sum:Nat):Int)+z3<=j+z2/\(0<=z3/\z3<=29)/\KR R k r A B z3/\R f=some (.lst K)/\∀a,a≠k->a≠f->R a=M5 a,
    ⟨[],[],z2,rfl,rfl,rfl,fun _ h=>(by cases h),fun _ h=>(by cases h),by simp,⟨b6,by lia⟩,⟨u.1.same (B3 J),by rw[B3 W];exact u.2.1,u.2.2⟩,B0,fun a _ h=>B3 h⟩,?_,?_⟩
   ·rintro j d K R hd ⟨t,p,z3,rfl,X,hkl,Y,C,S,L,F,Z,hs6⟩
    obtain⟨rfl,hj⟩:=rng_at hd
    walk_at "rd"
    refine⟨k,r,A,B,z3,w,i+1,by rw[ed],F,L,⟨by lia,by lia,by lia⟩,fun c y b' G M7 c1 c2 c3 c4 c5 c6 c7 c8 v e7=>?_⟩
    have hcat:=V1 t (p.map tB) (by rw[BP1];lia)
    have hc0:=ZA c5
    have hsum:(((p++[b']).map C9).sum:Nat)=(p.map C9).sum+C9 b':=by simp
    refine⟨by rw[e7 f (Ne.symm J)];exact Z,by rw[hcat,BR0];lia,t++[(c,y)],p++[b'],G,?_,by simp[X],by simp[hkl],fun c' hc'=>?_,fun c' hc'=>?_,by rw[hsum];lia,⟨c8,by lia⟩,⟨v.1.same (B3 J),by rw[B3 W];exact v.2.1,v.2.2⟩,B0,fun a h1 h2=>by rw[B3 h2,e7 a h1];exact hs6 a h1 h2⟩
    ·rw[BR4,List.map_singleton,SR t (p.map tB) c y (tB b') (by rw[BP1];lia)];rfl
    ·rcases List.mem_append.mp hc' with h|h
     ·exact Y c' h
     ·cases List.mem_singleton.mp h;exact⟨c1,c2⟩
    ·rcases List.mem_append.mp hc' with h|h
     ·exact C c' h
     ·cases List.mem_singleton.mp h;exact⟨c3,c4,c5,by lia⟩
   rintro K R ⟨t,p,z3,rfl,X,hkl,Y,C,S,L,F,Z,hs6⟩
   refine⟨Z,?_⟩
   have hcl2:(t.length:Int)=more:=by
    have:t.length=more.toNat:=by simpa using X
    lia
   have T:p.length=t.length:=by lia
   have hcnt2:(((p.map C9).sum:Nat):Int)+z3<=more+z2:=by
    have:(List.map (fun k:Nat=>D.int ↑k) (BS8 more.toNat)).length=more.toNat:=by simp
    rw[this] at S
    lia
   have v:KR (J1 R f) k r A B z3:=⟨F.1.same (G7 J),by rw[G7 W];exact F.2.1,F.2.2⟩
   have e7:Same3 k M5 (J1 R f):=fun a h1=>by
    by_cases haf:a=f
    ·subst haf;rw[P2,hf]
    ·rw[G7 haf];exact hs6 a h1 haf
   generalize J1 R f=M7 at v e7
   have e07:=e03.trans (e4.trans (e5.trans e7))
   walk_at "rd"
   have fin:∀(l:Blk) (G:Int) (M8:Mem),okB l->neB l->dpB l+1<=5-i->(last=1->l≠.nil)->(C9 l:Int)+G<=last+z3->0<=G->KR M8 k r A B G->Same3 k M7 M8 ->
     A8 (C1 (B1 (A6 T6 (A4 1) (tC3 (.int 3)))) (B4 (C0 (A0 (tC3 (.str "if")) (A0 (A4 6) (A0 (A4 7) (A0 (A4 9) A5)))))) B6)
      (B4 (C0 (A0 (tC3 (.str "try")) (A0 (A4 7) (A0 (A4 8) (A0 (A4 9) A5)))))) {nx:=fun _ M'=>View Q .non M',rt:=View Q}
     [some (.ref k),some (.int o),some (.int i),some (.bl w),some (.int more),some (.int last),some (eD x),some (.tup (dB b)),some (.tup (F0 t (p.map tB))),some (.tup (dB l))] M8:=by
    intro l G M8 l1 l2 l3 l4 l5 l6 N e8
    walk_at "rd"
    refine T8 (fun h3=>?_) fun h3=>?_
    ·walk_at "rd"
     have hm0:=hif (by lia)
     have hk0:p=[]:=BY0 (by lia)
     subst hk0
     refine View.of (q (.mk (.ife (eD x)) (G2 [b,l])) G M8 ⟨⟨rfl,hx⟩,b1,l1,trivial⟩ ⟨⟨b,l,rfl,b3⟩,b2,l2,trivial⟩ ?_ ?_ l6 N (e07.trans e8))
     ·exact Y0 _ _ (by simp only[BU1,BS1,or_false];rintro c (rfl|rfl)<;>assumption)
     ·simp only[CB8,List.sum_nil] at hcnt2
      simp only[G2,F8,G9]
      lia
    ·walk_at "rd"
     have hD:dD (.mk (.tr t) (G2 (b::(p++[l]))))=.tup [.str "try",.tup (dB b),.tup (F0 t (p.map tB)),.tup (dB l)]:=by
      show headD (.tr t) (dTs (G2 (b::(p++[l]))))=_
      rw[OD]
      show D.tup [.str "try",tB b,.tup (F0 t ((p++[l]).map tB)),(tB b::(p++[l]).map tB).getD (t.length+1) (.tup [])]=_
      rw[BR4,R7 t (p.map tB) _ (by rw[BP1];lia)]
      congr 5
      simp[BV4,<-T]
      rfl
     rw[<-hD]
     refine View.of (q _ G M8 ⟨⟨by rw[NX];simp;lia,by lia,Y⟩,JO _ ?_⟩ ⟨⟨b,p,l,KC _,T,b3,fun c hc=>(C c hc).2.2.1,fun h0=>l4 (htry (by lia) (by rw[<-hcl2,h0];rfl))⟩,JL _ ?_⟩ ?_ ?_ l6 N (e07.trans e8))
     ·intro c hc
      rcases BU1.mp hc with rfl|hc
      ·exact b1
      rcases List.mem_append.mp hc with hc|hc
      ·exact(C c hc).1
      ·cases List.mem_singleton.mp hc;exact l1
     ·intro c hc
      rcases BU1.mp hc with rfl|hc
      ·exact b2
      rcases List.mem_append.mp hc with hc|hc
      ·exact(C c hc).2.1
      ·cases List.mem_singleton.mp hc;exact l2
     ·refine Y0 _ _ ?_
      intro c hc
      rcases BU1.mp hc with rfl|hc
      ·exact b4
      rcases List.mem_append.mp hc with hc|hc
      ·exact(C c hc).2.2.2
      ·cases List.mem_singleton.mp hc;exact l3
     ·simp only[F8]
      rw[FL]
      simp only[BR7,BR4,CB8,List.sum_cons,List.sum_append,List.sum_nil]
      lia
   rcases hl with rfl|rfl
   ·exact A9 rfl (rd_next.g (fin .nil z3 M7 trivial trivial (by simp only[dpB];lia) (fun h=>by cases h) (by simp only[C9];lia) L.1 v .refl))
   ·refine C4 rfl ?_
    walk_at "rd"
    exact U w v L fun l G M8 l1 l2 l3 l4 l5 l6 N e8=>fin l G M8 l1 l2 l4 (fun _=>l3) l5 l6 N e8
  walk_at "rd"
  refine T8 (fun h3=>?_) fun h3=>?_
  ·walk_at "rd"
   refine T8 (fun h5=>?_) fun h5=>?_
   ·walk_at "rd"
    refine ex H fun x I hx V e4=>?_
    walk_at "rd"
    refine U true V P fun b z2 M5 b1 b2 b3 b4 b5 b6 u e5=>?_
    walk_at "rd"
    refine View.of (q (.mk (.whl (eD x)) (G2 [b])) z2 M5 ⟨⟨rfl,hx⟩,b1,trivial⟩ ⟨⟨b,rfl,b3⟩,b2,trivial⟩ ?_ ?_ b6 u (e03.trans (e4.trans e5)))
    ·exact Y0 _ _ (by simp only[BU1,BS1,or_false];rintro c rfl;assumption)
    ·simp only[G2,F8,G9]
     lia
   ·walk_at "rd"
    exact tail (by lia)
  ·walk_at "rd"
   exact tail (by lia)
 have mid:∀(more last:Int) (M2:Mem),KR M2 k r A B z->Same3 k M M2->(0<=more/\more<=3)->(last=0\/last=1)->(more=0->last=1) ->
   HI (L1 m) (L4 m) (L0 m) {nx:=fun _ M'=>View Q .non M',rt:=View Q} [some (.ref k),some (.int o),some (.int i),some (.bl w),some (.int more),some (.int last),none,none,none,none] M2:=by
  intro more last M2 s O hm hl h0
  unfold HI
  walk_at "rd"
  refine T8 (fun h3=>?_) fun h3=>?_
  ·walk_at "rd"
   refine T8 (fun h=>by lia) fun _=>?_
   walk_at "rd"
   exact E 0 _ M2 s O ⟨by decide,by decide⟩ (b01 _) (fun _=>rfl) (fun h=>by lia) (fun h=>by lia)
  ·walk_at "rd"
   refine T8 (fun _=>?_) fun h=>by lia
   walk_at "rd"
   refine T8 (fun h5=>?_) fun h5=>?_
   ·walk_at "rd"
    exact E 0 0 M2 s O ⟨by decide,by decide⟩ (.inl rfl) (fun _=>rfl) (fun _ _=>rfl) (fun h=>by lia)
   ·walk_at "rd"
    exact E more last M2 s O hm hl (fun h=>by lia) (fun _ h=>by lia) (fun _=>h0)
 unfold Z9
 walk_at "rd"
 refine L6 hK fun n M1 _ _ hK1 e1=>?_
 walk_at "rd"
 refine F6 (by decide) ?_
 walk_at "rd"
 obtain⟨p0,p1⟩:=pm (n:=n) (m:=4)
 refine MJ (fun hb=>?_) fun hb=>?_
 ·exact rd_nil.g (rd_intB.g (mid _ _ M1 hK1 e1 ⟨p0,by lia⟩ (.inr rfl) fun _=>rfl))
 ·walk_at "rd"
  refine L6 hK1 fun n2 M2 _ _ s O=>?_
  walk_at "rd"
  refine F6 (by decide) ?_
  refine rd_c.g (rd_eqI.g ?_)
  refine rd_nil.g (rd_intB.g (mid _ _ M2 s (e1.trans O) ⟨p0,by lia⟩ (b01 _) fun h=>?_))
  rw[h] at hb
  exact absurd hb (by decide)
end TK
open L3
namespace TK
open PySem L2 L3 MK
theorem UI:∀(k:Blk) (d:Deed),neB k->neD d->neB (N3 k d)
 | .nil,d,_,h=>⟨h,trivial⟩
 | .cons x r,d,⟨a,b⟩,h=>⟨a,UI r d b h⟩
theorem zero__law_block:∀ds M Q,¬L0 0 ds M Q:=by rintro _ _ _ ⟨_,_,_,_,_,_,_,_,_,_,⟨_,_,h⟩,_⟩;lia
def HE (q__law_caught q__law_nested q__law_block:Sp3):TS3 :=
  (A8 (R5 (A4 0) (tC3 (.str "room")) (A6 P9 (A6 E3 (A4 0) (tC3 (.str "room"))) (F2 DM (A0 (A6 GK (A4 4) (tC3 (.int 0))) A5))))
  (A8 (B8 5 (A6 E7 (A7 E1 (A0 (A4 0) A5)) (tC3 (.int 20))))
  (C1 (CY (B1 (A6 T6 (A4 5) (tC3 (.int 9)))) (B1 (A6 D6 (A4 1) (tC3 (.int 5))))) (F5 (Q5 "list" E4 (A4 3) (A0 (A7 Y8 (A0 (A4 0) (A0 (A4 2) A5))) A5))) (F5 (Q5 "list" E4 (A4 3) (A0 (A7 q__law_nested (A0 (A4 0) (A0 (A6 P9 (A4 5) (tC3 (.int 9))) (A0 (A4 1) (A0 (A4 2) A5))))) A5))))))
theorem rd__law_block:∀n ds M Q,L0 (n+1) ds M Q->BQ (L1 n) (L4 n) (L0 n) {nx:=fun _ M'=>View Q .non M',rt:=View Q} (B9 KI ds) M:=by
 rintro m _ M Q ⟨k,r,E,F,z,w,c,rfl,G,⟨z0,W⟩,⟨d1,d5,dn⟩,q⟩
 unfold BQ
 walk_at "rd"
 intro f X
 have p:k≠f:=fun e=>G.1.ne (by rw[e];exact X)
 have L:r≠f:=fun e=>by have:=G.2.1;rw[e,X] at this;cases this
 have Y:KR (D8 M f (.lst [])) k r E F z:=⟨G.1.same (B3 p),by rw[B3 L];exact G.2.1,G.2.2⟩
 walk_at "rd"
 refine L6 Y fun n M1 _ _ Z e1=>?_
 walk_at "rd"
 refine F6 (by decide) ?_
 walk_at "rd"
 obtain⟨p0,p1⟩:=pm (n:=n) (m:=3)
 refine⟨by lia,by lia,?_⟩
 refine⟨fun j H M2=>∃(b:Blk) (i:Int) (N I:Option D),H=[some (.ref k),some (.int c),some (.bl w),some (.ref f),N,I]/\okB b/\neB b/\dpB b<=5-c/\AX b<=j/\(0<j->b≠.nil)/\(0<=i/\i<=29)/\(j=0->b=.nil/\i=z)/\(0<j->(C9 b:Int)+i<=1+z)/\KR M2 k r E F i/\M2 f=some (.lst (dB b))/\∀a,a≠k->a≠f->M2 a=M a,
  ⟨.nil,z,_,_,rfl,trivial,trivial,BW4 _,BP5 _,fun h=>by lia,⟨z0,W⟩,fun _=>⟨rfl,rfl⟩,fun h=>by lia,Z,by rw[e1 f (Ne.symm p),B0];rfl,fun a A J=>by rw[e1 a A,B3 J]⟩,?_,?_⟩
 ·rintro j d H M2 hd ⟨b,i,N,I,rfl,S,U,b3,b4,b5,hz,b6,V,l,s,t⟩
  obtain⟨rfl,hj⟩:=rng_at hd
  have hj3:j<3:=by
   have:(1+n % 3).toNat<=3:=by lia
   lia
  have x:(j=0\/0<i)->∀T:N1,(∀H M3,(∃(b:Blk) (i:Int) (N I:Option D),H=[some (.ref k),some (.int c),some (.bl w),some (.ref f),N,I]/\okB b/\neB b/\dpB b<=5-c/\AX b<=j+1/\(0<j+1->b≠.nil)/\(0<=i/\i<=29)/\(j+1=0->b=.nil/\i=z)/\(0<j+1->(C9 b:Int)+i<=1+z)/\KR M3 k r E F i/\M3 f=some (.lst (dB b))/\∀a,a≠k->a≠f->M3 a=M a)->T.nx H M3) ->
    HE (L1 m) (L4 m) (L0 m) T [some (.ref k),some (.int c),some (.bl w),some (.ref f),some (.int j),I] M2:=by
   intro hgo T hT
   unfold HE
   walk_at "rd"
   refine PP ?_
   walk_at "rd"
   refine l.1.room ?_
   walk_at "rd"
   generalize O:i-(if decide ((0:Int)<(j:Int))=true then 1 else 0)=z2
   have u:(0<=z2/\z2<=29)/\(j=0->z2=i)/\(0<j->z2+1=i):=by
    rcases CA5 j with h|h
    ·subst h;simp at O;exact⟨by lia,fun _=>by lia,fun h=>by lia⟩
    ·rw[decide_eq_true (by lia),if_pos rfl] at O
     exact⟨by lia,fun h=>by lia,fun _=>by lia⟩
   refine GS l fun M3 hK3 e3=>?_
   walk_at "rd"
   refine L6 hK3 fun n2 M4 _ _ P e4=>?_
   walk_at "rd"
   refine F6 (by decide) ?_
   walk_at "rd"
   have R:=e3.trans e4
   have B:M4 f=some (.lst (dB b)):=by rw[R f (Ne.symm p)];exact s
   have hbl:=ZO b
   have put:∀(d:Deed) (C:Int) (v:Mem),okD d->neD d->dpD d<=5-c->(F8 d:Int)+C<=1+z2->0<=C->KR v k r E F C->Same3 k M4 v->E4 (.ref f) [dD d] v fun _ M'=>T.nx [some (.ref k),some (.int c),some (.bl w),some (.ref f),some (.int j),some (.int (n2 % 20))] M':=by
    intro d C v a1 a2 a3 a4 a5 o K
    have hf5:v f=some (.lst (dB b)):=by rw[K f (Ne.symm p)];exact B
    have hd0:=P5 d
    refine K5 hf5 (by rw[hbl,BR0];lia) ?_
    refine hT _ _ ⟨N3 b d,C,_,_,rfl,UM b d S a1,UI b d U a2,by rw[TH];lia,by rw[NW];lia,fun _=>AW6 b d,⟨a5,by lia⟩,fun h=>by lia,fun _=>?_,⟨o.1.same (B3 p),by rw[B3 L];exact o.2.1,o.2.2⟩,by rw[B0,ZN],fun a A J=>by rw[B3 J,K a A,R a A];exact t a A J⟩
    rw[NZ]
    rcases CA5 j with h|h
    ·obtain⟨rfl,rfl⟩:=b6 h
     have:=u.2.1 h
     simp only[C9];lia
    ·have:=V h
     have:=u.2.2 h
     lia
   have plain:F5 (Q5 "list" E4 (A4 3) (A0 (A7 Y8 (A0 (A4 0) (A0 (A4 2) A5))) A5)) T [some (.ref k),some (.int c),some (.bl w),some (.ref f),some (.int j),some (.int (n2 % 20))] M4:=by
    walk_at "rd"
    refine⟨.inl ⟨rfl,_,B⟩,?_⟩
    walk_at "rd"
    refine⟨k,r,E,F,z2,w,rfl,P,fun h rs v hl o K=>?_⟩
    walk_at "rd"
    exact put (.mk (.leaf h rs) .nil) z2 v ⟨⟨rfl,hl⟩,trivial⟩ ⟨trivial,trivial⟩ (BW4 _) (by simp only[F8,G9];lia) u.1.1 o K
   refine F4 ?_ ?_
   ·exact rd_iteT.g plain
   ·walk_at "rd"
    refine MJ (fun _=>plain) fun h5=>?_
    have hd4:c<=4:=by
     have:¬((c:Int)=5):=by simpa using h5
     lia
    walk_at "rd"
    refine⟨.inl ⟨rfl,_,B⟩,?_⟩
    walk_at "rd"
    refine⟨k,r,E,F,z2,w,c,_,rfl,P,u.1,⟨d1,hd4,by lia⟩,fun d C v a1 a2 a3 a4 a5 o K=>?_⟩
    walk_at "rd"
    exact put d C v a1 a2 a3 a4 a5 o K
  refine rd_ifs.g (rd_or.g ?_)
  walk_at "rd"
  refine MJ (fun h0=>?_) fun h0=>?_
  ·have:j=0:=by
    have:(j:Int)=0:=by simpa using h0
    lia
   exact rd_iteT.g (x (.inl this) _ fun _ _ h=>h)
  ·have hj0:¬j=0:=by
    have:¬((j:Int)=0):=by simpa using h0
    lia
   walk_at "rd"
   refine l.1.room ?_
   walk_at "rd"
   refine T8 (fun hr=>?_) fun hr=>?_
   ·exact x (.inr hr) _ fun _ _ h=>h
   ·walk_at "rd"
    exact⟨b,i,_,_,rfl,S,U,b3,by lia,fun _=>b5 (by lia),hz,fun h=>by lia,fun _=>V (by lia),l,s,t⟩
 ·rintro H M2 ⟨b,i,N,I,rfl,S,U,b3,b4,b5,hz,b6,V,l,s,t⟩
  have y:0<(List.map (fun k:Nat=>D.int ↑k) (BS8 (1+n % 3).toNat)).length:=by simp;lia
  walk_at "rd"
  refine VF s ?_
  refine AJ1 (k:=k) (M:=M) (fun a A J=>t a A fun e=>J (by rw[e];exact X)) (q b i _ S U (b5 y) b3 (V y) hz.1 ⟨l.1.same AZ5,?_,l.2.2⟩ EK)
  rw[EK r l.2.2.1];exact G.2.1
end TK
open L3
namespace TK
open PySem L2 L3 MK
theorem AZ8 (a b c d e:D):FX [] [(.inr "at",a),(.inr "draws",b),(.inr "names",c),(.inr "rules",d),(.inr "room",e)]=([(.inr "at",a),(.inr "draws",b),(.inr "names",c),(.inr "rules",d),(.inr "room",e)]:List (Key×D)):=by
 rfl
theorem ZM (ns:List Str)(l h:Option Int):∃a:List Str,cutD (ns.map D.str) l h=a.map D.str :=
 ⟨(ns.drop (HT.sIx (ns.map D.str).length 0 l)).take (HT.sIx (ns.map D.str).length (ns.map D.str).length h-HT.sIx (ns.map D.str).length 0 l),by unfold cutD;rw[<-List.map_drop,<-List.map_take]⟩
theorem rd__law_book:∀ds M Q,spBook ds M Q->DQ {nx:=fun _ M'=>View Q .non M',rt:=View Q} (B9 NL ds) M:=by
 rintro _ M Q ⟨ns,i,rfl,hn,⟨m1,m8⟩,q⟩
 unfold DQ
 walk_at "rd"
 refine AR7 ?_
 intro k hk
 refine W3 ?_
 walk_at "rd"
 refine W3 ?_
 walk_at "rd"
 refine⟨ns,rfl,hn,fun es N=>?_⟩
 refine W3 ?_
 walk_at "rd"
 refine W3 ?_
 walk_at "rd"
 intro r hr
 have c:r≠k:=fun e=>by rw[e,B0] at hr;cases hr
 have hr0:M r=none:=by rw[B3 c] at hr;exact hr
 refine W3 ?_
 walk_at "rd"
 refine AR8 ?_
 refine⟨by rw[B3 (Ne.symm c),B0],[(.inr "at",.int 0),(.inr "draws",.lst (es.map D.int)),(.inr "names",.lst []),(.inr "rules",.ref r),(.inr "room",.int 0)],rfl,by show 5<=15;decide,?_⟩
 rw[AZ8]
 generalize A:D8 (D8 (D8 M k (.dct [])) r (.lst [])) k (.dct [(.inr "at",.int 0),(.inr "draws",.lst (es.map D.int)),(.inr "names",.lst []),(.inr "rules",.ref r),(.inr "room",.int 0)])=M1
 have hK1:Kit M1 k (.lst []) (.ref r) (.int 0):=⟨0,es,by rw[<-A,B0],⟨by decide,by have:=N.1.1;lia⟩,N⟩
 have hr1:M1 r=some (.lst []):=by rw[<-A,B3 c,B0]
 have hs1:∀a,a≠k->a≠r->M1 a=M a:=fun a l t=>by rw[<-A,B3 l,B3 t,B3 l]
 walk_at "rd"
 refine PP ?_
 walk_at "rd"
 refine⟨k,_,_,_,rfl,hK1,fun B M2 hy8 hys hK2 e2=>?_⟩
 walk_at "rd"
 obtain⟨a2,ds2,hm2,ha2,hd2⟩:=hK2
 refine⟨.inr "names",k,_,rfl,rfl,hm2,by show 5<_;decide,?_⟩
 generalize O:D8 M2 k (.dct (putD _ (.inr "names") (.lst (B.map D.str))))=M3
 have hK3:Kit M3 k (.lst (B.map D.str)) (.ref r) (.int 0):=⟨a2,ds2,by rw[<-O,B0];rfl,ha2,hd2⟩
 have e13:Same3 k M1 M3:=fun a h=>by rw[<-O,B3 h];exact e2 a h
 walk_at "rd"
 refine⟨k,_,_,_,rfl,hK3,fun cs M4 hc8 hcs hK4 e4=>?_⟩
 walk_at "rd"
 refine take hK4 fun n M5 _ _ hK5 e5=>?_
 walk_at "rd"
 refine F6 (by lia) ?_
 walk_at "rd"
 obtain⟨p0,p1⟩:=pm (n:=n) (m:=(i:Int)) (by lia)
 generalize n % (i:Int)=rn at p0 p1
 refine⟨by lia,by lia,?_⟩
 have P:=e13.trans (e4.trans e5)
 have hr5:M5 r=some (.lst (([]:List (Str×Int)).map hD)):=by rw[P r c];exact hr1
 refine⟨fun j C R=>∃(hs:List (Str×Int)) (E:Option D),C=[some (.lst (ns.map D.int)),some (.int i),some (.ref k),some (.lst (cs.map D.str)),E,none,none,none]/\hs.length=j/\(∀h∈hs,nm h.1/\0<=h.2/\h.2<=3)/\Kit R k (.lst (B.map D.str)) (.ref r) (.int 0)/\R r=some (.lst (hs.map hD))/\∀a,a≠k->a≠r->R a=M a,
  ⟨[],_,rfl,rfl,fun _ h=>(by cases h),hK5,hr5,fun a l t=>by rw[P a l];exact hs1 a l t⟩,?_,?_⟩
 ·rintro j d C R hd ⟨hs,E,rfl,hl,u,o,g,v⟩
  obtain⟨rfl,hj⟩:=rng_at hd
  walk_at "rd"
  refine o.rules ?_
  walk_at "rd"
  refine⟨.inl ⟨rfl,_,g⟩,?_⟩
  walk_at "rd"
  obtain⟨x,hx,hnx⟩:=AT9 hcs (n:=(j:Int)) (by lia) (by rw[hc8];lia)
  refine R4 hx ?_
  walk_at "rd"
  refine take o fun n2 F _ _ w e7=>?_
  walk_at "rd"
  refine F6 (by decide) ?_
  walk_at "rd"
  obtain⟨c0,c1⟩:=pm (n:=n2) (m:=4)
  have hr7:F r=some (.lst (hs.map hD)):=by rw[e7 r c];exact g
  refine K5 hr7 (by rw[BP1,BR0];lia) ?_
  refine⟨hs++[(x,n2 % 4)],_,rfl,by simp[hl],fun h hh=>?_,w.same (B3 (Ne.symm c)),by rw[B0];simp[hD],fun a l t=>by rw[B3 t,e7 a l];exact v a l t⟩
  rcases List.mem_append.mp hh with h'|h'
  ·exact u h h'
  ·cases List.mem_singleton.mp h';exact⟨hnx,c0,by show n2 % 4<=3;lia⟩
 rintro C R ⟨hs,E,rfl,hl,u,o,g,v⟩
 have S:(hs.length:Int)=1+rn:=by
  have:hs.length=(1+rn).toNat:=by simpa using hl
  lia
 have hF:KF B hs:=⟨hy8,hys,fun h=>by rw[h] at S;simp at S;lia,by lia,u⟩
 walk_at "rd"
 intro f hf
 have p:k≠f:=fun e=>o.ne (by rw[e];exact hf)
 have y:r≠f:=fun e=>by rw[e,hf] at g;cases g
 walk_at "rd"
 refine(o.same (B3 p)).rules ?_
 walk_at "rd"
 refine AG6 (by rw[B3 y];exact g) ?_
 walk_at "rd"
 refine⟨fun j C F=>∃(bk:List Rl) (z:Int) (E s6 s7:Option D),C=[some (.lst (ns.map D.int)),some (.int i),some (.ref k),some (.lst (cs.map D.str)),E,some (.ref f),s6,s7]/\bk.length=j/\(∀x∈bk,rOk x)/\KR F k r B hs z/\F f=some (.lst (bk.map rD))/\∀a,a≠k->a≠r->a≠f->F a=M a,
  ⟨[],0,_,_,_,rfl,rfl,fun _ h=>(by cases h),⟨o.same (B3 p),by rw[B3 y];exact g,c,hF⟩,B0,fun a l t h3=>by rw[B3 h3];exact v a l t⟩,?_,?_⟩
 ·rintro j d C F hd ⟨bk,z,E,s6,s7,rfl,G,H,w,I,J⟩
  have hj:j<hs.length:=by simpa using(List.getElem?_eq_some_iff.mp hd).1
  obtain⟨h,hm,rfl⟩:=List.mem_map.mp (BQ1 hd)
  obtain⟨hn1,hc0,hc3⟩:=u h hm
  refine T9 rfl ?_
  walk_at "rd"
  refine PP ?_
  walk_at "rd"
  refine L6 w fun K M8 _ _ hK8 e8=>?_
  walk_at "rd"
  refine F6 (by decide) ?_
  obtain⟨q0,q1⟩:=pm (n:=K) (m:=5)
  have L:∃T:Int,atI [D.int 3,.int 7,.int 12,.int 29,.int 7] (K % 5)=some (.int T)/\0<=T/\T<=29:=by
   have:K % 5=0\/K % 5=1\/K % 5=2\/K % 5=3\/K % 5=4:=by lia
   rcases this with e|e|e|e|e<;>rw[e]<;>exact⟨_,rfl,by decide,by decide⟩
  obtain⟨T,hz2,U,V⟩:=L
  refine R4 hz2 ?_
  walk_at "rd"
  refine GS hK8 fun M9 W e9=>?_
  walk_at "rd"
  have X:=e8.trans e9
  have Y:M9 f=some (.lst (bk.map rD)):=by rw[X f (Ne.symm p)];exact I
  refine⟨.inl ⟨rfl,_,Y⟩,?_⟩
  walk_at "rd"
  refine W.1.names ?_
  walk_at "rd"
  obtain⟨ps,eps⟩:=ZM B none (some h.2)
  rw[eps]
  refine⟨k,r,B,hs,T,false,1,rfl,W,⟨U,V⟩,⟨by decide,by decide,by decide⟩,fun b z3 M10 b1 b2 b3 b4 b5 b6 s Z=>?_⟩
  walk_at "rd"
  have hf10:M10 f=some (.lst (bk.map rD)):=by rw[Z f (Ne.symm p)];exact Y
  refine K5 hf10 (by rw[BP1,BR0];lia) ?_
  refine⟨bk++[⟨h.1,ps,b⟩],z3,_,_,_,rfl,by simp[G],fun x hx=>?_,⟨s.1.same (B3 p),by rw[B3 y];exact s.2.1,s.2.2⟩,by rw[B0];simp[rD],fun a l t h3=>by rw[B3 h3,Z a l,X a l];exact J a l t h3⟩
  rcases List.mem_append.mp hx with h'|h'
  ·exact H x h'
  ·cases List.mem_singleton.mp h'
   exact⟨b1,b2,b3,b4,by show C9 b<=30;lia⟩
 ·rintro C F ⟨bk,z,E,s6,s7,rfl,G,H,w,I,J⟩
  walk_at "rd"
  refine VF I ?_
  have hbl2:bk.length=hs.length:=by simpa using G
  refine View.keep (M:=M) (fun a ha=>J a (fun e=>ha (by rw[e];exact hk)) (fun e=>ha (by rw[e];exact hr0)) fun e=>ha ?_) (q bk ⟨by lia,by lia⟩ H)
  have hf0:=hf
  rw[v f (Ne.symm p) (Ne.symm y)] at hf0
  rw[e];exact hf0
end TK
namespace CD
open PySem L2 L3 MK K11 K12 GO
def bhN (b:Blk)(p:List Int):C5 :=
 if (BR3 (nxt p) (prB b [] 0)).isSome=true then("deed",some (nxt p))
 else if h:1<p.length then
  if isW (dA b (G3 p))=true then("test",some (G3 p))
  else if hasL (dA b (G3 p))=true then(if LX p=(nC (dA b (G3 p)):Int)+1 then("resume",some (G3 p)) else("last",some (G3 p)))
  else bhN b (G3 p)
 else("end",none)
termination_by p.length
decreasing_by exact R9 h
theorem EF (b:Blk):∀(n:Nat) (p:List Int),p.length<=n->bhF b p=nkD (bhN b p)
 | 0,p,h=>by
  rw[bhF,bhN]
  split
  ·rfl
  ·rw[dif_neg (by lia),dif_neg (by lia)];rfl
 | n+1,p,h=>by
  rw[bhF,bhN]
  split
  ·rfl
  ·by_cases a:1<p.length
   ·rw[dif_pos a,dif_pos a]
    split
    ·rfl
    ·split
     ·split<;>rfl
     ·exact EF b n (G3 p) (by have:=R9 a;lia)
   ·rw[dif_neg a,dif_neg a];rfl
def whA (b:Blk)(p:List Int):Option (List Int):=((ar b p).find? fun x=>isW x.2.1).map (·.1)
def lfT (b:Blk)(p:List Int):Option C5:=(whA b p).map (bhN b)
inductive Row where
 | own (w:Str) (p:List Int)|test (p:List Int) (d:C5)|jump (d:C5)|lv (w:Str) (p:List Int) (d:Option C5)|done
def ldD:Option C5->D
 | none=>.int (-1)
 | some k=>nkD k
def G8:Row->D
 | .own w p=>.tup [.str w,plT p]
 | .test p d=>.tup [.str "test",plT p,nkD d]
 | .jump d=>.tup [.str "jump",nkD d]
 | .lv w p d=>.tup [.str w,plT p,ldD d]
 | .done=>.tup [.str "done"]
def F9 (h:Str):Str :=
 if h=="give" || h=="on" then "stand" else if h=="end" then "end" else if h=="fault" then "fault" else "deed"
def nth (ls:List (List Row))(j:Nat):List Row:=ls.getD j []
def E9:Blk->Bool
 | .nil=>true
 | _=>false
def rowsOf (b:Blk)(p:List Int)(h:Head)(bl:List Blk)(ls:List (List Row)):List Row:=match h with
 | .leaf w _=>if w=="leave" then[.lv "leave" p (lfT b p)] else[.own (F9 w) p]
 | .ife _=>if E9 (bl.getD 1 .nil) then .test p (bhN b p)::nth ls 0 else .test p ("deed",some (p++[1,0]))::(nth ls 0++.jump (bhN b p)::nth ls 1)
 | .whl _=>.test p (bhN b p)::(nth ls 0++[.jump ("test",some p)])
 | .tr cs =>
  let z:=E9 (bl.getD (cs.length+1) .nil)
  let af:C5:=if z then bhN b p else("last",some p)
  .own "open" p::(nth ls 0++((ls.drop 1).take cs.length).flatMap (fun l=>.jump af::l)++(if z then[] else .own "last" p::(nth ls (cs.length+1)++[.lv "resume" p (lfT b p)])))
mutual
def drB (b:Blk):Blk->List Int->Nat->List Row
 | .nil,_,_=>[]
 | .cons d r,ah,i=>drD b d (ah++[(i:Int)])++drB b r ah (i+1)
def drD (b:Blk):Deed->List Int->List Row
 | .mk h bs,p=>rowsOf b p h (C6 bs) (D1 b bs p 0)
def D1 (b:Blk):Bls->List Int->Nat->List (List Row)
 | .nil,_,_=>[]
 | .cons k r,p,j=>drB b k (p++[(j:Int)]) 0::D1 b r p (j+1)
end
def B2 (b:Blk):List Row:=drB b b [] 0++[.done]
def isJ:Row->Bool
 | .jump _=>true
 | _=>false
def C7:Row->C5
 | .own w p=>if w=="last" then("last",some p) else("deed",some p)
 | .test p _=>("deed",some p)
 | .jump d=>d
 | .lv w p _=>if w=="resume" then("resume",some p) else("deed",some p)
 | .done=>("end",none)
def J6 (k:C5):C5:=if k.1=="test" then("deed",k.2) else k
def C8 (n:Nat):List Row->List (C5×D)
 | []=>[]
 | r::l=>if isJ r then C8 (n+1) l else(C7 r,.int n)::C8 (n+1) l
def numOf (L:List Row)(k:C5):D:=(BR3 (J6 k) (C8 0 L)).getD (.int (-1))
def N0 (L:List Row):Row->D
 | .own w p=>.tup [.str w,plT p]
 | .test p d=>.tup [.str "test",plT p,numOf L d]
 | .jump d=>.tup [.str "jump",numOf L d]
 | .lv w p d=>.tup [.str w,plT p,(match d with|none=>.int (-1)|some k=>numOf L k)]
 | .done=>.tup [.str "done"]
abbrev kd (p:List Int):C5:=("deed",some p)
abbrev kt (p:List Int):C5:=("test",some p)
abbrev kl (p:List Int):C5:=("last",some p)
abbrev kr (p:List Int):C5:=("resume",some p)
abbrev ke:C5:=("end",none)
def AH9:Row->C5
 | .jump d=>J6 d
 | r=>C7 r
def At (L:List Row)(i:Nat)(k:C5):Prop:=∃r,L[i]?=some r/\AH9 r=J6 k
theorem AZ (b:Blk):∀(bs:Bls) (p:List Int) (j:Nat),(D1 b bs p j).length=bsl bs
 | .nil,_,_=>rfl
 | .cons k r,p,j=>by simp[D1,bsl,AZ b r]
theorem V2 (b:Blk):∀(bs:Bls) (p:List Int) (j m:Nat) (bk:Blk),(C6 bs)[m]?=some bk->(D1 b bs p j)[m]?=some (drB b bk (p++[((j+m:Nat):Int)]) 0)
 | .nil,_,_,_,_,h=>by simp[C6] at h
 | .cons k r,p,j,0,bk,h=>by
  have e:k=bk:=by simpa[C6] using h
  subst e
  simp[D1]
 | .cons k r,p,j,m+1,bk,h=>by
  have:=V2 b r p (j+1) m bk (by simpa[C6] using h)
  simp only[D1,CA4]
  rw[this,show j+1+m=j+(m+1) by lia]
theorem O7 {b:Blk}{bs:Bls}{m:Nat}{bk:Blk}(h:(C6 bs)[m]?=some bk):nth (D1 b bs p 0) m=drB b bk (p++[(m:Int)]) 0:=by
 unfold nth
 have:=V2 b bs p 0 m bk h
 rw[BS0] at this
 simp[BV4,this]
theorem FO (b:Blk)(d:Deed)(p:List Int):∃r l,drD b d p=r::l/\AH9 r=kd p/\isJ r=false:=by
 obtain⟨h,bs⟩:=d
 show∃r l,rowsOf b p h (C6 bs) (D1 b bs p 0)=r::l/\_
 cases h with
 | leaf w a =>
  simp only[rowsOf]
  split
  ·exact⟨_,_,rfl,rfl,rfl⟩
  ·refine⟨_,_,rfl,?_,rfl⟩
   simp only[AH9,C7]
   rw[if_neg]
   unfold F9
   split
   ·decide
   split
   ·decide
   split<;>decide
 | ife e=>simp only[rowsOf];split<;>exact⟨_,_,rfl,rfl,rfl⟩
 | whl e=>exact⟨_,_,rfl,rfl,rfl⟩
 | tr c=>exact⟨_,_,rfl,rfl,rfl⟩
def Sub (L:List Row)(s:Nat)(X:List Row):Prop:=∃rest,L.drop s=X++rest
theorem Sub.get {L X:List Row}{s:Nat}(h:Sub L s X){m:Nat}(b:m<X.length):L[s+m]?=X[m]?:=by
 obtain⟨a,e⟩:=h
 have:(L.drop s)[m]?=X[m]?:=by rw[e,BS2 b]
 rwa [BX0] at this
theorem Sub.left {L X Y:List Row}{s:Nat}(h:Sub L s (X++Y)):Sub L s X:=by
 obtain⟨a,e⟩:=h
 exact⟨Y++a,by rw[e,BS9]⟩
theorem Sub.right {L X Y:List Row}{s:Nat}(h:Sub L s (X++Y)):Sub L (s+X.length) Y:=by
 obtain⟨a,e⟩:=h
 refine⟨a,?_⟩
 rw[<-List.drop_drop,e,BS9,List.drop_left]
theorem Sub.tail {L Y:List Row}{r:Row}{s:Nat}(h:Sub L s (r::Y)):Sub L (s+1) Y:=Sub.right (X:=[r]) h
theorem Sub.head {L Y:List Row}{r:Row}{s:Nat}(h:Sub L s (r::Y)):L[s]?=some r:=by
 have:=h.get (m:=0) (by simp)
 simpa using this
theorem At.of {L:List Row}{r:Row}{k:C5}(h:L[i]?=some r)(e:AH9 r=J6 k):At L i k:=⟨r,h,e⟩
structure Seg (b:Blk)(L:List Row)(s:Nat)(d:Deed)(p:List Int):Prop where
 sub:Sub L s (drD b d p)
 nx:At L (s+(drD b d p).length) (bhN b p)
structure BSeg (b:Blk)(L:List Row)(s:Nat)(bk:Blk)(ah:List Int)(E:C5):Prop where
 sub:Sub L s (drB b bk ah 0)
 nx:At L (s+(drB b bk ah 0).length) E
theorem TJ (b:Blk):∀(bk:Blk) (ah:List Int) (n i:Nat) (d:Deed),(toL bk)[i]?=some d->∃X Y,drB b bk ah n=X++(drD b d (ah++[((n+i:Nat):Int)])++Y)/\(i+1=(toL bk).length->Y=[])/\(∀d',(toL bk)[i+1]?=some d'->∃Z,Y=drD b d' (ah++[((n+i+1:Nat):Int)])++Z)
 | .nil,_,_,_,_,h=>by simp[toL] at h
 | .cons x r,ah,n,0,d,h=>by
  have e:x=d:=by simpa[toL] using h
  subst e
  refine⟨[],drB b r ah (n+1),by simp[drB],fun c=>?_,fun d' a=>?_⟩
  ·cases r with
   | nil=>rfl
   | cons y z=>simp[toL] at c
  ·cases r with
   | nil=>simp[toL] at a
   | cons y z =>
    have e:y=d':=by simpa[toL] using a
    subst e
    exact⟨drB b z ah (n+1+1),by simp[drB]⟩
 | .cons x r,ah,n,i+1,d,h=>by
  obtain⟨X,Y,e,f,g⟩:=TJ b r ah (n+1) i d (by simpa[toL] using h)
  refine⟨drD b x (ah++[(n:Int)])++X,Y,?_,fun c=>f (by simpa[toL] using c),fun d' a=>?_⟩
  ·rw[drB,e,show n+1+i=n+(i+1) by lia];simp
  ·obtain⟨Z,j⟩:=g d' (by simpa[toL] using a)
   exact⟨Z,by rw[j,show n+1+i+1=n+(i+1)+1 by lia]⟩
theorem AK6 (p:List Int):J6 (kd p)=kd p:=rfl
theorem BSeg.deed {b:Blk}{L:List Row}{s:Nat}{bk:Blk}{E:C5}(x:BSeg b L s bk ah E)(h:(toL bk)[i]?=some d)
  (c:i+1=(toL bk).length->J6 (bhN b (ah++[(i:Int)]))=J6 E) (f:i+1<(toL bk).length->bhN b (ah++[(i:Int)])=kd (ah++[((i+1:Nat):Int)])) :
  ∃s',Seg b L s' d (ah++[(i:Int)]):=by
 obtain⟨X,Y,e,p,m⟩:=TJ b bk ah 0 i d h
 rw[BS0] at e m
 have j:=x.sub
 rw[e] at j
 refine⟨s+X.length,j.right.left,?_⟩
 have q:i<(toL bk).length:=(List.getElem?_eq_some_iff.mp h).1
 by_cases n:i+1=(toL bk).length
 ·have t:=p n
  subst t
  obtain⟨r,o,k⟩:=x.nx
  refine⟨r,?_,by rw[k,c n]⟩
  rw[e] at o
  simpa[BU7] using o
 ·have a:i+1<(toL bk).length:=by lia
  obtain⟨Z,u⟩:=m _ (BQ2 a)
  have g:=j.right.right
  rw[u] at g
  obtain⟨r,l,v,k,_⟩:=FO b (toL bk)[i+1] (ah++[((i+1:Nat):Int)])
  rw[v] at g
  exact⟨r,g.left.head,by rw[k,f a];rfl⟩
def inB (b:Blk)(q:List Int)(d:Deed)(j:Nat):C5 :=
 if isW d=true then kt q else if hasL d=true then(if (j:Int)=(nC d:Int)+1 then kr q else kl q) else bhN b q
theorem FH {b:Blk}:bhN b [(i:Int)]=if i+1<(toL b).length then kd [((i+1:Nat):Int)] else ke:=by
 have a:=(Inb.top (b:=b) (i:=i)).next
 rw[bhN,a]
 by_cases h:i+1<(toL b).length
 ·rw[decide_eq_true h,if_pos rfl,if_pos h]
  show kd (nxt [(i:Int)])=_
  simp[nxt]
 ·rw[decide_eq_false h,if_neg (by decide),if_neg h,dif_neg (by simp)]
theorem FG {b:Blk}{h:Head}{bs:Bls}{bk:Blk}(c:(q,.mk h bs)∈prB b [] 0)(h1:(C6 bs)[j]?=some bk) :
  bhN b (q++[(j:Int),(i:Int)])=if i+1<(toL bk).length then kd (q++[(j:Int),((i+1:Nat):Int)]) else inB b q (.mk h bs) j:=by
 have x:Inb b (q++[(j:Int),(i:Int)]) bk i:=.inner c h1
 rw[bhN,x.next]
 by_cases a:i+1<(toL bk).length
 ·rw[decide_eq_true a,if_pos rfl,if_pos a]
  have e:nxt (q++[(j:Int),(i:Int)])=q++[(j:Int),((i+1:Nat):Int)]:=by
   unfold nxt
   rw[x.last.1,show q++[(j:Int),(i:Int)]=(q++[(j:Int)])++[(i:Int)] by simp,List.dropLast_concat]
   simp
  rw[e]
 ·rw[decide_eq_false a,if_neg (by decide),if_neg a,dif_pos (by simp)]
  rw[(AY q j i).1,(AY q j i).2,AS9 c]
  rfl
theorem OH (af:C5):∀(xs:List (List Row)) (m:Nat) (x:List Row),xs[m]?=some x->∃A B,xs.flatMap (fun l=>Row.jump af::l)=A++(.jump af::(x++B))/\(m+1=xs.length->B=[])/\(m+1<xs.length->∃b,B=.jump af::b)
 | [],_,_,h=>by simp at h
 | y::xs,0,x,h=>by
  have e:y=x:=by simpa using h
  subst e
  refine⟨[],xs.flatMap (fun l=>Row.jump af::l),by simp,fun a=>?_,fun a=>?_⟩
  ·have:xs=[]:=BY0 (by simpa using a.symm)
   subst this;rfl
  ·cases xs with
   | nil=>simp at a
   | cons z c=>exact⟨z++c.flatMap (fun l=>Row.jump af::l),by simp⟩
 | y::xs,m+1,x,h=>by
  obtain⟨A,B,e,d,f⟩:=OH af xs m x (by simpa using h)
  exact⟨.jump af::(y++A),B,by simp[e],fun a=>d (by simpa using a),fun a=>f (by simpa using a)⟩
theorem LU {bk:Blk}(h:E9 bk=true):bk=.nil:=by cases bk<;>first|rfl|cases h
theorem EJ {bs:Bls}{z:Blk}(h:(C6 bs)[cs.length+1]?=some z):hasL (.mk (.tr cs) bs)=!E9 z:=by
 show decide (0<nl ((dTs bs).getD (cs.length+1) (.tup [])))=_
 rw[J5]
 have:((C6 bs).map MK.tB).getD (cs.length+1) (.tup [])=MK.tB z:=by simp[BV4,h]
 rw[this]
 cases z with
 | nil=>rfl
 | cons d r=>simp[MK.tB,nl,dB,E9]
theorem Seg.block {b:Blk}{L:List Row}{s:Nat}{h:Head}{bs:Bls}(x:Seg b L s (.mk h bs) q)(ok:hOk h (bsl bs)){bk:Blk}(h1:(C6 bs)[j]?=some bk)(D:bk≠.nil) :
  ∃s' E,BSeg b L s' bk (q++[(j:Int)]) E/\J6 (inB b q (.mk h bs) j)=J6 E:=by
 have N:=N9 bs
 have P:j<(C6 bs).length:=(List.getElem?_eq_some_iff.mp h1).1
 have g:Sub L s (rowsOf b q h (C6 bs) (D1 b bs q 0)):=x.sub
 have o:At L (s+(rowsOf b q h (C6 bs) (D1 b bs q 0)).length) (bhN b q):=x.nx
 have d:=O7 (b:=b) (p:=q) h1
 cases h with
 | leaf w Z=>have:=ok.1;lia
 | ife e =>
  have O:bsl bs=2:=ok.1
  have F:inB b q (.mk (.ife e) bs) j=bhN b q:=rfl
  rw[F]
  simp only[rowsOf] at g o
  by_cases C:E9 ((C6 bs).getD 1 .nil)=true
  ·rw[if_pos C] at g o
   have hj0:j=0:=by
    rcases CD6 0 j with hj|hj
    ·have v:j=1:=by lia
     subst v
     simp only[BV4,h1,Option.getD_some] at C
     exact absurd (LU C) D
    ·lia
   subst hj0
   rw[d] at g o
   exact⟨s+1,_,⟨g.tail,by simpa[BU7,BV7,BW2] using o⟩,rfl⟩
  ·rw[if_neg C] at g o
   have hj:j=0\/j=1:=by lia
   rcases hj with rfl|rfl
   ·rw[d] at g
    exact⟨s+1,bhN b q,⟨g.tail.left,.of g.tail.right.head rfl⟩,rfl⟩
   ·rw[d] at g o
    refine⟨_,_,⟨g.tail.right.tail,?_⟩,rfl⟩
    simpa[BU7,BV7,BW2] using o
 | whl e =>
  have O:bsl bs=1:=ok.1
  have hj0:j=0:=by lia
  subst hj0
  have F:inB b q (.mk (.whl e) bs) 0=kt q:=rfl
  rw[F]
  simp only[rowsOf] at g
  rw[d] at g
  exact⟨s+1,kt q,⟨g.tail.left,.of g.tail.right.head rfl⟩,rfl⟩
 | tr f =>
  have O:bsl bs=f.length+2:=ok.1
  have I:f.length+1<(C6 bs).length:=by lia
  have k:=BQ2 I
  generalize Q:(C6 bs)[f.length+1]=z at k
  have C:(C6 bs).getD (f.length+1) .nil=z:=by simp[BV4,k]
  have F:inB b q (.mk (.tr f) bs) j=if (!E9 z)=true then(if (j:Int)=(f.length:Int)+1 then kr q else kl q) else bhN b q:=by
   unfold inB
   rw[EJ k]
   rfl
  rw[F]
  simp only[rowsOf,C] at g o
  generalize i:(if E9 z=true then bhN b q else kl q)=af
  have a:Sub L s (Row.own "open" q::(nth (D1 b bs q 0) 0++(CA2 (fun l=>Row.jump af::l) (BW8 f.length (BU6 1 (D1 b bs q 0)))++if E9 z=true then[] else Row.own "last" q::(nth (D1 b bs q 0) (f.length+1)++[Row.lv "resume" q (lfT b q)])))):=by
   rw[<-i,<-BS9];exact g
  have r:At L (s+(Row.own "open" q::(nth (D1 b bs q 0) 0++(CA2 (fun l=>Row.jump af::l) (BW8 f.length (BU6 1 (D1 b bs q 0)))++if E9 z=true then[] else Row.own "last" q::(nth (D1 b bs q 0) (f.length+1)++[Row.lv "resume" q (lfT b q)])))).length) (bhN b q):=by
   rw[<-i,<-BS9];exact o
  clear g o
  have J:(BW8 f.length (BU6 1 (D1 b bs q 0))).length=f.length:=by
   rw[BT3,CA0,AZ];lia
  generalize G:nth (D1 b bs q 0) 0=R at a r
  have t:∀m,m<f.length->(BW8 f.length (BU6 1 (D1 b bs q 0)))[m]?=(D1 b bs q 0)[m+1]?:=fun m S=>by
   rw[BV8 S,BX0,BV7]
  generalize T:BW8 f.length (BU6 1 (D1 b bs q 0))=H at a r J t
  have K:At L (s+1+R.length+(CA2 (fun l=>Row.jump af::l) H).length) af:=by
   by_cases c:E9 z=true
   ·rw[if_pos c] at r i
    rw[<-i]
    simpa[BU7,BV7,BW2] using r
   ·rw[if_neg c] at a i
    exact .of a.tail.right.right.head (by rw[<-i];rfl)
  have u:j<=f.length->(if (!E9 z)=true then(if (j:Int)=(f.length:Int)+1 then kr q else kl q) else bhN b q)=af:=by
   intro hj
   rw[<-i]
   by_cases c:E9 z=true
   ·rw[if_pos c,c];rfl
   ·rw[if_neg c,if_pos (by simpa using c),if_neg (by lia)]
  rcases CA5 j with hj0|hj0
  ·subst hj0
   rw[u (by lia)]
   rw[d] at G
   subst G
   refine⟨s+1,af,⟨a.tail.left,?_⟩,rfl⟩
   cases H with
   | nil=>simpa using K
   | cons y ys=>exact .of a.tail.right.left.left.head rfl
  by_cases M:j<=f.length
  ·rw[u M]
   obtain⟨m,rfl⟩:∃m,j=m+1:=⟨j-1,by lia⟩
   have U:H[m]?=some (drB b bk (q++[((m+1:Nat):Int)]) 0):=by
    rw[t m (by lia)]
    have:=V2 b bs q 0 (m+1) bk h1
    rw[BS0] at this
    exact this
   obtain⟨A,B,e,V,W⟩:=OH af H m _ U
   rw[e] at a K
   have n:=a.tail.right.left.right
   refine⟨_,af,⟨n.tail.left,?_⟩,rfl⟩
   by_cases X:m+1=H.length
   ·have Y:=V X
    subst Y
    simpa[BU7,BV7,BW2] using K
   ·obtain⟨B',rfl⟩:=W (by lia)
    exact .of n.tail.right.head rfl
  ·have v:j=f.length+1:=by lia
   subst v
   have:bk=z:=by rw[h1] at k;exact Option.some.inj k
   subst this
   have c:¬E9 bk=true:=fun h=>D (LU h)
   rw[if_pos (by simpa using c),if_pos (by lia)]
   rw[if_neg c,d] at a
   have n:=a.tail.right.right.tail
   exact⟨_,kr q,⟨n.left,.of n.right.head rfl⟩,rfl⟩
end CD
variable {L:List CD.Row}{row:CD.Row}
namespace CD
open PySem L2 L3 MK K11 K12 GO
open TK (neD neB O6 hNe)
def Fnd (L:List Row)(k:C5):Prop:=∃(j:Nat) (r:Row),L[j]?=some r/\isJ r=false/\C7 r=J6 k
inductive Right (b:Blk)(L:List Row)(i:Nat):Row->Prop
 | stop {h:Str} {rs:List D} {bs:Bls} {p:List Int}:(p,.mk (.leaf h rs) bs)∈prB b [] 0->(h="end"\/h="fault")->Right b L i (.own h p)
 | deed {h:Str} {rs:List D} {bs:Bls} {p:List Int}:(p,.mk (.leaf h rs) bs)∈prB b [] 0->AE h rs->h≠"leave"->h≠"end"->h≠"fault"->At L (i+1) (bhN b p)->Right b L i (.own (F9 h) p)
 | leave {rs:List D} {bs:Bls} {p:List Int}:(p,.mk (.leaf "leave" rs) bs)∈prB b [] 0->Right b L i (.lv "leave" p (lfT b p))
 | testE {e:D} {bs:Bls} {p:List Int} {z:Blk}:(p,.mk (.ife e) bs)∈prB b [] 0->(C6 bs)[1]?=some z->z≠.nil->At L (i+1) (kd (p++[0,0]))->Right b L i (.test p (kd (p++[1,0])))
 | testI {e:D} {bs:Bls} {p:List Int}:(p,.mk (.ife e) bs)∈prB b [] 0->(C6 bs)[1]?=some .nil->At L (i+1) (kd (p++[0,0]))->Right b L i (.test p (bhN b p))
 | testW {e:D} {bs:Bls} {p:List Int}:(p,.mk (.whl e) bs)∈prB b [] 0->At L (i+1) (kd (p++[0,0]))->Right b L i (.test p (bhN b p))
 | jmp {p:List Int} {d:Deed} {k:C5}:(p,d)∈prB b [] 0->(k=bhN b p\/(k=kt p)\/(k=kl p/\hasL d=true))->Right b L i (.jump k)
 | opn {cs:List (Str×Str)} {bs:Bls} {p:List Int}:(p,.mk (.tr cs) bs)∈prB b [] 0->At L (i+1) (kd (p++[0,0]))->Right b L i (.own "open" p)
 | lst {cs:List (Str×Str)} {bs:Bls} {p:List Int}:(p,.mk (.tr cs) bs)∈prB b [] 0->hasL (.mk (.tr cs) bs)=true->At L (i+1) (kd (p++[((1+cs.length:Nat):Int),0]))->Right b L i (.own "last" p)
 | res {cs:List (Str×Str)} {bs:Bls} {p:List Int}:(p,.mk (.tr cs) bs)∈prB b [] 0->hasL (.mk (.tr cs) bs)=true->At L (i+1) (bhN b p)->Right b L i (.lv "resume" p (lfT b p))
 | done:Right b L i .done
def AllR (b:Blk)(L:List Row)(s:Nat)(X:List Row):Prop:=∀m r,X[m]?=some r->Right b L (s+m) r
theorem AllR.nil {b:Blk}{s:Nat}:AllR b L s []:=fun m r h=>by simp at h
theorem AllR.cons {b:Blk}{L X:List Row}{s:Nat}{x:Row}(h:Right b L s x)(t:AllR b L (s+1) X):AllR b L s (x::X)
 | 0,r,e=>by have:x=r:=by simpa using e
             subst this;exact h
 | m+1,r,e=>by
  have:=t m r (by simpa using e)
  rwa [show s+1+m=s+(m+1) by lia] at this
theorem AllR.app {b:Blk}{X Y:List Row}{s:Nat}(h:AllR b L s X)(t:AllR b L (s+X.length) Y):AllR b L s (X++Y):=fun m r e=>by
 rcases CD6 m X.length with hm|hm
 ·rw[BS2 hm] at e;exact h m r e
 ·rw[BS6 hm] at e
  have:=t _ r e
  rwa [show s+X.length+(m-X.length)=s+m by lia] at this
theorem CG (b:Blk){bk:Blk}(h:bk≠.nil)(ah:List Int)(n:Nat):∃r l,drB b bk ah n=r::l/\AH9 r=kd (ah++[(n:Int)]):=by
 cases bk with
 | nil=>exact absurd rfl h
 | cons d x =>
  obtain⟨r,l,e,a,_⟩:=FO b d (ah++[(n:Int)])
  exact⟨r,l++drB b x ah (n+1),by rw[drB,e];rfl,a⟩
theorem Sub.first {b:Blk}{Y:List Row}{s:Nat}{bk:Blk}(hs:Sub L s (drB b bk ah 0++Y))(h:bk≠.nil):At L s (kd (ah++[0])):=by
 obtain⟨r,l,e,a⟩:=CG b h ah 0
 rw[e] at hs
 exact .of hs.left.head a
section
variable {b:Blk}{L:List Row}{n:Nat}(IH:∀d p s,F8 d<=n->(p,d)∈prB b [] 0->okD d->neD d->Seg b L s d p->AllR b L s (drD b d p))
include IH
theorem AY0 {ah:List Int}{E:C5}:∀(bk:Blk) (m s:Nat),C9 bk<=n->okB bk->neB bk->Sub L s (drB b bk ah m)->At L (s+(drB b bk ah m).length) E ->
  (∀i d,(toL bk)[i]?=some d->(ah++[((m+i:Nat):Int)],d)∈prB b [] 0/\(i+1<(toL bk).length->bhN b (ah++[((m+i:Nat):Int)])=kd (ah++[((m+i+1:Nat):Int)]))/\(i+1=(toL bk).length->J6 (bhN b (ah++[((m+i:Nat):Int)]))=J6 E))->AllR b L s (drB b bk ah m)
 | .nil,m,s,_,_,_,_,_,_=>.nil
 | .cons d r,m,s,u,⟨v,w⟩,⟨x,A⟩,c,e,H=>by
  simp only[C9] at u
  simp only[drB] at c e ⊢
  obtain⟨j,k,l⟩:=H 0 d (by simp[toL])
  simp only[Nat.add_zero,BS0] at j k l
  refine AllR.app (IH d _ s (by lia) j v x ⟨c.left,?_⟩) (AY0 (E:=E) r (m+1) _ (by lia) w A c.right ?_ fun i B C=>?_)
  ·cases r with
   | nil =>
    obtain⟨o,f,g⟩:=e
    exact⟨o,by simpa[drB] using f,by rw[g,l (by simp[toL])]⟩
   | cons y z =>
    obtain⟨o,G,D,F⟩:=CG b (bk:=.cons y z) (by simp) ah (m+1)
    have a:=c.right
    rw[D] at a
    exact .of a.head (by rw[F,k (by simp[toL])];rfl)
  ·simpa[BU7] using e
  ·obtain⟨p,q,t⟩:=H (i+1) B (by simpa[toL] using C)
   rw[show m+(i+1)=m+1+i by lia] at p q t
   refine⟨p,fun h=>?_,fun h=>?_⟩
   ·exact q (by simp only[toL,BP8];lia)
   ·exact t (by simp only[toL,BP8];lia)
theorem BN4 {h:Head}{bs:Bls}{bk:Blk}{E:C5}{s:Nat}(a:(q,.mk h bs)∈prB b [] 0)(h1:(C6 bs)[j]?=some bk)(f:C9 bk<=n)(o:okB bk)(ne:neB bk)
  (hs:Sub L s (drB b bk (q++[(j:Int)]) 0)) (g:At L (s+(drB b bk (q++[(j:Int)]) 0).length) E) (k:J6 (inB b q (.mk h bs) j)=J6 E):AllR b L s (drB b bk (q++[(j:Int)]) 0) :=
 AY0 IH bk 0 s f o ne hs g fun i d l=>by
  have e:∀x:Int,q++[(j:Int)]++[x]=q++[(j:Int),x]:=fun x=>by simp
  rw[e,e,BS0]
  refine⟨T5 a h1 l,fun c=>?_,fun c=>?_⟩
  ·rw[FG a h1,if_pos c]
  ·rw[FG a h1,if_neg (by lia)];exact k
end
theorem V7:∀(bs:Bls) (j:Nat) (bk:Blk),O6 bs->(C6 bs)[j]?=some bk->neB bk
 | .nil,_,_,_,h=>by simp[C6] at h
 | .cons k r,0,bk,⟨a,_⟩,h=>by
  have e:k=bk:=by simpa[C6] using h
  subst e;exact a
 | .cons k r,j+1,bk,⟨_,b⟩,h=>V7 r j bk b (by simpa[C6] using h)
theorem wordOf_end:F9 "end"="end"/\F9 "fault"="fault":=by decide
theorem IO {b:Blk}{L:List Row}{af:C5}(a:∀i,Right b L i (.jump af)):∀(xs:List (List Row)) (s:Nat),(∀(A x B:List Row),xs.flatMap (fun l=>Row.jump af::l)=A++(.jump af::(x++B))->x∈xs->(B=[]\/∃c,B=.jump af::c)->AllR b L (s+A.length+1) x)->AllR b L s (xs.flatMap fun l=>Row.jump af::l)
 | [],s,_=>by simpa using AllR.nil
 | y::xs,s,H=>by
  simp only[BZ4]
  have d:=H [] y (xs.flatMap fun l=>Row.jump af::l) (by simp) BQ7 (by
   cases xs with
   | nil=>exact .inl rfl
   | cons z f=>exact .inr ⟨z++f.flatMap (fun l=>Row.jump af::l),by simp⟩)
  refine AllR.app (AllR.cons (a s) (by simpa using d)) (IO a xs _ fun A x B e g h=>?_)
  have:=H (.jump af::(y++A)) x B (by simp[e]) (BQ4 _ g) h
  rw[show s+(Row.jump af::y).length+A.length+1=s+(Row.jump af::(y++A)).length+1 by simp;lia]
  exact this
theorem BG3 {b:Blk}{L:List Row}:∀(n:Nat) (d:Deed) (p:List Int) (s:Nat),F8 d<=n->(p,d)∈prB b [] 0->okD d->neD d->Seg b L s d p->AllR b L s (drD b d p)
 | 0,d,p,s,hc,_,_,_,_=>by have:=P5 d;lia
 | n+1,.mk h bs,p,s,hc,hp,⟨ok,oks⟩,⟨hne,nes⟩,x=>by
  have IH:=BG3 (b:=b) (L:=L) n
  have hlen:=N9 bs
  have o:Sub L s (rowsOf b p h (C6 bs) (D1 b bs p 0)):=x.sub
  have v:At L (s+(rowsOf b p h (C6 bs) (D1 b bs p 0)).length) (bhN b p):=x.nx
  have g:∀{j:Nat} {bk:Blk} {E:C5} {s:Nat},(C6 bs)[j]?=some bk->Sub L s (drB b bk (p++[(j:Int)]) 0)->At L (s+(drB b bk (p++[(j:Int)]) 0).length) E->J6 (inB b p (.mk h bs) j)=J6 E->AllR b L s (drB b bk (p++[(j:Int)]) 0):=by
   intro j bk E s F o v V
   have P:=E8 bs bk (BQ1 F)
   simp only[F8] at hc
   exact BN4 IH hp F (by lia) (P.2.2 oks) (V7 bs j bk nes F) o v V
  have e00:∀j:Nat,p++[(j:Int)]++[0]=p++[(j:Int),0]:=fun j=>by simp
  show AllR b L s (rowsOf b p h (C6 bs) (D1 b bs p 0))
  cases h with
  | leaf w rs =>
   simp only[rowsOf] at o v ⊢
   by_cases W:(w==("leave":Str))=true
   ·rw[if_pos W] at o v ⊢
    have e:w="leave":=eq_of_beq W
    subst e
    exact .cons (.leave hp) .nil
   ·rw[if_neg W] at o v ⊢
    have hw':w≠"leave":=fun e=>W (by rw[e];decide)
    by_cases F:w="end"
    ·subst F;rw[wordOf_end.1];exact .cons (.stop hp (.inl rfl)) .nil
    by_cases h2:w="fault"
    ·subst h2;rw[wordOf_end.2];exact .cons (.stop hp (.inr rfl)) .nil
    exact .cons (.deed hp ok.2 hw' F h2 (by simpa using v)) .nil
  | ife e =>
   obtain⟨a,z,H,Q⟩:=hne
   have I:(C6 bs)[0]?=some a:=by rw[H];rfl
   have F:(C6 bs)[1]?=some z:=by rw[H];rfl
   have S:=O7 (b:=b) (p:=p) I
   have n1:=O7 (b:=b) (p:=p) F
   have hz:(C6 bs).getD 1 .nil=z:=by rw[H];rfl
   simp only[rowsOf,hz,S,n1] at o v ⊢
   by_cases c:E9 z=true
   ·rw[if_pos c] at o v ⊢
    have:=LU c
    subst this
    have f:At L (s+1) (kd (p++[0,0])):=by
     have t:=Sub.first (Y:=[]) (by rw[BV1];exact o.tail) Q
     rw[BS9] at t
     exact t
    exact .cons (.testI hp F f) (g I o.tail (E:=bhN b p) (by simpa[BU7,BV7,BW2] using v) rfl)
   ·rw[if_neg c] at o v ⊢
    have N:z≠.nil:=fun e=>c (by rw[e];rfl)
    have f:At L (s+1) (kd (p++[0,0])):=by simpa using Sub.first o.tail Q
    refine .cons (.testE hp F N f) (.app (g I o.tail.left (E:=bhN b p) (.of o.tail.right.head rfl) rfl) (.cons (.jmp hp (.inl rfl)) (g F o.tail.right.tail (E:=bhN b p) ?_ rfl)))
    simpa[BU7,BV7,BW2] using v
  | whl e =>
   obtain⟨a,H,Q⟩:=hne
   have I:(C6 bs)[0]?=some a:=by rw[H];rfl
   have S:=O7 (b:=b) (p:=p) I
   simp only[rowsOf,S] at o v ⊢
   have f:At L (s+1) (kd (p++[0,0])):=by simpa using Sub.first o.tail Q
   exact .cons (.testW hp f) (.app (g I o.tail.left (E:=kt p) (.of o.tail.right.head rfl) rfl) (.cons (.jmp hp (.inr (.inl rfl))) .nil))
  | tr q =>
   obtain⟨a,ms,z,H,hml,Q,hms,hcz⟩:=hne
   have I:(C6 bs)[0]?=some a:=by rw[H];rfl
   have J:(C6 bs)[q.length+1]?=some z:=by rw[H,<-hml];simp
   have S:=O7 (b:=b) (p:=p) I
   have nz:=O7 (b:=b) (p:=p) J
   have hz:(C6 bs).getD (q.length+1) .nil=z:=by simp[BV4,J]
   have hL:=EJ J
   have V:∀j:Nat,inB b p (.mk (.tr q) bs) j=if (!E9 z)=true then(if (j:Int)=(q.length:Int)+1 then kr p else kl p) else bhN b p:=fun j=>by
    unfold inB
    rw[hL]
    rfl
   simp only[rowsOf,hz,S,nz] at o v ⊢
   generalize u:(if E9 z=true then bhN b p else kl p)=af
   have k:Sub L s (Row.own "open" p::(drB b a (p++[((0:Nat):Int)]) 0++(CA2 (fun l=>Row.jump af::l) (BW8 q.length (BU6 1 (D1 b bs p 0)))++if E9 z=true then[] else Row.own "last" p::(drB b z (p++[((q.length+1:Nat):Int)]) 0++[Row.lv "resume" p (lfT b p)])))):=by
    rw[<-u,<-BS9];exact o
   have C:At L (s+(Row.own "open" p::(drB b a (p++[((0:Nat):Int)]) 0++(CA2 (fun l=>Row.jump af::l) (BW8 q.length (BU6 1 (D1 b bs p 0)))++if E9 z=true then[] else Row.own "last" p::(drB b z (p++[((q.length+1:Nat):Int)]) 0++[Row.lv "resume" p (lfT b p)])))).length) (bhN b p):=by
    rw[<-u,<-BS9];exact v
   have G:AllR b L s (Row.own "open" p::(drB b a (p++[((0:Nat):Int)]) 0++(CA2 (fun l=>Row.jump af::l) (BW8 q.length (BU6 1 (D1 b bs p 0)))++if E9 z=true then[] else Row.own "last" p::(drB b z (p++[((q.length+1:Nat):Int)]) 0++[Row.lv "resume" p (lfT b p)])))):=by
    have K:∀m x,(BW8 q.length (BU6 1 (D1 b bs p 0)))[m]?=some x->∃bk,(C6 bs)[m+1]?=some bk/\x=drB b bk (p++[((m+1:Nat):Int)]) 0/\m<q.length:=fun m x R=>by
     have P:m<q.length:=by
      have:=(List.getElem?_eq_some_iff.mp R).1
      rw[BT3] at this
      lia
     rw[BV8 P,BX0,BV7] at R
     have hlt:m+1<(C6 bs).length:=by rw[H];simp;lia
     have hg:=BQ2 hlt
     have:=V2 b bs p 0 (m+1) _ hg
     rw[BS0] at this
     rw[this] at R
     exact⟨_,hg,(Option.some.inj R).symm,P⟩
    generalize BW8 q.length (BU6 1 (D1 b bs p 0))=X at k C K
    generalize O:drB b a (p++[((0:Nat):Int)]) 0=X0 at k C
    have Z:At L (s+1+X0.length+(CA2 (fun l=>Row.jump af::l) X).length) af:=by
     by_cases c:E9 z=true
     ·rw[if_pos c] at C u
      rw[<-u]
      simpa[BU7,BV7,BW2] using C
     ·rw[if_neg c] at k u
      exact .of k.tail.right.right.head (by rw[<-u];rfl)
    have M:∀j:Nat,j<=q.length->inB b p (.mk (.tr q) bs) j=af:=by
     intro j hj
     rw[V,<-u]
     by_cases c:E9 z=true
     ·rw[if_pos c,c];rfl
     ·rw[if_neg c,if_pos (by simpa using c),if_neg (by lia)]
    have T:∀i,Right b L i (.jump af):=fun i=>by
     refine .jmp hp ?_
     rw[<-u]
     by_cases c:E9 z=true
     ·rw[if_pos c];exact .inl rfl
     ·rw[if_neg c];exact .inr (.inr ⟨rfl,by rw[hL];simpa using c⟩)
    have f:At L (s+1) (kd (p++[0,0])):=by
     have:=k.tail
     rw[<-O] at this
     simpa using Sub.first this Q
    refine .cons (.opn hp f) (.app ?_ (.app (IO T X _ fun A x B e R hB=>?_) ?_))
    ·rw[<-O]
     rw[<-O] at k Z
     refine g I k.tail.left (E:=af) ?_ (by rw[M 0 (by lia)])
     cases X with
     | nil=>simpa using Z
     | cons y ys=>exact .of k.tail.right.left.left.head rfl
    ·obtain⟨m,P,ex⟩:=List.getElem_of_mem R
     obtain⟨bk,hbk,rfl,hmc⟩:=K m x (by rw[BQ2 P,ex])
     rw[e] at k Z
     have D:=k.tail.right.left.right.tail
     refine g hbk D.left (E:=af) ?_ (by rw[M (m+1) (by lia)])
     rcases hB with rfl|⟨B',rfl⟩
     ·simpa[BU7,BV7,BW2] using Z
     ·exact .of D.right.head rfl
    ·by_cases c:E9 z=true
     ·rw[if_pos c];exact .nil
     ·rw[if_neg c] at k C ⊢
      have N:z≠.nil:=fun e=>c (by rw[e];rfl)
      have U:hasL (.mk (.tr q) bs)=true:=by rw[hL];simpa using c
      have D:=k.tail.right.right
      have f2:At L (s+1+X0.length+(CA2 (fun l=>Row.jump af::l) X).length+1) (kd (p++[((1+q.length:Nat):Int),0])):=by
       have:=Sub.first D.tail N
       rw[BS9,BV7 q.length 1] at this
       exact this
      refine .cons (.lst hp U f2) (.app (g J D.tail.left (E:=kr p) (.of D.tail.right.head rfl) ?_) (.cons (.res hp U ?_) .nil))
      ·rw[V,if_pos (by simpa using c),if_pos (by lia)]
      ·obtain⟨r,hr,er⟩:=C
       refine⟨r,?_,er⟩
       rw[<-hr]
       congr 1
       simp only[BP8,BP7,BR8]
       lia
   rw[<-BS9] at G
   exact G
section
variable {b:Blk}
theorem RU (h:(toL b)[i]?=some d):([(i:Int)],d)∈prB b [] 0:=by
 have:=CS b [] 0 i [] d d h .nil
 rw[BS0] at this
 exact this
theorem JA:Sub (B2 b) 0 (drB b b [] 0):=⟨[.done],rfl⟩
theorem IZ:(B2 b)[(drB b b [] 0).length]?=some .done:=by unfold B2;simp
theorem WI:(B2 b).length=(drB b b [] 0).length+1:=by unfold B2;simp
theorem top_bseg:BSeg b (B2 b) 0 b [] ke:=⟨JA,.of (by rw[BS0];exact IZ) rfl⟩
theorem EU (ok:okB b):∀(n:Nat) (p:List Int) (d:Deed),p.length<=n->(p,d)∈prB b [] 0->∃s,Seg b (B2 b) s d p
 | 0,p,d,hn,hp=>by
  obtain⟨bk,i,x,_⟩:=AK hp
  exact absurd (BY0 (by lia)) x.last.2
 | n+1,p,d,hn,hp=>by
  obtain⟨bk,i,x,c⟩:=AK hp
  rcases T2 x with⟨rfl,g⟩|⟨q,h,bs,j,rfl,f,k⟩
  ·rw[g] at c
   refine top_bseg.deed c (fun a=>?_) fun a=>?_
   ·show J6 (bhN b [(i:Int)])=_
    rw[FH,if_neg (by lia)]
   ·show bhN b [(i:Int)]=_
    rw[FH,if_pos a];rfl
  ·obtain⟨s,o⟩:=EU ok n q (.mk h bs) (by simp at hn;lia) f
   have l:bk≠.nil:=by rintro rfl;simp[toL] at c
   obtain⟨t,E,m,r⟩:=o.block (BH ok f).1 k l
   have e:∀y:Int,q++[(j:Int)]++[y]=q++[(j:Int),y]:=fun y=>by simp
   have:=m.deed c (fun a=>by rw[e,FG f k,if_neg (by lia)];exact r) (fun a=>by rw[e,e,FG f k,if_pos a])
   rw[e] at this
   exact this
theorem X8 (ok:okB b)(ne:neB b):∀i r,(B2 b)[i]?=some r->Right b (B2 b) i r:=by
 intro i r h
 have c:AllR b (B2 b) 0 (drB b b [] 0):=AY0 (n:=C9 b) (BG3 (C9 b)) (E:=ke) b 0 0 (BP5 _) ok ne JA top_bseg.nx fun i d e=>by
  rw[BS0]
  refine⟨RU e,fun a=>?_,fun a=>?_⟩
  ·show bhN b [(i:Int)]=_
   rw[FH,if_pos a];rfl
  ·show J6 (bhN b [(i:Int)])=_
   rw[FH,if_neg (by lia)]
 have:=(c.app (Y:=[.done]) (.cons .done .nil)) i r h
 rwa [BS0] at this
theorem S1 (ok:okB b)(f:(p,d)∈prB b [] 0):Fnd (B2 b) (kd p):=by
 obtain⟨s,g⟩:=EU ok p.length p d (BP5 _) f
 obtain⟨r,l,e,h,a⟩:=FO b d p
 have c:=g.sub
 rw[e] at c
 refine⟨s,r,c.head,a,?_⟩
 rw[AK6,<-h]
 cases r<;>first|rfl|cases a
theorem AK9:Fnd (B2 b) ke:=⟨_,_,IZ,rfl,rfl⟩
theorem BA (ok:okB b)(j:(p,d)∈prB b [] 0)(c:hasL d=true):Fnd (B2 b) (kl p)/\Fnd (B2 b) (kr p):=by
 obtain⟨s,l⟩:=EU ok p.length p d (BP5 _) j
 obtain⟨h,bs⟩:=d
 cases h with
 | leaf _ _=>cases c
 | ife _=>cases c
 | whl _=>cases c
 | tr a =>
  have n:bsl bs=a.length+2:=(BH ok j).1.1
  have g:a.length+1<(C6 bs).length:=by rw[N9];lia
  have e:=BQ2 g
  rw[EJ e] at c
  have m:(C6 bs).getD (a.length+1) .nil=(C6 bs)[a.length+1]:=by simp[BV4,e]
  have i:Sub (B2 b) s (rowsOf b p (.tr a) (C6 bs) (D1 b bs p 0)):=l.sub
  simp only[rowsOf,m] at i
  have f:¬E9 (C6 bs)[a.length+1]=true:=by simpa using c
  rw[if_neg f,if_neg f] at i
  have k:=i.tail.right
  exact⟨⟨_,_,k.head,rfl,rfl⟩,⟨_,_,k.tail.right.head,rfl,rfl⟩⟩
theorem AK8 {k:C5}(h:Fnd L (J6 k)):Fnd L k:=by
 obtain⟨j,r,a,b,c⟩:=h
 refine⟨j,r,a,b,c.trans ?_⟩
 unfold J6
 split
 ·rfl
 ·rfl
theorem FR (ok:okB b)(a:(p,d)∈prB b [] 0):Fnd (B2 b) (kt p):=AK8 (S1 ok a)
theorem T1 (ok:okB b):∀(n:Nat) (p:List Int) (d:Deed),p.length<=n->(p,d)∈prB b [] 0->Fnd (B2 b) (bhN b p)
 | 0,p,d,hn,hp=>by
  obtain⟨bk,i,x,_⟩:=AK hp
  exact absurd (BY0 (by lia)) x.last.2
 | n+1,p,d,hn,hp=>by
  obtain⟨bk,i,x,k⟩:=AK hp
  rcases T2 x with⟨rfl,g⟩|⟨q,h,bs,j,rfl,a,e⟩
  ·rw[FH]
   split
   ·rename_i c
    exact S1 ok (RU (BQ2 c))
   ·exact AK9
  ·rw[FG a e]
   split
   ·rename_i c
    exact S1 ok (T5 a e (BQ2 c))
   ·unfold inB
    split
    ·exact FR ok a
    ·split
     ·rename_i f
      split
      ·exact(BA ok a f).2
      ·exact(BA ok a f).1
     ·exact T1 ok n q _ (by simp at hn;lia) a
theorem AA1 (ok:okB b)(a:(p,d)∈prB b [] 0){k:C5}(h:lfT b p=some k):Fnd (B2 b) k:=by
 unfold lfT whA at h
 rw[Option.map_map] at h
 obtain⟨x,c,rfl⟩:=Option.map_eq_some_iff.mp h
 have e:=FE p.length (BP5 _) a x (CD7 c)
 exact T1 ok _ x.1 x.2.1 (BP5 _) e.at_
end
end CD
namespace CD
open PySem L2 L3 MK K11 K12 GO
def keys (X:List Row):List C5:=(X.filter fun r=>!isJ r).map C7
theorem J8 (X Y:List Row):keys (X++Y)=keys X++keys Y:=by simp[keys]
theorem K4 (r:Row)(X:List Row):keys (r::X)=if isJ r then keys X else C7 r::keys X:=by
 unfold keys
 cases h:isJ r<;>simp[h]
theorem V4:keys []=[]:=rfl
theorem CL (p:List Int)(d:C5)(X:List Row):keys (.test p d::X)=kd p::keys X:=by rw[K4];rfl
theorem FU (w:Str)(p:List Int)(X:List Row):keys (.own w p::X)=C7 (.own w p)::keys X:=by rw[K4];rfl
theorem UA (w:Str)(p:List Int)(d:Option C5)(X:List Row):keys (.lv w p d::X)=C7 (.lv w p d)::keys X:=by rw[K4];rfl
theorem JI (d:C5)(X:List Row):keys (.jump d::X)=keys X:=by rw[K4];rfl
theorem JH (af:C5):∀xs:List (List Row),keys (xs.flatMap fun l=>Row.jump af::l)=xs.flatMap keys
 | []=>rfl
 | x::xs=>by rw[BZ4,BZ4,J8,JH af xs,K4];rfl
def Ext (p:List Int)(ks:List C5):Prop:=∀k∈ks,∃r,k.2=some (p++r)
theorem N4 {l k:List α}(h1:l.Nodup)(h2:k.Nodup)(c:∀a∈l,a∉k):(l++k).Nodup :=
 List.nodup_append.mpr ⟨h1,h2,fun a d b f e=>c a d (by rw[e];exact f)⟩
theorem FQ {i j:Int}(a:i≠j){k:C5}(h1:∃r,k.2=some (p++[i]++r))(h2:∃r,k.2=some (p++[j]++r)):False:=by
 obtain⟨r,c⟩:=h1
 obtain⟨d,b⟩:=h2
 rw[c] at b
 simp at b
 exact a b.1
theorem I0 {j:Int}{k:C5}(h1:k.2=some p)(h2:∃r,k.2=some (p++[j]++r)):False:=by
 obtain⟨r,e⟩:=h2
 rw[h1] at e
 have:=congrArg BW0 (Option.some.inj e)
 simp at this
theorem flat_keys {p:List Int}:∀(xs:List (List Row)) (a:Nat),(∀m X,xs[m]?=some X->Ext (p++[((a+m:Nat):Int)]) (keys X)/\(keys X).Nodup)->(∀k∈xs.flatMap keys,∃m,m<xs.length/\∃r,k.2=some (p++[((a+m:Nat):Int)]++r))/\(xs.flatMap keys).Nodup
 | [],a,_=>⟨fun k h=>by simp at h,by simp⟩
 | x::xs,a,H=>by
  obtain⟨b,f⟩:=H 0 x (by simp)
  obtain⟨c,g⟩:=flat_keys xs (a+1) fun m X h=>by
   have:=H (m+1) X (by simpa using h)
   rwa [show a+(m+1)=a+1+m by lia] at this
  rw[BZ4]
  refine⟨fun k i=>?_,N4 f g fun k j l=>?_⟩
  ·rcases List.mem_append.mp i with h|h
   ·exact⟨0,by simp,b k h⟩
   ·obtain⟨m,d,r,e⟩:=c k h
    exact⟨m+1,by simpa using d,r,by rw[e,show a+1+m=a+(m+1) by lia]⟩
  ·obtain⟨m,d,y⟩:=c k l
   exact FQ (show((a+0:Nat):Int)≠((a+1+m:Nat):Int) by lia) (b k j) y
theorem AN4 (w:Str)(p:List Int):(C7 (.own w p)).2=some p:=by simp only[C7];split<;>rfl
mutual
theorem AA9 (b:Blk):∀(bk:Blk) (ah:List Int) (n:Nat),(∀k∈keys (drB b bk ah n),∃m:Nat,n<=m/\∃r,k.2=some (ah++[(m:Int)]++r))/\(keys (drB b bk ah n)).Nodup
 | .nil,ah,n=>⟨fun k h=>by simp[drB,keys] at h,by simp[drB,keys]⟩
 | .cons d r,ah,n=>by
  obtain⟨a,e⟩:=BI3 b d (ah++[(n:Int)])
  obtain⟨c,f⟩:=AA9 b r ah (n+1)
  simp only[drB,J8]
  refine⟨fun k g=>?_,N4 e f fun k i j=>?_⟩
  ·rcases List.mem_append.mp g with h|h
   ·exact⟨n,BP5 _,a k h⟩
   ·obtain⟨m,l,x⟩:=c k h
    exact⟨m,by lia,x⟩
  ·obtain⟨m,l,x⟩:=c k j
   exact FQ (show(n:Int)≠m by lia) (a k i) x
termination_by structural bk=>bk
theorem BI3 (b:Blk):∀(d:Deed) (p:List Int),Ext p (keys (drD b d p))/\(keys (drD b d p)).Nodup
 | .mk h bs,p=>by
  have C:=AB0 b bs p 0
  have i:∀m:Nat,Ext (p++[(m:Int)]) (keys (nth (D1 b bs p 0) m))/\(keys (nth (D1 b bs p 0) m)).Nodup:=fun m=>by
   unfold nth
   cases h:(D1 b bs p 0)[m]? with
   | none=>simp[BV4,h,keys,Ext]
   | some X =>
    have:=C m X h
    rw[BS0] at this
    simpa[BV4,h] using this
  have l:∀{m:Nat} {k:C5},(∃r,k.2=some (p++[(m:Int)]++r))->∃r,k.2=some (p++r):=fun⟨r,e⟩=>⟨_,by rw[e,BS9]⟩
  have a:∀{k:C5},k.2=some p->∃r,k.2=some (p++r):=fun e=>⟨[],by rw[e,BV1]⟩
  show Ext p (keys (rowsOf b p h (C6 bs) (D1 b bs p 0)))/\(keys (rowsOf b p h (C6 bs) (D1 b bs p 0))).Nodup
  cases h with
  | leaf w K =>
   simp only[rowsOf]
   split
   ·rw[UA,V4]
    exact⟨fun k c=>by cases List.mem_singleton.mp c;exact a rfl,by simp⟩
   ·rw[FU,V4]
    exact⟨fun k c=>by cases List.mem_singleton.mp c;exact a (AN4 _ _),by simp⟩
  | ife e =>
   obtain⟨g,q⟩:=i 0
   obtain⟨v,E⟩:=i 1
   simp only[rowsOf]
   split
   ·rw[CL]
    exact⟨fun k c=>(BU1.mp c).elim (fun e=>by subst e;exact a rfl) fun h=>l (g k h),List.nodup_cons.mpr ⟨fun h=>I0 rfl (g _ h),q⟩⟩
   ·rw[CL,J8,JI]
    refine⟨fun k c=>(BU1.mp c).elim (fun e=>by subst e;exact a rfl) fun h=>(List.mem_append.mp h).elim (fun h=>l (g k h)) fun h=>l (v k h),List.nodup_cons.mpr ⟨fun h=>(List.mem_append.mp h).elim (fun h=>I0 rfl (g _ h)) fun h=>I0 rfl (v _ h),N4 q E fun k j n=>FQ (by decide) (g k j) (v k n)⟩⟩
  | whl e =>
   obtain⟨g,q⟩:=i 0
   simp only[rowsOf]
   rw[CL,J8,JI,V4,BV1]
   exact⟨fun k c=>(BU1.mp c).elim (fun e=>by subst e;exact a rfl) fun h=>l (g k h),List.nodup_cons.mpr ⟨fun h=>I0 rfl (g _ h),q⟩⟩
  | tr f =>
   obtain⟨g,q⟩:=i 0
   obtain⟨s,D⟩:=i (f.length+1)
   obtain⟨F,G⟩:=flat_keys (p:=p) ((BU6 1 (D1 b bs p 0)).take f.length) 1 fun m X h=>by
    have t:m<f.length:=by
     have:=(List.getElem?_eq_some_iff.mp h).1
     rw[BT3] at this
     lia
    rw[BV8 t,BX0] at h
    have:=C (1+m) X h
    rwa [BS0] at this
   have x:∀k∈((BU6 1 (D1 b bs p 0)).take f.length).flatMap keys,∃m:Nat,1<=m/\m<=f.length/\∃r,k.2=some (p++[(m:Int)]++r):=fun k c=>by
    obtain⟨m,t,y⟩:=F k c
    rw[BT3] at t
    exact⟨1+m,by lia,by lia,y⟩
   simp only[rowsOf]
   rw[FU,J8,J8,JH]
   have A:Ext p (keys (nth (D1 b bs p 0) 0)++((BU6 1 (D1 b bs p 0)).take f.length).flatMap keys)/\(keys (nth (D1 b bs p 0) 0)++((BU6 1 (D1 b bs p 0)).take f.length).flatMap keys).Nodup/\(∀k∈keys (nth (D1 b bs p 0) 0)++((BU6 1 (D1 b bs p 0)).take f.length).flatMap keys,∃m:Nat,m<=f.length/\∃r,k.2=some (p++[(m:Int)]++r)):=by
    refine⟨fun k c=>?_,N4 q G fun k j n=>?_,fun k c=>?_⟩
    ·rcases List.mem_append.mp c with h|h
     ·exact l (g k h)
     ·obtain⟨m,_,_,y⟩:=x k h;exact l y
    ·obtain⟨m,L,_,y⟩:=x k n
     exact FQ (show((0:Nat):Int)≠(m:Int) by lia) (g k j) y
    ·rcases List.mem_append.mp c with h|h
     ·exact⟨0,BW4 _,g k h⟩
     ·obtain⟨m,_,j,y⟩:=x k h;exact⟨m,j,y⟩
   obtain⟨z,B,u⟩:=A
   generalize keys (nth (D1 b bs p 0) 0)++((BU6 1 (D1 b bs p 0)).take f.length).flatMap keys=Y at z B u
   have H:C7 (.own "open" p)=kd p:=rfl
   rw[H]
   split
   ·rw[V4,BV1]
    exact⟨fun k c=>(BU1.mp c).elim (fun e=>by subst e;exact a rfl) fun h=>z k h,List.nodup_cons.mpr ⟨fun h=>by obtain⟨m,_,y⟩:=u _ h;exact I0 rfl y,B⟩⟩
   ·have I:keys (Row.own "last" p::(nth (D1 b bs p 0) (f.length+1)++[Row.lv "resume" p (lfT b p)]))=kl p::(keys (nth (D1 b bs p 0) (f.length+1))++[kr p]):=by
     rw[FU,J8,UA];rfl
    rw[I]
    generalize keys (nth (D1 b bs p 0) (f.length+1))=Z at s D
    have J:(kl p::(Z++[kr p])).Nodup:=by
     refine List.nodup_cons.mpr ⟨fun h=>?_,N4 D (by simp) fun k j n=>?_⟩
     ·rcases List.mem_append.mp h with h|h
      ·exact I0 rfl (s _ h)
      ·cases List.mem_singleton.mp h
     ·cases List.mem_singleton.mp n
      exact I0 rfl (s _ j)
    have o:∀k∈kl p::(Z++[kr p]),k=kl p\/k∈Z\/k=kr p:=fun k c=>by
     simpa[or_assoc] using c
    refine⟨fun k c=>?_,List.nodup_cons.mpr ⟨fun h=>?_,N4 B J fun k j n=>?_⟩⟩
    ·rcases BU1.mp c with e|h
     ·subst e;exact a rfl
     rcases List.mem_append.mp h with h|h
     ·exact z k h
     ·rcases o k h with e|h|e
      ·subst e;exact a rfl
      ·exact l (s k h)
      ·subst e;exact a rfl
    ·rcases List.mem_append.mp h with h|h
     ·obtain⟨m,_,y⟩:=u _ h;exact I0 rfl y
     ·rcases o _ h with e|h|e
      ·cases e
      ·exact I0 rfl (s _ h)
      ·cases e
    ·obtain⟨m,t,y⟩:=u k j
     rcases o k n with e|h|e
     ·subst e;exact I0 rfl y
     ·exact FQ (show(m:Int)≠((f.length+1:Nat):Int) by lia) y (s k h)
     ·subst e;exact I0 rfl y
termination_by structural d=>d
theorem AB0 (b:Blk):∀(bs:Bls) (p:List Int) (j:Nat) (m:Nat) (X:List Row),(D1 b bs p j)[m]?=some X->Ext (p++[((j+m:Nat):Int)]) (keys X)/\(keys X).Nodup
 | .nil,p,j,m,X,h=>by simp[D1] at h
 | .cons k r,p,j,m,X,h=>by
  have a:=AA9 b k (p++[(j:Int)]) 0
  have c:=AB0 b r p (j+1)
  cases m with
  | zero =>
   have e:drB b k (p++[(j:Int)]) 0=X:=by simpa[D1] using h
   subst e
   refine⟨fun x d=>?_,a.2⟩
   obtain⟨m,_,f,e⟩:=a.1 x d
   exact⟨(m:Int)::f,by rw[e];simp⟩
  | succ m =>
   have:=c m X (by simpa[D1] using h)
   rwa [show j+1+m=j+(m+1) by lia] at this
termination_by structural bs=>bs
end
end CD
namespace CD
open PySem L2 L3 MK K11 K12 GO
open TK (neD neB O6 hNe)
theorem GB:∀(L:List Row) (n:Nat),(C8 n L).map (·.1)=keys L
 | [],_=>rfl
 | r::L,n=>by
  have a:=GB L (n+1)
  simp only[C8,K4]
  split
  ·exact a
  ·simp[a]
theorem GC:∀(L:List Row) (n j:Nat) (r:Row),(keys L).Nodup->L[j]?=some r->isJ r=false->BR3 (C7 r) (C8 n L)=some (.int ((n+j:Nat):Int))
 | [],_,_,_,_,h,_=>by simp at h
 | x::L,n,0,r,hn,h,hj=>by
  have e:x=r:=by simpa using h
  subst e
  simp only[C8]
  rw[if_neg (by rw[hj];decide)]
  simp[BR3]
 | x::L,n,j+1,r,hn,h,hj=>by
  have a:L[j]?=some r:=by simpa using h
  rw[K4] at hn
  simp only[C8]
  by_cases c:isJ x=true
  ·rw[if_pos c] at hn ⊢
   rw[GC L (n+1) j r hn a hj]
   congr 3;lia
  ·rw[if_neg c] at hn ⊢
   obtain⟨f,g⟩:=List.nodup_cons.mp hn
   have d:C7 r∈keys L:=List.mem_map.mpr ⟨r,List.mem_filter.mpr ⟨BQ1 a,by rw[hj];rfl⟩,rfl⟩
   have b:(C7 r==C7 x)=false:=by
    apply beq_eq_false_iff_ne.mpr
    intro e
    rw[e] at d
    exact f d
   simp only[BR3,b]
   rw[GC L (n+1) j r g a hj]
   congr 3;lia
theorem DF (b:Blk):(keys (B2 b)).Nodup:=by
 unfold B2
 rw[J8]
 obtain⟨c,d⟩:=AA9 b b [] 0
 refine N4 d (by simp[keys,isJ]) fun k f a=>?_
 have e:k=ke:=by simpa[keys,isJ,C7] using a
 subst e
 obtain⟨m,_,r,e⟩:=c _ f
 cases e
theorem GD {b:Blk}{k:C5}(h:Fnd (B2 b) k):∃(j:Nat) (r:Row),BR3 (J6 k) (C8 0 (B2 b))=some (.int (j:Int))/\numOf (B2 b) k=.int (j:Int)/\(B2 b)[j]?=some r/\isJ r=false/\C7 r=J6 k:=by
 obtain⟨j,r,a,c,d⟩:=h
 have:=GC (B2 b) 0 j r (DF b) a c
 rw[d,BS0] at this
 exact⟨j,r,this,by unfold numOf;rw[this];rfl,a,c,d⟩
theorem OI (af:C5):∀(xs:List (List Row)) (cs:List Nat),xs.length=cs.length->(∀(m:Nat) x c,xs[m]?=some x->cs[m]?=some c->x.length+2<=3*c)->(xs.flatMap fun l=>Row.jump af::l).length+xs.length<=3*cs.sum
 | [],[],_,_=>by simp
 | x::xs,c::cs,hl,H=>by
  have d:=OI af xs cs (by simpa using hl) fun m x c a b=>H (m+1) x c (by simpa using a) (by simpa using b)
  have:=H 0 x c (by simp) (by simp)
  simp only[BZ4,BP7,BP8,List.sum_cons]
  lia
 | [],_::_,h,_=>by simp at h
 | _::_,[],h,_=>by simp at h
section
variable {b:Blk}{n:Nat}(IH:∀d p,F8 d<=n->okD d->neD d->(drD b d p).length+2<=3*F8 d)
include IH
theorem AL7:∀(bk:Blk) (ah:List Int) (m:Nat),C9 bk<=n->okB bk->neB bk->(drB b bk ah m).length+2*AX bk<=3*C9 bk
 | .nil,_,_,_,_,_=>by simp[drB,AX,C9]
 | .cons d r,ah,m,a,⟨c,e⟩,⟨f,g⟩=>by
  simp only[C9] at a
  have h:=IH d (ah++[(m:Int)]) (by lia) c f
  have i:=AL7 r ah (m+1) (by lia) e g
  simp only[drB,AX,C9,BP7]
  lia
theorem BI4 {bk:Blk}(a:bk≠.nil)(ah:List Int)(c:C9 bk<=n)(o:okB bk)(ne:neB bk):(drB b bk ah 0).length+2<=3*C9 bk:=by
 have:=AL7 IH bk ah 0 c o ne
 have:1<=AX bk:=by cases bk with|nil=>exact absurd rfl a|cons d r=>simp[AX]
 lia
end
theorem IX:∀bs:Bls,G9 bs=((C6 bs).map C9).sum
 | .nil=>rfl
 | .cons b r=>by simp[G9,C6,IX r]
theorem AL8 {b:Blk}:∀(n:Nat) (d:Deed) (p:List Int),F8 d<=n->okD d->neD d->(drD b d p).length+2<=3*F8 d
 | 0,d,p,hc,_,_=>by have:=P5 d;lia
 | n+1,.mk h bs,p,hc,⟨ok,oks⟩,⟨hne,nes⟩=>by
  have IH:=AL8 (b:=b) n
  simp only[F8] at hc
  have f:∀{j:Nat} {bk:Blk},(C6 bs)[j]?=some bk->bk≠.nil->(nth (D1 b bs p 0) j).length+2<=3*C9 bk:=by
   intro j bk l F
   have r:=E8 bs bk (BQ1 l)
   rw[O7 l]
   exact BI4 IH F _ (by lia) (r.2.2 oks) (V7 bs j bk nes l)
  have g:=IX bs
  show(rowsOf b p h (C6 bs) (D1 b bs p 0)).length+2<=3*F8 (.mk h bs)
  simp only[F8]
  cases h with
  | leaf w M=>simp only[rowsOf];split<;>simp<;>lia
  | ife e =>
   obtain⟨a,z,i,s⟩:=hne
   have C:=f (j:=0) (bk:=a) (by rw[i];rfl) s
   have y:(C6 bs).getD 1 .nil=z:=by rw[i];rfl
   rw[i] at g
   simp at g
   simp only[rowsOf,y]
   split
   ·simp only[BP8];lia
   ·rename_i k
    have N:=f (j:=1) (bk:=z) (by rw[i];rfl) fun e=>k (by rw[e];rfl)
    simp only[BP8,BP7];lia
  | whl e =>
   obtain⟨a,i,s⟩:=hne
   have C:=f (j:=0) (bk:=a) (by rw[i];rfl) s
   rw[i] at g
   simp at g
   simp only[rowsOf,BP8,BP7,BR8];lia
  | tr v =>
   obtain⟨a,t,z,i,A,s,B,G⟩:=hne
   have C:=f (j:=0) (bk:=a) (by rw[i];rfl) s
   have u:(C6 bs)[v.length+1]?=some z:=by rw[i,<-A];simp
   have y:(C6 bs).getD (v.length+1) .nil=z:=by simp[BV4,u]
   have o:(BW8 v.length (BU6 1 (D1 b bs p 0))).length=t.length:=by
    rw[BT3,CA0,AZ,<-N9,i];simp;lia
   have H:=fun I=>OI I (BW8 v.length (BU6 1 (D1 b bs p 0))) (t.map C9) (by rw[o,BP1]) fun m x c l D=>by
    have r:m<t.length:=by rw[<-o];exact(List.getElem?_eq_some_iff.mp l).1
    have J:(C6 bs)[m+1]?=some t[m]:=by
     rw[i,CA4,BS2 r,BQ2 r]
    have K:c=C9 t[m]:=by
     rw[BQ3,BQ2 r] at D
     exact(Option.some.inj D).symm
    rw[BV8 (by lia),BX0,BV7] at l
    have E:=f J (B _ (BX9 r))
    have L:nth (D1 b bs p 0) (m+1)=x:=by unfold nth;simp[BV4,l]
    rw[L] at E
    rw[K];exact E
   rw[i] at g
   simp only[BR7,BR4,CB8,List.sum_cons,List.sum_append,List.sum_nil] at g
   simp only[rowsOf,y]
   have q:=H (if E9 z=true then bhN b p else kl p)
   rw[o] at q
   split
   ·rename_i k
    rw[if_pos k] at q
    simp only[BP8,BP7,BR8];lia
   ·rename_i k
    rw[if_neg k] at q
    have O:=f u fun e=>k (by rw[e];rfl)
    simp only[BP8,BP7,BR8];lia
theorem P1 {b:Blk}(ok:okB b)(ne:neB b):1<=(B2 b).length/\(B2 b).length<=3*C9 b+1:=by
 rw[WI]
 have:=AL7 (AL8 (b:=b) (C9 b)) b [] 0 (BP5 _) ok ne
 lia
end CD
namespace CH
open PySem L2 L3 MK K11 K12 GO CD
def tblW:List (Str×Str):=[("let","deed"),("note","deed"),("ask","deed"),("cast","deed"),("close","deed"),("give","stand"),("on","stand"),("if","test"),("while","test"),("try","open"),("end","end"),("fault","fault"),("leave","leave")]
def rFN (r:Rl):Prop:=W1 r/\TK.neB r.blk
def bkL (M:Mem)(Q:DK)(l:List D):Prop:=∀a M',M a=none->M' a=some (.lst l)->(∀x,x≠a->M' x=M x)->Q (.ref a) M'
def AC5 (w:Str):Prop:=w="deed"\/w="stand"\/w="end"\/w="fault"\/w="open"\/w="last"
def nOk (k:C5):Prop:=(k.1="deed"\/k.1="test"\/k.1="last"\/k.1="resume")/\k.2≠none\/k=ke
def rW:Row->Prop
 | .own w _=>AC5 w
 | .test _ d=>nOk d
 | .jump d=>nOk d
 | .lv w _ d=>(w="leave"\/w="resume")/\∀k∈d,nOk k
 | .done=>True
def tells:Row->Bool
 | .own _ _=>false
 | .done=>false
 | _=>true
def BG7:Row->Option C5
 | .test _ d=>some d
 | .jump d=>some d
 | .lv _ _ d=>d
 | _=>none
def AI6:Sp3:=fun ds M Q=>∃r p d,ds=[rD r,plT p]/\W1 r/\(p,d)∈prB r.blk [] 0/\Q (match whA r.blk p with|some q=>plT q|none=>.non) M
def VL:Sp3:=fun ds M Q=>∃row,ds=[G8 row]/\rW row/\Q (.bl (tells row)) M
def GW:Sp3:=fun ds M Q=>∃row,ds=[G8 row]/\rW row/\isJ row=false/\Q (nkD (C7 row)) M
def AV0:Sp3:=fun ds M Q=>∃k,ds=[nkD k]/\nOk k/\Q (nkD (J6 k)) M
def MY:Sp3:=fun ds M Q=>∃r p d,ds=[rD r,plT p]/\W1 r/\(p,d)∈prB r.blk [] 0/\Q (ldD (lfT r.blk p)) M
def IJ (n:Nat):Sp3:=fun ds M Q=>∃r bk ah,ds=[rD r,.tup (dB bk),plT ah]/\rFN r/\ah.length<=20/\C9 bk<=100/\okB bk/\TK.neB bk/\(∀(k:Nat) (d:Deed),(toL bk)[k]?=some d->(ah++[(k:Int)],d)∈prB r.blk [] 0)/\4*dpB bk+2<=n/\bkL M Q ((drB r.blk bk ah 0).map G8)
def IK (n:Nat):Sp3:=fun ds M Q=>∃r p h bs j bk,ds=[rD r,plT p,.int ((j:Nat):Int)]/\rFN r/\(p,.mk h bs)∈prB r.blk [] 0/\(C6 bs)[j]?=some bk/\4*dpB bk+3<=n/\bkL M Q ((drB r.blk bk (p++[(j:Int)]) 0).map G8)
def BJ (n:Nat):Sp3:=fun ds M Q=>∃r p e bs,ds=[rD r,plT p,dD (.mk (.ife e) bs)]/\rFN r/\(p,.mk (.ife e) bs)∈prB r.blk [] 0/\4*L8 bs<=n/\bkL M Q ((drD r.blk (.mk (.ife e) bs) p).map G8)
def MV (n:Nat):Sp3:=fun ds M Q=>∃r p e bs,ds=[rD r,plT p]/\rFN r/\(p,.mk (.whl e) bs)∈prB r.blk [] 0/\4*L8 bs<=n/\bkL M Q ((drD r.blk (.mk (.whl e) bs) p).map G8)
def MU (n:Nat):Sp3:=fun ds M Q=>∃r p cs bs,ds=[rD r,plT p,dD (.mk (.tr cs) bs)]/\rFN r/\(p,.mk (.tr cs) bs)∈prB r.blk [] 0/\4*L8 bs<=n/\bkL M Q ((drD r.blk (.mk (.tr cs) bs) p).map G8)
def MT (n:Nat):Sp3:=fun ds M Q=>∃r p d,ds=[rD r,plT p]/\rFN r/\(p,d)∈prB r.blk [] 0/\4*dpD d+1<=n/\bkL M Q ((drD r.blk d p).map G8)
def AI4:Sp3:=fun ds M Q=>∃L:List Row,ds=[.lst (L.map G8)]/\(∀x∈L,rW x)/\(keys L).Nodup/\L.length<=1000/\∀a M',M a=none->M' a=some (.dn (C8 0 L))->(∀x,x≠a->M' x=M x)->Q (.ref a) M'
def AI3:Sp3:=fun ds M Q=>∃(L:List Row) (row:Row) (a:Addr),ds=[G8 row,.ref a]/\M a=some (.dn (C8 0 L))/\rW row/\(∀k,BG7 row=some k->∃j:Int,BR3 (J6 k) (C8 0 L)=some (.int j))/\Q (N0 L row) M
def grd (L:List Row)(p:List Int)(n:Nat):List D :=
 let cat:=(BS8 n).map fun at_=>numOf L (kd (p++[((at_+1:Nat):Int),0]))
 let last:=numOf L (kl p)
 let first:=numOf L (kd (p++[0,0]))
 match cat with
 | []=>[.tup [first,last,plT p,.tup [],last]]
 | c::cs=>.tup [first,c,plT p,.tup (c::cs),last]::(if (BR3 (kl p) (C8 0 L)).isSome then[.tup [c,last,plT p,.tup [],last]] else[])
def BH5 (b:Blk):List D:=((prB b [] 0).reverse).flatMap fun x=>match x.2 with
 | .mk (.tr cs) _=>grd (B2 b) x.1 cs.length
 | _=>[]
def AV1:Sp3:=fun ds M Q=>∃r p cs bs a,ds=[rD r,plT p,.ref a]/\W1 r/\TK.neB r.blk/\(p,.mk (.tr cs) bs)∈prB r.blk [] 0/\M a=some (.dn (C8 0 (B2 r.blk)))/\bkL M Q (grd (B2 r.blk) p cs.length)
def spCode:Sp3:=fun ds M Q=>∃r,ds=[rD r]/\TK.rOk r/\Q (.tup [.tup ((B2 r.blk).map (N0 (B2 r.blk))),.tup (BH5 r.blk)]) M
end CH
namespace L3
open PySem PySem.Spec PyProof.Rows L2
open Sem (wp)
abbrev NIt:=Str ⊕ List Int
def U7:C5->List NIt
 | (x,none)=>[.inl x]
 | (x,some p)=>[.inl x,.inr p]
theorem OW {a b:C5}(h:U7 a=U7 b):a=b:=by
 obtain⟨x,p⟩:=a
 obtain⟨y,q⟩:=b
 cases p<;>cases q<;>simp[U7] at h
 ·rw[h]
 ·rw[h.1,h.2]
section
variable {P:BT5}{w:World}
def nIs (P:BT5)(w:World)(h:Heap):NIt->Value->Prop
 | .inl x,v=>(D9 P w).is (.inr x) v=true
 | .inr p,v=>∃b,v=.ref b/\IsTupleKey (intKind P w) h p b
def AJ (w:World):NIt->Int
 | .inl x=>AL5 w (.inr x)
 | .inr p=>reduceHash (BT2 (p.map hashInt))
def AM2:NIt->Nat
 | .inl _=>1
 | .inr p=>p.length+1
theorem AM3 {a b:NIt}{v:Value}(x:nIs P w h a v)(y:nIs P w h b v):a=b:=by
 cases a with
 | inl s =>
  rcases E6 (show DI (.inr s) v=true from x) with⟨i,t,e,_⟩|⟨z,t,e,rfl⟩
  ·cases e
  ·cases b with
   | inl c =>
    have:=(D9 P w).inj _ _ _ x y
    rw[Sum.inr.inj this]
   | inr p=>obtain⟨_,e,_⟩:=y;cases e
 | inr p =>
  obtain⟨f,rfl,x⟩:=x
  cases b with
  | inl c =>
   rcases E6 (show DI (.inr c) (.ref f)=true from y) with⟨i,t,e,d⟩|⟨z,t,e,d⟩<;>cases d
  | inr q =>
   obtain⟨_,e,y⟩:=y
   cases e
   rw[x.inj y]
inductive NItsAre (P:BT5)(w:World)(h:Heap):List NIt->List Value->Prop
 | nil:NItsAre P w h [] []
 | cons {k:NIt} {v:Value} {ks:List NIt} {vs:List Value}:nIs P w h k v->NItsAre P w h ks vs->NItsAre P w h (k::ks) (v::vs)
theorem NItsAre.inj {x y:List NIt}{vs:List Value}(b:NItsAre P w h x vs)(a:NItsAre P w h y vs):x=y:=by
 induction b generalizing y with
 | nil=>cases a;rfl
 | cons c _ d=>cases a with|cons e f=>rw[AM3 c e,d f]
def IsN (P:BT5)(w:World)(h:Heap)(k:C5)(a:Addr):Prop:=∃o items n,h.get? a=some o/\o.cls=.type "tuple"/\o.data=.seq items n/\NItsAre P w h (U7 k) items.toList
theorem IsN.typeIs {k:C5}{a:Addr}(x:IsN P w s.heap k a):s.TypeIs (.ref a) "tuple":=let ⟨o,_,_,ho,hc,_⟩:=x;⟨o,ho,hc⟩
theorem IsN.inj {a:Addr}{x y:C5}(g:IsN P w h x a)(i:IsN P w h y a):x=y:=by
 obtain⟨o,d,n,j,_,k,l⟩:=g
 obtain⟨o',c,m,e,_,b,f⟩:=i
 obtain rfl:o=o':=Option.some.inj (j.symm.trans e)
 rw[k] at b
 injection b with h1 _
 subst h1
 exact OW (l.inj f)
theorem nIs.keeps {k:NIt}{v:Value}{d:Addr}{es ep}(x:nIs P w h k v)(ho:h.get? d=some o)(hd:o.data=.dict es ep)(hs:BX4 d h h'):nIs P w h' k v:=by
 cases k with
 | inl s=>exact x
 | inr p=>obtain⟨b,e,x⟩:=x;exact⟨b,e,x.keeps ho hd hs⟩
theorem NItsAre.keeps {ks:List NIt}{vs:List Value}{d:Addr}{es ep}(x:NItsAre P w h ks vs)(ho:h.get? d=some o)(hd:o.data=.dict es ep)(hs:BX4 d h h'):NItsAre P w h' ks vs:=by
 induction x with
 | nil=>exact .nil
 | cons a _ b=>exact .cons (a.keeps ho hd hs) b
theorem IsN.keeps {k:C5}{a d:Addr}{es ep}(x:IsN P w h k a)(ho:h.get? d=some o)(hd:o.data=.dict es ep)(hs:BX4 d h h'):IsN P w h' k a:=by
 obtain⟨g,b,n,e,i,c,j⟩:=x
 have f:a≠d:=by
  rintro rfl
  obtain rfl:g=o:=Option.some.inj (e.symm.trans ho)
  rw[hd] at c;exact nomatch c
 exact⟨g,b,n,(hs.2 a f).trans e,i,c,j.keeps ho hd hs⟩
variable {A:BY4}{E:Value->BP9->Prop}{s:BP9}
theorem nIs.pyHash {k:NIt}{v:Value}{Q:Int->BP9->Prop}(a:A.units<cLine)(x:nIs P w s.heap k v)(h:Q (AJ w k) {s with toks:=s.toks+AM2 k}):wpAny (model P w) A (PySem.pyHash v) Q E s:=by
 cases k with
 | inl c=>exact(D9 P w).pyHash x h
 | inr p=>obtain⟨b,rfl,x⟩:=x;exact wpAny_pyHash_tuple a x h
def nDr (k:C5):Nat:=((U7 k).map AM2).sum+1
theorem BA0 (k:C5):nHs w k=(U7 k).map (AJ w):=by
 obtain⟨x,p⟩:=k
 cases p<;>rfl
theorem BZ {k:C5}{a:Addr}{Q:Int->BP9->Prop}(v:A.units+1<cLine)(u:IsN P w s.heap k a)(h:Q (UH w k) {s with toks:=s.toks+nDr k}) :
  wpAny (model P w) A (pyHash (.ref a)) Q E s:=by
 have j:=u.typeIs
 obtain⟨o,p,n,y,_,z,B⟩:=u
 unfold pyHash
 first|unfold pyHashByItsType|skip
 first|refine BP2 (wpAny_cRoomFor_or (.inr (by lia)) ?_)|skip
 refine BP2 (CB1 j F.slot_tuple_hash.lookup ?_)
 show wpAny _ _ (if (some (Value.builtin "tuple.__hash__")==some Value.none)=true then _ else _) Q E s
 rw[if_neg (by rw[beq_builtin_none];exact BQ5)]
 refine BP2 (CB1 j F.slot_tuple_hash.lookup ?_)
 show wpAny _ _ (callSpecialIfBoundUnlessNone? (.ref a) "__hash__" _ >>= _) Q E s
 refine BP2 (wpAny_callSpecialIfBoundUnlessNone?_slot j F.slot_tuple_hash (CC8 F.slot_tuple_hash j F.entry_tuple_hash ?_ (F.args_tuple_hash_1 _)))
 show wpAny _ _ (BY2 (.ref a) >>= _) _ _ s
 refine BP2 (wpAny_tupleItemsOf y z ?_)
 refine BP2 ?_
 rw[<-Array.forIn_toList]
 have q:A.in1.units<cLine:=by simpa using v
 refine wpAny_forIn_list _
  (fun d (b:Array Int) r=>∃c left,U7 k=c++left/\NItsAre P w s.heap left d/\b.toList=c.map (AJ w)/\r={s with toks:=s.toks+(c.map AM2).sum})
  _ ?_ ?_ _ _ ⟨[],U7 k,rfl,B,rfl,rfl⟩
 ·rintro x d b r ⟨c,left,e,t,l,rfl⟩
  cases t with
  | @cons i _ f _ C g =>
   refine BP2 (nIs.pyHash (s:={s with toks:=s.toks+(c.map AM2).sum}) q C ?_)
   first
    | exact BP6 ⟨c++[i],f,by rw[e];simp,g,by simp[l],by simp[BU7]⟩
    | exact BP2 (BP6 (BP6 ⟨c++[i],f,by rw[e];simp,g,by simp[l],by simp[BU7]⟩))
 ·rintro b r ⟨c,left,e,t,l,rfl⟩
  cases t
  rw[BV1] at e
  show wpAny _ _ (retInt (BT2 b.toList)) _ _ _
  rw[l,<-e]
  refine wpAny_ret_mkInt ?_
  show wpAny _ _ (if (decide (-(2:Int)^63<=BT2 ((U7 k).map (AJ w))) && decide (BT2 ((U7 k).map (AJ w))<2^63))=true then _ else _) Q E _
  unfold UH reduceHash nDr at h
  rw[BA0] at h
  by_cases m:(decide (-(2:Int)^63<=BT2 ((U7 k).map (AJ w))) && decide (BT2 ((U7 k).map (AJ w))<2^63))=true
  ·rw[if_pos m]
   rw[if_pos m] at h
   exact BP6 (by simpa[BU7] using h)
  ·rw[if_neg m]
   rw[if_neg m] at h
   exact BP2 (wpAny_rule (BP6 (by simpa[BU7] using h)))
end
section
variable {P:BT5}{w:World}{A:BY4}{E:Value->BP9->Prop}{s:BP9}
inductive NAl:List NIt->List NIt->Prop
 | nl {y:List NIt}:NAl [] y
 | nr {x:List NIt}:NAl x []
 | l {a b:Str} {x y:List NIt}:NAl x y->NAl (.inl a::x) (.inl b::y)
 | r {a b:List Int} {x y:List NIt}:NAl x y->NAl (.inr a::x) (.inr b::y)
theorem AM4 (a b:C5):NAl (U7 a) (U7 b):=by
 obtain⟨x,p⟩:=a
 obtain⟨y,q⟩:=b
 cases p<;>cases q<;>first|exact .l .nl|exact .l .nr|exact .l (.r .nl)
theorem LV {x y:C5}{a b:Addr}{R:Fin->BP9->Prop}(hu:A.units<cLine)(hx:IsN P w s.heap x a)(hy:IsN P w s.heap y b)(h:R (.done (.ret (.bool (decide (x=y))))) s) :
  wpAny (model P w) A (Builtin.«tuple.__eq__» ⟨[.ref a,.ref b],[]⟩) R E s:=by
 have S:=hy.typeIs
 obtain⟨oa,J,na,T,_,U,V⟩:=hx
 obtain⟨ob,K,nb,W,_,X,Y⟩:=hy
 have j:decide (U7 x=U7 y)=decide (x=y):=by
  by_cases e:x=y
  ·rw[e];simp
  ·rw[decide_eq_false e,decide_eq_false fun z=>e (OW z)]
 have Z:=AM4 x y
 rw[<-j] at h
 generalize U7 x=L at *
 generalize U7 y=M at *
 show wpAny _ _ (isInstance (.ref b) (.type "tuple") >>= _) _ _ s
 refine BP2 (wpAny_isInstance S isSubtype_tuple_tuple ?_)
 simp only[CC3,BY7,if_false]
 refine BP2 (wpAny_tupleItemsOf T U ?_)
 refine BP2 (wpAny_tupleItemsOf W X ?_)
 refine BP2 ?_
 refine wpAny_forIn_list _
  (fun n r s'=>r.1=none/\s'=s/\∃B C d f,n=List.zip d f/\NItsAre P w s.heap B d/\NItsAre P w s.heap C f/\NAl B C/\decide (B=C)=decide (L=M)/\(d.length==f.length)=(J.size==K.size))
  _ ?_ ?_ _ _ ⟨rfl,rfl,L,M,J.toList,K.toList,rfl,V,Y,Z,rfl,by simp⟩
 ·rintro⟨u,v⟩ n r s' ⟨hr,rfl,B,C,d,f,t,p,k,g,c,i⟩
  cases p with
  | nil=>simp at t
  | @cons k1 u' m D N F =>
   cases k with
   | nil=>simp at t
   | @cons k2 v' y'' G O H =>
    simp only[List.zip_cons_cons,List.cons.injEq,Prod.mk.injEq] at t
    obtain⟨⟨rfl,rfl⟩,rfl⟩:=t
    have eqb:∀{Q:Bool->BP9->Prop},NAl m y''/\Q (decide (k1=k2)) s'->wpAny (model P w) A (PySem.eqBool u v) Q E s':=by
     rintro Q ⟨_,q⟩
     cases g with
     | @l a b _ _ _ =>
      have e:decide ((Sum.inr a:Key)=Sum.inr b)=decide ((Sum.inl a:NIt)=Sum.inl b):=by by_cases z:a=b<;>simp[z]
      refine(D9 P w).eqBool N O ?_
      rw[e];exact q
     | @r a b _ _ _ =>
      have e:decide (a=b)=decide ((Sum.inr a:NIt)=Sum.inr b):=by by_cases z:a=b<;>simp[z]
      obtain⟨b1,rfl,N⟩:=N
      obtain⟨b2,rfl,O⟩:=O
      refine wpAny_eqBool_tuple hu N O ?_
      rw[e];exact q
    have o:NAl m y'':=by cases g<;>assumption
    refine BP2 (eqb ⟨o,?_⟩)
    by_cases hk:k1=k2
    ·subst hk
     rw[decide_eq_true rfl]
     simp only[CC3,BY7,if_false]
     refine BP6 ⟨rfl,rfl,m,y'',D,G,rfl,F,H,o,?_,by simpa using i⟩
     rw[<-c]
     by_cases j:m=y''
     ·simp[j]
     ·simp[j]
    ·rw[decide_eq_false hk]
     simp only[Bool.not_false,if_true]
     have hf:decide (L=M)=false:=by rw[<-c];simp[hk]
     rw[hf] at h
     exact BP2 (BP6 (BP6 (BP6 h)))
 ·rintro⟨r1,r2⟩ s' ⟨hr,rfl,B,C,d,f,t,p,k,g,c,i⟩
  simp only at hr
  subst hr
  refine BP6 ?_
  have I:(J.size==K.size)=decide (L=M):=by
   rw[<-c,<-i]
   cases p with
   | nil =>
    cases k with
    | nil=>simp
    | cons _ _=>simp
   | cons _ _ =>
    cases k with
    | nil=>simp
    | cons _ _=>simp at t
  show R (.done (.ret (.bool (J.size==K.size)))) s'
  rw[I];exact h
theorem BY {x y:C5}{a b:Addr}{Q:Bool->BP9->Prop}(i:A.units+1<cLine)(d:IsN P w s.heap x a)(f:IsN P w s.heap y b)(h:Q (decide (x=y)) s) :
  wpAny (model P w) A (eqBool (.ref a) (.ref b)) Q E s:=by
 have g:A.in1.units<cLine:=by simpa using i
 unfold eqBool
 try with_reducible refine BU9 ?_
 show wpAny _ _ (if (Value.ref a==Value.ref b)=true then _ else _) Q E s
 by_cases c:(Value.ref a==Value.ref b)=true
 ·rw[if_pos c]
  have e:a=b:=by have:=eq_of_beq c;injection this
  subst e
  obtain rfl:=d.inj f
  exact BP2 (wpAny_rule (BP6 (by simpa using h)))
 ·rw[if_neg c]
  exact BP2 (wpAny_richCompare_same_room (op:=.Eq) d.typeIs f.typeIs F.slot_tuple_eq
   (CC8 F.slot_tuple_eq d.typeIs F.entry_tuple_eq (LV g d f ⟨_,rfl,(fun e=>nomatch e),BV5 h⟩) (F.args_tuple_eq_2 _ _)) (by lia))
end
section
variable {P:BT5}{w:World}{A:BY4}{E:Value->BP9->Prop}{s:BP9}
theorem U5 {n:Nat}{a:Addr}{Q:Bool->BP9->Prop}(i:IsTupleKey (intKind P w) s.heap ks a)(h:Q true s):wpAny (model P w) A (eqIsQuiet (n+1) (.ref a)) Q E s:=by
 have j:=i.typeIs
 obtain⟨o,d,_,k,_,l,m⟩:=i
 unfold eqIsQuiet
 refine BP2 (CB1 j F.slot_tuple_eq.lookup ?_)
 show wpAny _ _ (isInstance (.ref a) (.type "tuple") >>= _) _ _ s
 refine BP2 (wpAny_isInstance j isSubtype_tuple_tuple ?_)
 simp only[CC3,BY7,if_false]
 refine BP2 (wpAny_seqItems k l ?_)
 refine BP2 ?_
 show wpAny _ _ (forIn d _ _) _ _ s
 rw[<-Array.forIn_toList]
 refine wpAny_forIn_list _ (fun b r e=>r.1=none/\e=s/\∀v∈b,carriedByValue v=true) _ ?_ ?_ _ _ ⟨rfl,rfl,m.byValue⟩
 ·rintro v b r e ⟨f,rfl,c⟩
  rw[eqIsQuiet_byValue _ (c v BQ7)]
  refine BP2 (BP6 ?_)
  simp only[CC3,BY7,if_false]
  exact BP6 ⟨rfl,rfl,fun u g=>c u (BQ4 _ g)⟩
 ·rintro⟨p,q⟩ e ⟨f,rfl,_⟩
  simp only at f
  subst f
  exact BP6 h
theorem X7 {k:C5}{a:Addr}{Q:Bool->BP9->Prop}(g:IsN P w s.heap k a)(h:Q true s):wpAny (model P w) A (eqIsQuiet 8 (.ref a)) Q E s:=by
 have j:=g.typeIs
 obtain⟨o,d,n,m,_,t,u⟩:=g
 unfold eqIsQuiet
 refine BP2 (CB1 j F.slot_tuple_eq.lookup ?_)
 show wpAny _ _ (isInstance (.ref a) (.type "tuple") >>= _) _ _ s
 refine BP2 (wpAny_isInstance j isSubtype_tuple_tuple ?_)
 simp only[CC3,BY7,if_false]
 refine BP2 (wpAny_seqItems m t ?_)
 refine BP2 ?_
 show wpAny _ _ (forIn d _ _) _ _ s
 rw[<-Array.forIn_toList]
 refine wpAny_forIn_list _ (fun c r s'=>r.1=none/\s'=s/\∃l,NItsAre P w s.heap l c) _ ?_ ?_ _ _ ⟨rfl,rfl,_,u⟩
 ·rintro v c r s' ⟨f,rfl,l,y⟩
  cases y with
  | @cons i _ z _ e B =>
   have q:∀{Q:Bool->BP9->Prop},Q true s'->wpAny (model P w) A (eqIsQuiet 7 v) Q E s':=by
    intro Q q
    cases i with
    | inl x=>rw[eqIsQuiet_byValue _ ((D9 P w).byValue _ _ e)];exact BP6 q
    | inr p=>obtain⟨b,rfl,e⟩:=e;exact U5 e q
   refine BP2 (q ?_)
   simp only[CC3,BY7,if_false]
   exact BP6 ⟨rfl,rfl,z,B⟩
 ·rintro⟨C,D⟩ s' ⟨f,rfl,_⟩
  simp only at f
  subst f
  exact BP6 h
end
def V8 (P:BT5)(w:World):HeapKind P w C5 where
 is:=IsN P w
 hash:=UH w
 draws:=nDr
 room:=fun A=>A.units+1<cLine
 inj:=fun hx hy=>hx.inj hy
 keeps:=fun x ho hd hs=>x.keeps ho hd hs
 pyHash:=fun hu hk h=>BZ hu hk h
 eqBool:=fun hu hx hy h=>BY hu hx hy h
 quiet:=fun hk h=>X7 hk h
end L3
namespace L3
open PySem PySem.Spec PyProof.Rows L2
section
variable {X:Cx}{pins:List (Addr×Obj)}{σv:L2.St}{H:Hp}{s:BP9}{M:Mem}
theorem UJ (I:Inv X pins σv H s){k:C5}{b:Addr}(r:Rep X.K M H (nkD k) (.ref b)):IsN X.prog X.w s.heap k b:=by
 obtain⟨x,p⟩:=k
 cases p with
 | none =>
  cases r with
  | tup h r =>
   cases r with
   | cons d c =>
   cases c
   cases d
   obtain⟨e,a,⟨o,f,g,n,i⟩,l⟩:=I.tuple (SqT.of3 h)
   cases a with
   | cons j a =>
   cases a
   obtain⟨t,rfl⟩:=j
   exact⟨o,_,n,f,g,i,.cons (N8 _ _ _ _) .nil⟩
 | some p =>
  cases r with
  | tup h r =>
   cases r with
   | cons d c =>
   cases c with
   | @cons _ m _ _ c q =>
   cases q
   cases d
   obtain⟨kb,rfl⟩:∃kb,m=V.ref kb:=by cases c;exact⟨_,rfl⟩
   obtain⟨e,a,⟨o,f,g,n,i⟩,l⟩:=I.tuple (SqT.of3 h)
   cases a with
   | cons j a =>
   cases a with
   | cons u a =>
   cases a
   obtain⟨t,rfl⟩:=j
   obtain rfl:_=Value.ref kb:=u
   exact⟨o,_,n,f,g,i,.cons (N8 _ _ _ _) (.cons ⟨kb,rfl,BO3 I c⟩ .nil)⟩
theorem RI {k:C5}(r:Rep K M H (nkD k) v):∃b,v=.ref b:=by
 obtain⟨x,p⟩:=k
 cases p<;>(cases r;exact⟨_,rfl⟩)
theorem XZ (I:Inv X pins σv H s){ds:List (C5×D)}(r:RepN X.K M H ds xs):∀y∈xs,IsN X.prog X.w s.heap y.1 y.2.1:=by
 induction r with
 | nil=>intro y hy;cases hy
 | cons a b c _ d =>
  intro y hy
  rcases BU1.mp hy with rfl|hy
  ·exact UJ I a
  ·exact d y hy
theorem AG8 {ds:List (C5×D)}(r:RepN K M H ds xs):xs.map (·.1)=ds.map (·.1):=by
 induction r with
 | nil=>rfl
 | cons _ _ _ _ a=>simp[a]
theorem MP {ds:List (C5×D)}(r:RepN K M H ds xs)(k:C5) :
  match ds.lookup k with
  | none=>atKey xs k=none
  | some d=>∃b u v,atKey xs k=some (b,u)/\RelV v u/\Rep K M H d v:=by
 induction r with
 | nil=>rfl
 | @cons a b d v u ds xs j c f _ g =>
  by_cases e:k=a
  ·subst e
   simp only[BR3,beq_self_eq_true]
   exact⟨b,u,v,by simp[atKey],f,c⟩
  ·have h:(k==a)=false:=by simpa using e
   have i:atKey ((a,b,u)::xs) k=atKey xs k:=by simp[atKey,BZ1,Ne.symm e]
   simp only[BR3,h]
   rw[i]
   exact g
theorem dn3 (I:Inv X pins σv H s)(m:MRel X.K M H){a:Addr}{ds:List (C5×D)}(h:M a=some (.dn ds)) :
  ∃xs,RepN X.K M H ds xs/\(a==BW5)=false/\s.heap.DictOfH (V8 X.prog X.w) a xs:=by
 obtain⟨b,c,r⟩:=m a _ h
 cases b<;>first|exact(r:False).elim|skip
 rename_i p
 obtain⟨xs,e,r⟩:=r
 subst e
 obtain⟨⟨d,o,f,g,i,j,k,l,n⟩,_⟩:=(show ObjOk X.prog X.w H s.heap a (.ext (dnφ xs)) from I.hok a _ c)
 exact⟨xs,r,d,o,f,g,i,j,k,l,XZ I r,n⟩
theorem JN (a:A.units+2<cLine):A.in1.units+1<cLine:=by
 have:A.in1.units=A.units+1:=by simp
 lia
end
section
variable {X:Cx}{a b e:Expr}{ta tb:TE3}{t:TA3}{pos p:Pos}
def GN:R3:=fun x y M Q=>∃a kvs k d,x=.ref a/\M a=some (.dn kvs)/\y=nkD k/\BR3 k kvs=some d/\Q d M
theorem AD0 (D:X.A.units+2<cLine)(E:PE3 X a ta)(G:PE3 X b tb)(hs:WA b):PE3 X (.Subscript a b pos) (A6 GN ta tb):=by
 intro e s f H t M Q I z J h
 refine NF PySem.F.slot_dict_getitem.lookup hs (thn (E e s f H t M _ I z J h) fun v K ⟨x,xv,L,N,O,g,m1,i,P,R⟩ =>
  thn (G e K f N t L _ O (z.mono g) m1 R) fun u s2 ⟨y,yv,S,T,j,m,m2,n,B,U⟩=>?_)
 obtain⟨l,V,k,d,rfl,W,rfl,Y,q⟩:=U
 cases P
 obtain rfl:v=Value.ref l:=i
 obtain⟨xs,r,Z,C⟩:=dn3 j m2 W
 have c:=MP r k
 rw[Y] at c
 obtain⟨b',u',v',c,o,p⟩:=c
 obtain⟨kb,rfl⟩:=RI B
 obtain rfl:u=Value.ref kb:=n
 refine⟨C.typeIs,wpAny_getItem_heap (knd:=V8 X.prog X.w) (JN D) (UJ j B) C c ?_⟩
 exact⟨d,v',S,T,j.tok _,g.trans m,m2,o,p,q⟩
def MG:M3:=fun x xs M Q=>∃a kvs k d,x=.ref a/\M a=some (.dn kvs)/\xs=[nkD k,d]/\Q ((BR3 k kvs).getD d) M
theorem AB4 (y:X.A.units+2<cLine):MtR3 X "dict.get" MG:=by
 rintro o s z H M x p N B v O Q I m C b D c ⟨l,f,k,d,rfl,E,rfl,q⟩
 cases c with
 | cons t g=>cases g with
  | cons g G =>
   cases G
   cases b with
   | cons J h=>cases h with
    | cons h K =>
     cases K
     cases D
     obtain rfl:v=Value.ref l:=C
     obtain⟨kb,rfl⟩:=RI t
     obtain rfl:_=Value.ref kb:=J
     obtain⟨p,r,i,u⟩:=dn3 I m E
     refine call_meetsIn PySem.F.slot_dict_get u.typeIs PySem.F.entry_dict_get (PySem.F.args_dict_get_3 _ _ _) (meetsH_dict_get_default (V8 X.prog X.w) l kb i _) ⟨?_,k,p,UJ I t,u,?_⟩
     ·first|exact JN y|(show Around.units _+1<_;simp;lia)
     have a:=MP r k
     cases e:BR3 k f with
     | none =>
      rw[e] at a q
      simp only at a
      rw[a]
      exact⟨_,_,M,H,I.tok _,.refl,m,h,g,q⟩
     | some P =>
      rw[e] at a q
      obtain⟨R,S,L,a,j,n⟩:=a
      rw[a]
      exact⟨_,L,M,H,I.tok _,.refl,m,j,n,q⟩
end
theorem RepN.snoc {ds:List (C5×D)}{k:C5}{b:Addr}{d:D}(r:RepN K M H ds xs)(h1:Rep K M H (nkD k) (.ref b))(h2:Rep K M H d v)(e:RelV v u):RepN K M H (ds++[(k,d)]) (xs++[(k,b,u)]):=by
 induction r with
 | nil=>exact .cons h1 h2 e .nil
 | cons a b c _ f=>exact .cons a b c f
theorem AG9 {ds:List (C5×D)}(r:RepN K M H ds xs):xs.length=ds.length:=by
 have:=congrArg BW0 (AG8 r)
 simpa using this
theorem AT3 {a:Addr}(hs:(a==BW5)=false)(f:h.DictOfH (V8 P w) a xs):ObjOk P w H h a (.ext (dnφ xs)):=by
 obtain⟨o,g,i,e,j,k,l,r,m⟩:=f
 exact⟨⟨hs,o,g,i,e,j,k,l,m⟩,⟨o,e⟩,fun s t ⟨z,n,b,c,p,q⟩ d=>⟨z,n,b,c,d _ p,q⟩⟩
section
variable {X:Cx}{tg iter elt kx vx:Expr}{ifs:List Expr}{scope:Scope}{N:List Str}{te tk tv:TE3}{pos:Pos}
def tbN (tk tv:TE3)(p:Addr)(acc:List (C5×D))(P:List (C5×D)->Mem->Prop)(σ:Lo)(M:Mem):Prop:=tk σ M fun e M2=>tv σ M2 fun f M3=>∃q:C5,e=nkD q/\BR3 q acc=none/\M3 p=some (.dn acc)/\acc.length<BQ6/\P (acc++[(q,f)]) (D8 M3 p (.dn (acc++[(q,f)])))
theorem AK3 (hu:X.A.units+2<cLine)(he:∀cl s₀ H₀ ex,PE3 (F3 X scope cl s₀ H₀ ex N) kx tk)(hv:∀cl s₀ H₀ ex,PE3 (F3 X scope cl s₀ H₀ ex N) vx tv):CB X tg iter ifs scope N (.DictComp kx vx [⟨tg,iter,ifs,0⟩] scope pos) newDict "dict" (.dict #[]) (.ext (dnφ [])) [] .dn (tbN tk tv)
  (fun D env s R=>wpAny (model X.prog X.w) X.A (eval kx env) (fun x t=>wpAny (model X.prog X.w) X.A (eval vx env) (fun y u=>wpAny (model X.prog X.w) X.A (dictSet D x y) (fun _=>R) (fun _ _=>False) u) (fun _ _=>False) t) (fun _ _=>False) s) where
 cl:=rfl
 fr:=rfl
 new:=fun h=>BT4 h
 lay:=fun{c j H s} I=>I.laid (a:=s.heap.objs.size) (o:=.ext (dnφ [])) (h':=s.heap.push {cls:=.type "dict",data:=.dict #[]}) (t':=s.toks) (fun _ _ q=>BP4 _ q) (BP5 _) (AT3 (beq_eq_false_iff_ne.mpr (Ne.symm (BS3 I.big))) (Heap.DictOfH.new s.heap))
 r0:=⟨[],rfl,.nil⟩
 lp:=fun I v n h=>RB I v n h
 st:=codeAny_compStart_dict
 bd:=fun{cl s₀ H₀ ex c s j H σ M D F P R} I hS m q k=>by
  refine thn (he cl s₀ H₀ ex c s j H σ M _ I hS m q) fun xk G l=>?_
  obtain⟨ek,vk,J,K,L,g,O,Q,d,S⟩:=l
  refine thn (hv cl s₀ H₀ ex c G j K σ J _ L (hS.mono g) O S) fun xv T l=>?_
  obtain⟨ev,vv,M11,U,p,i,f,V,r,E,rfl,z,e,hlt2,W⟩:=l
  obtain⟨kb,rfl⟩:=RI d
  obtain rfl:_=Value.ref kb:=Q
  have b:=d.mono i
  obtain⟨xs,rO,Y,dd⟩:=dn3 p f e
  obtain⟨ho,B,_⟩:=f D _ e
  have C:=MP rO E
  rw[z] at C
  refine wpAny_dictSet_heap (knd:=V8 X.prog X.w) (hsz:=by rw[AG9 rO];lia) (by first|exact(show X.A.units+1<cLine by lia)|(show Around.units _+1<_;lia)) (UJ p b) dd fun h' hD Z=>?_
  rw[storedH_new C] at hD
  have he':∃q,h'.get? D=some q:=let ⟨q,_,_,hq,_⟩:=hD;⟨q,hq⟩
  have I12:=EH (t':=T.toks+nDr E) p (by rw[B];have hr:=(f D _ e);obtain⟨ho2,e2,r2⟩:=hr;rw[B] at e2;cases e2;cases ho<;>first|exact(r2:False).elim|exact True.intro) Z he' (AT3 (H:=upd U D (.ext (dnφ (xs++[(E,kb,xv)])))) Y hD)
  exact k _ _ _ _ I12 (g.trans (i.trans (Step.put (.inr (by rw[e];simp))))) (f.put (.inr (by rw[e];simp)) (o:=.dn (F++[(E,ev)])) ⟨_,rfl,rO.snoc b r V⟩) W
end
def AS5 (r:M3)(to:TE3)(t:TA3):TE3:=fun σ M Q=>to σ M fun x M1=>∃a kvs,x=.ref a/\M1 a=some (.dn kvs)/\t σ M1 fun xs M2=>r x xs M2 Q
section
variable {X:Cx}{o e:Expr}{es:List Expr}{to:TE3}{t:TA3}{name:Str}{apos cpos:Pos}{id:String}{r:M3}
theorem BB6 (E:PlainAttrs "dict")(slot:Slot "dict" name id)(n:typeOf (.builtin id)=pure (.type "method_descriptor"))(F:MtR3 X id r)(ho:PE3 X o to)(G:PA3 X (e::es) t)
  (f:attributeBase o name X.env (eval o X.env)=eval o X.env:=by rfl)
  (j:((CD9 cpos (BR9 (e::es) X.env)).all (fun x=>!x.1) && (backToKw cpos (keywordEach [] X.env)).all (fun x=>x.1.isSome)
   && decide ((e::es).length+([]:List Keyword).length+(if ([]:List Keyword).isEmpty then 0 else 1)<30))=true:=by rfl)
  (g:(apos.endLine==cpos.line)=true:=by rfl) (hs:BR9 (e::es) X.env=(false,eval e X.env)::BR9 es X.env:=by rfl) (c:(CD9 cpos (BR9 es X.env)).any (·.1)=false:=by rfl) :
  PE3 X (.Call (.Attribute o name apos) (e::es) [] cpos) (AS5 r to t):=by
 intro a s i H w M Q I y J h
 refine wpAny_Call_method_late f j g rfl (thn (ho a s i H w M _ I y J h) fun v A ⟨d,xv,K,L,B,k,m1,N,O,l,P,R,p,S⟩=>?_)
 subst R
 obtain⟨xs,rN,T,C⟩:=dn3 B m1 p
 cases O
 obtain rfl:v=Value.ref l:=N
 have U:∀b,Value.ref l=.ref b->∃m,A.heap.get? b=some m/\m.dict=none:=fun b e=>by
  injection e with e
  subst e
  obtain⟨m,_,_,g1,g2,_⟩:=C
  exact⟨m,g1,g2.2.1⟩
 refine⟨"dict",id,E,slot,n,C.typeIs,U,?_⟩
 have D:=G cpos a A i L w K _ B (y.mono k) m1 S
 rw[hs] at D ⊢
 refine CE7 (by show(false || (CD9 cpos (BR9 es X.env)).any (·.1))=false;rw[c]<;>rfl) (Calls.evalArgs_plain ?_)
 exact thn D fun V W ⟨Y,Z,M2,H2,I2,q,m2,u,p2,q2⟩=>thn (F a W i H2 M2 (.ref l) Y (.ref l) Z (.ref l) V Q I2 m2 rfl u .ref p2 q2) fun _ _ z=>z.trans (k.trans q)
instance rd_bn {σ:Lo}{M:Mem}{Q:DK}:RdC (AS5 r to t σ M Q) (to σ M fun x M1=>∃a kvs,x=.ref a/\M1 a=some (.dn kvs)/\t σ M1 fun xs M2=>r x xs M2 Q):=⟨fun h=>h⟩
end
def NH (ti:TI3)(n:Nat)(slots:List Nat)(g:TG3)(tt:TT3)(tk tv:TE3):TE3:=fun σ M Q=>tCG [] .dn (tbN tk tv) ti n slots g tt (fun p _ M=>Q (.ref p) M) σ M
def AM5:Expr->Bool
 | .Slice ..=>false
 | _=>true
def nE (x:Ext)(R:Rc)(Γ:Ct)(e:Expr):Option TE3:=match e with
 | .DictComp k v gens scope p=>match rCp x R Γ gens scope p with
  | some c=>some (NH c.ti c.n c.sl (gD c.g) c.tt (R.E c.Γ k) (R.E c.Γ v))
  | none=>none
 | .Subscript a b pos=>match Γ.h pos,AM5 b with
  | 4,true=>some (A6 GN (R.E Γ a) (R.E Γ b))
  | _,_=>none
 | _=>none
def BG9 (x:Ext):Ext:={CJ with E:=nE x}
theorem AK7 {x:Ext}(r:ExtOk x):ExtOk (BG9 x):={J9 with
 E:=fun R d i X o e t h=>by
  have j:=(d i X o).1
  replace h:nE x R i e=some t:=h
  unfold nE at h
  split at h
  ·rename_i k v l f p
   split at h
   ·rename_i c s
    cases h
    obtain⟨z,A,u,w,m,q⟩:=ZJ r d o s
    cases q.eq
    rw[q.n]
    exact RN (q.ch o.calm) (AK3 o.un (fun g a b ex=>(d _ _ (q.o g a b ex)).1 _) (fun g a b ex=>(d _ _ (q.o g a b ex)).1 _)) SN rfl
   ·cases h
  ·split at h
   ·rename_i _ y
    cases h
    exact AD0 o.un (j _) (j _) (AB7 fun _ _ _ _ e=>by subst e;cases y)
   ·cases h
  ·cases h}
def fE (R:Rc)(Γ:Ct)(e:Expr):Option TE3:=match e with
 | .Subscript a (.Slice none none (some s) _) pos=>match Γ.h pos with
  | 5=>some (JY (AO (R.E Γ a)) (K2 (R.E Γ s)))
  | _=>none
 | _=>none
def extF:Ext:={CJ with E:=fE}
theorem extF_ok:ExtOk extF:={J9 with
 E:=fun R c a X o e t h=>by
  have b:=(c a X o).1
  replace h:fE R a e=some t:=h
  unfold fE at h
  split at h
  ·split at h
   ·cases h;exact UQ (PC (b _)) (GH (b _))
   ·cases h
  ·cases h}
def mE (R:Rc)(Γ:Ct)(e:Expr):Option TE3:=match e with
 | .Call (.Attribute ob m ap) (a::as) [] pos=>match Γ.h pos,(m=="get" && ap.endLine==pos.line && !(a::as).any isStar && UK ob && decide ((a::as).length<30)) with
  | 4,true=>some (AS5 MG (R.E Γ ob) (rA (R.E Γ) (a::as)))
  | _,_=>none
 | _=>none
def extM:Ext:={CJ with E:=mE}
theorem extM_ok:ExtOk extM:={J9 with
 E:=fun R i c X o e t h=>by
  have d:=(i c X o).1
  replace h:mE R c e=some t:=h
  unfold mE at h
  split at h
  ·rename_i u m v a j k
   split at h
   ·rename_i _ f
    cases h
    rw[BQ0,BQ0,BQ0,BQ0,BU8] at f
    obtain⟨⟨⟨⟨l,n⟩,g⟩,p⟩,q⟩:=f
    have r:m="get":=eq_of_beq l
    subst r
    have s:=HX d (a::j)
    have b:=g
    rw[BT6,BU0] at b
    refine BB6 PySem.F.plainAttrs_dict PySem.F.slot_dict_get PySem.F.type_dict_get (AB4 o.un) (d _) s (SI p) ?_ n (F1 b.1 _ _) (GY b.2)
    rw[BQ0,BQ0]
    exact⟨⟨JT g,rfl⟩,by simpa using q⟩
   ·cases h
  ·cases h}
end L3
namespace CH
open PySem L2 L3
abbrev FD:List Str:=["rule","place","outer","deed","number"]
def X5:TS3 :=
  (A8 (AN (O1 (A7 GO.spAround (A0 (A4 0) (A0 (A4 1) A5)))) (U6 [2,3,4]) (C1 (B1 (A6 D6 (A6 B7 (A4 3) (tC3 (.int 0))) (tC3 (.str "while")))) (B4 (A4 2)) B6))
  (B4 (tC3 .non)))
abbrev FC:List Str:=["row"]
def X4:TS3 :=
  (B4 (A6 (Z2 false) (A6 B7 (A4 0) (tC3 (.int 0))) (C0 (A0 (tC3 (.str "test")) (A0 (tC3 (.str "jump")) (A0 (tC3 (.str "leave")) (A0 (tC3 (.str "resume")) A5)))))))
abbrev KQ:List Str:=["row"]
def BX:TS3 :=
  (A8 (C1 (B1 (A6 D6 (A6 B7 (A4 0) (tC3 (.int 0))) (tC3 (.str "done")))) (B4 (C0 (A0 (tC3 (.str "end")) A5))) B6)
  (A8 (C1 (CY (B1 (A6 D6 (A6 B7 (A4 0) (tC3 (.int 0))) (tC3 (.str "last")))) (B1 (A6 D6 (A6 B7 (A4 0) (tC3 (.int 0))) (tC3 (.str "resume"))))) (B4 (BO (A4 0) G4 (K2 (tC3 (.int 2))))) B6)
  (B4 (C0 (A0 (tC3 (.str "deed")) (A0 (A6 B7 (A4 0) (tC3 (.int 1))) A5))))))
abbrev YM:List Str:=["told"]
def QF:TS3 :=
  (B4 (SJ (B1 (A6 D6 (A6 B7 (A4 0) (tC3 (.int 0))) (tC3 (.str "test")))) (C0 (A0 (tC3 (.str "deed")) (A0 (A6 B7 (A4 0) (tC3 (.int 1))) A5))) (A4 0)))
abbrev VZ:List Str:=["rule","place","outer"]
def KB:TS3 :=
  (A8 (B8 2 (A7 AI6 (A0 (A4 0) (A0 (A4 1) A5))))
  (B4 (SJ (B1 (A6 RW (A4 2) (tC3 .non))) (P0 J4 (tC3 (.int 1))) (A7 (GO.spBehind 20) (A0 (A4 0) (A0 (A4 2) A5))))))
abbrev HU:List Str:=["rule","block","ahead","rows","at"]
def AA (q_draft_block q_draft_inner q_draft_if q_draft_while q_draft_try q_draft_deed:Sp3):TS3 :=
  (A8 (B8 3 (J2 A5))
  (A8 (O4 (O3 (A0 (F2 E2 (A0 (A4 1) A5)) A5)) 4 (F5 (Q5 "list" GJ (A4 3) (A0 (A7 q_draft_deed (A0 (A4 0) (A0 (A6 D0 (A4 2) (C0 (A0 (A4 4) A5))) A5))) A5))))
  (B4 (A4 3))))
abbrev HV:List Str:=["rule","place","number"]
def AB (q_draft_block q_draft_inner q_draft_if q_draft_while q_draft_try q_draft_deed:Sp3):TS3 :=
  (B4 (A7 q_draft_block (A0 (A4 0) (A0 (A6 B7 (A7 MK.BK (A0 (A7 K12.spDeedAt (A0 (A4 0) (A0 (A4 1) A5))) A5)) (A4 2)) (A0 (A6 D0 (A4 1) (C0 (A0 (A4 2) A5))) A5)))))
abbrev QT:List Str:=["rule","place","deed","thens"]
def HG (q_draft_block q_draft_inner q_draft_if q_draft_while q_draft_try q_draft_deed:Sp3):TS3 :=
  (A8 (C1 (B1 (A6 D6 (F2 E2 (A0 (A6 B7 (A4 2) (tC3 (.int 3))) A5)) (tC3 (.int 0)))) (B4 (A6 G5 (G0 (A0 (C0 (A0 (tC3 (.str "test")) (A0 (A4 1) (A0 (A7 (GO.spBehind 20) (A0 (A4 0) (A0 (A4 1) A5))) A5)))) A5)) (A7 q_draft_inner (A0 (A4 0) (A0 (A4 1) (A0 (tC3 (.int 0)) A5)))))) B6)
  (A8 (B8 3 (A6 G5 (G0 (A0 (C0 (A0 (tC3 (.str "test")) (A0 (A4 1) (A0 (C0 (A0 (tC3 (.str "deed")) (A0 (A6 D0 (A4 1) (C0 (A0 (tC3 (.int 1)) (A0 (tC3 (.int 0)) A5)))) A5))) A5)))) A5)) (A7 q_draft_inner (A0 (A4 0) (A0 (A4 1) (A0 (tC3 (.int 0)) A5))))))
  (B4 (A6 G5 (A6 G5 (A4 3) (G0 (A0 (C0 (A0 (tC3 (.str "jump")) (A0 (A7 (GO.spBehind 20) (A0 (A4 0) (A0 (A4 1) A5))) A5))) A5))) (A7 q_draft_inner (A0 (A4 0) (A0 (A4 1) (A0 (tC3 (.int 1)) A5))))))))
abbrev HW:List Str:=["rule","place"]
def AC (q_draft_block q_draft_inner q_draft_if q_draft_while q_draft_try q_draft_deed:Sp3):TS3 :=
  (B4 (A6 G5 (A6 G5 (G0 (A0 (C0 (A0 (tC3 (.str "test")) (A0 (A4 1) (A0 (A7 (GO.spBehind 20) (A0 (A4 0) (A0 (A4 1) A5))) A5)))) A5)) (A7 q_draft_inner (A0 (A4 0) (A0 (A4 1) (A0 (tC3 (.int 0)) A5))))) (G0 (A0 (C0 (A0 (tC3 (.str "jump")) (A0 (C0 (A0 (tC3 (.str "test")) (A0 (A4 1) A5))) A5))) A5))))
abbrev NS:List Str:=["rule","place","deed","after","rows","number","lasts"]
def DW (q_draft_block q_draft_inner q_draft_if q_draft_while q_draft_try q_draft_deed:Sp3):TS3 :=
  (A8 (B8 3 (SJ (B1 (A7 (K12.spTold K12.hasL) (A0 (A4 2) A5))) (C0 (A0 (tC3 (.str "last")) (A0 (A4 1) A5))) (A7 (GO.spBehind 20) (A0 (A4 0) (A0 (A4 1) A5)))))
  (A8 (B8 4 (A6 G5 (G0 (A0 (C0 (A0 (tC3 (.str "open")) (A0 (A4 1) A5))) A5)) (A7 q_draft_inner (A0 (A4 0) (A0 (A4 1) (A0 (tC3 (.int 0)) A5))))))
  (A8 (O4 (FS (A0 (tC3 (.int 1)) (A0 (A6 D0 (F2 E2 (A0 (A6 B7 (A4 2) (tC3 (.int 2))) A5)) (tC3 (.int 1))) A5))) 5 (A8 (F5 (Q5 "list" E4 (A4 4) (A0 (C0 (A0 (tC3 (.str "jump")) (A0 (A4 3) A5))) A5)))
  (F5 (Q5 "list" GJ (A4 4) (A0 (A7 q_draft_inner (A0 (A4 0) (A0 (A4 1) (A0 (A4 5) A5)))) A5)))))
  (A8 (C1 (W5 (B1 (A7 (K12.spTold K12.hasL) (A0 (A4 2) A5)))) (B4 (A4 4)) B6)
  (A8 (B8 6 (A7 q_draft_inner (A0 (A4 0) (A0 (A4 1) (A0 (A6 D0 (F2 E2 (A0 (A6 B7 (A4 2) (tC3 (.int 2))) A5)) (tC3 (.int 1))) A5)))))
  (B4 (A6 G5 (A6 G5 (A6 G5 (A4 4) (G0 (A0 (C0 (A0 (tC3 (.str "last")) (A0 (A4 1) A5))) A5))) (A4 6)) (G0 (A0 (C0 (A0 (tC3 (.str "resume")) (A0 (A4 1) (A0 (A7 MY (A0 (A4 0) (A0 (A4 1) A5))) A5)))) A5)))))))))
abbrev KO:List Str:=["rule","place","deed"]
def BV (q_draft_block q_draft_inner q_draft_if q_draft_while q_draft_try q_draft_deed:Sp3):TS3 :=
  (A8 (B8 2 (A7 K12.spDeedAt (A0 (A4 0) (A0 (A4 1) A5))))
  (A8 (C1 (B1 (A6 D6 (A6 B7 (A4 2) (tC3 (.int 0))) (tC3 (.str "if")))) (B4 (A7 q_draft_if (A0 (A4 0) (A0 (A4 1) (A0 (A4 2) A5))))) B6)
  (A8 (C1 (B1 (A6 D6 (A6 B7 (A4 2) (tC3 (.int 0))) (tC3 (.str "while")))) (B4 (A7 q_draft_while (A0 (A4 0) (A0 (A4 1) A5)))) B6)
  (A8 (C1 (B1 (A6 D6 (A6 B7 (A4 2) (tC3 (.int 0))) (tC3 (.str "try")))) (B4 (A7 q_draft_try (A0 (A4 0) (A0 (A4 1) (A0 (A4 2) A5))))) B6)
  (A8 (C1 (B1 (A6 D6 (A6 B7 (A4 2) (tC3 (.int 0))) (tC3 (.str "leave")))) (B4 (J2 (A0 (C0 (A0 (tC3 (.str "leave")) (A0 (A4 1) (A0 (A7 MY (A0 (A4 0) (A0 (A4 1) A5))) A5)))) A5))) B6)
  (B4 (J2 (A0 (C0 (A0 (AS6 tblW (A6 B7 (A4 2) (tC3 (.int 0)))) (A0 (A4 1) A5))) A5))))))))
abbrev KP:List Str:=["draft"]
def BW:TS3 :=
  (B4 (NH (CK (A4 0)) 2 [] (U6 [0,1]) (B1 (A6 CU (A6 B7 (A4 1) (tC3 (.int 0))) (tC3 (.str "jump")))) (A7 GW (A0 (A4 1) A5)) (A4 0)))
abbrev QU:List Str:=["row","numbers"]
def HJ:TS3 :=
  (A8 (C1 (CY (W5 (B1 (A7 VL (A0 (A4 0) A5)))) (B1 (A6 D6 (A6 B7 (A4 0) (P0 J4 (tC3 (.int 1)))) (P0 J4 (tC3 (.int 1)))))) (B4 (A4 0)) B6)
  (B4 (A6 D0 (BO (A4 0) G4 (K2 (P0 J4 (tC3 (.int 1))))) (C0 (A0 (A6 GN (A4 1) (A7 AV0 (A0 (A6 B7 (A4 0) (P0 J4 (tC3 (.int 1)))) A5))) A5)))))
abbrev NT:List Str:=["rule","place","numbers","catches","last","first","own"]
def DX:TS3 :=
  (A8 (B8 3 (F2 J3 (A0 (N6 (O3 (A0 (F2 E2 (A0 (A6 B7 (A7 K12.spDeedAt (A0 (A4 0) (A0 (A4 1) A5))) (tC3 (.int 2))) A5)) A5)) 1 [2,1] (J0 0) L5 (A6 GN (A4 1) (C0 (A0 (tC3 (.str "deed")) (A0 (A6 D0 (A4 2) (C0 (A0 (A6 D0 (A4 0) (tC3 (.int 1))) (A0 (tC3 (.int 0)) A5)))) A5))))) A5)))
  (A8 (B8 4 (AS5 MG (A4 2) (A0 (C0 (A0 (tC3 (.str "last")) (A0 (A4 1) A5))) (A0 (P0 J4 (tC3 (.int 1))) A5))))
  (A8 (B8 5 (A6 GN (A4 2) (C0 (A0 (tC3 (.str "deed")) (A0 (A6 D0 (A4 1) (C0 (A0 (tC3 (.int 0)) (A0 (tC3 (.int 0)) A5)))) A5)))))
  (A8 (C1 (B1 (A6 D6 (F2 E2 (A0 (A4 3) A5)) (tC3 (.int 0)))) (B4 (J2 (A0 (C0 (A0 (A4 5) (A0 (A4 4) (A0 (A4 1) (A0 (C0 A5) (A0 (A4 4) A5)))))) A5))) B6)
  (A8 (B8 6 (C0 (A0 (A4 5) (A0 (A6 B7 (A4 3) (tC3 (.int 0))) (A0 (A4 1) (A0 (A4 3) (A0 (A4 4) A5)))))))
  (B4 (SJ (B1 (A6 D6 (A4 4) (P0 J4 (tC3 (.int 1))))) (J2 (A0 (A4 6) A5)) (J2 (A0 (A4 6) (A0 (C0 (A0 (A6 B7 (A4 3) (tC3 (.int 0))) (A0 (A4 4) (A0 (A4 1) (A0 (C0 A5) (A0 (A4 4) A5)))))) A5))))))))))
abbrev VY:List Str:=["rule","draft","numbers","guards","place"]
def JZ:TS3 :=
  (A8 (B8 1 (A6 G5 (A7 (IJ 24) (A0 (A4 0) (A0 (A6 B7 (A4 0) (tC3 (.int 2))) (A0 (C0 A5) A5)))) (G0 (A0 (C0 (A0 (tC3 (.str "done")) A5)) A5))))
  (VR 1 (A8 (B8 2 (A7 AI4 (A0 (A4 1) A5)))
  (A8 (B8 3 (J2 A5))
  (A8 (O4 (O1 (JY (AO (A7 K11.spPlacesR (A0 (A4 0) A5))) (K2 (P0 J4 (tC3 (.int 1)))))) 4 (C1 (B1 (A6 D6 (A6 B7 (A7 K12.spDeedAt (A0 (A4 0) (A0 (A4 4) A5))) (tC3 (.int 0))) (tC3 (.str "try")))) (F5 (Q5 "list" GJ (A4 3) (A0 (A7 AV1 (A0 (A4 0) (A0 (A4 4) (A0 (A4 2) A5)))) A5))) B6))
  (B4 (C0 (A0 (F2 J3 (A0 (N6 (O1 (A4 1)) 1 [2] (J0 0) L5 (A7 AI3 (A0 (A4 0) (A0 (A4 1) A5)))) A5)) (A0 (F2 J3 (A0 (A4 3) A5)) A5)))))))))
end CH
open L3
namespace CH
open PySem L2 L3 MK K11 K12 GO CD
def wd:Row->Str
 | .own w _=>w
 | .test _ _=>"test"
 | .jump _=>"jump"
 | .lv w _ _=>w
 | .done=>"done"
theorem Q1 {Q:DK}(q:Q (.str (wd row)) M):B7 (G8 row) (.int 0) M Q:=by
 cases row<;>exact B5 rfl q
theorem EM {w:Str}(h:AC5 w)(a:(x="test"\/x="jump"\/x="leave"\/x="resume"\/x="done")):(w==x)=false:=by
 rcases h with rfl|rfl|rfl|rfl|rfl|rfl<;>rcases a with rfl|rfl|rfl|rfl|rfl<;>decide
theorem rd_tells_number:∀ds M Q,VL ds M Q->X4 {nx:=fun _ M'=>View Q .non M',rt:=View Q} (B9 FC ds) M:=by
 rintro _ M Q ⟨row,rfl,b,q⟩
 unfold X4
 walk_at "rd"
 refine Q1 ?_
 walk_at "rd"
 refine AG4 (ys:=["test","jump","leave","resume"]) rfl ?_
 have e:(["test","jump","leave","resume"]:List Str).any (·==wd row)=tells row:=by
  cases row with
  | own w p =>
   have h:=fun x a=>EM (x:=x) b a
   have c:∀x:Str,(x==w)=(w==x):=fun x=>by
    cases a:(w==x)
    ·exact beq_eq_false_iff_ne.mpr fun e=>by rw[e] at a;simp at a
    ·rw[eq_of_beq a];simp
   simp only[BT6,List.any_nil,wd,tells,c]
   rw[h "test" (.inl rfl),h "jump" (.inr (.inl rfl)),h "leave" (.inr (.inr (.inl rfl))),h "resume" (.inr (.inr (.inr (.inl rfl))))]
   rfl
  | test p d=>simp only[wd,tells];decide +kernel
  | jump d=>simp only[wd,tells];decide +kernel
  | lv w p d=>rcases b.1 with rfl|rfl<;>simp only[wd,tells]<;>decide +kernel
  | done=>simp only[wd,tells];decide +kernel
 rw[e,CB7]
 exact View.of q
theorem rd_stands_for:∀ds M Q,GW ds M Q->BX {nx:=fun _ M'=>View Q .non M',rt:=View Q} (B9 KQ ds) M:=by
 rintro _ M Q ⟨b,rfl,c,g,q⟩
 unfold BX
 walk_at "rd"
 refine Q1 ?_
 walk_at "rd"
 cases b with
 | jump d=>cases g
 | done =>
  refine C4 (by simp only[wd];decide +kernel) ?_
  walk_at "rd"
  exact View.of q
 | test p d =>
  refine A9 (by simp only[wd];decide +kernel) ?_
  walk_at "rd"
  refine Q1 ?_
  walk_at "rd"
  refine A9 (by simp only[wd];decide +kernel) ?_
  walk_at "rd"
  refine Q1 ?_
  walk_at "rd"
  refine A9 (by simp only[wd];decide +kernel) ?_
  walk_at "rd"
  refine B5 (d:=plT p) rfl ?_
  walk_at "rd"
  exact View.of q
 | lv w p d =>
  rcases c.1 with rfl|rfl
  ·refine A9 (by simp only[wd];decide +kernel) ?_
   walk_at "rd"
   refine Q1 ?_
   walk_at "rd"
   refine A9 (by simp only[wd];decide +kernel) ?_
   walk_at "rd"
   refine Q1 ?_
   walk_at "rd"
   refine A9 (by simp only[wd];decide +kernel) ?_
   walk_at "rd"
   refine B5 (d:=plT p) rfl ?_
   walk_at "rd"
   exact View.of q
  ·refine A9 (by simp only[wd];decide +kernel) ?_
   walk_at "rd"
   refine Q1 ?_
   walk_at "rd"
   refine A9 (by simp only[wd];decide +kernel) ?_
   walk_at "rd"
   refine Q1 ?_
   walk_at "rd"
   refine C4 (by simp only[wd];decide +kernel) ?_
   walk_at "rd"
   exact View.of q
 | own w p =>
  refine A9 (EM c (by simp)) ?_
  walk_at "rd"
  refine Q1 ?_
  walk_at "rd"
  by_cases f:w="last"
  ·subst f
   refine C4 (by simp only[wd];decide +kernel) ?_
   walk_at "rd"
   exact View.of q
  ·have a:(w==("last":Str))=false:=beq_eq_false_iff_ne.mpr f
   refine A9 a ?_
   walk_at "rd"
   refine Q1 ?_
   walk_at "rd"
   refine A9 (EM c (by simp)) ?_
   walk_at "rd"
   refine B5 (d:=plT p) rfl ?_
   walk_at "rd"
   have e:C7 (.own w p)=kd p:=by simp only[C7];rw[if_neg (by rw[a];decide)]
   rw[e] at q
   exact View.of q
theorem BI6 {k:C5}{Q:DK}(q:Q (.str k.1) M):B7 (nkD k) (.int 0) M Q:=by
 obtain⟨w,p⟩:=k
 cases p<;>exact B5 rfl q
theorem rd_due_of:∀ds M Q,AV0 ds M Q->QF {nx:=fun _ M'=>View Q .non M',rt:=View Q} (B9 YM ds) M:=by
 rintro _ M Q ⟨k,rfl,hk,q⟩
 unfold QF
 walk_at "rd"
 refine BI6 ?_
 walk_at "rd"
 obtain⟨w,p⟩:=k
 by_cases a:(w==("test":Str))=true
 ·refine C4 a ?_
  have b:=eq_of_beq a
  subst b
  rcases hk with⟨_,f⟩|hk
  ·cases p with
   | none=>exact absurd rfl f
   | some p =>
    walk_at "rd"
    refine B5 (d:=plT p) rfl ?_
    walk_at "rd"
    exact View.of q
  ·cases hk
 ·have c:(w==("test":Str))=false:=by simpa using a
  refine A9 c ?_
  walk_at "rd"
  have e:J6 (w,p)=(w,p):=by simp only[J6];rw[if_neg a]
  rw[e] at q
  exact View.of q
end CH
open L3
namespace CH
open PySem L2 L3 MK K11 K12 GO CD
def whF (l:List (List Int×Deed×Int)):Option (List Int):=(l.find? fun x=>isW x.2.1).map (·.1)
theorem rd_while_around:∀ds M Q,AI6 ds M Q->X5 {nx:=fun _ M'=>View Q .non M',rt:=View Q} (B9 FD ds) M:=by
 rintro _ M Q ⟨r,p,d,rfl,s,t,q⟩
 unfold X5
 walk_at "rd"
 refine⟨r,p,d,rfl,s,t,?_⟩
 walk_at "rd"
 have w:=FE p.length (BP5 _) t
 have q:Q (match whF (ar r.blk p) with|some q=>plT q|none=>.non) M:=q
 generalize ar r.blk p=L at *
 refine⟨fun k f g=>g=M/\(∃i l m,f=[some (rD r),some (plT p),i,l,m])/\whF (L.drop k)=whF L,⟨rfl,⟨_,_,_,rfl⟩,rfl⟩,?_,?_⟩
 ·rintro k y f g x ⟨rfl,⟨i,l,m,rfl⟩,a⟩
  obtain⟨⟨q',b,j⟩,u,rfl⟩:=AM0 x
  have n:=w _ (BQ1 u)
  have o:=BF3 s n
  obtain⟨h,v,z,A,_⟩:=LJ b
  rw[ZV u] at a
  refine T9 rfl ?_
  walk_at "rd"
  show B7 (dD b) _ _ _
  rw[z]
  refine B5 (d:=.str h) (C2 (j:=0) rfl) ?_
  walk_at "rd"
  rw[A o]
  cases e:isW b with
  | true =>
   have c:whF ((q',b,j)::L.drop (k+1))=some q':=by simp[whF,e]
   rw[c] at a
   rw[<-a] at q
   walk_at "rd"
   exact View.of q
  | false =>
   have c:whF ((q',b,j)::L.drop (k+1))=whF (L.drop (k+1)):=by simp[whF,e]
   rw[c] at a
   walk_at "rd"
   exact⟨rfl,⟨_,_,_,rfl⟩,a⟩
 ·rintro f g ⟨rfl,⟨i,l,m,rfl⟩,a⟩
  rw[BP1,List.drop_length] at a
  have c:whF []=none:=rfl
  rw[c] at a
  rw[<-a] at q
  walk_at "rd"
  exact View.of q
theorem rd_left_to:∀ds M Q,MY ds M Q->KB {nx:=fun _ M'=>View Q .non M',rt:=View Q} (B9 VZ ds) M:=by
 rintro _ M Q ⟨r,p,d,rfl,b,f,q⟩
 unfold KB
 walk_at "rd"
 refine⟨r,p,d,rfl,b,f,?_⟩
 cases hA:whA r.blk p with
 | none =>
  have e:lfT r.blk p=none:=by unfold lfT;rw[hA];rfl
  rw[e] at q
  walk_at "rd"
  exact View.of q
 | some o =>
  have e:lfT r.blk p=some (bhN r.blk o):=by unfold lfT;rw[hA];rfl
  rw[e] at q
  have g:∃c,(o,c)∈prB r.blk [] 0:=by
   unfold whA at hA
   obtain⟨x,h,rfl⟩:=Option.map_eq_some_iff.mp hA
   exact⟨_,(FE p.length (BP5 _) f x (CD7 h)).at_⟩
  obtain⟨c,a⟩:=g
  walk_at "rd"
  refine A9 rfl ?_
  walk_at "rd"
  refine⟨r,o,c,rfl,b,a,by have:=J7 b a;lia,?_⟩
  rw[EF r.blk o.length o (BP5 _)]
  exact View.of q
end CH
open L3
namespace CH
open PySem L2 L3 MK K11 K12 GO CD
open TK (neD neB O6)
def drL (b:Blk):List Deed->List Int->Nat->List Row
 | [],_,_=>[]
 | d::l,ah,n=>drD b d (ah++[(n:Int)])++drL b l ah (n+1)
theorem ZU (b:Blk):∀(bk:Blk) (ah:List Int) (n:Nat),drB b bk ah n=drL b (toL bk) ah n
 | .nil,_,_=>rfl
 | .cons d r,ah,n=>by simp[drB,toL,drL,ZU b r]
theorem OF (b:Blk):∀(l:List Deed) (d:Deed) (ah:List Int) (n:Nat),drL b (l++[d]) ah n=drL b l ah n++drD b d (ah++[((n+l.length:Nat):Int)])
 | [],d,ah,n=>by simp[drL]
 | x::l,d,ah,n=>by
  simp only[List.cons_append,drL,OF b l d ah (n+1),BS9,BP8]
  rw[show n+1+l.length=n+(l.length+1) by lia]
theorem TM (b:Blk):∀(l k:List Deed) (ah:List Int) (n:Nat),drL b (l++k) ah n=drL b l ah n++drL b k ah (n+l.length)
 | [],k,ah,n=>by simp[drL]
 | x::l,k,ah,n=>by
  simp only[List.cons_append,drL,TM b l k ah (n+1),BS9,BP8]
  rw[show n+1+l.length=n+(l.length+1) by lia]
theorem K8 {es:List Int}{Q:DK}(h:ah.length+es.length<=100)(q:Q (plT (ah++es)) M):D0 (plT ah) (.tup (es.map D.int)) M Q:=by
 refine T7 (by rw[BP1,BP1,BR0];lia) ?_
 rw[<-BR4];exact q
theorem LS:∀(bk:Blk) (i:Nat) (d':Deed),neB bk->(toL bk)[i]?=some d'->neD d'
 | .nil,i,d',_,h=>by simp[toL] at h
 | .cons x y,0,d',a,h=>by
  have e:x=d':=by simpa[toL] using h
  subst e;exact a.1
 | .cons x y,i+1,d',a,h=>LS y i d' a.2 (by simpa[toL] using h)
theorem BH4 {d0:Deed}(g:Go d0 r d):neD d0->neD d:=by
 induction g with
 | nil=>exact id
 | @cons h bs j i bk a d r b c _ e=>exact fun f=>e (LS bk i a (V7 bs j bk f.2 b) c)
theorem S2 {r:Rl}(a:rFN r)(h:(p,d)∈prB r.blk [] 0):neD d:=by
 obtain⟨k,c,e,_,b,g⟩:=W0 r.blk [] 0 p d h
 exact BH4 g (LS _ _ _ a.2 b)
theorem R1 {r:Rl}(e:rFN r)(h:(p,d)∈prB r.blk [] 0):F8 d<=100/\okD d/\dpD d<=4:=by
 have ok:=BH e.1.1 h
 obtain⟨k,q,d0,_,f,g⟩:=W0 r.blk [] 0 p d h
 have s:=O5 r.blk d0 (BQ1 f)
 have n:∀{d0 d:Deed} {r:List Int},Go d0 r d->F8 d<=F8 d0/\dpD d<=dpD d0:=by
  intro d0 d r g
  induction g with
  | nil=>exact⟨BP5 _,BP5 _⟩
  | @cons h bs j i bk l d r f o _ m =>
   have a:=E8 bs bk (BQ1 f)
   have b:=O5 bk l (BQ1 o)
   simp only[F8,dpD]
   constructor
   ·have:=m.1;lia
   ·have:=m.2;have:dpD l<=L8 bs:=by lia
    lia
 obtain⟨a,c⟩:=n g
 exact⟨by have:=e.1.2.2;lia,ok,by have:=e.1.2.1;lia⟩
theorem RD {r:Rl}(e:rFN r)(h:(p,d)∈prB r.blk [] 0):(drD r.blk d p).length<=300:=by
 obtain⟨a,b,c⟩:=R1 e h
 have:=AL8 (b:=r.blk) (F8 d) d p (BP5 _) b (S2 e h)
 lia
theorem N7 {Q:DK}{f:Addr}{M1:Mem}{l:List D}(b:M f=none)(h1:M1 f=some (.lst l))(h:∀a,M a≠none->M1 a=M a)(q:bkL M Q l):View Q (.ref f) M1 :=
 View.onlyR (fun a _ c=>h a c) (q f _ b (by rw[if_pos rfl];exact h1) fun x d=>by rw[if_neg d])
theorem zero_draft_block:∀ds M Q,¬IJ 0 ds M Q:=by rintro _ _ _ ⟨_,_,_,_,_,_,_,_,_,_,h,_⟩;lia
theorem rd_draft_block:∀n ds M Q,IJ (n+1) ds M Q->AA (IJ n) (IK n) (BJ n) (MV n) (MU n) (MT n) {nx:=fun _ M'=>View Q .non M',rt:=View Q} (B9 HU ds) M:=by
 rintro m _ M Q ⟨r,bk,g,rfl,I,J,T,ok,ne,s,U,q⟩
 unfold AA
 walk_at "rd"
 intro f t
 walk_at "rd"
 have u:(dB bk).length=(toL bk).length:=by rw[IY,BP1]
 have F:=VU bk
 rw[u]
 refine⟨by lia,by lia,fun k v l=>∃w,v=[some (rD r),some (.tup (dB bk)),some (plT g),some (.ref f),w]/\l f=some (.lst ((drL r.blk ((toL bk).take k) g 0).map G8))/\∀a,M a≠none->l a=M a,⟨_,rfl,B0,fun a o=>B3 fun e=>o (by rw[e];exact t)⟩,?_,?_⟩
 ·rintro k d v l K ⟨w,rfl,c,h⟩
  obtain⟨rfl,y⟩:=TK.rng_at K
  have y:k<(toL bk).length:=by simpa using y
  have i:=BQ2 y
  have L:=s k _ i
  have N:=O5 bk _ (BQ1 i)
  walk_at "rd"
  refine⟨.inl ⟨rfl,_,c⟩,?_⟩
  walk_at "rd"
  refine K8 (es:=[(k:Int)]) (by simp;lia) ?_
  walk_at "rd"
  refine⟨r,g++[(k:Int)],_,rfl,I,L,by lia,fun a O o P j=>?_⟩
  walk_at "rd"
  have z:f≠a:=fun e=>by rw[e,o] at c;cases c
  have A:O f=some (.lst ((drL r.blk ((toL bk).take k) g 0).map G8)):=by rw[j f z];exact c
  have R:(toL bk).take (k+1)=(toL bk).take k++[(toL bk)[k]]:=by rw[BY3,i];rfl
  have S:((toL bk).take k).length=k:=by rw[BT3];lia
  have G:drL r.blk ((toL bk).take (k+1)) g 0=drL r.blk ((toL bk).take k) g 0++drD r.blk (toL bk)[k] (g++[(k:Int)]):=by
   rw[R,OF,S,BS0]
  have H:=AL7 (AL8 (b:=r.blk) (C9 bk)) bk g 0 (BP5 _) ok ne
  have B:(drL r.blk ((toL bk).take (k+1)) g 0).length<=(drB r.blk bk g 0).length:=by
   have e:=TM r.blk ((toL bk).take (k+1)) ((toL bk).drop (k+1)) g 0
   rw[CF0,<-ZU] at e
   rw[e,BP7];lia
  rw[G,BP7] at B
  refine⟨f,a,_,_,rfl,rfl,A,P,by rw[BP1,BP1,BR0];lia,?_⟩
  refine⟨_,rfl,by rw[B0,G,BR4],fun x p=>?_⟩
  have C:x≠f:=fun e=>p (by rw[e];exact t)
  have E:x≠a:=fun e=>by
   have:=h x p
   rw[e,o] at this
   exact p (by rw[e];exact this.symm)
  rw[B3 C,j x E];exact h x p
 ·rintro v l ⟨w,rfl,c,h⟩
  have e:(drL r.blk ((toL bk).take (List.map (fun k:Nat=>D.int ↑k) (BS8 (Int.toNat ((toL bk).length:Nat)))).length) g 0)=drB r.blk bk g 0:=by
   rw[ZU];simp
  rw[e] at c
  walk_at "rd"
  exact N7 t c h q
end CH
open L3
namespace CH
open PySem L2 L3 MK K11 K12 GO CD
open TK (neD neB O6)
theorem zero_draft_inner:∀ds M Q,¬IK 0 ds M Q:=by rintro _ _ _ ⟨_,_,_,_,_,_,_,_,_,_,h,_⟩;lia
theorem rd_draft_inner:∀n ds M Q,IK (n+1) ds M Q->AB (IJ n) (IK n) (BJ n) (MV n) (MU n) (MT n) {nx:=fun _ M'=>View Q .non M',rt:=View Q} (B9 HV ds) M:=by
 rintro m _ M Q ⟨r,p,h,bs,j,bk,rfl,b,c,e,v,q⟩
 unfold AB
 walk_at "rd"
 refine⟨r,p,.mk h bs,rfl,b.1,c,?_⟩
 walk_at "rd"
 obtain⟨g,ok,i⟩:=R1 b c
 refine⟨h,bs,rfl,ok.1,?_⟩
 walk_at "rd"
 have f:atI (dTs bs) ((j:Nat):Int)=some (.tup (dB bk)):=by
  refine C2 ?_
  rw[J5,BQ3,e];rfl
 refine R4 f ?_
 walk_at "rd"
 have w:=J7 b.1 c
 refine K8 (es:=[(j:Int)]) (by simp;lia) ?_
 walk_at "rd"
 have l:=E8 bs bk (BQ1 e)
 simp only[F8] at g
 exact⟨r,bk,p++[(j:Int)],rfl,b,by simp;lia,by lia,l.2.2 ok.2,V7 bs j bk (S2 b c).2 e,fun k d o=>by have:=T5 c e o;rwa [show p++[(j:Int)]++[(k:Int)]=p++[(j:Int),(k:Int)] by simp],by lia,fun a M' s t u=>View.of (q a M' s t u)⟩
theorem P6 {m:Nat}{r:Rl}{h:Head}{bs:Bls}{bk:Blk}{Q:DK}(b:rFN r)(c:(p,.mk h bs)∈prB r.blk [] 0)(h1:(C6 bs)[j]?=some bk)(d:4*L8 bs<=m+1)
  (q:∀a M',M a=none->M' a=some (.lst ((nth (D1 r.blk bs p 0) j).map G8))->(∀x,x≠a->M' x=M x)->Q (.ref a) M'):IK m [rD r,plT p,.int ((j:Nat):Int)] M Q:=by
 have e:=E8 bs bk (BQ1 h1)
 refine⟨r,p,h,bs,j,bk,rfl,b,c,h1,by lia,?_⟩
 rw[O7 h1] at q
 exact q
theorem K3 {r:Rl}{Q:DK}(a:rFN r)(b:(p,d)∈prB r.blk [] 0)(q:Q (nkD (bhN r.blk p)) M):spBehind 20 [rD r,plT p] M Q :=
 ⟨r,p,d,rfl,a.1,b,by have:=J7 a.1 b;lia,by rw[EF r.blk p.length p (BP5 _)];exact q⟩
theorem zero_draft_while:∀ds M Q,¬MV 0 ds M Q:=by
 rintro _ _ _ ⟨r,p,e,bs,_,b,c,h,_⟩
 obtain⟨a,d,f⟩:=(S2 b c).1
 have:=E8 bs a (by rw[d];exact BQ7)
 lia
theorem rd_draft_while:∀n ds M Q,MV (n+1) ds M Q->AC (IJ n) (IK n) (BJ n) (MV n) (MU n) (MT n) {nx:=fun _ M'=>View Q .non M',rt:=View Q} (B9 HW ds) M:=by
 rintro m _ M Q ⟨r,p,e,bs,rfl,h,i,A,q⟩
 unfold AC
 obtain⟨a,B,J⟩:=(S2 h i).1
 have C:(C6 bs)[0]?=some a:=by rw[B];rfl
 have c:=RD h i
 have D:drD r.blk (.mk (.whl e) bs) p=.test p (bhN r.blk p)::(nth (D1 r.blk bs p 0) 0++[.jump (kt p)]):=rfl
 rw[D] at q c
 simp only[BP8,BP7,BR8] at c
 walk_at "rd"
 refine K3 h i ?_
 walk_at "rd"
 refine P6 (j:=0) h i C A fun x E F u d=>?_
 refine K9 (.inl rfl) (.inr ⟨x,rfl,u⟩) (by rw[BP1,BR0];simp;lia) fun y G=>?_
 walk_at "rd"
 refine K9 (.inr ⟨y,rfl,B0⟩) (.inl rfl) (by rw[BR0];simp;lia) fun z k=>?_
 have o:z≠y:=fun e=>by rw[e,B0] at k;cases k
 have b:E z=none:=by rw[B3 o] at k;exact k
 have s:z≠x:=fun e=>by rw[e,u] at b;cases b
 have g:M z=none:=by rw[<-d z s];exact b
 refine N7 (f:=z) g (l:=(Row.test p (bhN r.blk p)::(nth (D1 r.blk bs p 0) 0++[Row.jump (kt p)])).map G8) (by rw[B0];simp[G8];rfl) (fun w t=>?_) q
 have H:w≠z:=fun e=>t (by rw[e];exact g)
 have v:w≠x:=fun e=>t (by rw[e];exact F)
 have I:w≠y:=fun e=>t (by rw[<-d w v,e];exact G)
 rw[B3 H,B3 I];exact d w v
end CH
open L3
namespace CH
open PySem L2 L3 MK K11 K12 GO CD
open TK (neD neB O6)
def keepM (M M1:Mem):Prop:=∀w,M w≠none->M1 w=M w
theorem keepM.refl:keepM M M:=fun _ _=>rfl
theorem keepM.bk {M1 M2:Mem}{x:Addr}(k:keepM M M1)(c:M1 x=none)(hs:∀w,w≠x->M2 w=M1 w):keepM M M2:=fun w b=>by
 have a:=k w b
 have:w≠x:=fun e=>by rw[e,c] at a;exact b (by rw[e];exact a.symm)
 rw[hs w this];exact a
theorem keepM.put {M1:Mem}{x:Addr}{o:MO}(k:keepM M M1)(a:M1 x=none):keepM M (D8 M1 x o):=k.bk a fun w b=>B3 b
theorem keepM.no {M1:Mem}{x:Addr}(k:keepM M M1)(a:M1 x=none):M x=none:=by
 cases e:M x with
 | none=>rfl
 | some o=>have:=k x (by rw[e];simp);rw[a,e] at this;cases this
theorem zero_draft_if:∀ds M Q,¬BJ 0 ds M Q:=by
 rintro _ _ _ ⟨r,p,e,bs,_,b,c,h,_⟩
 obtain⟨a,z,d,f⟩:=(S2 b c).1
 have:=E8 bs a (by rw[d];exact BQ7)
 lia
theorem rd_draft_if:∀n ds M Q,BJ (n+1) ds M Q->HG (IJ n) (IK n) (BJ n) (MV n) (MU n) (MT n) {nx:=fun _ M'=>View Q .non M',rt:=View Q} (B9 QT ds) M:=by
 rintro m _ M Q ⟨r,p,e,bs,rfl,f,g,B,q⟩
 unfold HG
 obtain⟨a,z,s,V⟩:=(S2 f g).1
 have J:(C6 bs)[0]?=some a:=by rw[s];rfl
 have N:(C6 bs)[1]?=some z:=by rw[s];rfl
 have b:=RD f g
 have O:=J7 f.1 g
 have hD:dD (.mk (.ife e) bs)=.tup [.str "if",e,.tup (dB a),.tup (dB z)]:=by
  show D.tup (.str "if"::e::dTs bs)=_
  rw[J5,s];rfl
 have P:(C6 bs).getD 1 .nil=z:=by rw[s];rfl
 have R:drD r.blk (.mk (.ife e) bs) p=if E9 z then .test p (bhN r.blk p)::nth (D1 r.blk bs p 0) 0 else .test p (kd (p++[1,0]))::(nth (D1 r.blk bs p 0) 0++.jump (bhN r.blk p)::nth (D1 r.blk bs p 0) 1):=by
  show rowsOf r.blk p (.ife e) (C6 bs) _=_
  simp only[rowsOf,P]
 rw[R] at q b
 rw[hD]
 walk_at "rd"
 refine B5 (d:=.tup (dB z)) rfl ?_
 walk_at "rd"
 by_cases c:E9 z=true
 ·rw[if_pos c] at q b
  have:=LU c
  subst this
  simp only[BP8] at b
  refine C4 rfl ?_
  walk_at "rd"
  refine K3 f g ?_
  walk_at "rd"
  refine P6 (j:=0) f g J B fun x S C i k=>?_
  refine K9 (.inl rfl) (.inr ⟨x,rfl,i⟩) (by rw[BP1,BR0];simp;lia) fun y t=>?_
  have A:=keepM.refl.bk C k
  exact N7 (A.no t) (by rw[B0];simp[G8]) (A.put t) q
 ·rw[if_neg c] at q b
  simp only[BP8,BP7] at b
  have E:¬(dB z).length=0:=fun h=>c (by cases z with|nil=>rfl|cons d r=>simp[dB] at h)
  refine A9 (by simp;intro h;exact E (by rw[h];rfl)) ?_
  walk_at "rd"
  refine K8 (es:=[1,0]) (by simp;lia) ?_
  walk_at "rd"
  refine P6 (j:=0) f g J B fun x S C i k=>?_
  refine K9 (.inl rfl) (.inr ⟨x,rfl,i⟩) (by rw[BP1,BR0];simp;lia) fun y t=>?_
  have A:=(keepM.refl.bk C k).put (o:=.lst ([D.tup [.str "test",plT p,.tup [.str "deed",plT (p++[1,0])]]]++(nth (D1 r.blk bs p 0) 0).map G8)) t
  walk_at "rd"
  refine K3 f g ?_
  walk_at "rd"
  refine K9 (.inr ⟨y,rfl,B0⟩) (.inl rfl) (by rw[BR0];simp;lia) fun u T=>?_
  have U:=A.put (o:=.lst (([D.tup [.str "test",plT p,.tup [.str "deed",plT (p++[1,0])]]]++(nth (D1 r.blk bs p 0) 0).map G8)++[D.tup [.str "jump",nkD (bhN r.blk p)]])) T
  walk_at "rd"
  refine P6 (j:=1) f g N B fun v M3 F G l=>?_
  have H:u≠v:=fun e=>by rw[e,B0] at F;cases F
  have I:=(l u H).trans B0
  refine K9 (.inr ⟨u,rfl,I⟩) (.inr ⟨v,rfl,G⟩) (by rw[BR0];simp;lia) fun w K=>?_
  have L:=U.bk F l
  exact N7 (L.no K) (by rw[B0];simp[G8];rfl) (L.put K) q
end CH
open L3
namespace CH
open PySem L2 L3 MK K11 K12 GO CD
open TK (neD neB O6)
theorem AH3 (w:Str)(h:w="let"\/w="give"\/w="on"\/w="note"\/w="close"\/w="end"\/w="ask"\/w="cast"\/w="fault"):BR3 w tblW=some (F9 w)/\(w==("leave":Str))=false:=by
 rcases h with rfl|rfl|rfl|rfl|rfl|rfl|rfl|rfl|rfl<;>decide +kernel
theorem FV {h:Str}{a:List D}(ok:AE h a):h="leave"\/(h="let"\/h="give"\/h="on"\/h="note"\/h="close"\/h="end"\/h="ask"\/h="cast"\/h="fault"):=by
 rcases ok with⟨h,_⟩|⟨h,_⟩|⟨h,_⟩|⟨h,_⟩|⟨h,_⟩|⟨h,_⟩
 ·rcases h with h|h|h<;>simp[h]
 ·rcases h with h|h|h<;>simp[h]
 ·simp[h]
 ·simp[h]
 ·exact .inl h
 ·simp[h]
theorem zero_draft_deed:∀ds M Q,¬MT 0 ds M Q:=by rintro _ _ _ ⟨_,_,_,_,_,_,h,_⟩;lia
theorem rd_draft_deed:∀n ds M Q,MT (n+1) ds M Q->BV (IJ n) (IK n) (BJ n) (MV n) (MU n) (MT n) {nx:=fun _ M'=>View Q .non M',rt:=View Q} (B9 KO ds) M:=by
 rintro m _ M Q ⟨r,p,d,rfl,c,f,y,q⟩
 unfold BV
 walk_at "rd"
 refine⟨r,p,d,rfl,c.1,f,?_⟩
 obtain⟨h,bs⟩:=d
 obtain⟨i,z⟩:=JF h (dTs bs)
 have A:dD (.mk h bs)=.tup (.str (E5 h)::i):=z
 have ok:=(R1 c f).2.1
 simp only[dpD] at y
 have b:∀{M:Mem} {Q:DK},Q (.str (E5 h)) M->B7 (dD (.mk h bs)) (.int 0) M Q:=fun q=>by
  rw[A];exact B5 (C2 (j:=0) rfl) q
 walk_at "rd"
 refine b ?_
 walk_at "rd"
 cases h with
 | ife e =>
  refine C4 rfl ?_
  walk_at "rd"
  exact⟨r,p,e,bs,rfl,c,f,by lia,fun a M' k l o=>View.of (q a M' k l o)⟩
 | whl e =>
  refine A9 (by simp only[E5];decide +kernel) ?_
  walk_at "rd"
  refine b ?_
  walk_at "rd"
  refine C4 rfl ?_
  walk_at "rd"
  exact⟨r,p,e,bs,rfl,c,f,by lia,fun a M' k l o=>View.of (q a M' k l o)⟩
 | tr B =>
  refine A9 (by simp only[E5];decide +kernel) ?_
  walk_at "rd"
  refine b ?_
  walk_at "rd"
  refine A9 (by simp only[E5];decide +kernel) ?_
  walk_at "rd"
  refine b ?_
  walk_at "rd"
  refine C4 rfl ?_
  walk_at "rd"
  exact⟨r,p,B,bs,rfl,c,f,by lia,fun a M' k l o=>View.of (q a M' k l o)⟩
 | leaf w u =>
  obtain⟨C,D,E⟩:=Y1 ok.1.2
  have s:∀(x:Row) (a:Addr),drD r.blk (.mk (.leaf w u) bs) p=[x]->M a=none->View Q (.ref a) (D8 M a (.lst [G8 x])):=fun x a ex g=>by
   rw[ex] at q
   exact N7 g B0 (keepM.refl.put g) q
  have t:drD r.blk (.mk (.leaf w u) bs) p=if w=="leave" then[.lv "leave" p (lfT r.blk p)] else[.own (F9 w) p]:=rfl
  refine A9 C ?_
  walk_at "rd"
  refine b ?_
  walk_at "rd"
  refine A9 D ?_
  walk_at "rd"
  refine b ?_
  walk_at "rd"
  refine A9 E ?_
  walk_at "rd"
  refine b ?_
  walk_at "rd"
  rcases FV ok.1.2 with rfl|hw
  ·refine C4 rfl ?_
   walk_at "rd"
   refine⟨r,p,_,rfl,c.1,f,?_⟩
   walk_at "rd"
   intro a g
   exact s (.lv "leave" p (lfT r.blk p)) a t g
  ·obtain⟨F,v⟩:=AH3 w hw
   rw[if_neg (by rw[v];decide)] at t
   refine A9 v ?_
   walk_at "rd"
   refine b ?_
   refine⟨w,F9 w,rfl,F,?_⟩
   walk_at "rd"
   intro a g
   exact s (.own (F9 w) p) a t g
end CH
open L3
namespace CH
open PySem L2 L3 MK K11 K12 GO CD
open TK (neD neB O6)
def HK (q_draft_block q_draft_inner q_draft_if q_draft_while q_draft_try q_draft_deed:Sp3):TS3 :=
  (A8 (B8 4 (A6 G5 (G0 (A0 (C0 (A0 (tC3 (.str "open")) (A0 (A4 1) A5))) A5)) (A7 q_draft_inner (A0 (A4 0) (A0 (A4 1) (A0 (tC3 (.int 0)) A5))))))
  (A8 (O4 (FS (A0 (tC3 (.int 1)) (A0 (A6 D0 (F2 E2 (A0 (A6 B7 (A4 2) (tC3 (.int 2))) A5)) (tC3 (.int 1))) A5))) 5 (A8 (F5 (Q5 "list" E4 (A4 4) (A0 (C0 (A0 (tC3 (.str "jump")) (A0 (A4 3) A5))) A5)))
  (F5 (Q5 "list" GJ (A4 4) (A0 (A7 q_draft_inner (A0 (A4 0) (A0 (A4 1) (A0 (A4 5) A5)))) A5)))))
  (A8 (C1 (W5 (B1 (A7 (K12.spTold K12.hasL) (A0 (A4 2) A5)))) (B4 (A4 4)) B6)
  (A8 (B8 6 (A7 q_draft_inner (A0 (A4 0) (A0 (A4 1) (A0 (A6 D0 (F2 E2 (A0 (A6 B7 (A4 2) (tC3 (.int 2))) A5)) (tC3 (.int 1))) A5)))))
  (B4 (A6 G5 (A6 G5 (A6 G5 (A4 4) (G0 (A0 (C0 (A0 (tC3 (.str "last")) (A0 (A4 1) A5))) A5))) (A4 6)) (G0 (A0 (C0 (A0 (tC3 (.str "resume")) (A0 (A4 1) (A0 (A7 MY (A0 (A4 0) (A0 (A4 1) A5))) A5)))) A5))))))))
theorem keepM.set {M1:Mem}{x:Addr}{o:MO}(k:keepM M M1)(b:M x=none):keepM M (D8 M1 x o):=fun w a=>by
 rw[B3 fun e=>a (by rw[e];exact b)];exact k w a
theorem WK {af:C5}(xs:List (List Row))(k:Nat):((xs.take k).flatMap (fun l=>Row.jump af::l)).length<=(xs.flatMap (fun l=>Row.jump af::l)).length:=by
 have e:xs.flatMap (fun l=>Row.jump af::l)=(xs.take k).flatMap (fun l=>Row.jump af::l)++(xs.drop k).flatMap (fun l=>Row.jump af::l):=by
  rw[<-BX7,CF0]
 rw[e,BP7];lia
theorem zero_draft_try:∀ds M Q,¬MU 0 ds M Q:=by
 rintro _ _ _ ⟨r,p,e,bs,_,b,c,h,_⟩
 obtain⟨a,f,z,d,_⟩:=(S2 b c).1
 have:=E8 bs a (by rw[d];exact BQ7)
 lia
theorem rd_draft_try:∀n ds M Q,MU (n+1) ds M Q->DW (IJ n) (IK n) (BJ n) (MV n) (MU n) (MT n) {nx:=fun _ M'=>View Q .non M',rt:=View Q} (B9 NS ds) M:=by
 rintro m _ M Q ⟨r,p,b,bs,rfl,t,u,S,q⟩
 unfold DW
 obtain⟨a,ms,z,J,T,ha,hms,hcz⟩:=(S2 t u).1
 have h0:(C6 bs)[0]?=some a:=by rw[J];rfl
 have C:(C6 bs)[b.length+1]?=some z:=by rw[J,<-T];simp
 have A:=RD t u
 have hpl:=J7 t.1 u
 have ok:=(R1 t u).2.1
 have hcs3:b.length<=3:=ok.1.2.1
 have hL:=EJ C
 have hz:(C6 bs).getD (b.length+1) .nil=z:=by simp[BV4,C]
 generalize o:(if E9 z=true then bhN r.blk p else kl p)=af
 have U:(BW8 b.length (BU6 1 (D1 r.blk bs p 0))).length=b.length:=by
  rw[BT3,CA0,AZ,<-N9,J];simp;lia
 have V:∀k,k<b.length->(BW8 b.length (BU6 1 (D1 r.blk bs p 0)))[k]?=some (nth (D1 r.blk bs p 0) (k+1))/\∃bk,(C6 bs)[k+1]?=some bk:=fun k W=>by
  have Z:k+1<(C6 bs).length:=by rw[J];simp;lia
  have hg:=BQ2 Z
  refine⟨?_,_,hg⟩
  rw[BV8 W,BX0,BV7,O7 hg]
  have:=V2 r.blk bs p 0 (k+1) _ hg
  rwa [BS0] at this
 have ed:drD r.blk (.mk (.tr b) bs) p=.own "open" p::(nth (D1 r.blk bs p 0) 0++(BW8 b.length (BU6 1 (D1 r.blk bs p 0))).flatMap (fun l=>.jump af::l)++(if E9 z=true then[] else .own "last" p::(nth (D1 r.blk bs p 0) (b.length+1)++[.lv "resume" p (lfT r.blk p)]))):=by
  rw[<-o]
  show rowsOf r.blk p (.tr b) (C6 bs) _=_
  simp only[rowsOf,hz]
 rw[ed] at q A
 generalize BW8 b.length (BU6 1 (D1 r.blk bs p 0))=xs at *
 have hD:∃t0 t3,dD (.mk (.tr b) bs)=.tup [.str "try",t0,.tup (F0 b (dTs bs).tail),t3]:=⟨_,_,rfl⟩
 obtain⟨t0,t3,hD⟩:=hD
 have K:(F0 b (dTs bs).tail).length=b.length:=by
  rw[J5,J]
  show(F0 b ((ms++[z]).map MK.tB)).length=_
  rw[BR4,R7 b (ms.map MK.tB) _ (by rw[BP1];lia),V1 b _ (by rw[BP1];lia)]
 have L:∀{M:Mem} {Q:DK},Q (.bl (hasL (.mk (.tr b) bs))) M->spTold hasL [dD (.mk (.tr b) bs)] M Q:=fun q=>⟨_,rfl,ok,q⟩
 have B:HK (IJ m) (IK m) (BJ m) (MV m) (MU m) (MT m) {nx:=fun _ M'=>View Q .non M',rt:=View Q} [some (rD r),some (plT p),some (dD (.mk (.tr b) bs)),some (nkD af),none,none,none] M:=by
  unfold HK
  walk_at "rd"
  refine P6 (j:=0) t u h0 S fun x M1 hx hx1 hs1=>?_
  have c:=A
  simp only[BP8,BP7] at c
  refine K9 (.inl rfl) (.inr ⟨x,rfl,hx1⟩) (by rw[BP1,BR0];simp;lia) fun y hy=>?_
  have k1:=keepM.refl.bk hx hs1
  have E:=k1.no hy
  walk_at "rd"
  refine AR9 ?_
  walk_at "rd"
  rw[hD]
  refine B5 (d:=.tup (F0 b (dTs bs).tail)) rfl ?_
  walk_at "rd"
  rw[K]
  refine⟨1,(b.length:Int)+1,rfl,⟨by decide,by decide,by lia,by lia⟩,?_⟩
  refine⟨fun k σ P=>∃s5,σ=[some (rD r),some (plT p),some (.tup [.str "try",t0,.tup (F0 b (dTs bs).tail),t3]),some (nkD af),some (.ref y),s5,none]/\P y=some (.lst ((Row.own "open" p::(nth (D1 r.blk bs p 0) 0++(xs.take k).flatMap (fun l=>.jump af::l))).map G8))/\keepM M P,⟨_,rfl,by rw[B0];simp[G8],k1.put hy⟩,?_,?_⟩
  ·rintro k d σ P hd ⟨s5,rfl,i,v⟩
   have W:k<b.length:=by
    have:=(List.getElem?_eq_some_iff.mp hd).1
    simp at this
    lia
   have hdd:d=.int ((k+1:Nat):Int):=by
    have h2:=hd
    rw[BQ3,BX6 (by lia)] at h2
    have I:=Option.some.inj h2
    rw[<-I];show D.int (1+(k:Int))=_;congr 1;lia
   subst hdd
   obtain⟨hx0,bk,hbk⟩:=V k W
   have et:xs.take (k+1)=xs.take k++[nth (D1 r.blk bs p 0) (k+1)]:=by rw[BY3,hx0];rfl
   have R:(xs.take (k+1)).flatMap (fun l=>Row.jump af::l)=(xs.take k).flatMap (fun l=>Row.jump af::l)++(.jump af::nth (D1 r.blk bs p 0) (k+1)):=by
    rw[et,BX7];simp
   have hle:=WK (af:=af) xs (k+1)
   rw[R,BP7,BP8] at hle
   walk_at "rd"
   refine⟨.inl ⟨rfl,_,i⟩,?_⟩
   walk_at "rd"
   refine K5 i (by rw[BP1,BP8,BP7,BR0];lia) ?_
   walk_at "rd"
   refine⟨.inl ⟨rfl,_,B0⟩,?_⟩
   walk_at "rd"
   refine P6 (j:=k+1) t u hbk S fun a3 M3 F I s=>?_
   have hya:y≠a3:=fun e=>by rw[<-e,B0] at F;cases F
   have G:=(s y hya).trans B0
   walk_at "rd"
   refine⟨y,a3,_,_,rfl,rfl,G,I,by rw[BP7,BP1,BP1,BP8,BP7,BR0];simp only[BP8,BR8];lia,?_⟩
   refine⟨_,rfl,?_,((v.set E).bk F s).set E⟩
   rw[B0,R]
   simp[G8]
  ·rintro σ P ⟨s5,rfl,i,v⟩
   have R:xs.take (List.map (fun k:Nat=>D.int (1+(k:Int))) (BS8 ((b.length:Int)+1-1).toNat)).length=xs:=by
    rw[BP1,BZ3,show((b.length:Int)+1-1).toNat=b.length by lia,<-U,BX8]
   rw[R] at i
   rw[<-hD]
   walk_at "rd"
   refine L ?_
   rw[hL]
   walk_at "rd"
   by_cases h:E9 z=true
   ·rw[if_pos h] at q c
    refine C4 (by simpa using h) ?_
    walk_at "rd"
    rw[BV1] at q
    exact N7 E i v q
   ·rw[if_neg h] at q c
    simp only[BP8,BP7,BR8] at c
    refine A9 (by simpa using h) ?_
    walk_at "rd"
    rw[hD]
    refine B5 (d:=.tup (F0 b (dTs bs).tail)) rfl ?_
    walk_at "rd"
    rw[K]
    refine P6 (j:=b.length+1) t u C S fun b3 M3 H I s=>?_
    have hyb:y≠b3:=fun e=>by rw[<-e,i] at H;cases H
    have G:=(s y hyb).trans i
    have k3:=v.bk H s
    walk_at "rd"
    refine K9 (.inr ⟨y,rfl,G⟩) (.inl rfl) (by rw[BP1,BP8,BP7,BR0];simp only[BP8,BR8];lia) fun c4 w=>?_
    walk_at "rd"
    have hbc:b3≠c4:=fun e=>by rw[<-e,I] at w;cases w
    refine K9 (.inr ⟨c4,rfl,B0⟩) (.inr ⟨b3,rfl,by rw[B3 hbc];exact I⟩) (by rw[BP7,BP1,BP1,BP8,BP7,BR0];simp only[BP8,BR8];lia) fun c5 N=>?_
    walk_at "rd"
    refine⟨r,p,_,rfl,t.1,u,?_⟩
    walk_at "rd"
    refine K9 (.inr ⟨c5,rfl,B0⟩) (.inl rfl) (by rw[BP7,BP7,BP1,BP1,BP8,BP7,BR0];simp only[BP8,BR8];lia) fun c6 O=>?_
    refine N7 (f:=c6) (((k3.put w).put N).no O) B0 (((k3.put w).put N).put O) ?_
    have e9:∀X Y:List Row,((X.map G8++[D.tup [.str "last",plT p]])++Y.map G8)++[D.tup [.str "resume",plT p,ldD (lfT r.blk p)]]=(X++Row.own "last" p::(Y++[Row.lv "resume" p (lfT r.blk p)])).map G8:=fun X Y=>by simp[G8]
    rw[e9]
    simpa using q
 walk_at "rd"
 refine L ?_
 rw[hL]
 walk_at "rd"
 by_cases h:E9 z=true
 ·rw[h]
  refine A9 rfl ?_
  walk_at "rd"
  refine K3 t u ?_
  rw[if_pos h] at o
  rw[o]
  exact B
 ·refine C4 (by simpa using h) ?_
  rw[if_neg h] at o
  subst o
  refine rd_tupE.g ?_
  refine rd_cons.g ?_
  refine rd_c.g ?_
  refine rd_cons.g ?_
  refine MM rfl ?_
  refine rd_nil.g ?_
  refine⟨by simp only[BP8,BR8];decide,?_⟩
  exact B
end CH
open L3
namespace CH
open PySem L2 L3 MK K11 K12 GO CD
theorem GE:∀(l:List Row) (r:Row) (n:Nat),C8 n (l++[r])=C8 n l++(if isJ r then[] else[(C7 r,.int ((n+l.length:Nat):Int))])
 | [],r,n=>by simp only[List.nil_append,C8];split<;>simp
 | x::l,r,n=>by
  have a:=GE l r (n+1)
  simp only[List.cons_append,C8,a,BP8]
  rw[show n+1+l.length=n+(l.length+1) by lia]
  split<;>simp
theorem JJ:∀{l:List (C5×D)} {k:C5},k∉l.map (·.1)->BR3 k l=none
 | [],_,_=>rfl
 | (x,d)::l,k,h=>by
  simp only[BR7,BU1,not_or] at h
  have:(k==x)=false:=beq_eq_false_iff_ne.mpr h.1
  simp only[BR3,this]
  exact JJ h.2
theorem PU (a:rW row):(wd row==("jump":Str))=isJ row:=by
 cases row with
 | own w p=>exact EM a (by simp)
 | test p d=>simp only[wd,isJ];decide +kernel
 | jump d=>simp only[wd,isJ];decide +kernel
 | lv w p d=>rcases a.1 with rfl|rfl<;>simp only[wd,isJ]<;>decide +kernel
 | done=>simp only[wd,isJ];decide +kernel
theorem PK:∀(l:List D) (i k:Nat) (d:D),(prs i l)[k]?=some d->∃x,l[k]?=some x/\d=.tup [.int ((i+k:Nat):Int),x]
 | [],i,k,d,h=>by simp[prs] at h
 | x::l,i,0,d,h=>⟨x,rfl,by simpa[prs] using h.symm⟩
 | x::l,i,k+1,d,h=>by
  obtain⟨y,a,b⟩:=PK l (i+1) k d (by simpa[prs] using h)
  exact⟨y,by simpa using a,by rw[b,show i+1+k=i+(k+1) by lia]⟩
theorem PL:∀(l:List D) (i:Nat),(prs i l).length=l.length
 | [],_=>rfl
 | x::l,i=>by simp[prs,PL l (i+1)]
theorem AG7 {ti:TI3}{n:Nat}{slots:List Nat}{g:TG3}{tk tv:TE3}{Q:DK}(h:ti σ M fun ds M1=>∀p,M1 p=none->∃Pv:Nat->List (C5×D)->Mem->Prop,Pv 0 [] (D8 M1 p (.dn [])) /\
 (∀k d a M,ds[k]?=some d->Pv k a M->g d (BR6 n none++slots.map fun j=>(σ[j]?).getD none) M fun c e=>tt c e fun b M'=>if b=true then tbN tk tv p a (Pv (k+1)) c M' else Pv (k+1) a M') /\
 ∀a M,Pv ds.length a M->M p=some (.dn a)/\Q (.ref p) M):NH ti n slots g tt tk tv σ M Q:=h
theorem rd_numbers_of:∀ds M Q,AI4 ds M Q->BW {nx:=fun _ M'=>View Q .non M',rt:=View Q} (B9 KP ds) M:=by
 rintro _ M Q ⟨L,rfl,s,f,m,q⟩
 unfold BW
 walk_at "rd"
 refine AG7 ?_
 walk_at "rd"
 intro p t
 refine⟨fun k c i=>c=C8 0 (L.take k)/\i=D8 M p (.dn c),⟨rfl,rfl⟩,?_,?_⟩
 ·rintro k d c i n ⟨rfl,rfl⟩
  obtain⟨x,h,rfl⟩:=PK _ 0 k d n
  rw[BS0] at n ⊢
  rw[BQ3] at h
  obtain⟨a,b,rfl⟩:=Option.map_eq_some_iff.mp h
  have u:k<L.length:=(List.getElem?_eq_some_iff.mp b).1
  have o:=s a (BQ1 b)
  have j:L.take (k+1)=L.take k++[a]:=by rw[BY3,b];rfl
  have v:(L.take k).length=k:=by rw[BT3];lia
  refine T9 rfl ?_
  walk_at "rd"
  show B7 (G8 a) (.int 0) _ _
  refine Q1 ?_
  walk_at "rd"
  rw[PU o]
  cases hj:isJ a with
  | true =>
   refine A9 rfl ?_
   exact⟨by rw[j,GE,hj];simp,rfl⟩
  | false =>
   refine C4 rfl ?_
   have w:C8 0 (L.take (k+1))=C8 0 (L.take k)++[(C7 a,.int (k:Int))]:=by
    rw[j,GE,hj,v,BS0];rfl
   have g:BR3 (C7 a) (C8 0 (L.take k))=none:=by
    refine JJ ?_
    rw[GB]
    intro y
    have e:=J8 (L.take (k+1)) (L.drop (k+1))
    rw[CF0,j,J8] at e
    rw[e] at f
    have z:=(List.nodup_append.mp f).1
    have A:=(List.nodup_append.mp z).2.2 _ y (C7 a) (by rw[K4,hj];simp[V4])
    exact A rfl
   show A7 GW _ _ _ _
   walk_at "rd"
   refine⟨a,rfl,o,hj,?_⟩
   walk_at "rd"
   have l:(C8 0 (L.take k)).length<BQ6:=by
    have:=congrArg BW0 (GB (L.take k) 0)
    rw[BP1] at this
    rw[this,BR0]
    unfold keys
    rw[BP1]
    have:=CB9 (fun r=>!isJ r) (L.take k)
    lia
   refine⟨C7 a,rfl,g,B0,l,?_⟩
   rw[WW]
   exact⟨w.symm,rfl⟩
 ·rintro c i ⟨rfl,rfl⟩
  refine⟨B0,?_⟩
  rw[PL,BP1,BX8]
  exact View.of (q p _ t B0 fun x h=>B3 h)
theorem RH {k:C5}(h:nOk k):dOk (nkD k)/\∀i:Int,BU5 (pyD (nkD k)) (pyD (.int i))=false:=by
 rcases h with⟨a,b⟩|rfl
 ·obtain⟨w,p⟩:=k
  cases p with
  | none=>exact absurd rfl b
  | some p =>
   obtain⟨c,d,e⟩:=LM p
   have f:PyData.strOk w=true:=by
    have a:w="deed"\/w="test"\/w="last"\/w="resume":=a
    rcases a with rfl|rfl|rfl|rfl<;>decide +kernel
   refine⟨⟨by simpa[nkD,L3.plain,O2] using c,by simpa[nkD,pyD,L9,CA7,BX2,f] using d,?_⟩,fun i=>by simp[nkD,pyD,BU5]⟩
   simp[nkD,pyD,L9,CB0,BY8,e]
 ·exact⟨⟨rfl,by decide +kernel,by decide +kernel⟩,fun i=>by simp[nkD,pyD,BU5]⟩
theorem rd_numbered:∀ds M Q,AI3 ds M Q->HJ {nx:=fun _ M'=>View Q .non M',rt:=View Q} (B9 QU ds) M:=by
 rintro _ M Q ⟨L,h,a,rfl,o,f,b,q⟩
 unfold HJ
 walk_at "rd"
 refine⟨h,rfl,f,?_⟩
 walk_at "rd"
 cases h with
 | own w p=>exact C4 rfl (by walk_at "rd";exact View.of q)
 | done=>exact C4 rfl (by walk_at "rd";exact View.of q)
 | test p k =>
  obtain⟨j,c⟩:=b k rfl
  obtain⟨i,l⟩:=RH (show nOk k from f)
  have m:Q (.tup [.str "test",plT p,.int j]) M:=by
   have e:numOf L k=.int j:=by unfold numOf;rw[c];rfl
   have n:Q (.tup [.str "test",plT p,numOf L k]) M:=q
   rwa [e] at n
  refine A9 rfl ?_
  walk_at "rd"
  refine B5 (d:=nkD k) rfl ?_
  walk_at "rd"
  refine GQ i AH (l _) ?_
  walk_at "rd"
  show Z6 (.tup [.str "test",plT p,nkD k]) none (some (-1)) M _
  refine rd_slWT.g ?_
  rw[show cutD [.str "test",plT p,nkD k] none (some (-1))=[.str "test",plT p] from rfl]
  walk_at "rd"
  refine B5 (d:=nkD k) rfl ?_
  walk_at "rd"
  refine⟨k,rfl,f,?_⟩
  refine⟨a,_,J6 k,_,rfl,o,rfl,c,?_⟩
  walk_at "rd"
  refine T7 (by simp only[BP8,BR8];decide) ?_
  exact View.of m
 | jump k =>
  obtain⟨j,c⟩:=b k rfl
  obtain⟨i,l⟩:=RH (show nOk k from f)
  have m:Q (.tup [.str "jump",.int j]) M:=by
   have e:numOf L k=.int j:=by unfold numOf;rw[c];rfl
   have n:Q (.tup [.str "jump",numOf L k]) M:=q
   rwa [e] at n
  refine A9 rfl ?_
  walk_at "rd"
  refine B5 (d:=nkD k) rfl ?_
  walk_at "rd"
  refine GQ i AH (l _) ?_
  walk_at "rd"
  show Z6 (.tup [.str "jump",nkD k]) none (some (-1)) M _
  refine rd_slWT.g ?_
  rw[show cutD [.str "jump",nkD k] none (some (-1))=[.str "jump"] from rfl]
  walk_at "rd"
  refine B5 (d:=nkD k) rfl ?_
  walk_at "rd"
  refine⟨k,rfl,f,?_⟩
  refine⟨a,_,J6 k,_,rfl,o,rfl,c,?_⟩
  walk_at "rd"
  refine T7 (by simp only[BP8,BR8];decide) ?_
  exact View.of m
 | lv w p k =>
  refine A9 rfl ?_
  cases k with
  | none =>
   walk_at "rd"
   refine B5 (d:=.int (-1)) rfl ?_
   walk_at "rd"
   exact View.of q
  | some k =>
   obtain⟨j,c⟩:=b k rfl
   obtain⟨i,l⟩:=RH (f.2 k rfl)
   have m:Q (.tup [.str w,plT p,.int j]) M:=by
    have e:numOf L k=.int j:=by unfold numOf;rw[c];rfl
    have n:Q (.tup [.str w,plT p,numOf L k]) M:=q
    rwa [e] at n
   walk_at "rd"
   refine B5 (d:=nkD k) rfl ?_
   walk_at "rd"
   refine GQ i AH (l _) ?_
   walk_at "rd"
   show Z6 (.tup [.str w,plT p,nkD k]) none (some (-1)) M _
   refine rd_slWT.g ?_
   rw[show cutD [.str w,plT p,nkD k] none (some (-1))=[.str w,plT p] from rfl]
   walk_at "rd"
   refine B5 (d:=nkD k) rfl ?_
   walk_at "rd"
   refine⟨k,rfl,f.2 k rfl,?_⟩
   refine⟨a,_,J6 k,_,rfl,o,rfl,c,?_⟩
   walk_at "rd"
   refine T7 (by simp only[BP8,BR8];decide) ?_
   exact View.of m
end CH
open L3
namespace CH
open PySem L2 L3 MK K11 K12 GO CD
open TK (neD neB O6)
theorem LY:∀(L:List Row) (n:Nat) (k:C5) (d:D),BR3 k (C8 n L)=some d->∃j:Nat,d=.int (j:Int)
 | [],n,k,d,h=>by simp[C8] at h
 | r::L,n,k,d,h=>by
  simp only[C8] at h
  split at h
  ·exact LY L (n+1) k d h
  ·simp only[BR3] at h
   split at h
   ·cases h;exact⟨n,rfl⟩
   ·exact LY L (n+1) k d h
theorem IV {b:Blk}(ok:okB b){h:Head}{bs:Bls}(c:(p,.mk h bs)∈prB b [] 0){bk:Blk}(h1:(C6 bs)[j]?=some bk)(a:bk≠.nil) :
  ∃n:Nat,BR3 (kd (p++[(j:Int),0])) (C8 0 (B2 b))=some (.int (n:Int))/\numOf (B2 b) (kd (p++[(j:Int),0]))=.int (n:Int):=by
 cases bk with
 | nil=>exact absurd rfl a
 | cons d r =>
  obtain⟨n,_,e,f,_⟩:=GD (S1 ok (T5 c h1 (i:=0) (d:=d) rfl))
  exact⟨n,e,f⟩
theorem rd_guards_of:∀ds M Q,AV1 ds M Q->DX {nx:=fun _ M'=>View Q .non M',rt:=View Q} (B9 NT ds) M:=by
 rintro _ M Q ⟨r,p,b,bs,a,rfl,i,u,l,m,q⟩
 have v:rFN r:=⟨i,u⟩
 unfold DX
 obtain⟨b0,w,z,t,S,T,x,U⟩:=(S2 v l).1
 have ok:=(R1 v l).2.1
 have G:b.length<=3:=ok.1.2.1
 have V:=J7 v.1 l
 have y:(F0 b (dTs bs).tail).length=b.length:=by
  rw[J5,t]
  show(F0 b ((w++[z]).map MK.tB)).length=_
  rw[BR4,R7 b (w.map MK.tB) _ (by rw[BP1];lia),V1 b _ (by rw[BP1];lia)]
 have hD:∃H I,dD (.mk (.tr b) bs)=.tup [.str "try",H,.tup (F0 b (dTs bs).tail),I]:=⟨_,_,rfl⟩
 obtain⟨H,I,hD⟩:=hD
 walk_at "rd"
 refine⟨r,p,_,rfl,i,l,?_⟩
 walk_at "rd"
 rw[hD]
 refine B5 (d:=.tup (F0 b (dTs bs).tail)) rfl ?_
 walk_at "rd"
 rw[y]
 refine⟨by lia,by lia,?_⟩
 refine K0 (BS8 (b.length:Int).toNat) (fun k=>D.int (k:Nat)) (fun k=>numOf (B2 r.blk) (kd (p++[((k+1:Nat):Int),0]))) (fun _=>true) (by rw[BZ3,BR0];lia) ?_ ?_
 ·intro k J M2 R F W X hF
  have J:k<b.length:=by simpa using J
  have A:k+1<(C6 bs).length:=by rw[t];simp;lia
  have K:=BQ2 A
  have B:(C6 bs)[k+1]≠.nil:=by
   have e:(C6 bs)[k+1]?=some w[k]:=by rw[t,CA4,BS2 (by lia),BQ2 (by lia)]
   rw[K] at e
   rw[Option.some.inj e]
   exact x _ (BX9 _)
  obtain⟨n,L,N⟩:=IV i.1 l K B
  walk_at "rd"
  have O:((k+1:Nat):Int)=(k:Int)+1:=by lia
  rw[O] at L N
  refine K8 (es:=[(k:Int)+1,0]) (by simp;lia) ?_
  walk_at "rd"
  refine⟨a,_,kd (p++[(k:Int)+1,0]),_,rfl,(W a (by rw[m];simp)).trans m,rfl,L,?_⟩
  rw[<-N,<-O]
  exact X rfl
 have h:(BS8 (b.length:Int).toNat).filter (fun _=>true)=BS8 b.length:=by rw[CC6.2 fun _ _=>rfl,Int.toNat_natCast]
 rw[h]
 generalize P:(BS8 b.length).map (fun k=>numOf (B2 r.blk) (kd (p++[((k+1:Nat):Int),0])))=C
 have Y:C.length=b.length:=by rw[<-P];simp
 walk_at "rd"
 refine⟨a,_,rfl,m,?_⟩
 walk_at "rd"
 refine⟨a,_,kl p,_,rfl,m,rfl,?_⟩
 walk_at "rd"
 refine K8 (es:=[0,0]) (by simp;lia) ?_
 walk_at "rd"
 have Z:(C6 bs)[0]?=some b0:=by rw[t];rfl
 obtain⟨n0,f1,f2⟩:=IV i.1 l Z T
 refine⟨a,_,kd (p++[0,0]),_,rfl,m,rfl,f1,?_⟩
 walk_at "rd"
 have E:numOf (B2 r.blk) (kd (p++[0,0]))=D.int (n0:Int):=f2
 generalize g:(BR3 (kl p) (C8 0 (B2 r.blk))).getD (D.int (-1))=la
 have o:numOf (B2 r.blk) (kl p)=la:=g
 unfold grd at q
 rw[P,o,E] at q
 cases C with
 | nil =>
  refine C4 rfl ?_
  walk_at "rd"
  intro f h
  walk_at "rd"
  exact N7 h (by rw[B0]) (keepM.refl.put h) q
 | cons c C' =>
  refine A9 (by simp;lia) ?_
  walk_at "rd"
  have s:atI (c::C') 0=some c:=C2 (j:=0) rfl
  refine B5 (d:=c) s ?_
  walk_at "rd"
  cases hlk:BR3 (kl p) (C8 0 (B2 r.blk)) with
  | none =>
   rw[hlk] at g q
   obtain rfl:la=D.int (-1):=g.symm
   walk_at "rd"
   refine C4 rfl ?_
   walk_at "rd"
   intro f h
   exact N7 h (by rw[B0];rfl) (keepM.refl.put h) q
  | some d =>
   obtain⟨j,rfl⟩:=LY _ _ _ _ hlk
   rw[hlk] at g q
   obtain rfl:la=D.int (j:Int):=g.symm
   walk_at "rd"
   refine A9 (by simp) ?_
   walk_at "rd"
   refine B5 (d:=c) s ?_
   walk_at "rd"
   intro f h
   exact N7 h (by rw[B0];rfl) (keepM.refl.put h) q
end CH
open L3
namespace CH
open PySem L2 L3 MK K11 K12 GO CD
open TK (neD neB O6)
theorem YV (b:Blk):∀(n:Nat) (p:List Int),p.length<=n->nOk (bhN b p)
 | 0,p,h=>by
  rw[bhN]
  split
  ·exact .inl ⟨.inl rfl,by simp⟩
  ·rw[dif_neg (by lia)];exact .inr rfl
 | n+1,p,h=>by
  rw[bhN]
  split
  ·exact .inl ⟨.inl rfl,by simp⟩
  ·by_cases a:1<p.length
   ·rw[dif_pos a]
    split
    ·exact .inl ⟨.inr (.inl rfl),by simp⟩
    ·split
     ·split
      ·exact .inl ⟨.inr (.inr (.inr rfl)),by simp⟩
      ·exact .inl ⟨.inr (.inr (.inl rfl)),by simp⟩
     ·exact YV b n (G3 p) (by have:=R9 a;lia)
   ·rw[dif_neg a];exact .inr rfl
theorem bhK (b:Blk)(p:List Int):nOk (bhN b p):=YV b _ p (BP5 _)
theorem AB2 (b:Blk)(p:List Int):∀k∈lfT b p,nOk k:=by
 intro k a
 unfold lfT at a
 obtain⟨q,_,rfl⟩:=Option.map_eq_some_iff.mp a
 exact bhK b q
theorem AJ4 (w:Str):AC5 (F9 w):=by
 unfold F9 AC5
 split
 ·exact .inr (.inl rfl)
 ·split
  ·exact .inr (.inr (.inl rfl))
  ·split
   ·exact .inr (.inr (.inr (.inl rfl)))
   ·exact .inl rfl
theorem CQ {b:List (List Row)}(h:∀l∈b,∀x∈l,rW x)(j:Nat):∀x∈nth b j,rW x:=by
 intro x a
 unfold nth at a
 rw[List.getD_eq_getElem?_getD] at a
 cases e:b[j]? with
 | none=>rw[e] at a;cases a
 | some l=>rw[e] at a;exact h l (BQ1 e) x a
theorem AS2 (b:Blk)(p:List Int)(h:Head)(d:List Blk)(c:List (List Row))(a:∀l∈c,∀x∈l,rW x):∀x∈rowsOf b p h d c,rW x:=by
 intro x hx
 cases h with
 | leaf w g =>
  simp only[rowsOf] at hx
  split at hx
  ·rw[List.mem_singleton.mp hx];exact⟨.inl rfl,AB2 b p⟩
  ·rw[List.mem_singleton.mp hx];exact AJ4 w
 | ife e =>
  simp only[rowsOf] at hx
  split at hx
  ·rcases BU1.mp hx with rfl|hx
   ·exact bhK b p
   ·exact CQ a 0 x hx
  ·rcases BU1.mp hx with rfl|hx
   ·exact .inl ⟨.inl rfl,by simp⟩
   ·rcases List.mem_append.mp hx with hx|hx
    ·exact CQ a 0 x hx
    ·rcases BU1.mp hx with rfl|hx
     ·exact bhK b p
     ·exact CQ a 1 x hx
 | whl e =>
  simp only[rowsOf] at hx
  rcases BU1.mp hx with rfl|hx
  ·exact bhK b p
  ·rcases List.mem_append.mp hx with hx|hx
   ·exact CQ a 0 x hx
   ·rw[List.mem_singleton.mp hx];exact .inl ⟨.inr (.inl rfl),by simp⟩
 | tr i =>
  simp only[rowsOf] at hx
  rcases BU1.mp hx with rfl|hx
  ·exact .inr (.inr (.inr (.inr (.inl rfl))))
  ·rcases List.mem_append.mp hx with hx|hx
   ·rcases List.mem_append.mp hx with hx|hx
    ·exact CQ a 0 x hx
    ·obtain⟨l,f,h2⟩:=List.mem_flatMap.mp hx
     rcases BU1.mp h2 with rfl|h2
     ·show nOk _
      split
      ·exact bhK b p
      ·exact .inl ⟨.inr (.inr (.inl rfl)),by simp⟩
     ·exact a l (List.mem_of_mem_drop (List.mem_of_mem_take f)) x h2
   ·split at hx
    ·cases hx
    ·rcases BU1.mp hx with rfl|hx
     ·exact .inr (.inr (.inr (.inr (.inr rfl))))
     ·rcases List.mem_append.mp hx with hx|hx
      ·exact CQ a _ x hx
      ·rw[List.mem_singleton.mp hx];exact⟨.inr rfl,AB2 b p⟩
mutual
theorem RC (b:Blk):∀(k:Blk) (ah:List Int) (i:Nat),∀x∈drB b k ah i,rW x
 | .nil,_,_,x,hx=>by simp[drB] at hx
 | .cons d r,ah,i,x,hx=>by
  rw[drB] at hx
  rcases List.mem_append.mp hx with hx|hx
  ·exact AY2 b d _ x hx
  ·exact RC b r ah (i+1) x hx
theorem AY2 (b:Blk):∀(d:Deed) (p:List Int),∀x∈drD b d p,rW x
 | .mk h bs,p,x,a=>by
  rw[drD] at a
  exact AS2 b p h _ _ (TL b bs p 0) x a
theorem TL (b:Blk):∀(bs:Bls) (p:List Int) (j:Nat),∀l∈D1 b bs p j,∀x∈l,rW x
 | .nil,_,_,l,hl=>by simp[D1] at hl
 | .cons k r,p,j,l,hl=>by
  rw[D1] at hl
  rcases BU1.mp hl with rfl|hl
  ·exact RC b k _ 0
  ·exact TL b r p (j+1) l hl
end
theorem V3 (b:Blk):∀x∈B2 b,rW x:=by
 intro x hx
 rcases List.mem_append.mp hx with hx|hx
 ·exact RC b b [] 0 x hx
 ·rw[List.mem_singleton.mp hx];trivial
end CH
open L3
namespace CH
open PySem L2 L3 MK K11 K12 GO CD
open TK (neD neB O6)
theorem WJ {b:Blk}(ok:okB b)(ne:neB b)(f:row∈B2 b):∀k,BG7 row=some k->∃j:Int,BR3 (J6 k) (C8 0 (B2 b))=some (.int j):=by
 intro k c
 suffices h:Fnd (B2 b) k by
  obtain⟨j,_,e,_⟩:=GD h
  exact⟨j,e⟩
 obtain⟨i,g⟩:=List.getElem?_of_mem f
 cases X8 ok ne i row g with
 | stop _ _=>cases c
 | deed _ _ _ _ _ _=>cases c
 | leave a=>exact AA1 ok a c
 | testE a l m _ =>
  cases c
  rename_i e bs p z _
  cases z with
  | nil=>exact absurd rfl m
  | cons d r=>exact S1 ok (T5 a l (i:=0) (d:=d) rfl)
 | testI a _ _=>cases c;exact T1 ok _ _ _ (BP5 _) a
 | testW a _=>cases c;exact T1 ok _ _ _ (BP5 _) a
 | jmp a h =>
  cases c
  rcases h with rfl|rfl|⟨rfl,n⟩
  ·exact T1 ok _ _ _ (BP5 _) a
  ·exact FR ok a
  ·exact(BA ok a n).1
 | opn _ _=>cases c
 | lst _ _ _=>cases c
 | res a _ _=>exact AA1 ok a c
 | done=>cases c
def gr (b:Blk)(x:List Int×Deed):List D:=match x.2 with
 | .mk (.tr cs) _=>grd (B2 b) x.1 cs.length
 | _=>[]
theorem AL1 (b:Blk):BH5 b=((prB b [] 0).reverse).flatMap (gr b):=rfl
theorem TV (L:List Row)(p:List Int)(n:Nat):(grd L p n).length<=2:=by
 simp only[grd]
 split
 ·simp
 ·split<;>simp
theorem AY8 (b:Blk)(x:List Int×Deed):(gr b x).length<=2:=by
 unfold gr
 split
 ·exact TV _ _ _
 ·simp
theorem TX (b:Blk):∀l:List (List Int×Deed),(l.flatMap (gr b)).length<=2*l.length
 | []=>by simp
 | x::l=>by
  have:=TX b l
  have:=AY8 b x
  rw[BZ4,BP7,BP8]
  lia
theorem rd_code_of:∀ds M Q,spCode ds M Q->JZ {nx:=fun _ M'=>View Q .non M',rt:=View Q} (B9 VY ds) M:=by
 rintro _ M Q ⟨r,rfl,⟨ok,ne,nn,E,G⟩,q⟩
 unfold JZ
 have v:=P1 ok ne
 walk_at "rd"
 refine B5 (d:=.tup (dB r.blk)) rfl ?_
 walk_at "rd"
 have l:W1 r:=⟨ok,E,by lia⟩
 refine⟨r,r.blk,[],rfl,⟨l,ne⟩,by simp,by lia,ok,ne,?_,by lia,fun a M1 ha h1 H=>?_⟩
 ·intro k d T
  exact RU T
 walk_at "rd"
 have I:(B2 r.blk).map G8=(drB r.blk r.blk [] 0).map G8++[G8 .done]:=by unfold B2;rw[BR4];rfl
 refine K9 (.inr ⟨a,rfl,h1⟩) (.inl rfl) (by unfold B2 at v;rw[BP7] at v;rw[BP1,BR0];simp at v ⊢;lia) fun y hy=>?_
 with_reducible refine BE6 rfl B0 ?_
 walk_at "rd"
 refine⟨B2 r.blk,by rw[I];rfl,V3 r.blk,DF r.blk,by lia,fun n M2 W z s=>?_⟩
 walk_at "rd"
 intro g X
 walk_at "rd"
 refine⟨r,rfl,ok,E,by lia,fun c M3 Y h3 A=>?_⟩
 refine⟨c,_,rfl,h3,?_⟩
 walk_at "rd"
 have ed:(List.map G8 (drB r.blk r.blk [] 0)++[D.tup [D.str "done"]])=(B2 r.blk).map G8:=I.symm
 have B:g≠c:=fun e=>by rw[e,B0] at Y;cases Y
 have J:n≠g:=fun e=>by rw[e] at z;rw[X] at z;cases z
 have K:M2 c=none:=by rwa [B3 (fun e=>B e.symm)] at Y
 have L:n≠c:=fun e=>by rw[e] at z;rw[K] at z;cases z
 rw[OT hy] at W
 have s:∀x,x≠n->M2 x=M1 x:=fun x i=>(s x i).trans (by rw[OT hy])
 have N:∀x,M x≠none->x≠g:=by
  intro x i
  have C:=H x fun e=>i (by rw[e];exact ha)
  have O:=s x fun e=>i (by rw[<-C,e];exact W)
  exact fun e=>i (by rw[<-C,<-O,e];exact X)
 have Z:∀x,M x≠none->J1 M3 c x=M x:=by
  intro x i
  have C:=H x fun e=>i (by rw[e];exact ha)
  have O:=s x fun e=>i (by rw[<-C,e];exact W)
  have xg:x≠g:=fun e=>i (by rw[<-C,<-O,e];exact X)
  have xc:x≠c:=fun e=>i (by rw[<-C,<-O,e];exact K)
  rw[G7 xc,A x xc,B3 xg,O,C]
 have eW:(List.map plT (plB r.blk [] 0)).reverse=((prB r.blk [] 0).reverse).map fun x=>plT x.1:=by rw[<-O8,BW9,<-List.map_reverse];rfl
 rw[eW]
 have hWl:((prB r.blk [] 0).reverse).length<=30:=by rw[CC5,EO];exact G
 refine⟨fun k σ M'=>∃s4,σ=[some (rD r),some (.lst ((B2 r.blk).map G8)),some (.ref n),some (.ref g),s4]/\M' g=some (.lst ((((prB r.blk [] 0).reverse).take k).flatMap (gr r.blk)))/\M' n=some (.dn (C8 0 (B2 r.blk)))/\∀x,M x≠none->M' x=M x,⟨none,by rw[ed];rfl,?_,?_,Z⟩,?_,?_⟩
 ·rw[G7 B,A g B,B0];rfl
 ·rw[G7 L,A n L,B3 J,z]
 ·rintro k d σ M4 T ⟨s4,rfl,b,f,m⟩
  rw[BQ3] at T
  obtain⟨⟨p,U⟩,i,rfl⟩:=Option.map_eq_some_iff.mp T
  have hp:(p,U)∈prB r.blk [] 0:=List.mem_reverse.mp (BQ1 i)
  have hkl:k<((prB r.blk [] 0).reverse).length:=(List.getElem?_eq_some_iff.mp i).1
  have V:((prB r.blk [] 0).reverse).take (k+1)=((prB r.blk [] 0).reverse).take k++[(p,U)]:=by rw[BY3,i];rfl
  walk_at "rd"
  refine⟨r,p,U,rfl,l,hp,?_⟩
  obtain⟨h,bs⟩:=U
  obtain⟨P,eh⟩:=JF h (dTs bs)
  have e':dD (.mk h bs)=.tup (.str (E5 h)::P):=eh
  have okd:=(R1 ⟨l,ne⟩ hp).2.1
  have ix:∀{M:Mem} {Q:DK},Q (.str (E5 h)) M->B7 (dD (.mk h bs)) (.int 0) M Q:=fun q=>by
   rw[e'];exact B5 (C2 (j:=0) rfl) q
  walk_at "rd"
  refine ix ?_
  walk_at "rd"
  cases h with
  | tr cs =>
   refine C4 rfl ?_
   walk_at "rd"
   refine⟨.inl ⟨rfl,_,b⟩,?_⟩
   walk_at "rd"
   refine⟨r,p,cs,bs,n,rfl,l,ne,hp,f,fun u M5 S h5 o=>?_⟩
   walk_at "rd"
   have hgu:g≠u:=fun e=>by rw[<-e,b] at S;cases S
   have hnu:n≠u:=fun e=>by rw[<-e,f] at S;cases S
   have l1:=TX r.blk (((prB r.blk [] 0).reverse).take k)
   have l2:=TV (B2 r.blk) p cs.length
   have l3:(((prB r.blk [] 0).reverse).take k).length<=30:=by rw[BT3];lia
   refine⟨g,u,_,_,rfl,rfl,(o g hgu).trans b,h5,by rw[BR0];lia,?_⟩
   refine⟨_,rfl,by rw[B0,V,BX7];simp[gr],by rw[B3 J,o n hnu,f],fun x i=>?_⟩
   have e4:=m x i
   have hxg:x≠g:=N x i
   have hxu:x≠u:=fun e=>i (by rw[<-e4,e];exact S)
   rw[B3 hxg,o x hxu,e4]
  | ife e =>
   refine A9 (by simp only[E5];decide +kernel) ?_
   walk_at "rd"
   exact⟨_,rfl,by rw[V,BX7];simpa[gr] using b,f,m⟩
  | whl e =>
   refine A9 (by simp only[E5];decide +kernel) ?_
   walk_at "rd"
   exact⟨_,rfl,by rw[V,BX7];simpa[gr] using b,f,m⟩
  | leaf w rs =>
   obtain⟨n1,n2,n3⟩:=Y1 okd.1.2
   refine A9 n3 ?_
   walk_at "rd"
   exact⟨_,rfl,by rw[V,BX7];simpa[gr] using b,f,m⟩
 ·rintro σ M4 ⟨s4,rfl,b,f,m⟩
  rw[BP1,BX8,<-AL1] at b
  walk_at "rd"
  refine K0 (B2 r.blk) G8 (N0 (B2 r.blk)) (fun _=>true) (by rw[BR0];lia) ?_ ?_
  ·intro row t M5 R F o hR hF
   walk_at "rd"
   refine⟨B2 r.blk,row,n,rfl,(o n (by rw[f];simp)).trans f,V3 _ _ t,WJ ok ne t,?_⟩
   exact hR rfl
  rw[CC6.2 fun _ _=>rfl]
  walk_at "rd"
  refine⟨_,b,?_⟩
  walk_at "rd"
  exact View.keep m q
end CH
namespace LW
open PySem L2 L3 MK K11 K12 GO CD CH
open TK (neD neB O6)
inductive Lead (L:List Row)(i:Nat):Nat->Row->Prop
 | self {r:Row}:L[i]?=some r->isJ r=false->Lead L i i r
 | jump {k:C5} {j:Nat} {r:Row}:L[i]?=some (.jump k)->numOf L k=.int (j:Int)->L[j]?=some r->isJ r=false->C7 r=J6 k->Lead L i j r
theorem AA8 {b:Blk}(ok:okB b)(ne:neB b){k:C5}(h:(B2 b)[i]?=some (.jump k)):Fnd (B2 b) k:=by
 cases X8 ok ne i _ h with
 | jmp a h =>
  rcases h with rfl|rfl|⟨rfl,c⟩
  ·exact T1 ok _ _ _ (BP5 _) a
  ·exact FR ok a
  ·exact(BA ok a c).1
theorem CM {b:Blk}(ok:okB b)(ne:neB b)(hi:i<(B2 b).length):∃j r,Lead (B2 b) i j r:=by
 have h:=BQ2 hi
 generalize (B2 b)[i]=a at h
 cases hj:isJ a with
 | false=>exact⟨i,a,.self h hj⟩
 | true =>
  cases a with
  | jump k =>
   obtain⟨j,r,_,c,d,e,f⟩:=GD (AA8 ok ne h)
   exact⟨j,r,.jump h c d e f⟩
  | _=>simp[isJ] at hj
theorem UB {r:Row}{k:C5}(h:Lead L i j r)(a:At L i k):L[j]?=some r/\isJ r=false/\C7 r=J6 k:=by
 obtain⟨m,e,s⟩:=a
 cases h with
 | self b c =>
  rw[b] at e
  cases e
  refine⟨b,c,?_⟩
  cases r with
  | jump d=>cases c
  | _=>exact s
 | jump b c f g l =>
  rw[b] at e
  cases e
  exact⟨f,g,l.trans s⟩
def Q4 (b:Blk):D:=.tup ((B2 b).map (N0 (B2 b)))
def MX:Sp3:=fun ds M Q=>∃(b:Blk) (i j:Nat) (r:Row),ds=[Q4 b,.int (i:Int)]/\okB b/\neB b/\(B2 b).length<=100/\Lead (B2 b) i j r/\Q (.int (j:Int)) M
def VM:Sp3:=AI6
def S5:Sp3:=fun ds M Q=>∃(b:Blk) (i:Nat) (p:List Int),ds=[Q4 b,.int (i:Int),plT p]/\okB b/\neB b/\(B2 b).length<=100/\At (B2 b) i (kd p)/\Q (.bl true) M
def S4:Sp3:=fun ds M Q=>∃(b:Blk) (i:Nat) (k:C5),ds=[Q4 b,.int (i:Int),nkD k]/\okB b/\neB b/\(B2 b).length<=100/\nOk k/\At (B2 b) i k/\Q (.bl true) M
def UC (b:Blk)(p:List Int):D:=match lfT b p with
 | none=>.int (-1)
 | some k=>numOf (B2 b) k
def MZ:Sp3:=fun ds M Q=>∃(r:Rl) (p:List Int) (d:Deed),ds=[rD r,Q4 r.blk,UC r.blk p,plT p]/\TK.rOk r/\(p,d)∈prB r.blk [] 0/\Q (.bl true) M
def AI5:Sp3:=fun ds M Q=>∃(r:Rl) (i:Nat),ds=[rD r,Q4 r.blk,.int (i:Int)]/\TK.rOk r/\i<(B2 r.blk).length/\Q (.bl true) M
def VJ:Sp3:=fun ds M Q=>∃r:Rl,ds=[rD r,Q4 r.blk]/\TK.rOk r/\Q (.bl true) M
def PX:Sp3:=fun ds M Q=>∃r:Rl,ds=[rD r,Q4 r.blk]/\TK.rOk r/\Q (.bl true) M
end LW
namespace L3
open PySem PySem.Spec PyProof.Rows L2
variable {X:Cx}
def GL (neg:Bool):R3:=fun x y M Q=>∃ds,dOk x/\GU M y=some ds/\(∀d∈ds,dOk d)/\Q (.bl (neg ^^ ds.any fun d=>BU5 (pyD d) (pyD x))) M
open Classical in
noncomputable def eqP (h:Heap) (x:PyData) (u:Value):Bool:=decide (∃d as,Reads h u d as/\d.canLay0=true/\BU5 d x=true)
open Classical in
theorem AY4 {x d:PyData}{as:List Addr}(r:Reads h u d as)(c:d.canLay0=true):eqP h x u=BU5 d x:=by
 unfold eqP
 cases e:BU5 d x with
 | true=>exact decide_eq_true ⟨d,as,r,c,e⟩
 | false =>
  refine decide_eq_false ?_
  rintro⟨f,a,g,i,b⟩
  have h:=SeqAt.Reads.unique d f u as a c r g
  subst h
  rw[e] at b;cases b
theorem P8 {k:Nat}(g:Room k X.A){pins:List (Addr×Obj)}{σv:L2.St}{H:Hp}{s:BP9}{M:Mem}{x:D}{i:V}{v:Value}(I:Inv X pins σv H s)(j:RelV i v)(l:Rep X.K M H x i)(c:dOk x) :
  ∀{ds:List D} {vs:List V} {us:List Value},(∀d∈ds,dOk d)->Reps X.K M H ds vs->Vals vs us->(∀u∈us,SeqAt.EqAt X.A.in1 s u v (eqP s.heap (pyD x) u))/\us.any (eqP s.heap (pyD x))=ds.any fun d=>BU5 (pyD d) (pyD x)
 | [],_,us,_,p,r=>by cases p;cases r;exact⟨fun _ h=>absurd h BS1,rfl⟩
 | d::ds,_,us,o,p,r=>by
  cases p with
  | cons n q=>cases r with
   | @cons _ _ u t w y =>
    obtain⟨a,b⟩:=P8 g I j l c (fun z B=>o z (BQ4 _ B)) q y
    have f:=o d BQ7
    obtain⟨E,m⟩:=P4 I f.1 n w
    obtain⟨bs,C⟩:=P4 I c.1 l j
    have e:=AY4 (x:=pyD x) m f.2.1
    refine⟨fun u hu'=>?_,by rw[BT6,BT6,b,e]⟩
    rcases BU1.mp hu' with rfl|hu'
    ·rw[e]
     exact SeqAt.eqAt_reads _ _ _ _ _ _ _ _ m C f.2.1 c.2.1 (by have:=g.units;have:=c.2.2;show X.A.units+1+_<cLine;lia)
    ·exact a u hu'
theorem BA3 {k:Nat}(g:Room k X.A):OpR3 X (BT0 .In) (GL false):=by
 rintro h s o H M x y E F v u Q I m i t j z ⟨G,l,B,n,q⟩
 obtain⟨p,J,rfl,C,r⟩:=Y3 m z B
 cases t
 rw[CB7] at q
 rcases C with hq|hq
 ·obtain⟨c,d,e,D⟩:=I.list hq
  obtain⟨a,b⟩:=P8 g I i j l n r d
  refine SeqAt.in_listAt (eqP s.heap (pyD x)) e.isList (fun w f=>a w (by simpa using f)) ⟨_,.bl _,M,H,I,.refl,m,rfl,.bl,?_⟩
  rw[show c.toArray.any (eqP s.heap (pyD x))=c.any (eqP s.heap (pyD x)) by simp,b];exact q
 ·obtain⟨c,d,e,D⟩:=I.tuple hq
  obtain⟨a,b⟩:=P8 g I i j l n r d
  refine SeqAt.in_tupleAt (eqP s.heap (pyD x)) e (fun w f=>a w (by simpa using f)) ⟨_,.bl _,M,H,I,.refl,m,rfl,.bl,?_⟩
  rw[show c.toArray.any (eqP s.heap (pyD x))=c.any (eqP s.heap (pyD x)) by simp,b];exact q
theorem WZ {k:Nat}(g:Room k X.A):OpR3 X (BT0 .NotIn) (GL true):=by
 rintro h s o H M x y E F v u Q I m i t j z ⟨G,l,B,n,q⟩
 obtain⟨p,J,rfl,C,r⟩:=Y3 m z B
 cases t
 rw[Bool.true_xor] at q
 rcases C with hq|hq
 ·obtain⟨c,d,e,D⟩:=I.list hq
  obtain⟨a,b⟩:=P8 g I i j l n r d
  refine SeqAt.notIn_listAt (eqP s.heap (pyD x)) e.isList (fun w f=>a w (by simpa using f)) ⟨_,.bl _,M,H,I,.refl,m,rfl,.bl,?_⟩
  rw[show c.toArray.any (eqP s.heap (pyD x))=c.any (eqP s.heap (pyD x)) by simp,b];exact q
 ·obtain⟨c,d,e,D⟩:=I.tuple hq
  obtain⟨a,b⟩:=P8 g I i j l n r d
  refine SeqAt.notIn_tupleAt (eqP s.heap (pyD x)) e (fun w f=>a w (by simpa using f)) ⟨_,.bl _,M,H,I,.refl,m,rfl,.bl,?_⟩
  rw[show c.toArray.any (eqP s.heap (pyD x))=c.any (eqP s.heap (pyD x)) by simp,b];exact q
theorem AG5 {x:D}{b:Bool}{Q:DK}(ho:dOk x)(a:GU M y=some ds)(hd:∀d∈ds,dOk d)(e:(ds.any fun d=>BU5 (pyD d) (pyD x))=b)(q:Q (.bl (neg ^^ b)) M):GL neg x y M Q:=⟨ds,ho,a,hd,by rw[e];exact q⟩
end L3
namespace LW
open PySem L2 L3
abbrev NM:List Str:=["_law_rows","_law_number","_law_count"]
def DR:TS3 :=
  (A8 (O4 (O3 (A0 (F2 E2 (A0 (A4 0) A5)) A5)) 2 (A8 (C1 (B1 (A6 CU (A6 B7 (A6 B7 (A4 0) (A4 1)) (tC3 (.int 0))) (tC3 (.str "jump")))) (B4 (A4 1)) B6)
  (B8 1 (A6 B7 (A6 B7 (A4 0) (A4 1)) (tC3 (.int 1))))))
  (B4 (tC3 .non)))
abbrev KN:List Str:=["_law_rule","_law_place"]
def BU:TS3 :=
  (A8 (BP (B1 (A6 GK (F2 E2 (A0 (A4 1) A5)) (tC3 (.int 1)))) (A8 (B8 1 (BO (A4 1) G4 (K2 (P0 J4 (tC3 (.int 2))))))
  (C1 (B1 (A6 D6 (A6 B7 (A7 K12.spDeedAt (A0 (A4 0) (A0 (A4 1) A5))) (tC3 (.int 0))) (tC3 (.str "while")))) (B4 (A4 1)) B6)))
  (B4 (tC3 .non)))
abbrev EZ:List Str:=["_law_rows","_law_number","_law_place","_law_at"]
def W7:TS3 :=
  (A8 (B8 3 (A7 MX (A0 (A4 0) (A0 (A4 1) A5))))
  (A8 (C1 (CY (B1 (A6 RW (A4 3) (tC3 .non))) (B1 (A6 (Z2 false) (A6 B7 (A6 B7 (A4 0) (A4 3)) (tC3 (.int 0))) (C0 (A0 (tC3 (.str "done")) (A0 (tC3 (.str "last")) (A0 (tC3 (.str "resume")) A5))))))) (B4 (tC3 (.bl false))) B6)
  (B4 (A6 D6 (A6 B7 (A6 B7 (A4 0) (A4 3)) (tC3 (.int 1))) (A4 2)))))
abbrev EY:List Str:=["_law_rows","_law_number","_law_told","_law_at"]
def W6:TS3 :=
  (A8 (C1 (B1 (A6 (Z2 false) (A6 B7 (A4 2) (tC3 (.int 0))) (C0 (A0 (tC3 (.str "deed")) (A0 (tC3 (.str "test")) A5))))) (B4 (A7 S5 (A0 (A4 0) (A0 (A4 1) (A0 (A6 B7 (A4 2) (tC3 (.int 1))) A5))))) B6)
  (A8 (B8 3 (A7 MX (A0 (A4 0) (A0 (A4 1) A5))))
  (A8 (C1 (B1 (A6 RW (A4 3) (tC3 .non))) (B4 (tC3 (.bl false))) B6)
  (A8 (C1 (B1 (A6 D6 (A6 B7 (A4 2) (tC3 (.int 0))) (tC3 (.str "end")))) (B4 (A6 D6 (A6 B7 (A6 B7 (A4 0) (A4 3)) (tC3 (.int 0))) (tC3 (.str "done")))) B6)
  (B4 (U2 (A6 D6 (A6 B7 (A6 B7 (A4 0) (A4 3)) (tC3 (.int 0))) (A6 B7 (A4 2) (tC3 (.int 0)))) (A6 D6 (A6 B7 (A6 B7 (A4 0) (A4 3)) (tC3 (.int 1))) (A6 B7 (A4 2) (tC3 (.int 1))))))))))
abbrev NO:List Str:=["_law_rule","_law_rows","_law_number","_law_place","_law_outer"]
def DT:TS3 :=
  (A8 (B8 4 (A7 VM (A0 (A4 0) (A0 (A4 3) A5))))
  (A8 (C1 (B1 (A6 RW (A4 4) (tC3 .non))) (B4 (A6 D6 (A4 2) (P0 J4 (tC3 (.int 1))))) B6)
  (B4 (U2 (A6 CU (A4 2) (P0 J4 (tC3 (.int 1)))) (A7 S4 (A0 (A4 1) (A0 (A4 2) (A0 (A7 (GO.spBehind 20) (A0 (A4 0) (A0 (A4 4) A5))) A5))))))))
abbrev CA:List Str:=["_law_rule","_law_rows","_law_number","_law_row","_law_place","_law_deed"]
def S6:TS3 :=
  (A8 (B8 3 (A6 B7 (A4 1) (A4 2)))
  (A8 (C1 (B1 (A6 (Z2 false) (A6 B7 (A4 3) (tC3 (.int 0))) (C0 (A0 (tC3 (.str "done")) (A0 (tC3 (.str "end")) (A0 (tC3 (.str "fault")) A5)))))) (B4 (tC3 (.bl true))) B6)
  (A8 (C1 (B1 (A6 D6 (A6 B7 (A4 3) (tC3 (.int 0))) (tC3 (.str "jump")))) (B4 (A6 UX (A7 MX (A0 (A4 1) (A0 (A4 2) A5))) (tC3 .non))) B6)
  (A8 (B8 4 (A6 B7 (A4 3) (tC3 (.int 1))))
  (A8 (B8 5 (A7 K12.spDeedAt (A0 (A4 0) (A0 (A4 4) A5))))
  (A8 (C1 (B1 (A6 D6 (A6 B7 (A4 3) (tC3 (.int 0))) (tC3 (.str "leave")))) (B4 (A7 MZ (A0 (A4 0) (A0 (A4 1) (A0 (A6 B7 (A4 3) (tC3 (.int 2))) (A0 (A4 4) A5)))))) B6)
  (A8 (C1 (B1 (A6 D6 (A6 D0 (A4 2) (tC3 (.int 1))) (F2 E2 (A0 (A4 1) A5)))) (B4 (tC3 (.bl false))) B6)
  (A8 (C1 (B1 (A6 (Z2 false) (A6 B7 (A4 3) (tC3 (.int 0))) (C0 (A0 (tC3 (.str "deed")) (A0 (tC3 (.str "stand")) A5))))) (B4 (A7 S4 (A0 (A4 1) (A0 (A6 D0 (A4 2) (tC3 (.int 1))) (A0 (A7 (GO.spBehind 20) (A0 (A4 0) (A0 (A4 4) A5))) A5))))) B6)
  (A8 (C1 (B1 (A6 D6 (A6 B7 (A4 3) (tC3 (.int 0))) (tC3 (.str "resume")))) (B4 (U2 (A7 S4 (A0 (A4 1) (A0 (A6 D0 (A4 2) (tC3 (.int 1))) (A0 (A7 (GO.spBehind 20) (A0 (A4 0) (A0 (A4 4) A5))) A5)))) (A7 MZ (A0 (A4 0) (A0 (A4 1) (A0 (A6 B7 (A4 3) (tC3 (.int 2))) (A0 (A4 4) A5))))))) B6)
  (A8 (C1 (B1 (A6 D6 (A6 B7 (A4 3) (tC3 (.int 0))) (tC3 (.str "last")))) (B4 (A7 S5 (A0 (A4 1) (A0 (A6 D0 (A4 2) (tC3 (.int 1))) (A0 (A6 D0 (A4 4) (C0 (A0 (A6 D0 (tC3 (.int 1)) (F2 E2 (A0 (A6 B7 (A4 5) (tC3 (.int 2))) A5))) (A0 (tC3 (.int 0)) A5)))) A5))))) B6)
  (A8 (C1 (W5 (B1 (A7 S5 (A0 (A4 1) (A0 (A6 D0 (A4 2) (tC3 (.int 1))) (A0 (A6 D0 (A4 4) (C0 (A0 (tC3 (.int 0)) (A0 (tC3 (.int 0)) A5)))) A5)))))) (B4 (tC3 (.bl false))) B6)
  (A8 (C1 (HA (B1 (A6 D6 (A6 B7 (A4 5) (tC3 (.int 0))) (tC3 (.str "if")))) (B1 (A6 CU (A6 B7 (A4 5) (tC3 (.int 3))) (C0 A5)))) (B4 (A7 S5 (A0 (A4 1) (A0 (A6 B7 (A4 3) (tC3 (.int 2))) (A0 (A6 D0 (A4 4) (C0 (A0 (tC3 (.int 1)) (A0 (tC3 (.int 0)) A5)))) A5))))) B6)
  (B4 (JW (A6 D6 (A6 B7 (A4 3) (tC3 (.int 0))) (tC3 (.str "open"))) (A7 S4 (A0 (A4 1) (A0 (A6 B7 (A4 3) (tC3 (.int 2))) (A0 (A7 (GO.spBehind 20) (A0 (A4 0) (A0 (A4 4) A5))) A5))))))))))))))))))
abbrev AR:List Str:=["_law_rule","_law_rows","_law_stood"]
def R0:TS3 :=
  (A8 (C1 (W5 (B1 (A7 S5 (A0 (A4 1) (A0 (tC3 (.int 0)) (A0 (C0 (A0 (tC3 (.int 0)) A5)) A5)))))) (B4 (tC3 (.bl false))) B6)
  (A8 (B8 2 (N6 (DH (A4 1)) 1 [] (J0 0) (B1 (A6 D6 (A6 B7 (A4 0) (tC3 (.int 0))) (tC3 (.str "stand")))) (A6 B7 (A4 0) (tC3 (.int 1)))))
  (A8 (C1 (B1 (A6 (DL false) (tC3 (.bl false)) (N6 (O1 (AO (A7 (K12.spSome K12.isSt) (A0 (A4 0) A5)))) 1 [2] (J0 0) L5 (A6 (GL false) (A4 0) (A4 1))))) (B4 (tC3 (.bl false))) B6)
  (B4 (A6 (DL true) (tC3 (.bl false)) (N6 (O3 (A0 (F2 E2 (A0 (A4 1) A5)) A5)) 1 [0,1] (J0 0) L5 (A7 AI5 (A0 (A4 1) (A0 (A4 2) (A0 (A4 0) A5))))))))))
abbrev AF:List Str:=["_law_rule","_law_rows","_law_there","_law_row","_law_word"]
def Q6:TS3 :=
  (A8 (B8 2 (A7 K11.spPlacesR (A0 (A4 0) A5)))
  (A8 (O4 (DH (A4 1)) 3 (C1 (B1 (A6 (Z2 true) (A6 B7 (A4 3) (tC3 (.int 0))) (C0 (A0 (tC3 (.str "jump")) (A0 (tC3 (.str "done")) A5))))) (A8 (C1 (B1 (A6 (GL true) (A6 B7 (A4 3) (tC3 (.int 1))) (A4 2))) (B4 (tC3 (.bl false))) B6)
  (A8 (B8 4 (A6 B7 (A7 K12.spDeedAt (A0 (A4 0) (A0 (A6 B7 (A4 3) (tC3 (.int 1))) A5))) (tC3 (.int 0))))
  (A8 (C1 (B1 (A6 (Z2 false) (A4 4) (C0 (A0 (tC3 (.str "let")) (A0 (tC3 (.str "note")) (A0 (tC3 (.str "ask")) (A0 (tC3 (.str "cast")) (A0 (tC3 (.str "close")) A5)))))))) (B8 4 (tC3 (.str "deed"))) B6)
  (A8 (C1 (B1 (A6 (Z2 false) (A4 4) (C0 (A0 (tC3 (.str "give")) (A0 (tC3 (.str "on")) A5))))) (B8 4 (tC3 (.str "stand"))) B6)
  (A8 (C1 (B1 (A6 (Z2 false) (A4 4) (C0 (A0 (tC3 (.str "if")) (A0 (tC3 (.str "while")) A5))))) (B8 4 (tC3 (.str "test"))) B6)
  (C1 (B1 (A6 (Z2 false) (A6 B7 (A4 3) (tC3 (.int 0))) (C0 (A0 (tC3 (.str "last")) (A0 (tC3 (.str "resume")) A5))))) (C1 (CY (B1 (A6 CU (A4 4) (tC3 (.str "try")))) (B1 (A6 D6 (A6 B7 (A7 K12.spDeedAt (A0 (A4 0) (A0 (A6 B7 (A4 3) (tC3 (.int 1))) A5))) (tC3 (.int 3))) (C0 A5)))) (B4 (tC3 (.bl false))) B6) (C1 (HA (B1 (A6 CU (A6 B7 (A4 3) (tC3 (.int 0))) (A4 4))) (CY (B1 (A6 CU (A6 B7 (A4 3) (tC3 (.int 0))) (tC3 (.str "open")))) (B1 (A6 CU (A4 4) (tC3 (.str "try")))))) (B4 (tC3 (.bl false))) B6))))))) B6))
  (B4 (tC3 (.bl true)))))
abbrev BF8:List Str:=["_law_script","_law_rule","_law_rows"]
def AV6:TS3 :=
  (A8 (O4 (DH (A7 TK.spBook (A0 (A4 0) (A0 (tC3 (.int 3)) A5)))) 1 (A8 (B8 2 (A6 B7 (A7 CH.spCode (A0 (A4 1) A5)) (tC3 (.int 0))))
  (A8 (C1 (CY (W5 (B1 (O9 RX RX (tC3 (.int 1)) (F2 E2 (A0 (A4 2) A5)) (A6 D0 (A6 W2 (tC3 (.int 3)) (F2 E2 (A0 (A7 K11.spPlacesR (A0 (A4 1) A5)) A5))) (tC3 (.int 1)))))) (W5 (B1 (A7 PX (A0 (A4 1) (A0 (A4 2) A5)))))) (B4 (tC3 (.bl false))) B6)
  (C1 (W5 (B1 (A7 VJ (A0 (A4 1) (A0 (A4 2) A5))))) (B4 (tC3 (.bl false))) B6))))
  (B4 (tC3 (.bl true))))
end LW
open L3
namespace LW
open PySem L2 L3 MK K11 K12 GO CD CH
open TK (neD neB O6)
theorem MR (L:List Row)(row:Row):∃rest,N0 L row=.tup (.str (wd row)::rest):=by
 cases row<;>exact⟨_,rfl⟩
theorem ET {b:Blk}(h:(B2 b)[i]?=some row):atI ((B2 b).map (N0 (B2 b))) (i:Int)=some (N0 (B2 b) row):=C2 (by rw[BQ3,h];rfl)
theorem rd__law_lead:∀ds M Q,MX ds M Q->DR {nx:=fun _ M'=>View Q .non M',rt:=View Q} (B9 NM ds) M:=by
 rintro _ M Q ⟨b,i,j,r,rfl,ok,ne,z,t,q⟩
 unfold DR Q4
 have u:∀{k:Nat} {c:Row} {M:Mem} {Q:DK},(B2 b)[k]?=some c->Q (N0 (B2 b) c) M->B7 (.tup ((B2 b).map (N0 (B2 b)))) (.int (k:Int)) M Q:=fun h q=>B5 (ET h) q
 have o:∀{c:Row} {M:Mem} {Q:DK},Q (.str (wd c)) M->B7 (N0 (B2 b) c) (.int 0) M Q:=fun{c} {M} {Q} q=>by
  obtain⟨A,e⟩:=MR (B2 b) c
  rw[e];exact B5 (C2 (j:=0) rfl) q
 walk_at "rd"
 rw[BP1]
 have f:(B2 b)[j]?=some r/\isJ r=false:=by cases t with
  | self g m=>exact⟨g,m⟩
  | jump g m p B C=>exact⟨p,B⟩
 have D:=V3 b r (BQ1 f.1)
 have v:(wd r==("jump":Str))=false:=(PU D).trans f.2
 have w:i≠j->2<=(B2 b).length:=fun h=>by
  have g:=(List.getElem?_eq_some_iff.mp f.1).1
  have m:i<(B2 b).length:=by cases t with
   | self a _=>exact g
   | jump a _ _ _ _=>exact(List.getElem?_eq_some_iff.mp a).1
  lia
 refine⟨by lia,by lia,fun k x M'=>M'=M/\∃y n,x=[some (.tup ((B2 b).map (N0 (B2 b)))),some (.int ((n:Nat):Int)),y]/\((k=0/\n=i)\/(k=1/\n=j/\i≠j)),⟨rfl,none,i,rfl,.inl ⟨rfl,rfl⟩⟩,?_,?_⟩
 ·rintro k d x E H ⟨rfl,y,n,rfl,s⟩
  have F:(B2 b)[n]?=some r->n=j->True:=fun _ _=>trivial
  by_cases l:n=j
  ·subst l
   walk_at "rd"
   refine u f.1 ?_
   walk_at "rd"
   refine o ?_
   walk_at "rd"
   refine C4 (by rw[v];rfl) ?_
   walk_at "rd"
   exact View.of q
  ·have G:k=0/\n=i:=by rcases s with h|⟨_,h,_⟩;exact h;exact absurd h l
   obtain⟨rfl,rfl⟩:=G
   cases t with
   | self g m=>exact absurd rfl l
   | jump g m p B C =>
    walk_at "rd"
    refine u g ?_
    walk_at "rd"
    refine o ?_
    walk_at "rd"
    refine A9 (by simp only[wd];decide +kernel) ?_
    walk_at "rd"
    refine u g ?_
    walk_at "rd"
    refine B5 (d:=.int (j:Int)) (by rw[<-m];rfl) ?_
    walk_at "rd"
    exact⟨rfl,_,j,rfl,.inr ⟨rfl,rfl,l⟩⟩
 ·rintro x E ⟨rfl,y,n,rfl,s⟩
  exfalso
  have g:=(List.getElem?_eq_some_iff.mp f.1).1
  rw[BP1,BZ3] at s
  rcases s with⟨h,_⟩|⟨h,_,p⟩
  ·lia
  ·have:=w p;lia
end LW
open L3
namespace LW
open PySem L2 L3 MK K11 K12 GO CD CH
open TK (neD neB O6)
theorem AH1 {r:Row}(a:rW r)(c:isJ r=false)(h:C7 r=kd p) :
  (["done","last","resume"]:List Str).any (·==wd r)=false/\∃rest,N0 L r=.tup (.str (wd r)::plT p::rest):=by
 cases r with
 | own w q =>
  have b:(w==("last":Str))=false:=by
   cases e:(w==("last":Str)) with
   | false=>rfl
   | true =>
    exfalso
    simp only[C7] at h
    rw[if_pos e] at h
    injection h with h _
    exact absurd h (by decide +kernel)
  have e:q=p:=by
   simp only[C7] at h
   rw[b,if_neg BQ5] at h
   injection h with _ h
   injection h
  subst e
  refine⟨?_,_,rfl⟩
  have a:AC5 w:=a
  rcases a with rfl|rfl|rfl|rfl|rfl|rfl<;>first|(simp only[wd];decide +kernel)|exact absurd b (by decide +kernel)
 | test q d =>
  have e:q=p:=by simpa[C7,kd] using h
  subst e
  exact⟨by simp only[wd];decide +kernel,_,rfl⟩
 | jump d=>cases c
 | lv w q d =>
  rcases a.1 with rfl|rfl
  ·have e:q=p:=by
    simp only[C7] at h
    rw[if_neg (by decide +kernel)] at h
    injection h with _ h
    injection h
   subst e
   exact⟨by simp only[wd];decide +kernel,_,rfl⟩
  ·exfalso
   simp only[C7] at h
   rw[if_pos (by decide +kernel)] at h
   injection h with h _
   exact absurd h (by decide +kernel)
 | done=>exfalso;revert h;simp[C7,kd]
theorem V9 (p:List Int):dOk (plT p):=by
 obtain⟨a,b,c⟩:=LM p
 exact⟨by simpa[plT,L3.plain] using a,by simpa[plT,pyD,CA7] using b,by simp[plT,pyD,CB0,c]⟩
theorem OM:∀p:List Int,PyData.eqvAll (L9 (p.map D.int)) (L9 (p.map D.int))=true
 | []=>rfl
 | n::p=>by simp[L9,pyD,PyData.eqvAll,BU5,OM p]
theorem EN (p:List Int):BU5 (pyD (plT p)) (pyD (plT p))=true:=by
 simp[plT,pyD,BU5,OM p]
theorem rd__law_is_deed:∀ds M Q,S5 ds M Q->W7 {nx:=fun _ M'=>View Q .non M',rt:=View Q} (B9 EZ ds) M:=by
 rintro _ M Q ⟨b,i,p,rfl,ok,ne,a,c,q⟩
 unfold W7
 have m:i<(B2 b).length:=by obtain⟨_,e,_⟩:=c;exact(List.getElem?_eq_some_iff.mp e).1
 obtain⟨j,r,g⟩:=CM ok ne m
 obtain⟨g1,g2,g3⟩:=UB g c
 have n:=V3 b r (BQ1 g1)
 obtain⟨f,h,k⟩:=AH1 (L:=B2 b) n g2 g3
 walk_at "rd"
 refine⟨b,i,j,r,rfl,ok,ne,a,g,?_⟩
 walk_at "rd"
 have l:∀{M:Mem} {Q:DK},Q (N0 (B2 b) r) M->B7 (Q4 b) (.int (j:Int)) M Q:=fun q=>B5 (ET g1) q
 refine l ?_
 rw[k]
 walk_at "rd"
 refine B5 (d:=.str (wd r)) (C2 (j:=0) rfl) ?_
 walk_at "rd"
 refine .inr ⟨wd r,["done","last","resume"],rfl,rfl,?_⟩
 rw[f]
 refine⟨false,rfl,?_⟩
 refine A9 rfl ?_
 walk_at "rd"
 refine l ?_
 rw[k]
 walk_at "rd"
 refine B5 (d:=plT p) (C2 (j:=1) rfl) ?_
 walk_at "rd"
 exact AU8 (V9 p) (V9 p) (by rw[EN];exact View.of q)
end LW
open L3
namespace LW
open PySem L2 L3 MK K11 K12 GO CD CH
open TK (neD neB O6)
theorem AH5 {r:Row}(b:x="last"\/x="resume")(c:isJ r=false)(h:C7 r=(x,some p)) :
  ∃rest,N0 L r=.tup (.str x::plT p::rest):=by
 have nd:x≠("deed":Str):=by rcases b with rfl|rfl<;>decide +kernel
 cases r with
 | own w q =>
  simp only[C7] at h
  split at h
  ·rename_i a
   injection h with h1 h2
   injection h2 with h2
   subst h1 h2
   rw[eq_of_beq a]
   exact⟨_,rfl⟩
  ·injection h with h1 _
   exact absurd h1.symm nd
 | test q d=>injection h with h1 _;exact absurd h1.symm nd
 | jump d=>cases c
 | lv w q d =>
  simp only[C7] at h
  split at h
  ·rename_i a
   injection h with h1 h2
   injection h2 with h2
   subst h1 h2
   rw[eq_of_beq a]
   exact⟨_,rfl⟩
  ·injection h with h1 _
   exact absurd h1.symm nd
 | done=>injection h with _ h2;cases h2
theorem AH2 {r:Row}(a:isJ r=false)(h:C7 r=ke):r=.done:=by
 cases r with
 | own w q=>simp only[C7] at h;split at h<;>(injection h with _ h2;cases h2)
 | test q d=>injection h with _ h2;cases h2
 | jump d=>cases a
 | lv w q d=>simp only[C7] at h;split at h<;>(injection h with _ h2;cases h2)
 | done=>rfl
theorem rd__law_follows:∀ds M Q,S4 ds M Q->W6 {nx:=fun _ M'=>View Q .non M',rt:=View Q} (B9 EY ds) M:=by
 rintro _ M Q ⟨b,i,k,rfl,ok,ne,a,v,c,q⟩
 unfold W6
 have x:i<(B2 b).length:=by obtain⟨_,e,_⟩:=c;exact(List.getElem?_eq_some_iff.mp e).1
 obtain⟨j,r,m⟩:=CM ok ne x
 obtain⟨g1,g2,g3⟩:=UB m c
 have n:∀{M:Mem} {Q:DK},Q (N0 (B2 b) r) M->B7 (Q4 b) (.int (j:Int)) M Q:=fun q=>B5 (ET g1) q
 rcases v with⟨o,y⟩|rfl
 ·obtain⟨w,z⟩:=k
  cases z with
  | none=>exact absurd rfl y
  | some p =>
   have o:w="deed"\/w="test"\/w="last"\/w="resume":=o
   have s:∀{M:Mem} {Q:DK},Q (.str w) M->B7 (nkD (w,some p)) (.int 0) M Q:=fun q=>B5 (C2 (j:=0) rfl) q
   have t:∀{M:Mem} {Q:DK},Q (plT p) M->B7 (nkD (w,some p)) (.int 1) M Q:=fun q=>B5 (C2 (j:=1) rfl) q
   walk_at "rd"
   refine s ?_
   walk_at "rd"
   refine .inr ⟨w,["deed","test"],rfl,rfl,?_⟩
   by_cases f:w="deed"\/w="test"
   ·have e:(["deed","test"]:List Str).any (·==w)=true:=by rcases f with rfl|rfl<;>decide +kernel
    rw[e]
    refine⟨true,rfl,C4 rfl ?_⟩
    walk_at "rd"
    refine t ?_
    walk_at "rd"
    refine⟨b,i,p,rfl,ok,ne,a,?_,View.of q⟩
    obtain⟨A,B,C⟩:=c
    refine⟨A,B,C.trans ?_⟩
    rcases f with rfl|rfl<;>rfl
   ·have g:w="last"\/w="resume":=by rcases o with h|h|h;exact absurd (.inl h) f;exact absurd (.inr h) f;exact h
    have e:(["deed","test"]:List Str).any (·==w)=false:=by rcases g with rfl|rfl<;>decide +kernel
    have E:(w==("end":Str))=false:=by rcases g with rfl|rfl<;>decide +kernel
    have g3:C7 r=(w,some p):=by rw[g3];rcases g with rfl|rfl<;>rfl
    obtain⟨u,l⟩:=AH5 (L:=B2 b) g g2 g3
    rw[e]
    refine⟨false,rfl,A9 rfl ?_⟩
    walk_at "rd"
    refine⟨b,i,j,r,rfl,ok,ne,a,m,?_⟩
    walk_at "rd"
    refine s ?_
    walk_at "rd"
    rw[E]
    walk_at "rd"
    refine n ?_
    rw[l]
    walk_at "rd"
    refine B5 (d:=.str w) (C2 (j:=0) rfl) ?_
    walk_at "rd"
    refine s ?_
    walk_at "rd"
    rw[show(w==w)=true from beq_self_eq_true w]
    walk_at "rd"
    refine n ?_
    rw[l]
    walk_at "rd"
    refine B5 (d:=plT p) (C2 (j:=1) rfl) ?_
    walk_at "rd"
    refine t ?_
    exact AU8 (V9 p) (V9 p) (by rw[EN];exact View.of q)
 ·have l:=AH2 g2 (g3.trans rfl)
  subst l
  walk_at "rd"
  refine B5 (d:=.str "end") (C2 (j:=0) rfl) ?_
  walk_at "rd"
  refine .inr ⟨"end",["deed","test"],rfl,rfl,?_⟩
  refine⟨false,congrArg D.bl (by decide +kernel),A9 rfl ?_⟩
  walk_at "rd"
  refine⟨b,i,j,.done,rfl,ok,ne,a,m,?_⟩
  walk_at "rd"
  refine B5 (d:=.str "end") (C2 (j:=0) rfl) ?_
  walk_at "rd"
  refine C4 (by decide +kernel) ?_
  walk_at "rd"
  refine n ?_
  walk_at "rd"
  refine B5 (d:=.str "done") (C2 (j:=0) rfl) ?_
  walk_at "rd"
  exact View.of q
end LW
open L3
namespace LW
open PySem L2 L3 MK K11 K12 GO CD CH
open TK (neD neB O6)
theorem rd__law_while:∀ds M Q,VM ds M Q->BU {nx:=fun _ M'=>View Q .non M',rt:=View Q} (B9 KN ds) M:=by
 rintro _ M Q ⟨r,p,d,rfl,o,w,q⟩
 unfold BU
 have q:Q (match whF (ar r.blk p) with|some q=>plT q|none=>.non) M:=q
 walk_at "rd"
 refine PQ ⟨fun m s t=>t=M/\∃(a:List Int) (u:Deed),s=[some (rD r),some (plT a)]/\(a,u)∈prB r.blk [] 0/\m=a.length/\whF (ar r.blk a)=whF (ar r.blk p),⟨_,rfl,p,d,rfl,w,rfl,rfl⟩,?_⟩
 rintro m s t ⟨rfl,a,u,rfl,k,rfl,b⟩
 walk_at "rd"
 refine ES ?_
 walk_at "rd"
 by_cases h:1<a.length
 ·rw[decide_eq_true (show(1:Int)<(a.length:Nat) by lia)]
  obtain⟨q',j,i,f,bs,bk,l,c,x,n,y,B,C⟩:=GI k h
  rw[KW h,c,x,y] at b
  have D:q'.length+2=a.length:=by rw[l];simp
  obtain⟨h,v,z,A,_⟩:=LJ (.mk f bs)
  walk_at "rd"
  rw[l]
  show Z6 (plT _) none (some (-2)) _ _
  refine rd_slWT.g ?_
  rw[ZL]
  walk_at "rd"
  refine⟨r,q',.mk f bs,rfl,o,n,?_⟩
  walk_at "rd"
  rw[z]
  refine B5 (d:=.str h) (C2 (j:=0) rfl) ?_
  walk_at "rd"
  rw[A (BH o.1 n)]
  cases e:isW (.mk f bs) with
  | true =>
   have c:whF ((q',.mk f bs,(j:Int))::ar r.blk q')=some q':=by simp[whF,e]
   rw[c] at b
   rw[<-b] at q
   walk_at "rd"
   exact View.of q
  | false =>
   have c:whF ((q',.mk f bs,(j:Int))::ar r.blk q')=whF (ar r.blk q'):=by simp[whF,e]
   rw[c] at b
   walk_at "rd"
   exact⟨q'.length,by rw[<-l];lia,rfl,q',_,rfl,n,rfl,b⟩
 ·rw[decide_eq_false (show¬(1:Int)<(a.length:Nat) by lia)]
  rw[KU h] at b
  have c:whF []=none:=rfl
  rw[c] at b
  rw[<-b] at q
  walk_at "rd"
  exact View.of q
theorem YQ {b:Blk}{k:C5}{r:Row}(a:(B2 b)[j]?=some r)(c:isJ r=false)(e:C7 r=J6 k):At (B2 b) j k:=by
 refine⟨r,a,?_⟩
 cases r with
 | jump d=>cases c
 | _=>exact e
theorem rd__law_left:∀ds M Q,MZ ds M Q->DT {nx:=fun _ M'=>View Q .non M',rt:=View Q} (B9 NO ds) M:=by
 rintro _ M Q ⟨r,p,d,rfl,⟨ok,ne,w,b,h⟩,i,q⟩
 unfold DT
 have k:=P1 ok ne
 have c:W1 r:=⟨ok,b,by lia⟩
 walk_at "rd"
 refine⟨r,p,d,rfl,c,i,?_⟩
 unfold UC
 cases hA:whA r.blk p with
 | none =>
  have e:lfT r.blk p=none:=by unfold lfT;rw[hA];rfl
  rw[e]
  walk_at "rd"
  exact View.of q
 | some o =>
  have e:lfT r.blk p=some (bhN r.blk o):=by unfold lfT;rw[hA];rfl
  rw[e]
  have l:∃f,(o,f)∈prB r.blk [] 0:=by
   unfold whA at hA
   obtain⟨x,m,rfl⟩:=Option.map_eq_some_iff.mp hA
   exact⟨_,(FE p.length (BP5 _) i x (CD7 m)).at_⟩
  obtain⟨f,a⟩:=l
  obtain⟨j,n,_,s,t,u,v⟩:=GD (T1 ok _ _ _ (BP5 _) a)
  have g:numOf (B2 r.blk) (bhN r.blk o)=.int (j:Int):=s
  simp only[g]
  walk_at "rd"
  refine A9 rfl ?_
  walk_at "rd"
  refine C4 (by simp) ?_
  walk_at "rd"
  refine⟨r,o,f,rfl,c,a,by have:=J7 c a;lia,?_⟩
  rw[EF r.blk o.length o (BP5 _)]
  walk_at "rd"
  exact⟨r.blk,j,bhN r.blk o,rfl,ok,ne,by lia,bhK r.blk o,YQ t u v,View.of q⟩
end LW
open L3
namespace LW
open PySem L2 L3 MK K11 K12 GO CD CH
open TK (neD neB O6)
def pOf:Row->List Int
 | .own _ p=>p
 | .test p _=>p
 | .lv _ p _=>p
 | _=>[]
theorem HQ {h:Str}(h2:h≠"end")(a:h≠"fault"):F9 h="stand"\/F9 h="deed":=by
 unfold F9
 split
 ·exact .inl rfl
 ·rw[if_neg (by simpa using h2),if_neg (by simpa using a)];exact .inr rfl
theorem RK {b:Blk}{k:C5}(f:Fnd (B2 b) k):∃j:Nat,numOf (B2 b) k=.int (j:Int)/\At (B2 b) j k:=by
 obtain⟨j,a,_,c,d,e,g⟩:=GD f
 exact⟨j,c,YQ d e g⟩
theorem AH4 {b:Blk}(h:Right b L i row) :
  (["done","end","fault"]:List Str).any (·==wd row)=true\/((["done","end","fault"]:List Str).any (·==wd row)=false/\((∃k,row=.jump k)\/((wd row==("jump":Str))=false/\∃rest,N0 L row=.tup (.str (wd row)::plT (pOf row)::rest)))):=by
 cases h with
 | stop a h=>left;rcases h with rfl|rfl<;>(simp only[wd];decide +kernel)
 | deed a ok d e f _ =>
  right
  have c:=HQ e f
  generalize F9 _=w at c
  rcases c with rfl|rfl<;>exact⟨by simp only[wd];decide +kernel,.inr ⟨by simp only[wd];decide +kernel,_,rfl⟩⟩
 | leave a=>exact .inr ⟨by simp only[wd];decide +kernel,.inr ⟨by simp only[wd];decide +kernel,_,rfl⟩⟩
 | testE a d g _=>exact .inr ⟨by simp only[wd];decide +kernel,.inr ⟨by simp only[wd];decide +kernel,_,rfl⟩⟩
 | testI a _ _=>exact .inr ⟨by simp only[wd];decide +kernel,.inr ⟨by simp only[wd];decide +kernel,_,rfl⟩⟩
 | testW a _=>exact .inr ⟨by simp only[wd];decide +kernel,.inr ⟨by simp only[wd];decide +kernel,_,rfl⟩⟩
 | jmp a h=>exact .inr ⟨by simp only[wd];decide +kernel,.inl ⟨_,rfl⟩⟩
 | opn _ _=>exact .inr ⟨by simp only[wd];decide +kernel,.inr ⟨by simp only[wd];decide +kernel,_,rfl⟩⟩
 | lst _ _ _=>exact .inr ⟨by simp only[wd];decide +kernel,.inr ⟨by simp only[wd];decide +kernel,_,rfl⟩⟩
 | res a _ _=>exact .inr ⟨by simp only[wd];decide +kernel,.inr ⟨by simp only[wd];decide +kernel,_,rfl⟩⟩
 | done=>left;simp only[wd];decide +kernel
end LW
open L3
namespace LW
open PySem L2 L3 MK K11 K12 GO CD CH
open TK (neD neB O6)
theorem LN {k:C5}{d:D}{Q:DK}(e:numOf L k=d)(q:Q d M):B7 (N0 L (.test p k)) (.int 2) M Q:=by
 show B7 (.tup [.str "test",plT p,numOf L k]) (.int 2) M Q
 rw[e];exact B5 (C2 (j:=2) rfl) q
set_option maxHeartbeats 2000000 in
theorem rd__law_row_right:∀ds M Q,AI5 ds M Q->S6 {nx:=fun _ M'=>View Q .non M',rt:=View Q} (B9 CA ds) M:=by
 rintro _ M Q ⟨r,i,rfl,⟨ok,ne,nn,H,I⟩,V,q⟩
 have few:=P1 ok ne
 have o:W1 r:=⟨ok,H,by lia⟩
 have l:rFN r:=⟨o,ne⟩
 have f:(B2 r.blk).length<=100:=by lia
 have C:TK.rOk r:=⟨ok,ne,nn,H,I⟩
 have N:=BQ2 V
 generalize (B2 r.blk)[i]=n at N
 have W:=X8 ok ne i n N
 have ix:∀{M:Mem} {Q:DK},Q (N0 (B2 r.blk) n) M->B7 (Q4 r.blk) (.int (i:Int)) M Q:=fun q=>B5 (ET N) q
 unfold S6
 walk_at "rd"
 refine ix ?_
 walk_at "rd"
 obtain⟨O,P⟩:=MR (B2 r.blk) n
 have g:∀{M:Mem} {Q:DK},Q (.str (wd n)) M->B7 (N0 (B2 r.blk) n) (.int 0) M Q:=fun q=>by rw[P];exact B5 (C2 (j:=0) rfl) q
 refine g ?_
 walk_at "rd"
 refine .inr ⟨wd n,["done","end","fault"],rfl,rfl,?_⟩
 rcases AH4 W with J|⟨J,h⟩
 ·rw[J]
  refine⟨true,rfl,C4 rfl ?_⟩
  walk_at "rd"
  exact View.of q
 rw[J]
 refine⟨false,rfl,A9 rfl ?_⟩
 walk_at "rd"
 refine g ?_
 walk_at "rd"
 rcases h with⟨k,rfl⟩|⟨X,Y,er⟩
 ·refine C4 rfl ?_
  walk_at "rd"
  obtain⟨j,r',y⟩:=CM ok ne V
  refine⟨r.blk,i,j,r',rfl,ok,ne,f,y,?_⟩
  walk_at "rd"
  exact View.of q
 rw[X]
 refine A9 rfl ?_
 walk_at "rd"
 have i1:∀{M:Mem} {Q:DK},Q (plT (pOf n)) M->B7 (N0 (B2 r.blk) n) (.int 1) M Q:=fun q=>by rw[er];exact B5 (C2 (j:=1) rfl) q
 refine i1 ?_
 walk_at "rd"
 have nl:∀{k:C5},At (B2 r.blk) (i+1) k->i+1<(B2 r.blk).length:=fun⟨_,e,_⟩=>(List.getElem?_eq_some_iff.mp e).1
 have rl:∀{M:Mem} {Q:DK},Q (.int ((B2 r.blk).length:Int)) M->E2 [Q4 r.blk] M Q:=fun{M} {Q} q=>by
  have:E2 [.tup ((B2 r.blk).map (N0 (B2 r.blk)))] M Q:=by walk_at "rd";rw[BP1];exact q
  exact this
 have le:∀{M:Mem} {Q:DK},i+1<(B2 r.blk).length->Q (.bl false) M->D6 (.int ((i:Int)+1)) (.int ((B2 r.blk).length:Int)) M Q:=fun{M} {Q} h q=>by
  refine RdC.h (A:=Q (.bl ((i:Int)+1==((B2 r.blk).length:Int))) M) ?_
  rw[show((i:Int)+1==((B2 r.blk).length:Int))=false by simp;lia]
  exact q
 cases W with
 | stop c h=>rcases h with rfl|rfl<;>exact absurd J (by simp only[wd];decide +kernel)
 | jmp c h=>exact absurd X (by simp only[wd];decide +kernel)
 | done=>exact absurd J (by simp only[wd];decide +kernel)
 | deed c y B h2 h3 b =>
  have Z:=HQ h2 h3
  have s:=nl b
  generalize F9 _=w at *
  refine⟨r,_,_,rfl,o,c,?_⟩
  walk_at "rd"
  refine g ?_
  walk_at "rd"
  refine A9 (by simp only[wd];rcases Z with rfl|rfl<;>decide +kernel) ?_
  walk_at "rd"
  refine rl ?_
  refine le s ?_
  walk_at "rd"
  refine g ?_
  walk_at "rd"
  refine .inr ⟨_,["deed","stand"],rfl,rfl,?_⟩
  refine⟨true,congrArg D.bl (by simp only[wd];rcases Z with rfl|rfl<;>decide +kernel),C4 rfl ?_⟩
  walk_at "rd"
  refine K3 l c ?_
  walk_at "rd"
  exact⟨r.blk,i+1,_,rfl,ok,ne,f,bhK _ _,b,View.of q⟩
 | leave c =>
  refine⟨r,_,_,rfl,o,c,?_⟩
  walk_at "rd"
  refine g ?_
  walk_at "rd"
  refine C4 rfl ?_
  walk_at "rd"
  refine B5 (d:=UC r.blk _) (C2 (j:=2) rfl) ?_
  walk_at "rd"
  exact⟨r,_,_,rfl,C,c,View.of q⟩
 | res c hL b =>
  have s:=nl b
  refine⟨r,_,_,rfl,o,c,?_⟩
  walk_at "rd"
  refine g ?_
  walk_at "rd"
  refine A9 (by simp only[wd];decide +kernel) ?_
  walk_at "rd"
  refine rl ?_
  refine le s ?_
  walk_at "rd"
  refine g ?_
  walk_at "rd"
  refine .inr ⟨_,["deed","stand"],rfl,rfl,?_⟩
  refine⟨false,congrArg D.bl (by simp only[wd];decide +kernel),A9 rfl ?_⟩
  walk_at "rd"
  refine g ?_
  walk_at "rd"
  refine C4 rfl ?_
  walk_at "rd"
  refine K3 l c ?_
  walk_at "rd"
  refine⟨r.blk,i+1,_,rfl,ok,ne,f,bhK _ _,b,?_⟩
  walk_at "rd"
  refine B5 (d:=UC r.blk _) (C2 (j:=2) rfl) ?_
  walk_at "rd"
  exact⟨r,_,_,rfl,C,c,View.of q⟩
 | lst c hL b =>
  have s:=nl b
  obtain⟨b0,ms,z,y,hml,ha,hms,hcz⟩:=(S2 l c).1
  rename_i u bs p
  have hcs3:u.length<=3:=(R1 l c).2.1.1.2.1
  have R:(F0 u (dTs bs).tail).length=u.length:=by
   rw[J5,y]
   show(F0 u ((ms++[z]).map MK.tB)).length=_
   rw[BR4,R7 u (ms.map MK.tB) _ (by rw[BP1];lia),V1 u _ (by rw[BP1];lia)]
  have hD:∃t0 t3,dD (.mk (.tr u) bs)=.tup [.str "try",t0,.tup (F0 u (dTs bs).tail),t3]:=⟨_,_,rfl⟩
  obtain⟨t0,t3,hD⟩:=hD
  refine⟨r,_,_,rfl,o,c,?_⟩
  walk_at "rd"
  refine g ?_
  walk_at "rd"
  refine A9 (by simp only[wd];decide +kernel) ?_
  walk_at "rd"
  refine rl ?_
  refine le s ?_
  walk_at "rd"
  refine g ?_
  walk_at "rd"
  refine .inr ⟨_,["deed","stand"],rfl,rfl,?_⟩
  refine⟨false,congrArg D.bl (by simp only[wd];decide +kernel),A9 rfl ?_⟩
  walk_at "rd"
  refine g ?_
  walk_at "rd"
  refine A9 (by simp only[wd];decide +kernel) ?_
  walk_at "rd"
  refine g ?_
  walk_at "rd"
  refine C4 rfl ?_
  walk_at "rd"
  rw[hD]
  refine B5 (d:=.tup (F0 u (dTs bs).tail)) rfl ?_
  walk_at "rd"
  rw[R]
  refine K8 (es:=[1+(u.length:Int),0]) (by have:=J7 o c;simp[pOf];lia) ?_
  walk_at "rd"
  exact⟨r.blk,i+1,p++[1+(u.length:Int),0],rfl,ok,ne,f,by simpa using b,View.of q⟩
 | opn c b =>
  have s:=nl b
  refine⟨r,_,_,rfl,o,c,?_⟩
  walk_at "rd"
  refine g ?_
  walk_at "rd"
  refine A9 (by simp only[wd];decide +kernel) ?_
  walk_at "rd"
  refine rl ?_
  refine le s ?_
  walk_at "rd"
  refine g ?_
  walk_at "rd"
  refine .inr ⟨_,["deed","stand"],rfl,rfl,?_⟩
  refine⟨false,congrArg D.bl (by simp only[wd];decide +kernel),A9 rfl ?_⟩
  walk_at "rd"
  refine g ?_
  walk_at "rd"
  refine A9 (by simp only[wd];decide +kernel) ?_
  walk_at "rd"
  refine g ?_
  walk_at "rd"
  refine A9 (by simp only[wd];decide +kernel) ?_
  walk_at "rd"
  refine K8 (es:=[0,0]) (by have:=J7 o c;simp[pOf];lia) ?_
  walk_at "rd"
  refine⟨r.blk,i+1,_,rfl,ok,ne,f,b,?_⟩
  walk_at "rd"
  refine B5 (d:=.str "try") (C2 (j:=0) rfl) ?_
  walk_at "rd"
  refine A9 (by decide +kernel) ?_
  walk_at "rd"
  refine g ?_
  walk_at "rd"
  exact View.of q
 | testE c B hz b =>
  have s:=nl b
  refine⟨r,_,_,rfl,o,c,?_⟩
  walk_at "rd"
  refine g ?_
  walk_at "rd"
  refine A9 (by simp only[wd];decide +kernel) ?_
  walk_at "rd"
  refine rl ?_
  refine le s ?_
  walk_at "rd"
  refine g ?_
  walk_at "rd"
  refine .inr ⟨_,["deed","stand"],rfl,rfl,?_⟩
  refine⟨false,congrArg D.bl (by simp only[wd];decide +kernel),A9 rfl ?_⟩
  walk_at "rd"
  refine g ?_
  walk_at "rd"
  refine A9 (by simp only[wd];decide +kernel) ?_
  walk_at "rd"
  refine g ?_
  walk_at "rd"
  refine A9 (by simp only[wd];decide +kernel) ?_
  walk_at "rd"
  refine K8 (es:=[0,0]) (by have:=J7 o c;simp[pOf];lia) ?_
  walk_at "rd"
  refine⟨r.blk,i+1,_,rfl,ok,ne,f,b,?_⟩
  walk_at "rd"
  rename_i e bs p z
  obtain⟨a,t,y,ha⟩:=(S2 l c).1
  have E:t=z:=by rw[y] at B;simpa using B
  subst E
  have hD:dD (.mk (.ife e) bs)=.tup [.str "if",e,.tup (dB a),.tup (dB t)]:=by
   show D.tup (.str "if"::e::dTs bs)=_
   rw[J5,y];rfl
  have S:=E8 bs t (BQ1 B)
  have K:=R1 l c
  have T:L8 bs<=4:=K.2.2
  have F:=OC t (S.2.2 K.2.1.2)
  have G:dOk (.tup (dB t)):=(Sm.tup (m:=11+4*dpB t) F).dok
  rw[hD]
  refine B5 (d:=.str "if") (C2 (j:=0) rfl) ?_
  walk_at "rd"
  refine C4 rfl ?_
  walk_at "rd"
  refine B5 (d:=.tup (dB t)) (C2 (j:=3) rfl) ?_
  walk_at "rd"
  refine SD G LT FP ?_
  have U:(dB t).isEmpty=false:=by cases t with
   | nil=>exact absurd rfl hz
   | cons d x=>rfl
  rw[U]
  walk_at "rd"
  obtain⟨j,v,L⟩:∃j:Nat,numOf (B2 r.blk) (kd (p++[1,0]))=.int (j:Int)/\At (B2 r.blk) j (kd (p++[1,0])):=by
   cases t with
   | nil=>exact absurd rfl hz
   | cons d x=>exact RK (S1 ok (T5 c B (i:=0) (d:=d) rfl))
  refine LN v ?_
  walk_at "rd"
  refine K8 (es:=[1,0]) (by have:=J7 o c;simp[pOf];lia) ?_
  walk_at "rd"
  exact⟨r.blk,j,_,rfl,ok,ne,f,L,View.of q⟩
 | testI c B b =>
  have s:=nl b
  refine⟨r,_,_,rfl,o,c,?_⟩
  walk_at "rd"
  refine g ?_
  walk_at "rd"
  refine A9 (by simp only[wd];decide +kernel) ?_
  walk_at "rd"
  refine rl ?_
  refine le s ?_
  walk_at "rd"
  refine g ?_
  walk_at "rd"
  refine .inr ⟨_,["deed","stand"],rfl,rfl,?_⟩
  refine⟨false,congrArg D.bl (by simp only[wd];decide +kernel),A9 rfl ?_⟩
  walk_at "rd"
  refine g ?_
  walk_at "rd"
  refine A9 (by simp only[wd];decide +kernel) ?_
  walk_at "rd"
  refine g ?_
  walk_at "rd"
  refine A9 (by simp only[wd];decide +kernel) ?_
  walk_at "rd"
  refine K8 (es:=[0,0]) (by have:=J7 o c;simp[pOf];lia) ?_
  walk_at "rd"
  refine⟨r.blk,i+1,_,rfl,ok,ne,f,b,?_⟩
  walk_at "rd"
  rename_i e bs p
  obtain⟨a,t,y,ha⟩:=(S2 l c).1
  have E:t=.nil:=by rw[y] at B;simpa using B
  subst E
  have hD:dD (.mk (.ife e) bs)=.tup [.str "if",e,.tup (dB a),.tup (dB Blk.nil)]:=by
   show D.tup (.str "if"::e::dTs bs)=_
   rw[J5,y];rfl
  have S:=E8 bs Blk.nil (BQ1 B)
  have K:=R1 l c
  have T:L8 bs<=4:=K.2.2
  have F:=OC Blk.nil (S.2.2 K.2.1.2)
  have G:dOk (.tup (dB Blk.nil)):=(Sm.tup (m:=11+4*dpB Blk.nil) F).dok
  rw[hD]
  refine B5 (d:=.str "if") (C2 (j:=0) rfl) ?_
  walk_at "rd"
  refine C4 rfl ?_
  walk_at "rd"
  refine B5 (d:=.tup (dB Blk.nil)) (C2 (j:=3) rfl) ?_
  walk_at "rd"
  refine SD G LT FP ?_
  walk_at "rd"
  refine A9 rfl ?_
  walk_at "rd"
  refine g ?_
  walk_at "rd"
  refine A9 (by simp only[wd];decide +kernel) ?_
  walk_at "rd"
  obtain⟨j,v,L⟩:=RK (T1 ok _ _ _ (BP5 _) c)
  refine LN v ?_
  walk_at "rd"
  refine K3 l c ?_
  walk_at "rd"
  exact⟨r.blk,j,_,rfl,ok,ne,f,bhK _ _,L,View.of q⟩
 | testW c b =>
  have s:=nl b
  refine⟨r,_,_,rfl,o,c,?_⟩
  walk_at "rd"
  refine g ?_
  walk_at "rd"
  refine A9 (by simp only[wd];decide +kernel) ?_
  walk_at "rd"
  refine rl ?_
  refine le s ?_
  walk_at "rd"
  refine g ?_
  walk_at "rd"
  refine .inr ⟨_,["deed","stand"],rfl,rfl,?_⟩
  refine⟨false,congrArg D.bl (by simp only[wd];decide +kernel),A9 rfl ?_⟩
  walk_at "rd"
  refine g ?_
  walk_at "rd"
  refine A9 (by simp only[wd];decide +kernel) ?_
  walk_at "rd"
  refine g ?_
  walk_at "rd"
  refine A9 (by simp only[wd];decide +kernel) ?_
  walk_at "rd"
  refine K8 (es:=[0,0]) (by have:=J7 o c;simp[pOf];lia) ?_
  walk_at "rd"
  refine⟨r.blk,i+1,_,rfl,ok,ne,f,b,?_⟩
  walk_at "rd"
  refine B5 (d:=.str "while") (C2 (j:=0) rfl) ?_
  walk_at "rd"
  refine A9 (by decide +kernel) ?_
  walk_at "rd"
  refine g ?_
  walk_at "rd"
  refine A9 (by simp only[wd];decide +kernel) ?_
  walk_at "rd"
  obtain⟨j,v,L⟩:=RK (T1 ok _ _ _ (BP5 _) c)
  refine LN v ?_
  walk_at "rd"
  refine K3 l c ?_
  walk_at "rd"
  exact⟨r.blk,j,_,rfl,ok,ne,f,bhK _ _,L,View.of q⟩
end LW
open L3
namespace LW
open PySem L2 L3 MK K11 K12 GO CD CH
open TK (neD neB O6)
theorem AA0 {b:Blk}(h:b≠.nil):At (B2 b) 0 (kd [0]):=by
 obtain⟨r,l,e,a⟩:=CG b h [] 0
 exact .of (r:=r) (by unfold B2;rw[e];rfl) a
theorem YE {b:Blk}(ok:okB b)(g:(p,d)∈prB b [] 0)(hs:isSt d=true):Row.own "stand" p∈B2 b:=by
 obtain⟨s,i⟩:=EU ok p.length p d (BP5 _) g
 obtain⟨h,bs⟩:=d
 have j:=BH ok g
 cases h with
 | ife _=>revert hs;simp only[isSt,E5];intro hs;exact absurd hs (by decide +kernel)
 | whl _=>revert hs;simp only[isSt,E5];intro hs;exact absurd hs (by decide +kernel)
 | tr _=>revert hs;simp only[isSt,E5];intro hs;exact absurd hs (by decide +kernel)
 | leaf w k =>
  have c:(w==("give":Str) || w==("on":Str))=true:=hs
  have f:(w==("leave":Str))=false:=by
   rw[Bool.or_eq_true] at c
   rcases c with e|e<;>(rw[eq_of_beq e];decide +kernel)
  have e:drD b (.mk (.leaf w k) bs) p=[.own "stand" p]:=by
   show(if w=="leave" then[Row.lv "leave" p (lfT b p)] else[Row.own (F9 w) p])=_
   rw[f]
   have:F9 w="stand":=by unfold F9;rw[if_pos c]
   rw[this];rfl
  have a:=i.sub
  rw[e] at a
  exact BQ1 a.head
theorem rl {r:Rl}{Q:DK}(q:Q (.int ((B2 r.blk).length:Int)) M):E2 [Q4 r.blk] M Q:=by
 have:E2 [.tup ((B2 r.blk).map (N0 (B2 r.blk)))] M Q:=by walk_at "rd";rw[BP1];exact q
 exact this
theorem SH {L:List Row}(a:rW row)(h:(wd row==("stand":Str))=true):∃p,row=.own "stand" p:=by
 cases row with
 | own w p=>exact⟨p,by rw[eq_of_beq (show(w==("stand":Str))=true from h)]⟩
 | test p d=>exact absurd h (by simp only[wd];decide +kernel)
 | jump d=>exact absurd h (by simp only[wd];decide +kernel)
 | lv w p d=>rcases a.1 with rfl|rfl<;>exact absurd h (by simp only[wd];decide +kernel)
 | done=>exact absurd h (by simp only[wd];decide +kernel)
set_option maxHeartbeats 2000000 in
theorem rd__law_rows_right:∀ds M Q,VJ ds M Q->R0 {nx:=fun _ M'=>View Q .non M',rt:=View Q} (B9 AR ds) M:=by
 rintro _ M Q ⟨r,rfl,e,q⟩
 have i:=e
 obtain⟨ok,ne,I,s,A⟩:=i
 have J:=P1 ok ne
 have K:W1 r:=⟨ok,s,by lia⟩
 have l:(B2 r.blk).length<=100:=by lia
 unfold R0
 walk_at "rd"
 refine⟨r.blk,0,[0],rfl,ok,ne,l,AA0 I,?_⟩
 walk_at "rd"
 refine(rd_onTup (ds:=(B2 r.blk).map (N0 (B2 r.blk)))).g ?_
 have N:∀x∈stB isSt r.blk,plT x∈((B2 r.blk).filter fun c=>wd c==("stand":Str)).map fun c=>plT (pOf c):=by
  intro x f
  unfold stB at f
  obtain⟨⟨p,d⟩,t,rfl⟩:=List.mem_map.mp f
  obtain⟨t,o⟩:=List.mem_filter.mp t
  exact List.mem_map.mpr ⟨.own "stand" p,List.mem_filter.mpr ⟨YE ok t o,rfl⟩,rfl⟩
 refine K0 (B2 r.blk) (N0 (B2 r.blk)) (fun c=>plT (pOf c)) (fun c=>wd c==("stand":Str)) (by rw[BR0];lia) ?_ ?_
 ·intro c m B R F o n u
  obtain⟨C,E⟩:=MR (B2 r.blk) c
  walk_at "rd"
  rw[E]
  refine B5 (d:=.str (wd c)) (C2 (j:=0) rfl) ?_
  walk_at "rd"
  cases h:(wd c==("stand":Str)) with
  | true =>
   obtain⟨p,rfl⟩:=SH (L:=B2 r.blk) (V3 _ _ m) h
   refine C4 rfl ?_
   walk_at "rd"
   rw[<-E]
   refine B5 (d:=plT p) (C2 (j:=1) rfl) ?_
   exact n rfl
  | false =>
   refine A9 rfl ?_
   exact u h
 generalize O:((B2 r.blk).filter fun c=>wd c==("stand":Str)).map (fun c=>plT (pOf c))=G at *
 have v:∀d∈G,dOk d:=by
  intro d H
  rw[<-O] at H
  obtain⟨c,_,rfl⟩:=List.mem_map.mp H
  exact V9 _
 walk_at "rd"
 refine⟨r,rfl,K,fun a P S T w=>?_⟩
 refine⟨a,_,rfl,T,?_⟩
 walk_at "rd"
 have y:J1 P a=M:=by
  funext x
  by_cases f:x=a
  ·subst f;rw[P2,S]
  ·rw[G7 f,w x f]
 rw[y]
 have U:(stB isSt r.blk).length<=100:=by
  unfold stB
  rw[BP1]
  refine BS7 (CB9 _ _) ?_
  rw[EO];lia
 refine K0 (stB isSt r.blk) plT (fun _=>.bl true) (fun _=>true) (by rw[BR0];lia) ?_ ?_
 ·intro x f B R F o n u
  walk_at "rd"
  refine AG5 (b:=true) (V9 x) rfl v ?_ ?_
  ·rw[List.any_eq_true]
   exact⟨plT x,N x f,EN x⟩
  exact n rfl
 rw[CC6.2 fun _ _=>rfl]
 walk_at "rd"
 refine AG3 (bs:=(stB isSt r.blk).map fun _=>true) (by rw[BW9];rfl) ?_
 rw[show((stB isSt r.blk).map fun _=>true).contains false=false by simp]
 walk_at "rd"
 refine A9 rfl ?_
 walk_at "rd"
 refine rl (r:=r) ?_
 refine⟨by lia,by lia,?_⟩
 refine K0 (BS8 ((B2 r.blk).length:Int).toNat) (fun k=>D.int (k:Nat)) (fun _=>.bl true) (fun _=>true) (by rw[BZ3,BR0];lia) ?_ ?_
 ·intro k z B R F o n u
  have z:k<(B2 r.blk).length:=by simpa using z
  walk_at "rd"
  exact⟨r,k,rfl,e,z,n rfl⟩
 rw[CC6.2 fun _ _=>rfl]
 walk_at "rd"
 refine AG3 (bs:=(BS8 ((B2 r.blk).length:Int).toNat).map fun _=>true) (by rw[BW9];rfl) ?_
 rw[show((BS8 ((B2 r.blk).length:Int).toNat).map fun _=>true).contains false=false by simp]
 exact View.of q
end LW
open L3
namespace LW
open PySem L2 L3 MK K11 K12 GO CD CH
open TK (neD neB O6)
def m1 (w:Str):Str:=if (["let","note","ask","cast","close"]:List Str).any (·==w) then "deed" else w
def m2 (w:Str):Str:=if (["give","on"]:List Str).any (·==w) then "stand" else w
def m3 (w:Str):Str:=if (["if","while"]:List Str).any (·==w) then "test" else w
def mp (w:Str):Str:=m3 (m2 (m1 w))
theorem SE {b:Bool}{w:Str}(e:σ.set 4 (some (.str w))=σ)(h:T.nx (σ.set 4 (some (.str (if b then x else w)))) M):∃k,D.bl (false ^^ b)=.bl k/\if k=true then B8 4 (tC3 (.str x)) T σ M else B6 T σ M:=by
 cases b with
 | true=>exact⟨true,rfl,h⟩
 | false =>
  refine⟨false,rfl,?_⟩
  have h:T.nx (σ.set 4 (some (.str w))) M:=h
  rw[e] at h
  exact h
theorem AM1 {h:Str}{a:List D}(ok:AE h a)(h1:h≠"leave"):mp h=F9 h:=by
 rcases FV ok with rfl|h
 ·exact absurd rfl h1
 ·rcases h with rfl|rfl|rfl|rfl|rfl|rfl|rfl|rfl|rfl<;>decide +kernel
inductive Txt (d:Deed)(w:Str):Prop
 | lst (cs:List (Str×Str)) (bs:Bls):d=.mk (.tr cs) bs->hasL d=true->(["last","resume"]:List Str).any (·==w)=true->Txt d w
 | own (h:Head) (bs:Bls):d=.mk h bs->(["last","resume"]:List Str).any (·==w)=false->w=mp (E5 h)->Txt d w
 | opn (cs:List (Str×Str)) (bs:Bls):d=.mk (.tr cs) bs->w="open"->Txt d w
theorem AH6 {b:Blk}(ok:okB b)(h:Right b L i row) :
  (["jump","done"]:List Str).any (·==wd row)=true\/((["jump","done"]:List Str).any (·==wd row)=false/\(∃rest,N0 L row=.tup (.str (wd row)::plT (pOf row)::rest))/\∃d,(pOf row,d)∈prB b [] 0/\Txt d (wd row)):=by
 cases h with
 | stop a h =>
  right
  refine⟨?_,⟨_,rfl⟩,_,a,.own _ _ rfl ?_ ?_⟩<;>(simp only[wd,E5];rcases h with rfl|rfl<;>decide +kernel)
 | deed a ok e f g _ =>
  right
  have j:=HQ f g
  have k:=AM1 ok e
  refine⟨?_,⟨_,rfl⟩,_,a,.own _ _ rfl ?_ k.symm⟩<;>(simp only[wd];generalize F9 _=w at *;rcases j with rfl|rfl<;>decide +kernel)
 | leave a=>exact .inr ⟨by simp only[wd];decide +kernel,⟨_,rfl⟩,_,a,.own _ _ rfl (by simp only[wd];decide +kernel) (by simp only[wd,E5];decide +kernel)⟩
 | testE a e l _=>exact .inr ⟨by simp only[wd];decide +kernel,⟨_,rfl⟩,_,a,.own _ _ rfl (by simp only[wd];decide +kernel) (by simp only[wd,E5];decide +kernel)⟩
 | testI a _ _=>exact .inr ⟨by simp only[wd];decide +kernel,⟨_,rfl⟩,_,a,.own _ _ rfl (by simp only[wd];decide +kernel) (by simp only[wd,E5];decide +kernel)⟩
 | testW a _=>exact .inr ⟨by simp only[wd];decide +kernel,⟨_,rfl⟩,_,a,.own _ _ rfl (by simp only[wd];decide +kernel) (by simp only[wd,E5];decide +kernel)⟩
 | jmp a h=>left;simp only[wd];decide +kernel
 | opn a _=>exact .inr ⟨by simp only[wd];decide +kernel,⟨_,rfl⟩,_,a,.opn _ _ rfl rfl⟩
 | lst a c _=>exact .inr ⟨by simp only[wd];decide +kernel,⟨_,rfl⟩,_,a,.lst _ _ rfl c (by simp only[wd];decide +kernel)⟩
 | res a c _=>exact .inr ⟨by simp only[wd];decide +kernel,⟨_,rfl⟩,_,a,.lst _ _ rfl c (by simp only[wd];decide +kernel)⟩
 | done=>left;simp only[wd];decide +kernel
set_option maxHeartbeats 4000000 in
theorem rd__law_texts_right:∀ds M Q,PX ds M Q->Q6 {nx:=fun _ M'=>View Q .non M',rt:=View Q} (B9 AF ds) M:=by
 rintro _ M Q ⟨r,rfl,l,q⟩
 have f:=l
 obtain⟨ok,ne,nn,n,P⟩:=f
 have X:=P1 ok ne
 have C:W1 r:=⟨ok,n,by lia⟩
 have o:rFN r:=⟨C,ne⟩
 have R:(B2 r.blk).length<=100:=by lia
 unfold Q6
 walk_at "rd"
 refine⟨r,rfl,ok,n,by lia,fun a Y Z h1 D=>?_⟩
 walk_at "rd"
 refine(rd_onTup (ds:=(B2 r.blk).map (N0 (B2 r.blk)))).g ?_
 refine⟨fun k E M'=>M'=Y/\∃F G,E=[some (rD r),some (Q4 r.blk),some (.ref a),F,G],⟨rfl,none,none,rfl⟩,?_,?_⟩
 ·rintro k d E M4 S ⟨rfl,F,G,rfl⟩
  rw[BQ3] at S
  obtain⟨c,hg,rfl⟩:=Option.map_eq_some_iff.mp S
  have hR:=X8 ok ne k c hg
  obtain⟨H,I⟩:=MR (B2 r.blk) c
  have p:∀{M:Mem} {Q:DK},Q (.str (wd c)) M->B7 (N0 (B2 r.blk) c) (.int 0) M Q:=fun q=>by rw[I];exact B5 (C2 (j:=0) rfl) q
  walk_at "rd"
  refine p ?_
  walk_at "rd"
  refine .inr ⟨wd c,["jump","done"],rfl,rfl,?_⟩
  rcases AH6 ok hR with e|⟨e,⟨T,er⟩,d,s,ht⟩
  ·rw[e]
   refine⟨false,rfl,A9 rfl ?_⟩
   walk_at "rd"
   exact⟨rfl,_,_,rfl⟩
  rw[e]
  refine⟨true,rfl,C4 rfl ?_⟩
  have J:∀{M:Mem} {Q:DK},Q (plT (pOf c)) M->B7 (N0 (B2 r.blk) c) (.int 1) M Q:=fun q=>by rw[er];exact B5 (C2 (j:=1) rfl) q
  walk_at "rd"
  refine J ?_
  walk_at "rd"
  refine AG5 (b:=true) (V9 _) (by simp only[GU,h1];rfl) (fun z B=>by obtain⟨_,_,rfl⟩:=List.mem_map.mp B;exact V9 _) ?_ ?_
  ·rw[List.any_eq_true]
   refine⟨_,List.mem_map.mpr ⟨_,?_,rfl⟩,EN _⟩
   rw[<-O8]
   exact List.mem_map.mpr ⟨_,s,rfl⟩
  walk_at "rd"
  refine A9 rfl ?_
  walk_at "rd"
  refine J ?_
  walk_at "rd"
  refine⟨r,_,d,rfl,C,s,?_⟩
  obtain⟨h,bs⟩:=d
  obtain⟨i,eh⟩:=JF h (dTs bs)
  have e':dD (.mk h bs)=.tup (.str (E5 h)::i):=eh
  walk_at "rd"
  rw[e']
  refine B5 (d:=.str (E5 h)) (C2 (j:=0) rfl) ?_
  walk_at "rd"
  refine .inr ⟨_,["let","note","ask","cast","close"],rfl,rfl,SE rfl ?_⟩
  walk_at "rd"
  refine .inr ⟨m1 (E5 h),["give","on"],rfl,rfl,SE rfl ?_⟩
  walk_at "rd"
  refine .inr ⟨m2 (m1 (E5 h)),["if","while"],rfl,rfl,SE rfl ?_⟩
  walk_at "rd"
  refine p ?_
  walk_at "rd"
  refine .inr ⟨wd c,["last","resume"],rfl,rfl,?_⟩
  cases ht with
  | lst t u v hL w =>
   cases v
   rw[w]
   refine⟨true,rfl,C4 rfl ?_⟩
   walk_at "rd"
   refine A9 (show(!(mp "try"==("try":Str)))=false by decide +kernel) ?_
   walk_at "rd"
   refine J ?_
   walk_at "rd"
   refine⟨r,_,_,rfl,C,s,?_⟩
   obtain⟨a0,ms,z,hl,K,ha0,hms,hcz⟩:=(S2 o s).1
   have B:(C6 bs)[t.length+1]?=some z:=by rw[hl];simp[K]
   have hm:=E8 bs z (BQ1 B)
   have U:=R1 o s
   have hdp:L8 bs<=4:=U.2.2
   have L:=OC z (hm.2.2 U.2.1.2)
   have N:dOk (.tup (dB z)):=(Sm.tup (m:=11+4*dpB z) L).dok
   have y:(dTs bs).getD (t.length+1) (.tup [])=.tup (dB z):=by rw[J5,List.getD_eq_getElem?_getD,BQ3,B];rfl
   have hD:∃V W,dD (.mk (.tr t) bs)=.tup [.str "try",V,W,.tup (dB z)]:=⟨_,_,by rw[<-y];rfl⟩
   obtain⟨V,W,hD⟩:=hD
   have O:(dB z).isEmpty=false:=by
    have:decide (0<nl ((dTs bs).getD (t.length+1) (.tup [])))=true:=hL
    rw[y] at this
    have:0<(dB z).length:=of_decide_eq_true this
    cases hq:dB z with
    | nil=>rw[hq] at this;cases this
    | cons _ _=>rfl
   walk_at "rd"
   rw[hD]
   refine B5 (d:=.tup (dB z)) (C2 (j:=3) rfl) ?_
   walk_at "rd"
   refine GQ N LT FP ?_
   rw[O]
   walk_at "rd"
   exact⟨rfl,_,_,rfl⟩
  | own h' u v w A =>
   cases v
   rw[w]
   refine⟨false,rfl,A9 rfl ?_⟩
   walk_at "rd"
   refine p ?_
   walk_at "rd"
   refine A9 (show(!(wd c==mp (E5 h)))=false by rw[<-A,beq_self_eq_true];rfl) ?_
   walk_at "rd"
   exact⟨rfl,_,_,rfl⟩
  | opn t u v A =>
   cases v
   have w:(["last","resume"]:List Str).any (·==wd c)=false:=by rw[A];decide +kernel
   rw[w]
   refine⟨false,rfl,A9 rfl ?_⟩
   walk_at "rd"
   refine p ?_
   walk_at "rd"
   refine C4 (show(!(wd c==mp "try"))=true by rw[A];decide +kernel) ?_
   walk_at "rd"
   refine p ?_
   walk_at "rd"
   refine A9 (show(!(wd c==("open":Str)))=false by rw[A];decide +kernel) ?_
   walk_at "rd"
   refine A9 (show(!(mp "try"==("try":Str)))=false by decide +kernel) ?_
   walk_at "rd"
   exact⟨rfl,_,_,rfl⟩
 ·rintro E M4 ⟨rfl,F,G,rfl⟩
  walk_at "rd"
  exact View.keep (fun x hx=>D x fun e=>hx (by rw[e];exact Z)) q
end LW
open L3
namespace LW
open PySem L2 L3 MK K11 K12 GO CD CH
open TK (neD neB O6)
theorem rd_law:∀ds M Q,L3.MW ds M Q->AV6 {nx:=fun _ M'=>View Q .non M',rt:=View Q} (B9 BF8 ds) M:=by
 rintro _ M Q ⟨m,rfl,p,s⟩
 unfold AV6
 walk_at "rd"
 refine⟨m,3,rfl,by simpa using p,by lia,fun bk z e=>?_⟩
 refine rd_onTup.g ?_
 obtain⟨_,q⟩:=s
 refine⟨fun k f M'=>∃h i,f=[some (.lst (m.map D.int)),h,i],⟨_,_,rfl⟩,?_,?_⟩
 ·rintro k d f t n ⟨h,i,rfl⟩
  rw[BQ3] at n
  obtain⟨r,u,rfl⟩:=Option.map_eq_some_iff.mp n
  have b:=e r (BQ1 u)
  have c:=b
  obtain⟨ok,ne,A,l,o⟩:=c
  have v:=P1 ok ne
  walk_at "rd"
  refine⟨r,rfl,b,?_⟩
  walk_at "rd"
  refine B5 (d:=Q4 r.blk) (C2 (j:=0) rfl) ?_
  walk_at "rd"
  refine rl (r:=r) ?_
  walk_at "rd"
  refine C4 (decide_eq_true (by lia)) ?_
  walk_at "rd"
  refine⟨r,rfl,ok,l,by lia,fun a B C w x=>?_⟩
  walk_at "rd"
  refine VD w ?_
  rw[BP1,show(plB r.blk [] 0).length=C9 r.blk by rw[<-O8,BP1,EO]]
  walk_at "rd"
  have y:∀{M:Mem} {Q:DK},Q (.int (3*(C9 r.blk:Int))) M->W2 (.int 3) (.int (C9 r.blk:Int)) M Q:=fun q=>show NK 3 (C9 r.blk:Int)/\_ from ⟨Or.inl (Or.inl ⟨by decide,by decide⟩),q⟩
  refine y ?_
  walk_at "rd"
  rw[decide_eq_true (show((B2 r.blk).length:Int)<=3*(C9 r.blk:Int)+1 by lia)]
  walk_at "rd"
  refine⟨r,rfl,b,?_⟩
  walk_at "rd"
  refine⟨r,rfl,b,?_⟩
  walk_at "rd"
  exact⟨_,_,rfl⟩
 ·rintro f t ⟨h,i,rfl⟩
  walk_at "rd"
  exact View.of (q _)
end LW
namespace L3
open PySem PySem.Spec PyProof.Rows L2
def pms (st:Stmt):List Str:=(K7 st).args.map Arg.arg
theorem lnX {p:α->Prop}{q:Prop}(h:∀a,p a->q):(∃a,p a)->q:=fun z=>z.elim h
theorem lnA {a b q:Prop}(h:a->q):a/\b->q:=fun z=>h z.1
theorem lnE {l:List D}{n:Nat}(h:l.length=n):ds=l->ds.length=n:=fun e=>e ▸ h
def Ln (sp:Sp3)(st:Stmt):Prop:=∀ds M Q,sp ds M Q->ds.length=(pms st).length
structure En (e:Ext)(g:Gd)(P:BT5)(w:World)(K:BP3)(mg:Str->Option Value)(base h:Heap):Prop where
 he:ExtOk e
 hG:AJ6 g w K mg
 X:K.In h
 G:h.Ns BT1 mg
section
variable {e:Ext}{g:Gd}{P:BT5}{w:World}{K:BP3}{mg:Str->Option Value}{base h:Heap}
theorem Cs.k {r k:Nat}{x:Str}{sp:Sp3}{L:List (Str×Sp3)}(f:F P w K mg base k x sp)(h:Cs P w K mg base r L)(a:k<=r:=by walk_at "k"):Cs P w K mg base r ((x,sp)::L):=.c f a h
variable (E:En e g P w K mg base h)
include E
theorem En.f (k:Nat){sp:Sp3}(a:Fg K x st){L:List (Str×Sp3)}(b:Cs P w K mg base k L)(s:Hs){t:TS3}(c:∀ds M Q,sp ds M Q->t {nx:=fun _ M'=>View Q .non M',rt:=View Q} (B9 N ds) M)
  (len:Ln sp st:=by walk_at "l") (S:S8 N (pms st) (D4 st):=by walk_at "s") (d:Bd x st (pms st):=by walk_at "b")
  (h:rb e (rc e 40) 60 (ct g N (D4 st) L s) (G1 st)=t:=by kernel_rfl):F P w K mg base (k+1) x sp:=okR E.he E.hG (a.at E.X E.G d) S len b s c h
theorem En.g1 (r:Nat)(a:Fg K x st)(z:∀ds M Q,¬sp 0 ds M Q)(s:∀k n,r<=k->F P w K mg base k x (sp n)->F P w K mg base (k+1) x (sp (n+1)))(n:Nat)
  (len:∀n,Ln (sp n) st:=by intro n;walk_at "l") (b:Bd x st (pms st):=by walk_at "b"):F P w K mg base (r+n) x (sp n):=by
 induction n with
 | zero=>exact O0 (a.at E.X E.G b) len z
 | succ n c=>exact s _ n (CA1 _ _) c
theorem En.g2 (r:Nat){y:Str}{st':Stmt}{c:Nat->Sp3}(a:Fg K x st)(b:Fg K y st')(z:∀ds M Q,¬sp 0 ds M Q)(z':∀ds M Q,¬c 0 ds M Q)
  (s:∀k n,r<=k->F P w K mg base k x (sp n)->F P w K mg base k y (c n)->F P w K mg base (k+1) x (sp (n+1))/\F P w K mg base (k+1) y (c (n+1))) (n:Nat)
  (len:∀n,Ln (sp n) st:=by intro n;walk_at "l") (d:∀n,Ln (c n) st':=by intro n;walk_at "l") (g:Bd x st (pms st):=by walk_at "b") (e:Bd y st' (pms st'):=by walk_at "b"):F P w K mg base (r+n) x (sp n)/\F P w K mg base (r+n) y (c n):=by
 induction n with
 | zero=>exact⟨O0 (a.at E.X E.G g) len z,O0 (b.at E.X E.G e) d z'⟩
 | succ n f=>exact s _ n (CA1 _ _) f.1 f.2
theorem En.g3 (r:Nat){y v:Str}{st' su:Stmt}{d e:Nat->Sp3}(a:Fg K x st)(b:Fg K y st')(c:Fg K v su)(z:∀ds M Q,¬sp 0 ds M Q)(z':∀ds M Q,¬d 0 ds M Q)(l:∀ds M Q,¬e 0 ds M Q)
  (s:∀k n,r<=k->F P w K mg base k x (sp n)->F P w K mg base k y (d n)->F P w K mg base k v (e n)->F P w K mg base (k+1) x (sp (n+1))/\F P w K mg base (k+1) y (d (n+1))/\F P w K mg base (k+1) v (e (n+1))) (n:Nat)
  (len:∀n,Ln (sp n) st:=by intro n;walk_at "l") (f:∀n,Ln (d n) st':=by intro n;walk_at "l") (g:∀n,Ln (e n) su:=by intro n;walk_at "l") (m:Bd x st (pms st):=by walk_at "b") (h:Bd y st' (pms st'):=by walk_at "b") (i:Bd v su (pms su):=by walk_at "b") :
  F P w K mg base (r+n) x (sp n)/\F P w K mg base (r+n) y (d n)/\F P w K mg base (r+n) v (e n):=by
 induction n with
 | zero=>exact⟨O0 (a.at E.X E.G m) len z,O0 (b.at E.X E.G h) f z',O0 (c.at E.X E.G i) g l⟩
 | succ n j=>exact s _ n (CA1 _ _) j.1 j.2.1 j.2.2
theorem En.g6 (r:Nat){y v b c d:Str}{st2 st3 st4 st5 st6:Stmt}{s1 e f g h s6:Nat->Sp3}(i:Fg K x st)(j:Fg K y st2)(a3:Fg K v st3)(l:Fg K b st4)(m:Fg K c st5)(o:Fg K d st6)(p:∀ds M Q,¬s1 0 ds M Q)(z2:∀ds M Q,¬e 0 ds M Q)(z3:∀ds M Q,¬f 0 ds M Q)(q:∀ds M Q,¬g 0 ds M Q)(t:∀ds M Q,¬h 0 ds M Q)(u:∀ds M Q,¬s6 0 ds M Q)
  (s:∀k n,r<=k->F P w K mg base k x (s1 n)->F P w K mg base k y (e n)->F P w K mg base k v (f n)->F P w K mg base k b (g n)->F P w K mg base k c (h n)->F P w K mg base k d (s6 n)->F P w K mg base (k+1) x (s1 (n+1))/\F P w K mg base (k+1) y (e (n+1))/\F P w K mg base (k+1) v (f (n+1))/\F P w K mg base (k+1) b (g (n+1))/\F P w K mg base (k+1) c (h (n+1))/\F P w K mg base (k+1) d (s6 (n+1))) (n:Nat)
  (z:∀n,Ln (s1 n) st:=by intro n;walk_at "l") (A:∀n,Ln (e n) st2:=by intro n;walk_at "l") (B:∀n,Ln (f n) st3:=by intro n;walk_at "l") (C:∀n,Ln (g n) st4:=by intro n;walk_at "l") (D:∀n,Ln (h n) st5:=by intro n;walk_at "l") (H:∀n,Ln (s6 n) st6:=by intro n;walk_at "l") (b0:Bd x st (pms st):=by walk_at "b") (I:Bd y st2 (pms st2):=by walk_at "b") (J:Bd v st3 (pms st3):=by walk_at "b") (b3:Bd b st4 (pms st4):=by walk_at "b") (L:Bd c st5 (pms st5):=by walk_at "b") (N:Bd d st6 (pms st6):=by walk_at "b") :
  F P w K mg base (r+n) x (s1 n)/\F P w K mg base (r+n) y (e n)/\F P w K mg base (r+n) v (f n)/\F P w K mg base (r+n) b (g n)/\F P w K mg base (r+n) c (h n)/\F P w K mg base (r+n) d (s6 n):=by
 induction n with
 | zero=>exact⟨O0 (i.at E.X E.G b0) z p,O0 (j.at E.X E.G I) A z2,O0 (a3.at E.X E.G J) B z3,O0 (l.at E.X E.G b3) C q,O0 (m.at E.X E.G L) D t,O0 (o.at E.X E.G N) H u⟩
 | succ n a=>exact s _ n (CA1 _ _) a.1 a.2.1 a.2.2.1 a.2.2.2.1 a.2.2.2.2.1 a.2.2.2.2.2
end
def wE (R:Rc)(Γ:Ct)(e:Expr):Option TE3:=match e with
 | .Subscript (.Name x _) i _=>match gl Γ x && !BI1 i,Γ.ts x with
  | true,some l=>some (AS6 l (R.E Γ i))
  | _,_=>none
 | _=>none
def extW:Ext:={CJ with E:=wE}
theorem extW_ok:ExtOk extW:={J9 with
 E:=fun R c b X o e t h=>by
  have d:=(c b X o).1
  replace h:wE R b e=some t:=h
  unfold wE at h
  split at h
  ·split at h
   ·rename_i a f
    cases h
    rw[BQ0,BU8] at a
    obtain⟨g1,g2,_⟩:=OJ o a.1
    exact BB7 g1 (o.ts _ _ f) (d _) (AB7 fun l u s p e=>by rw[e] at a;cases a.2) g2
   ·cases h
  ·cases h}
def uJ (R:Rc)(Γ:Ct)(g i:Expr):Option TI3:=match g,i with
 | .Tuple ..,.Call (.Name x _) [a] [] _=>match x=="enumerate" && fr Γ "enumerate" && !isStar a with
  | true=>some (CK (R.E Γ a))
  | false=>none
 | _,_=>none
def extU:Ext:={CJ with J:=uJ}
theorem extU_ok:ExtOk extU:={J9 with
 J:=fun R c a X o g i t h=>by
  have d:=(c a X o).1
  replace h:uJ R a g i=some t:=h
  unfold uJ at h
  split at h
  ·split at h
   ·rename_i b
    cases h
    rw[BQ0,BQ0,BU8] at b
    obtain⟨⟨e,f⟩,j⟩:=b
    cases eq_of_beq e
    obtain⟨g1,g2⟩:=AT6 o f
    exact AD6 g1 g2 (d _) (BL9 j) rfl
   ·cases h
  ·cases h}
def r3I (R:Rc)(Γ:Ct)(_ i:Expr):Option TI3:=match i with
 | .Call (.Name x _) [a,b,c] [] _=>match x=="range" && fr Γ "range" && !isStar a && !isStar b && !isStar c with
  | true=>some (LL (rA (R.E Γ) [a,b,c]))
  | false=>none
 | _=>none
def extO:Ext:={CJ with I:=r3I}
theorem extO_ok:ExtOk extO:={J9 with
 I:=fun R c a X o g i t h=>by
  have d:=(c a X o).1
  replace h:r3I R a g i=some t:=h
  unfold r3I at h
  split at h
  ·split at h
   ·rename_i b
    cases h
    rw[BQ0,BQ0,BQ0,BQ0,BU8,BU8,BU8] at b
    obtain⟨⟨⟨⟨e,f⟩,j⟩,k⟩,l⟩:=b
    cases eq_of_beq e
    obtain⟨g1,g2⟩:=AT6 o f
    exact RQ g1 g2 (HX d _) (F1 j _ _) (GY (by rw[BT6,BT6,k,l];rfl))
   ·cases h
  ·cases h}
def AH7 (es:Array DictEntry):List (Str×Tok×Str×Tok):=es.toList.map fun e=>match e.key,e.val with
 | .str x t,.str y u=>(x,t,y,u)
 | _,_=>("",0,"",0)
theorem BH6 {P:Params}{a:Addr}{tbl:List (Str×Str)}{es:Array DictEntry}{b:Nat}(l:K.lookup a=some ⟨.type "dict",none,.dict es b,#[]⟩)(c:es=((AH7 es).map (ZY P)).toArray)
  (v:(AH7 es).map (fun r=>(r.1,r.2.2.1))=tbl) (n:(tbl.map Prod.fst).Nodup):KH K P a tbl:=⟨AH7 es,b,c ▸ l,by
  rw[<-v,BW9] at n;exact n,v⟩
end L3
namespace K54Z
open PySem PySem.Spec PyProof.Rows L2 L3
def top (i:Nat):Stmt:=PySem.Challenge.pw_handedon_k54_codes_followed.main.body.getD i (.Pass ⟨0,0,0,0⟩)
theorem noC {X:Cx}:CallR3 X u (fun _ _ _=>False):=by
 intro a s b H M
 intros
 rename_i h
 exact h.elim
def bk:Book:=(((((((((((((((((bk0.a 0 "append" "list" "list.append" E4).a 0 "extend" "list" "list.extend" GJ).c 0 "len" (.builtin "len") E2).b 1 .Add G5).c 0 "tuple" (.type "tuple") J3).c 0 "max" (.builtin "max") UY).a 2 "join" "str" "str.join" ME).m 11 .In (DL false)).a 1 "split" "str" "str.split" GP).c 0 "int" (.type "int") DM).c 2 "list" (.type "list") ER).m 15 .In (GL false)).m 12 .NotIn (DL true)).m 16 .NotIn (GL true)).c 0 "enumerate" (.type "enumerate") fun _ _ _=>False).c 0 "list" (.type "list") fun _ _ _=>False).c 0 "range" (.type "range") fun _ _ _=>False)
def gd:Gd:=⟨[("int",.ty "int"),("list",.ty "list"),("tuple",.ty "tuple")],[],[("ROW_WORDS",CH.tblW)],bk⟩
def ex:Ext:=((BG9 (extD.or (extF.or (extM.or (extO.or (extQ.or (extS.or (extU.or (extV.or (extW.or CJ)))))))))).or (extD.or (extF.or (extM.or (extO.or (extQ.or (extS.or (extU.or (extV.or (extW.or CJ))))))))))
theorem AT5:ExtOk ex:=((AK7 (extD_ok.or (extF_ok.or (extM_ok.or (extO_ok.or (extQ_ok.or (extS_ok.or (extU_ok.or (extV_ok.or (extW_ok.or J9)))))))))).or (extD_ok.or (extF_ok.or (extM_ok.or (extO_ok.or (extQ_ok.or (extS_ok.or (extU_ok.or (extV_ok.or (extW_ok.or J9))))))))))
structure Blt (mg:Str->Option Value):Prop where
 enumerate_:mg "enumerate"=none
 int_:mg "int"=none
 len_:mg "len"=none
 list_:mg "list"=none
 max_:mg "max"=none
 range_:mg "range"=none
 tuple_:mg "tuple"=none
theorem BG2 (Z:Blt mg)(Y:Cx)(e:Y.mg=mg)(d:∃k,Room k Y.A)(f:Y.calm=true):BookOk bk Y:=by
 obtain⟨k,d⟩:=d
 have z:∀x,mg x=none->Y.mg x=none:=fun x h=>by rw[e];exact h
 exact((((((((((((((((((AX5 d).a F.plainAttrs_list F.slot_list_append F.type_list_append WS).a F.plainAttrs_list F.slot_list_extend F.type_list_extend WT).c (z "len" Z.len_) AX0 (.inl ⟨_,rfl⟩) AX7).b AM7).c (z "tuple" Z.tuple_) NV (.inr ⟨_,rfl⟩) YX).c (z "max" Z.max_) AX1 (.inl ⟨_,rfl⟩) (AX8 f)).a F.plainAttrs_str F.slot_str_join F.type_str_join AB3).m BA2).a F.plainAttrs_str F.slot_str_split F.type_str_split WU).c (z "int" Z.int_) YR (.inr ⟨_,rfl⟩) AX6).c (z "list" Z.list_) KZ (.inr ⟨_,rfl⟩) YW).m (BA3 d)).m WY).m (WZ d)).c (z "enumerate" Z.enumerate_) AU (.inr ⟨_,rfl⟩) noC).c (z "list" Z.list_) KZ (.inr ⟨_,rfl⟩) noC).c (z "range" Z.range_) YS (.inr ⟨_,rfl⟩) noC)
local macro_rules | `(tactic| walk_at "s")=>`(tactic| exact⟨rfl,rfl,rfl,by decide +kernel,rfl,by decide +kernel,by decide +kernel⟩)
local macro_rules | `(tactic| walk_at "b")=>`(tactic| exact fun _ _ _ _ _ _ us hl=>by first|(obtain⟨_,e⟩:=us1 hl;cases e;rfl)|(obtain⟨_,_,e⟩:=us2 hl;cases e;rfl)|(obtain⟨_,_,_,e⟩:=us3 hl;cases e;rfl)|(obtain⟨_,_,_,_,e⟩:=us4 hl;cases e;rfl))
local macro_rules | `(tactic| walk_at "k")=>`(tactic| first|decide|lia)
local macro_rules | `(tactic| walk_at "l")=>`(tactic| (intro _ _ _;(repeat' (first|refine lnE ?_|(refine lnX ?_;intro _)|refine lnA ?_));all_goals rfl))
local macro_rules | `(tactic| walk_at "v")=>`(tactic| repeat (first|exact .nil|refine .cons ⟨_,rfl⟩ ?_))
set_option maxHeartbeats 4000000 in
theorem all_mk {l:PySem.W.OpenLaw}{fa:Addr}(X:K.In h)(G:h.Ns BT1 mg)(hfa:mg "law"=some (.ref fa))
  {ac0:Addr} {o t x z C D F H I J L M N O P Q R S T U c d g i j m:Tok} {ec0:Nat}
  (a0:Fg K "blocks_of" (top 1))
  (a1:Fg K "places_in" (top 3))
  (a2:Fg K "places" (top 4))
  (a3:Fg K "deed_at" (top 5))
  (a4:Fg K "is_stand" (top 6))
  (a5:Fg K "has_lasts" (top 7))
  (a6:Fg K "stands_of" (top 8))
  (a7:Fg K "around" (top 10))
  (a8:Fg K "lasts_number" (top 11))
  (a9:Fg K "is_in_lasts" (top 12))
  (a10:Fg K "leads_to_lasts" (top 13))
  (a11:Fg K "while_around" (top 14))
  (a12:Fg K "block_around" (top 15))
  (a13:Fg K "behind_block" (top 16))
  (a14:Fg K "behind" (top 17))
  (a15:Fg K "tells_number" (top 20))
  (a16:Fg K "stands_for" (top 21))
  (a17:Fg K "due_of" (top 22))
  (a18:Fg K "left_to" (top 23))
  (a19:Fg K "draft_block" (top 25))
  (a20:Fg K "draft_inner" (top 26))
  (a21:Fg K "draft_if" (top 27))
  (a22:Fg K "draft_while" (top 28))
  (a23:Fg K "draft_try" (top 29))
  (a24:Fg K "draft_deed" (top 30))
  (a25:Fg K "numbers_of" (top 31))
  (a26:Fg K "numbered" (top 32))
  (a27:Fg K "guards_of" (top 33))
  (a28:Fg K "code_of" (top 34))
  (a29:Fg K "_law_mix" (top 36))
  (a30:Fg K "_law_draws" (top 37))
  (a31:Fg K "_law_take" (top 38))
  (a32:Fg K "_law_names" (top 39))
  (a33:Fg K "_law_leaf" (top 40))
  (a34:Fg K "_law_two" (top 41))
  (a35:Fg K "_law_expression" (top 42))
  (a36:Fg K "_law_plain" (top 43))
  (a37:Fg K "_law_caught" (top 44))
  (a38:Fg K "_law_nested" (top 45))
  (a39:Fg K "_law_block" (top 46))
  (a40:Fg K "_law_book" (top 47))
  (a41:Fg K "_law_lead" (top 48))
  (a42:Fg K "_law_while" (top 49))
  (a43:Fg K "_law_is_deed" (top 50))
  (a44:Fg K "_law_follows" (top 51))
  (a45:Fg K "_law_left" (top 52))
  (a46:Fg K "_law_row_right" (top 53))
  (a47:Fg K "_law_rows_right" (top 54))
  (a48:Fg K "_law_texts_right" (top 55))
  (a49:Fg K "law" (top 56))
  (z0:BW6 K BT1 "enumerate"=some none)
  (z1:BW6 K BT1 "int"=some none)
  (z2:BW6 K BT1 "len"=some none)
  (z3:BW6 K BT1 "list"=some none)
  (z4:BW6 K BT1 "max"=some none)
  (z5:BW6 K BT1 "range"=some none)
  (z6:BW6 K BT1 "tuple"=some none)
  (uc0:BW6 K BT1 "ROW_WORDS"=some (some (.ref ac0)))
  (lc0:K.lookup ac0=some ⟨.type "dict",none,.dict #[⟨BT8 w.params "let",.str "let" o,.str "deed" t⟩,⟨BT8 w.params "note",.str "note" x,.str "deed" z⟩,⟨BT8 w.params "ask",.str "ask" C,.str "deed" D⟩,⟨BT8 w.params "cast",.str "cast" F,.str "deed" H⟩,⟨BT8 w.params "close",.str "close" I,.str "deed" J⟩,⟨BT8 w.params "give",.str "give" L,.str "stand" M⟩,⟨BT8 w.params "on",.str "on" N,.str "stand" O⟩,⟨BT8 w.params "if",.str "if" P,.str "test" Q⟩,⟨BT8 w.params "while",.str "while" R,.str "test" S⟩,⟨BT8 w.params "try",.str "try" T,.str "open" U⟩,⟨BT8 w.params "end",.str "end" c,.str "end" d⟩,⟨BT8 w.params "fault",.str "fault" g,.str "fault" i⟩,⟨BT8 w.params "leave",.str "leave" j,.str "leave" m⟩] ec0,#[]⟩) :
  ∃fd:CD4,(∀(s:BP9) (v:Value),BindsTo s fd ⟨[v],[]⟩ [("_law_script",v)])/\∀base:Heap,K.In base->base.Ns BT1 mg->Y9 l.prog w K mg base CX0 61 fa fd ["_law_script"] (FN K L3.MW):=by
 have B:Blt mg:=⟨BW7 X G z0,BW7 X G z1,BW7 X G z2,BW7 X G z3,BW7 X G z4,BW7 X G z5,BW7 X G z6⟩
 have Z:AJ6 gd w K mg:=⟨(AJ9 (.inr ⟨_,rfl,B.int_,YR⟩) (AJ9 (.inr ⟨_,rfl,B.list_,KZ⟩) (AJ9 (.inr ⟨_,rfl,B.tuple_,NV⟩) AW5))),AW5,(AJ9 ⟨_,PySem.W.mg_of X G uc0,BH6 lc0 rfl rfl (by decide +kernel)⟩ AW5),BG2 B⟩
 obtain⟨f,A,e⟩:=a49.law X G hfa (by walk_at "b")
 refine⟨_,e,fun base _ _=>?_⟩
 have E:En ex gd l.prog w K mg base h:=⟨AT5,Z,X,G⟩
 have g0:=E.f 0 a0 .n {hi:=[(8061068,1)]} K11.rd_blocks_of
 obtain g1:=E.g1 2 a1 K11.zero_places_in (fun k l _ p=>E.f k a1 (.k g0 (.k p .n)) {h:=[(12012014,1)]} (K11.rd_places_in l)) 8
 have g2:=E.f 10 a2 (.k g1 .n) {} K11.rd_places
 have g3:=E.f 1 a3 (.k g0 .n) {} K12.rd_deed_at
 have g4:=E.f 0 a4 .n {} K12.rd_is_stand
 have g5:=E.f 0 a5 .n {} K12.rd_has_lasts
 have g6:=E.f 11 a6 (.k g2 (.k g3 (.k g4 .n))) {h:=[(31011078,1)],hi:=[(31031043,4)],cp:=[(31011078,["rule"])]} K12.rd_stands_of
 have g7:=E.f 2 a7 (.k g3 .n) {h:=[(34012014,1),(37016026,2)]} GO.rd_around
 have g8:=E.f 0 a8 .n {} GO.rd_lasts_number
 have g9:=E.f 1 a9 (.k g8 .n) {} GO.rd_is_in_lasts
 have g10:=E.f 2 a10 (.k g5 (.k g9 .n)) {} GO.rd_leads_to_lasts
 have g11:=E.f 3 a11 (.k g7 .n) {} CH.rd_while_around
 have g12:=E.f 2 a12 (.k g3 (.k g0 .n)) {h:=[(54035045,2)]} GO.rd_block_around
 obtain⟨g13,b⟩:=E.g2 4 a13 a14 GO.zero_behind_block GO.zero_behind (fun k l _ p q=>⟨E.f k a13 (.k g3 (.k g10 (.k g9 (.k q .n)))) {} (GO.rd_behind_block l),E.f k a14 (.k g12 (.k p .n)) {h:=[(66024034,2),(69030040,2)]} (GO.rd_behind l)⟩) 20
 have g15:=E.f 0 a15 .n {} CH.rd_tells_number
 have g16:=E.f 0 a16 .n {} CH.rd_stands_for
 have g17:=E.f 0 a17 .n {} CH.rd_due_of
 have g18:=E.f 25 a18 (.k g11 (.k b .n)) {} CH.rd_left_to
 obtain⟨g19,g20,g21,g22,g23,g24⟩:=E.g6 27 a19 a20 a21 a22 a23 a24 CH.zero_draft_block CH.zero_draft_inner CH.zero_draft_if CH.zero_draft_while CH.zero_draft_try CH.zero_draft_deed (fun k l _ p q r u v y=>⟨E.f k a19 (.k y .n) {h:=[(87011013,1)]} (CH.rd_draft_block l),E.f k a20 (.k g3 (.k g0 (.k p .n))) {} (CH.rd_draft_inner l),E.f k a21 (.k b (.k q .n)) {h:=[(95015083,1),(96012085,1),(97011080,1),(97011050,1)]} (CH.rd_draft_if l),E.f k a22 (.k b (.k q .n)) {h:=[(99011109,1),(99011079,1)]} (CH.rd_draft_while l),E.f k a23 (.k g5 (.k b (.k q (.k g18 .n)))) {h:=[(102011058,1),(109011087,1),(109011043,1),(109011035,1)]} (CH.rd_draft_try l),E.f k a24 (.k g3 (.k r (.k u (.k v (.k g18 .n))))) {h:=[(119015055,1),(120011040,1)]} (CH.rd_draft_deed l)⟩) 24
 have g25:=E.f 1 a25 (.k g16 .n) {} CH.rd_numbers_of
 have g26:=E.f 1 a26 (.k g15 (.k g17 .n)) {h:=[(126023047,4)]} CH.rd_numbered
 have g27:=E.f 2 a27 (.k g3 .n) {h:=[(128021057,4),(129011043,4),(130012043,4),(132015047,1),(134011016,1),(134036078,1)],cp:=[(128020104,["numbers","place"])]} CH.rd_guards_of
 have g28:=E.f 59 a28 (.k g19 (.k g25 (.k g2 (.k g3 (.k g27 (.k g26 .n)))))) {h:=[(136012056,1),(138013015,1),(139017035,5)],cp:=[(142018059,["numbers"])],fz:=[(137,[1])]} CH.rd_code_of
 have g29:=E.f 0 a29 .n {} TK.rd__law_mix
 have g30:=E.f 1 a30 (.k g29 .n) {h:=[(149017019,1)]} TK.rd__law_draws
 have a:=E.f 0 a31 .n {} TK.rd__law_take
 have g32:=E.f 1 a32 (.k a .n) {h:=[(166016087,1),(168017019,1),(170008026,1),(171026044,2),(173007075,11),(173057074,1)],cp:=[(166016087,["_law_letters","_law_kit"]),(173015075,["_law_found"])]} TK.rd__law_names
 have g33:=E.f 1 a33 (.k a .n) {} TK.rd__law_leaf
 have g34:=E.f 1 a34 (.k a .n) {} TK.rd__law_two
 have g35:=E.f 2 a35 (.k a (.k g33 (.k g34 .n))) {cp:=[(198037090,["_law_kit"])]} TK.rd__law_expression
 have g36:=E.f 3 a36 (.k a (.k g35 (.k g33 .n))) {} TK.rd__law_plain
 obtain⟨g37,g38,g39⟩:=E.g3 5 a37 a38 a39 TK.zero__law_caught TK.zero__law_nested TK.zero__law_block (fun k l _ p q r=>⟨E.f k a37 (.k a (.k r .n)) {} (TK.rd__law_caught l),E.f k a38 (.k a (.k g36 (.k g35 (.k r (.k p .n))))) {cp:=[(242025105,["_law_kit","_law_loop","_law_deep"])]} (TK.rd__law_nested l),E.f k a39 (.k a (.k g36 (.k q .n))) {h:=[(250022024,1)]} (TK.rd__law_block l)⟩) 20
 have g40:=E.f 25 a40 (.k g30 (.k g32 (.k a (.k g39 .n)))) {h:=[(261081083,1),(266021023,1),(267033056,2)]} TK.rd__law_book
 have V:=E.f 0 a41 .n {} LW.rd__law_lead
 have g42:=E.f 2 a42 (.k g3 .n) {} LW.rd__law_while
 have Y:=E.f 1 a43 (.k V .n) {} LW.rd__law_is_deed
 have g44:=E.f 2 a44 (.k Y (.k V .n)) {} LW.rd__law_follows
 have g45:=E.f 29 a45 (.k g42 (.k b (.k g44 .n))) {} LW.rd__law_left
 have g46:=E.f 30 a46 (.k V (.k g3 (.k g45 (.k b (.k g44 (.k Y .n)))))) {} LW.rd__law_row_right
 have g47:=E.f 39 a47 (.k Y (.k g6 (.k g46 .n))) {h:=[(329007081,11),(329017041,15),(331011116,12)],hi:=[(328046055,1),(329060080,4)],cp:=[(329016081,["_law_stood"]),(331024116,["_law_rule","_law_rows"])]} LW.rd__law_rows_right
 have g48:=E.f 13 a48 (.k g2 (.k g3 .n)) {h:=[(336015044,16)],hi:=[(334020029,1)]} LW.rd__law_texts_right
 exact BJ7 AT5 Z A (by walk_at "s") (by walk_at "l") (.k g40 (.k g28 (.k g2 (.k g48 (.k g47 .n))))) {hi:=[(352021046,1)]} LW.rd_law (by kernel_rfl)
end K54Z
local macro_rules | `(tactic| walk_at "kf")=>`(tactic| (refine' L3.Fg.of ?a ?l ?c ?k;(case a=>k_is);(case l=>k_is);(case c=>k_is);(case k=>k_is)))
local macro_rules | `(tactic| walk_at "kk")=>`(tactic| (refine' L3.Kc.of ?a;(case a=>k_is)))
open PySem PySem.W PyProof.Rows
set_option maxRecDepth 100000 in
set_option maxHeartbeats 0 in
theorem PySem.Challenge.cw_handedon_k54_codes_followed_holds : PySem.Challenge.rw_handedon_k54_codes_followed.Holds := by
 w_on;o_law;k_head;(case hw=>w_witness2)
 k_fill
 refine L3.BM9 (l:=PySem.Challenge.rw_handedon_k54_codes_followed) (k:=61) (x:="_law_script") rfl rfl ⟨rfl,by decide,by decide,rfl⟩ (fun w h Y=>PySem.W.kIn_of Y) ?F
 case F =>
  intro w mg fa h KX G hmg
  refine' K54Z.all_mk KX G hmg ?_ ?_ ?_ ?_ ?_ ?_ ?_ ?_ ?_ ?_ ?_ ?_ ?_ ?_ ?_ ?_ ?_ ?_ ?_ ?_ ?_ ?_ ?_ ?_ ?_ ?_ ?_ ?_ ?_ ?_ ?_ ?_ ?_ ?_ ?_ ?_ ?_ ?_ ?_ ?_ ?_ ?_ ?_ ?_ ?_ ?_ ?_ ?_ ?_ ?_ ?_ ?_ ?_ ?_ ?_ ?_ ?_ ?_ ?_
  all_goals try first|walk_at "kf"|walk_at "kk"|k_is|rfl
