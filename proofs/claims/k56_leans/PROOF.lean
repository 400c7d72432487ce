import PyProof.Rows.All
import Wide.All
import OpenK.AllK
import Wide.FinOn
import Lean
import PyProof.EqAt
import PyProof.EqKinds
import PyProof.TupleCall
import PySem.Challenge.RW_dockethall_k56_leans
namespace PySem.W.Fast
def tw10764779304346287281:=0
def tw10642075298781286700:=0
def tw13294678819216669879:=0
def tw2975384504915560895:=0
def tw17076972230213230505:=0
def tw6160522441246377973:=0
def tw17730726215941175249:=0
def tw17095783304283639368:=0
def tw12128114514006848384:=0
def tw4818317060311659644:=0
def tw17123047798856551105:=0
def tw2342226927077728516:=0
def tw637408774767998347:=0
def tw13281896506050376837:=0
def tw12873852066172639171:=0
def tw3267215044359556576:=0
def tw3946080827422129940:=0
def tw16140124452263122060:=0
def tw5351119438910040485:=0
def tw9395664258847377636:=0
def tw8573244917114785642:=0
def tw17127010586570531155:=0
def tw3554672982836734641:=0
def tw11187896409434352193:=0
def tw5456875110540217422:=0
def tw14358863328325699458:=0
def tw1386737338883882360:=0
def tw16182648551289679689:=0
def tw16242224669871290335:=0
def tw6079224531052162361:=0
def tw2373213920538771187:=0
def tw3086913930893729249:=0
def tw16795646964635519921:=0
def tw3985435256927498465:=0
def tw4831841490296531829:=0
def tw2169397363713464617:=0
def tw169274938980716871:=0
def tw9343974376060776641:=0
def tw12518199625074878563:=0
def tw9325469747516800962:=0
def tw12199915072630356340:=0
def tw9411869262264110567:=0
def tw14439954015114501496:=0
def tw150877963923494770:=0
def tw418458111653195167:=0
def tw4897384137722109870:=0
def tw4036098168636097478:=0
def tw7238245454444900092:=0
def tw10080464663958328309:=0
def tw15976894347615284325:=0
def tw11194511282863790423:=0
def tw6374107703708934338:=0
def tw14858503356288344410:=0
def tw7801383681138171494:=0
def tw17888958196763522837:=0
def tw12555150397845358678:=0
def tw5101075722310029146:=0
def tw18187303414530160370:=0
def tw6252317640969510213:=0
def tw6630888090818443960:=0
def tw8564002299415711637:=0
def tw2149331953013991113:=0
def tw15649460074158185874:=0
def tw17606155477971188481:=0
def tw18407735647169766087:=0
def tw13246807133133057978:=0
def tw13719562290535312806:=0
def tw9993485673346634035:=0
def tw16684436532056163359:=0
def tw9009942482421659452:=0
def tw1068976194974174665:=0
def tw15770589237875717886:=0
def tw12862218440890707672:=0
def tw3199842286743283226:=0
def tw9870486366448874172:=0
def tw11001003430290029319:=0
def tw13048337922015715373:=0
def tw1846922394063682722:=0
def tw1763036512874910850:=0
def tw3566795504985150417:=0
def tw12901448495813064958:=0
def tw924370811520986575:=0
def tw1214725584254668671:=0
def tw18365267923437002076:=0
def tw6131949203157388432:=0
def tw3424788676378886727:=0
def tw2530669584727256833:=0
def tw309325083741856952:=0
def tw16518871990910102388:=0
def tw5063769553499948878:=0
def tw4877735668736991598:=0
def tw4343594828111725730:=0
def tw5589814032598030203:=0
def tw18329270896253125054:=0
def tw17575552305115112387:=0
def tw9540102133033992474:=0
def tw15545868050491635179:=0
def tw3495693844530422412:=0
def tw875447182943232953:=0
def tw15411091814553632940:=0
def tw5731696911173343314:=0
def tw12365102372349677305:=0
def tw4863878353211926040:=0
def tw3868591623492610677:=0
def tw1885638282079792008:=0
def tw5565449307102831956:=0
def tw1752886592333129760:=0
def tw11250273265180166817:=0
def tw2575949710261559696:=0
def tw10751822021623199240:=0
def tw5672717058362849729:=0
def tw7081506729255955080:=0
def tw13212307200099482980:=0
def tw2672009404842259520:=0
def tw5329578330390396802:=0
def tw8694771599091078329:=0
def tw9669037656299306531:=0
def tw3104545966222124267:=0
def tw4740100794135415560:=0
end PySem.W.Fast
set_option Elab.async false
set_option linter.all false
set_option maxRecDepth 100000
theorem oi{a b:Prop}(h:a):a∨b:=Or.inl h
theorem dk{p:Prop}(h:p:=by decide +kernel):p:=h
namespace L2
open PySem PySem.Spec PyProof.Rows
abbrev Key:=Sum Int Str
def keyIs:Key->Value->Bool
 | .inl k,v=>Value.isInt k v
 | .inr x,v=>Value.isStrOf x v
def keyH(w:World):Key->Int
 | .inl k=>hashInt k
 | .inr x=>hashStr w x
theorem QcE:∀{k:Key}{v:Value},keyIs k v=true->(∃ i t,k=Sum.inl i/\v=Value.int i t)∨(∃ x t,k=Sum.inr x/\v=Value.str x t)
 | .inl i,v,h=>by
  obtain⟨t,e⟩:=Value.isInt_shape (k:=i) (v:=v) h
  exact .inl ⟨i,t,rfl,e⟩
 | .inr x,v,h=>by
  obtain⟨t,e⟩:=Value.isStrOf_shape (x:=x) (v:=v) h
  exact .inr ⟨x,t,rfl,e⟩
theorem QLR(i:Int)(t:Tok):keyIs (.inl i) (.int i t)=true:=by simp[keyIs,Value.isInt]
theorem QNa(x:Str)(t:Tok):keyIs (.inr x) (.str x t)=true:=by simp[keyIs,Value.isStrOf]
theorem QQX(a b:Int):decide ((Sum.inl a:Key)=Sum.inl b)=(a == b):=by
 by_cases e:a=b
 ·subst e;simp
 ·have h:¬ (Sum.inl a:Key)=Sum.inl b:=fun q=>e (Sum.inl.inj q)
  rw[decide_eq_false h]
  exact(beq_eq_false_iff_ne.mpr e).symm
theorem QRU(a b:Str):decide ((Sum.inr a:Key)=Sum.inr b)=decide (a=b):=by
 by_cases e:a=b
 ·subst e;simp
 ·have h:¬ (Sum.inr a:Key)=Sum.inr b:=fun q=>e (Sum.inr.inj q)
  rw[decide_eq_false h,decide_eq_false e]
theorem QRb(a:Int)(b:Str):decide ((Sum.inl a:Key)=Sum.inr b)=false:=decide_eq_false (fun q=>nomatch q)
theorem QQw(a:Str)(b:Int):decide ((Sum.inr a:Key)=Sum.inl b)=false:=decide_eq_false (fun q=>nomatch q)
def Qcy(prog:Program)(w:World):PySem.KeyKind prog w Key where
 is:=keyIs
 hash:=keyH w
 inj:=fun v a b ha hb=>by
  rcases QcE ha with⟨i,t,rfl,rfl⟩ | ⟨x,t,rfl,rfl⟩
  ·rcases QcE hb with⟨j,u,rfl,e⟩ | ⟨y,u,rfl,e⟩
   ·injection e with e1 _;rw[e1]
   ·exact nomatch e
  ·rcases QcE hb with⟨j,u,rfl,e⟩ | ⟨y,u,rfl,e⟩
   ·exact nomatch e
   ·injection e with e1 _;rw[e1]
 byValue:=fun k v h=>by
  rcases QcE h with⟨i,t,rfl,rfl⟩ | ⟨x,t,rfl,rfl⟩<;>rfl
 pyHash:=fun hv h=>by
  rcases QcE hv with⟨i,t,rfl,rfl⟩ | ⟨x,t,rfl,rfl⟩
  ·exact wpAny_pyHash_int h
  ·exact wpAny_pyHash_str h
 eqBool:=fun hu hv h=>by
  rcases QcE hu with⟨i,t,rfl,rfl⟩ | ⟨x,t,rfl,rfl⟩
  ·rcases QcE hv with⟨j,u,rfl,rfl⟩ | ⟨y,u,rfl,rfl⟩
   ·rw[QQX]at h;exact wpAny_eqBool_int h
   ·rw[QRb]at h;exact SeqAt.EqAt.int_str i t y u _ _ _ _ h
  ·rcases QcE hv with⟨j,u,rfl,rfl⟩ | ⟨y,u,rfl,rfl⟩
   ·rw[QQw]at h;exact SeqAt.EqAt.str_int x t j u _ _ _ _ h
   ·rw[QRU]at h;exact wpAny_eqBool_str h
 «strs»:=fun k x t v h=>by
  rcases QcE h with⟨i,u,rfl,e⟩ | ⟨y,u,rfl,e⟩
  ·exact nomatch e
  ·injection e with e1 _
   subst e1
   cases v<;>rfl
theorem QH7(prog:Program)(w:World)(i:Int)(t:Tok):(Qcy prog w).is (.inl i) (.int i t)=true:=QLR i t
theorem QGV(prog:Program)(w:World)(x:Str)(t:Tok):(Qcy prog w).is (.inr x) (.str x t)=true:=QNa x t
end L2
namespace L2
open PySem PySem.Spec PyProof.Rows
inductive V where
 | non | bl (b:Bool) | int (i:Int) | str (x:Str) | byt (b:Array UInt8) | flt (b:UInt64) | ref (a:Addr) | ty (n:String)
 deriving DecidableEq
def RelV:V->Value->Prop
 | .non,u=>u=Value.none
 | .bl b,u=>u=Value.bool b
 | .int i,u=>∃ t,u=Value.int i t
 | .str x,u=>∃ t,u=Value.str x t
 | .byt b,u=>∃ t,u=Value.bytes b t
 | .flt b,u=>∃ t,u=Value.float b t
 | .ref a,u=>u=Value.ref a
 | .ty n,u=>u=Value.type n
abbrev Vals:List V->List Value->Prop:=Paired RelV
theorem Vals.length{xs:List V}{us:List Value}(r:Vals xs us):xs.length=us.length:=Paired.length r
theorem Vals.get:∀{xs:List V}{us:List Value}{i:Nat}{x:V},Vals xs us->xs[i]?=some x->∃ u,us[i]?=some u/\RelV x u
 | _,_,_,_,.nil,e=>by simp at e
 | _,_,0,_,.cons r _,e=>by simp at e;subst e;exact⟨_,rfl,r⟩
 | _,_,i+1,x,.cons _ t,e=>by
  obtain⟨u,h1,h2⟩:=Vals.get (i:=i) (x:=x) t (by simpa using e)
  exact⟨u,by simpa using h1,h2⟩
theorem Vals.append:∀{xs ys:List V}{us ws:List Value},Vals xs us->Vals ys ws->Vals (xs++ys) (us++ws)
 | _,_,_,_,.nil,s=>s
 | _,_,_,_,.cons r t,s=>.cons r (Vals.append t s)
theorem Vals.take:∀{xs:List V}{us:List Value}(n:Nat),Vals xs us->Vals (xs.take n) (us.take n)
 | _,_,0,_=>.nil
 | _,_,_+1,.nil=>.nil
 | _,_,n+1,.cons r t=>.cons r (Vals.take n t)
theorem Vals.drop:∀{xs:List V}{us:List Value}(n:Nat),Vals xs us->Vals (xs.drop n) (us.drop n)
 | _,_,0,r=>r
 | _,_,_+1,.nil=>.nil
 | _,_,n+1,.cons _ t=>Vals.drop n t
def RelO:Option V->Option Value->Prop
 | some v,some u=>RelV v u
 | none,none=>True
 | _,_=>False
def KV{κ:Type}:List (κ×V)->List (κ×Value)->Prop:=Paired fun(p:κ×V) (q:κ×Value)=>p.1=q.1/\RelV p.2 q.2
def kV:Key->V
 | .inl i=>.int i
 | .inr x=>.str x
inductive HO where
 /-- a list -/
 | lst (xs:List V)
 /-- a tuple (never changes) -/
 | tup (xs:List V)
 /-- a dict whose keys are ints and texts;one whose keys are tuples of ints and texts (the empty one is both) -/
 | dK (kvs:List (Key×V)) | dT (kvs:List (List Key×V))
 /-- a set of ints: its members,its size -/
 | set (S:Int->Bool) (n:Nat)
 /-- an instance of the class at C,its dict at dx,its attributes -/
 | ins (C dx:Addr) (fs:List (Str×V))
 /-- the dict of the instance at x -/
 | own (x:Addr)
 /-- the dict of an exception -/
 | xd (fs:List (Str×V))
 /-- a bound method,f of x -/
 | met (f x:Addr)
 /-- a range object lo,lo+1, .. below hi -/
 | rng (lo hi:Int)
 /-- a thing that is known to the object (the script;a dict while a loop walks it): read,never written while it is so -/
 | frz (o:Obj) (u:HO)
 /-- a code object's table -/
 | tbl (ps:Array Value)
 /-- any other thing,by what is true of its one object (a def of one's own: SetO a S n:=HO.ext fun h => ..) -/
 | ext (φ : Heap->Prop)
abbrev Hp:=Addr->Option HO
def upd(H:Hp)(a:Addr)(o:HO):Hp:=fun b=>if b=a then some o else H b
theorem QS{H:Hp}{a:Addr}{o:HO}:upd H a o a=some o:=by unfold upd;rw[if_pos rfl]
theorem Qk{H:Hp}{a b:Addr}{o:HO}(h:b≠a):upd H a o b=H b:=by unfold upd;rw[if_neg h]
theorem QQe{H:Hp}{a:Addr}{o u:HO}:upd (upd H a o) a u=upd H a u:=by
 funext b;unfold upd;split<;>rfl
theorem ne_of{H:Hp}{a b:Addr}{o u:HO}(h:H a=some o)(h':H b=some u)(d:o≠u):a≠b:=by
 intro e;subst e;rw[h]at h';exact d (Option.some.inj h')
theorem QZ{H:Hp}{a b:Addr}{o:HO}(h:H a=some o)(h':H b=none):a≠b:=by
 intro e;subst e;rw[h]at h';cases h'
section
variable(P:Program)(w:World)
def ObjOk(H:Hp)(h:Heap)(a:Addr):HO->Prop
 | .lst xs=>xs.length<=sizeLine/\∃(its:List Value)(n:Nat),Vals xs its/\h.get? a=some { cls:=.type "list",data:=.seq its.toArray n }
 | .tup xs=>xs.length<=sizeLine/\∃ its:List Value,Vals xs its/\IsTup h a its.toArray
 | .dK kvs=>kvs.length<=sizeLine/\(a == sysModules)=false/\∃ vs,KV kvs vs/\h.DictOf (Qcy P w) a vs
 | .dT kvs=>kvs.length<=sizeLine/\(a == sysModules)=false/\∃ xs:List (List Key×Addr×Value),
  Paired (fun(p:List Key×V) (q:List Key×Addr×Value)=>p.1=q.1/\H q.2.1=some (.tup (p.1.map kV))/\RelV p.2 q.2.2) kvs xs/\
  ∃ o es ep,h.get? a=some o/\o.ExactDict/\o.data=.dict es ep/\es.toList=xs.map (entryOfKey (tupleKind (Qcy P w)))/\(xs.map (·.1)).Nodup
 | .set S n=>h.SetOf (intKind P w) a S n
 | .ins C dx fs=>H dx=some (.own a)/\fs.length<=1000/\dx≠a/\h.get? a=some (PySem.W.instObj C dx)/\
  ∃ mA,h.Ns1 dx mA/\(∀ f,RelO (fs.lookup f) (mA f))/\PySem.Within mA (fs.map (·.1))
 | .own _=>∃ o,h.get? a=some o
 | .xd fs=>∃ mA,h.Ns1 a mA/\∀ f,RelO (fs.lookup f) (mA f)
 | .rng lo hi=>∃ t u v,h.get? a=some { cls:=.type "range",data:=.fields #[.int lo t,.int hi u,.int 1 v] }
 | .frz o u=>h.get? a=some o/\ObjOk H h a u
 | .tbl ps=>h.get? a=some { cls:=.none,data:=.fields ps }
 | .met f x=>h.get? a=some (PySem.W.methodObj (.ref f) (.ref x))
 | .ext φ => φ h/\(∃ o,h.get? a=some o)/\∀ h1 h2:Heap, φ h1->(∀ o,h1.get? a=some o->h2.get? a=some o) -> φ h2
def HOk(H:Hp)(h:Heap):Prop:=∀ a o,H a=some o->ObjOk P w H h a o
end
section
variable{P:Program}{w:World}{H H':Hp}{h h':Heap}{a:Addr}{o:HO}
theorem ObjOk.lt(x:ObjOk P w H h a o):a<h.objs.size:=by
 cases o with
 | lst xs=>obtain⟨_,_,_,_,e⟩:=x;exact Heap.lt_size e
 | tup xs=>obtain⟨_,_,_,p⟩:=x;exact p.lt
 | dK kvs=>obtain⟨_,_,_,_,o,_,_,e,_⟩:=x;exact Heap.lt_size e
 | dT kvs=>obtain⟨_,_,_,_,o,_,_,e,_⟩:=x;exact Heap.lt_size e
 | set S n=>obtain⟨o,_,_,_,e,_⟩:=x;exact Heap.lt_size e
 | ins C dx fs=>obtain⟨_,_,_,e,_⟩:=x;exact Heap.lt_size e
 | own y=>obtain⟨_,e⟩:=x;exact Heap.lt_size e
 | xd fs=>obtain⟨_,⟨_,_,_,e,_⟩,_⟩:=x;exact Heap.lt_size e
 | rng lo hi=>obtain⟨_,_,_,e⟩:=x;exact Heap.lt_size e
 | frz ob u=>obtain⟨e,_⟩:=x;exact Heap.lt_size e
 | tbl ps=>exact Heap.lt_size (show h.get? a=some _ from x)
 | met f y=>exact Heap.lt_size (show h.get? a=some _ from x)
 | ext φ => obtain⟨_,⟨_,e⟩,_⟩:=x;exact Heap.lt_size e
theorem Paired.mapP{α β:Type}{F G:α->β->Prop}:∀{l₁:List α}{l₂ : List β},Paired F l₁ l₂ -> (∀ a b,F a b->G a b)->Paired G l₁ l₂
 | _,_,.nil,_=>.nil
 | _,_,.cons r t,f=>.cons (f _ _ r) (Paired.mapP t f)
theorem ObjOk.stay(x:ObjOk P w H h a o)(k:∀ b u,(b=a∨H b=some (.own a))->h.get? b=some u->h'.get? b=some u)
 (ho:∀ b,H b=some (.own a)->H' b=some (.own a)) (ht:∀ b xs,H b=some (.tup xs)->H' b=some (.tup xs)):ObjOk P w H' h' a o:=by
 induction o with
 | lst xs=>obtain⟨z,its,n,r,e⟩:=x;exact⟨z,its,n,r,k _ _ (.inl rfl) e⟩
 | tup xs=>obtain⟨z,its,r,ob,e,c⟩:=x;exact⟨z,its,r,ob,k _ _ (.inl rfl) e,c⟩
 | dK kvs=>obtain⟨z,y,vs,r,ob,es,ep,e,c⟩:=x;exact⟨z,y,vs,r,ob,es,ep,k _ _ (.inl rfl) e,c⟩
 | dT kvs=>
  obtain⟨z,y,xs,r,ob,es,ep,e,c⟩:=x
  exact⟨z,y,xs,Paired.mapP r fun p q z=>⟨z.1,ht _ _ z.2.1,z.2.2⟩,ob,es,ep,k _ _ (.inl rfl) e,c⟩
 | set S n=>obtain⟨ob,es,ep,t,e,c⟩:=x;exact⟨ob,es,ep,t,k _ _ (.inl rfl) e,c⟩
 | ins C dx fs=>
  obtain⟨d,z,ne,e,mA,⟨od,es,ep,e2,c⟩,r⟩:=x
  exact⟨ho _ d,z,ne,k _ _ (.inl rfl) e,mA,⟨od,es,ep,k _ _ (.inr d) e2,c⟩,r⟩
 | own y=>obtain⟨ob,e⟩:=x;exact⟨ob,k _ _ (.inl rfl) e⟩
 | xd fs=>obtain⟨mA,⟨od,es,ep,e,c⟩,r⟩:=x;exact⟨mA,⟨od,es,ep,k _ _ (.inl rfl) e,c⟩,r⟩
 | rng lo hi=>obtain⟨t,u,v,e⟩:=x;exact⟨t,u,v,k _ _ (.inl rfl) e⟩
 | frz ob u ih=>obtain⟨e,q⟩:=x;exact⟨k _ _ (.inl rfl) e,ih q⟩
 | tbl ps=>
  have e:h.get? a=some { cls:=.none,data:=.fields ps }:=x
  show h'.get? a=some { cls:=.none,data:=.fields ps }
  exact k a _ (.inl rfl) e
 | met f y=>
  have e:h.get? a=some (PySem.W.methodObj (.ref f) (.ref y)):=x
  show h'.get? a=some (PySem.W.methodObj (.ref f) (.ref y))
  exact k a _ (.inl rfl) e
 | ext φ => obtain⟨p,⟨o,e⟩,st⟩:=x;exact⟨st _ _ p fun o q=>k _ _ (.inl rfl) q,⟨o,k _ _ (.inl rfl) e⟩,st⟩
theorem HOk.lt(x:HOk P w H h)(e:H a=some o):a<h.objs.size:=(x a o e).lt
theorem HOk.fresh(x:HOk P w H h)(e:h.objs.size<=a):H a=none:=by
 cases q:H a with
 | none=>rfl
 | some u=>exact absurd (Nat.lt_of_lt_of_le (x.lt q) e) (Nat.lt_irrefl _)
theorem HOk.kept(x:HOk P w H h)(k:∀ b u,h.get? b=some u->h'.get? b=some u):HOk P w H h':=fun a o e=>
 (x a o e).stay (fun b u _ q=>k b u q) (fun _ q=>q) fun _ _ q=>q
theorem HOk.laid(x:HOk P w H h)(k:∀ b u,h.get? b=some u->h'.get? b=some u)(hp:h.objs.size<=a)(new:ObjOk P w (upd H a o) h' a o):HOk P w (upd H a o) h':=fun b u e=>by
 have hn:=x.fresh hp
 by_cases hb:b=a
 ·subst hb;rw[QS]at e;cases e;exact new
 ·rw[Qk hb]at e
  exact(x b u e).stay (fun c v _ q=>k c v q) (fun c q=>by rw[Qk (QZ q hn)];exact q) fun c xs q=>by rw[Qk (QZ q hn)];exact q
end
def Rd(H:Hp)(a:Addr)(u:HO):Prop:=H a=some u∨∃ o,H a=some (.frz o u)
theorem Rd.of{H:Hp}{a:Addr}{u:HO}(h:H a=some u):Rd H a u:=.inl h
theorem Rd.ok{P:Program}{w:World}{H:Hp}{h:Heap}{a:Addr}{u:HO}(r:Rd H a u)(x:HOk P w H h):ObjOk P w H h a u:=by
 rcases r with r | ⟨o,r⟩
 ·exact x a u r
 ·obtain⟨_,q⟩:=x a _ r
  exact q
def Mut:Option HO->Prop
 | some (.lst _)=>True
 | some (.dK _)=>True
 | some (.dT _)=>True
 | some (.set _ _)=>True
 | some (.ins _ _ _)=>True
 | some (.ext _)=>True
 | _=>False
section
variable{P:Program}{w:World}{H:Hp}{h h':Heap}{x e:Addr}{o':HO}
theorem HOk.write(ok:HOk P w H h)(mu:Mut (H x))(he:e=x∨H e=some (.own x))(k:∀ b u,b≠e->h.get? b=some u->h'.get? b=some u)(heo:∃ u,h'.get? e=some u)
 (new:ObjOk P w (upd H x o') h' x o'):HOk P w (upd H x o') h':=fun b u q=>by
 have nown:∀ c y,H c=some (.own y)->c≠x:=fun c y r z=>by subst z;rw[r]at mu;exact mu
 have ntup:∀ c xs,H c=some (.tup xs)->c≠x:=fun c xs r z=>by subst z;rw[r]at mu;exact mu
 by_cases hb:b=x
 ·subst hb;rw[QS]at q;cases q;exact new
 ·rw[Qk hb]at q
  by_cases hbe:b=e
  ·have q':H b=some (.own x):=by
    rcases he with z | z
    ·exact absurd (hbe.trans z) hb
    ·rw[hbe];exact z
   rw[q]at q';cases q'
   obtain⟨v,hv⟩:=heo
   exact⟨v,by rw[hbe];exact hv⟩
  ·refine(ok b u q).stay (fun c v hc r=>k c v ?_ r) (fun c r=>by rw[Qk (nown c b r)];exact r) fun c xs r=>by rw[Qk (ntup c xs r)];exact r
   rcases hc with rfl | hc
   ·exact hbe
   ·rintro rfl
    rcases he with z | z
    ·exact nown c b hc z
    ·rw[hc]at z;cases z;exact hb rfl
end
structure Un(fs ex:List Addr)(H H':Hp)(h h':Heap):Prop where
 keep:∀ b o,h.get? b=some o->H b=none->b∉fs->b∉ex->h'.get? b=some o
 slot:∀ b o,h.get? b=some o->H b=none->b∈fs->b∉ex->∃ sl,h'.get? b=some { o with slots:=sl }
 free:∀ b o,h.get? b=some o->H b=none->b∉ex->H' b=none
 there:∀ b o,h.get? b=some o->b∉ex->∃ o',h'.get? b=some o'
 tups:∀ b xs,H b=some (.tup xs)->H' b=some (.tup xs)
 frzs:∀ b o u,H b=some (.frz o u)->H' b=some (.frz o u)
 tbls:∀ b ps,H b=some (.tbl ps)->∃ more,H' b=some (.tbl (ps++more))
section
variable{fs fs' ex ex':List Addr}{H H1 H2:Hp}{h h1 h2 h':Heap}{a x e:Addr}{o:HO}
theorem Un.any(u:Un fs ex H H1 h h1){b:Addr}{ob:Obj}(q:h.get? b=some ob)(n:H b=none)(hx:b∉ex):∃ sl,h1.get? b=some { ob with slots:=sl }:=by
 by_cases hb:b∈fs
 ·exact u.slot b ob q n hb hx
 ·exact⟨ob.slots,u.keep b ob q n hb hx⟩
theorem Un.trans(a:Un fs ex H H1 h h1)(b:Un fs ex H1 H2 h1 h2):Un fs ex H H2 h h2 where
 keep:=fun c ob q n hc hx=>b.keep c ob (a.keep c ob q n hc hx) (a.free c ob q n hx) hc hx
 slot:=fun c ob q n hc hx=>by
  obtain⟨sl,e1⟩:=a.slot c ob q n hc hx
  obtain⟨sl',e2⟩:=b.slot c _ e1 (a.free c ob q n hx) hc hx
  exact⟨sl',e2⟩
 free:=fun c ob q n hx=>by
  obtain⟨o',e1⟩:=a.there c ob q hx
  exact b.free c o' e1 (a.free c ob q n hx) hx
 there:=fun c ob q hx=>by
  obtain⟨o',e1⟩:=a.there c ob q hx
  exact b.there c o' e1 hx
 tups:=fun c xs q=>b.tups c xs (a.tups c xs q)
 frzs:=fun c ob xs q=>b.frzs c ob xs (a.frzs c ob xs q)
 tbls:=fun c ps q=>by
  obtain⟨m1,e1⟩:=a.tbls c ps q
  obtain⟨m2,e2⟩:=b.tbls c _ e1
  exact⟨m1++m2,by rw[e2,Array.append_assoc]⟩
theorem Un.kept(k:∀ b u,h.get? b=some u->h'.get? b=some u):Un fs ex H H h h':=
 ⟨fun b ob q _ _ _=>k b ob q,fun b ob q _ _ _=>⟨ob.slots,k b ob q⟩,fun _ _ _ n _=>n,fun b ob q _=>⟨ob,k b ob q⟩,fun _ _ q=>q,fun _ _ _ q=>q,fun _ ps q=>⟨#[],by rw[q];simp⟩⟩
theorem Un.refl:Un fs ex H H h h:=Un.kept fun _ _ q=>q
theorem Un.laid(k:∀ b u,h.get? b=some u->h'.get? b=some u)(hp:h.objs.size<=a)(hn:H a=none):Un fs ex H (upd H a o) h h' where
 keep:=fun b u q _ _ _=>k b u q
 slot:=fun b u q _ _ _=>⟨u.slots,k b u q⟩
 free:=fun b u q n _=>by rw[Qk (Nat.ne_of_lt (Nat.lt_of_lt_of_le (Heap.lt_size q) hp))];exact n
 there:=fun b u q _=>⟨u,k b u q⟩
 tups:=fun b xs q=>by rw[Qk (QZ q hn)];exact q
 frzs:=fun b u xs q=>by rw[Qk (QZ q hn)];exact q
 tbls:=fun b ps q=>⟨#[],by rw[Qk (QZ q hn),q];simp⟩
theorem Un.write(mu:Mut (H x))(he:e=x∨H e=some (.own x))(k:∀ b u,b≠e->h.get? b=some u->h'.get? b=some u)(heo:∃ u,h'.get? e=some u):Un fs ex H (upd H x o) h h':=by
 have hx:∀ b,H b=none->b≠x:=fun b n z=>by subst z;rw[n]at mu;exact mu
 have hb:∀ b,H b=none->b≠e:=fun b n z=>by
  subst z
  rcases he with r | r
  ·exact hx b n r
  ·rw[n]at r;cases r
 have hm:∀ b u,H b=some u->¬ Mut (some u)->b≠x:=fun b u q nm z=>by subst z;rw[q]at mu;exact nm mu
 refine⟨fun b u q n _ _=>k b u (hb b n) q,fun b u q n _ _=>⟨u.slots,k b u (hb b n) q⟩,fun b u q n _=>by rw[Qk (hx b n)];exact n,fun b u q _=>?_,
  fun b xs q=>by rw[Qk (hm b _ q fun z=>z)];exact q,fun b u xs q=>by rw[Qk (hm b _ q fun z=>z)];exact q,fun b ps q=>⟨#[],by rw[Qk (hm b _ q fun z=>z),q];simp⟩⟩
 by_cases hbe:b=e
 ·subst hbe;exact heo
 ·exact⟨u,k b u hbe q⟩
end
def trk(h:Heap)(H:Hp):List Addr:=(List.range h.objs.size).filter fun a=>(H a).isSome
def hidT(h:Heap)(H:Hp):Heap:=PySem.W.hideAll h (trk h H)
theorem QM4(h:Heap)(H:Hp):(hidT h H).objs.size=h.objs.size:=PySem.W.hideAll_size _ _
theorem QOG{h:Heap}{H:Hp}{b:Addr}{o:Obj}(e:h.get? b=some o)(n:H b=none):(hidT h H).get? b=some o:=
 PySem.W.hideAll_get _ e fun hm=>by
  have q:(H b).isSome=true:=(List.mem_filter.mp hm).2
  rw[n]at q;simp at q
theorem QPf{h:Heap}{H:Hp}{b:Addr}{o:Obj}(e:(hidT h H).get? b=some o):h.get? b=some o/\H b=none:=by
 have e':h.get? b=some o:=PySem.W.of_hideAll (trk h H) e
 refine⟨e',?_⟩
 cases q:H b with
 | none=>rfl
 | some x=>
  have hm:b∈trk h H:=List.mem_filter.mpr ⟨List.mem_range.mpr (Heap.lt_size e'),by simp[q]⟩
  have z:(hidT h H).get? b=none:=PySem.W.hideAll_none (trk h H) hm
  rw[z]at e;cases e
def QQm(g h:Heap)(L:Addr):List (Addr×Obj):=(List.range h.objs.size).filterMap fun a=>if a=L∨(g.get? a).isSome=true then none else(h.get? a).map fun o=>(a,o)
def rest(g h:Heap)(L d:Addr):List (Addr×Obj):=(QQm g h L).filter fun p=>decide (p.1≠d)
end L2
namespace L2
open PySem PySem.Spec PyProof.Rows
structure Mod(K:PySem.W.Frag)(mg:Str->Option Value)(base:Heap):Prop where
 kin:K.In base
 glob:base.Ns mainGlobals mg
 blt:∃ mb,base.Ns builtinsNs mb/\∀ x:Str,x≠"__name__"->mb x=bootBuiltins x
 nolimit:base.NoLimit
structure Cx where
 prog:Program
 w:World
 K:PySem.W.Frag
 mg:Str->Option Value
 base:Heap
 A:Around
 N:List Str
 s₀:Shared
 H₀:Hp
 env:Env
 outer:List Env
 stack:List Env
 ex:List Addr
 fn:Str->Bool
 calm:Bool
 pn:List (Addr×Obj)
 xe:Value->Shared->Prop
def frs(l:List Env):List Addr:=l.filterMap (·.frame)
abbrev Cx.fs(X:Cx):List Addr:=frs X.outer
def Vis(sc:Scope)(x:Str):Prop:=sc.names.lookup x=some .local∨sc.names.lookup x=some .cell∨sc.names.lookup x=some .free
def Loc(sc:Scope)(x:Str):Prop:=sc.names.lookup x=some .local∨sc.names.lookup x=some .cell
def Look(env:Env)(h:Heap)(m:Str->Option Value)(x:Str)(u:Value):Prop:=
 (env.kindOf x=some .local/\m x=some u)∨((env.kindOf x=some .cell∨env.kindOf x=some .free)/\∃ c,env.cells.lookup x=some c/\h.IsCell c (some u))
structure Cx.Ok(X:Cx):Prop where
 mod:Mod X.K X.mg X.base
 kind:X.env.scope.kind=.function
 glob:X.env.globals=mainGlobals
 blt:X.env.builtins=builtinsNs
 above:X.s₀.heap.objs.size<=X.env.locals
 inj:∀ x y c,X.env.cells.lookup x=some c->X.env.cells.lookup y=some c->x=y
 has:∀ x,(X.env.kindOf x=some .cell∨X.env.kindOf x=some .free)->∃ c,X.env.cells.lookup x=some c
 cab:∀ x c,X.fn x=true->X.env.cells.lookup x=some c->X.s₀.heap.objs.size<=c
 hd:X.calm=true->X.A.handled=none
 frames:X.A.frames=some X.stack
 stk:X.stack=X.outer∨(X.stack=X.env::X.outer/\X.env.frame=some X.env.locals)
 exf:∀ b∈X.ex,b≠X.env.locals/\∀ x c,X.env.cells.lookup x=some c->c≠b
 bs:∀ b o,X.base.get? b=some o->X.s₀.heap.get? b=some o/\X.H₀ b=none
 bsz:X.base.objs.size<=X.s₀.heap.objs.size
 noex:∀ b o,X.base.get? b=some o->b∉X.ex
 exfs:∀ b∈X.ex,b∉X.fs
 funs:X.s₀.heap.FunFrames X.base X.outer
 frf:∀ b∈X.fs,X.H₀ b=none
structure Inv(X:Cx)(pins:List (Addr×Obj))(σ:List (Option V))(H:Hp)(s:Shared):Prop where
 ok:X.Ok
 os:s.os=X.s₀.os
 bare:AllBare s.gens
 base:Un X.fs X.ex X.H₀ H X.s₀.heap s.heap
 loc:∃ m,s.heap.Ns X.env.locals m/\∀(i:Nat)(x:Str)(v:V),X.N[i]?=some x->σ[i]?=some (some v)->Vis X.env.scope x->∃ u,RelV v u/\Look X.env s.heap m x u
 cell:∀ x c,X.env.cells.lookup x=some c->∃ v,s.heap.IsCell c v
 free:H X.env.locals=none
 freeC:∀ x c,X.env.cells.lookup x=some c->H c=none
 pin:∀ p∈X.pn++pins,s.heap.get? p.1=some p.2/\H p.1=none/\p.1≠X.env.locals/\p.1∉X.fs/\∀ v,p.2.data≠.cell v
 hok:HOk X.prog X.w H s.heap
 len:σ.length=X.N.length
section
variable{X:Cx}{pins:List (Addr×Obj)}{σ:List (Option V)}{H H':Hp}{s:Shared}{h':Heap}
theorem Cx.Ok.nofr(ok:X.Ok){b:Addr}{o:Obj}(e:X.base.get? b=some o):b∉X.fs:=fun hb=>by
 have:=(ok.funs.mem hb).1
 rw[e]at this;cases this
theorem Inv.bs(I:Inv X pins σ H s):∀ b o,X.base.get? b=some o->s.heap.get? b=some o/\H b=none:=fun b o e=>
 ⟨I.base.keep b o (I.ok.bs b o e).1 (I.ok.bs b o e).2 (I.ok.nofr e) (I.ok.noex b o e),I.base.free b o (I.ok.bs b o e).1 (I.ok.bs b o e).2 (I.ok.noex b o e)⟩
theorem Inv.bk(I:Inv X pins σ H s):∀ b o,X.base.get? b=some o->s.heap.get? b=some o:=fun b o e=>(I.bs b o e).1
theorem Inv.mod(I:Inv X pins σ H s):Mod X.K X.mg X.base:=I.ok.mod
theorem Inv.kIn(I:Inv X pins σ H s):X.K.In s.heap:=I.ok.mod.kin.keeps I.bk
theorem Inv.fr(I:Inv X pins σ H s):∃ m,Fr X.base X.env.locals s.heap m:=
 let ⟨m,hn,_⟩:=I.loc
 ⟨m,hn,I.bk,Nat.le_trans I.ok.bsz I.ok.above⟩
theorem Inv.lt(I:Inv X pins σ H s):X.env.locals<s.heap.objs.size:=let ⟨_,hn,_⟩:=I.loc;hn.lt
theorem Inv.sz(I:Inv X pins σ H s):X.s₀.heap.objs.size<=s.heap.objs.size:=Nat.le_trans I.ok.above (Nat.le_of_lt I.lt)
theorem Inv.nofs(I:Inv X pins σ H s){a:Addr}(h:s.heap.objs.size<=a):a∉X.fs:=fun hb=>by
 obtain⟨_,o,ho,_⟩:=I.ok.funs.mem hb
 exact absurd (Nat.lt_of_lt_of_le (Heap.lt_size ho) (Nat.le_trans I.sz h)) (Nat.lt_irrefl _)
theorem Inv.cne(I:Inv X pins σ H s):∀ x c,X.env.cells.lookup x=some c->c≠X.env.locals:=fun x c e z=>by
 obtain⟨v,o,ho,hd⟩:=I.cell x c e
 obtain⟨m,⟨o',es,ep,ho',hd',_⟩,_⟩:=I.loc
 rw[z,ho']at ho;cases ho;rw[hd']at hd;cases hd
theorem Inv.funs(I:Inv X pins σ H s):s.heap.FunFrames X.base X.outer:=by
 have all:∀(l:List Env),(∀ b∈frs l,b∈X.fs)->X.s₀.heap.FunFrames X.base l->s.heap.FunFrames X.base l:=by
  intro l
  induction l with
  | nil=>intro _ _;trivial
  | cons env r ih=>
   intro hs hl
   obtain⟨hk,⟨L,o,hf,hn,ho,hd⟩,hr⟩:=hl
   have hL:L∈X.fs:=hs L (by unfold frs;rw[List.filterMap_cons,hf];exact List.mem_cons_self)
   obtain⟨sl,e⟩:=I.base.slot L o ho (I.ok.frf L hL) hL fun z=>I.ok.exfs L z hL
   exact⟨hk,⟨L,_,hf,hn,e,hd⟩,ih (fun b hb=>hs b (by unfold frs;rw[List.filterMap_cons,hf];exact List.mem_cons_of_mem _ hb)) hr⟩
 exact all X.outer (fun _ hb=>hb) I.ok.funs
theorem Inv.stack(I:Inv X pins σ H s):s.heap.FunFrames X.base X.stack:=by
 rcases I.ok.stk with e | ⟨e,hf⟩
 ·rw[e];exact I.funs
 ·rw[e]
  obtain⟨m,hn,_⟩:=I.loc
  refine .cons (by rw[I.ok.kind];decide) hf hn ?_ I.funs
  exact Heap.get?_none_of_le (Nat.le_trans I.ok.bsz I.ok.above)
theorem Inv.stkSub(I:Inv X pins σ H s):∀ b∈frs X.stack,b∈X.env.locals::X.fs:=fun b hb=>by
 rcases I.ok.stk with e | ⟨e,hf⟩
 ·rw[e]at hb;exact List.mem_cons_of_mem _ hb
 ·rw[e]at hb
  unfold frs at hb
  rw[List.filterMap_cons,hf]at hb
  exact hb
theorem Inv.stkFree(I:Inv X pins σ H s):∀ b∈frs X.stack,H b=none:=fun b hb=>by
 rcases List.mem_cons.mp (I.stkSub b hb) with e | hb
 ·rw[e];exact I.free
 ·obtain⟨_,o,ho,_⟩:=I.ok.funs.mem hb
  exact I.base.free b o ho (I.ok.frf b hb) fun z=>I.ok.exfs b z hb
theorem Inv.step{g':Array GenState}{t':Nat}{d':Drawn}{ch:List Addr}(I:Inv X pins σ H s)
 (hch:∀ b∈ch,(b∈X.ex∨X.s₀.heap.objs.size<=b)/\b≠X.env.locals/\(∀ x c,X.env.cells.lookup x=some c->c≠b)/\∀ p∈X.pn++pins,p.1≠b)
 (keep:∀ b o,b≠X.env.locals->b∉X.fs->b∉ch->s.heap.get? b=some o->H b=none->h'.get? b=some o)
 (slot:∀ b o,b≠X.env.locals->b∈X.fs->b∉ch->s.heap.get? b=some o->H b=none->∃ sl,h'.get? b=some { o with slots:=sl }) (free:∀ b o,b∉ch->s.heap.get? b=some o->H b=none->H' b=none)
 (there:∀ b o,b∉ch->s.heap.get? b=some o->∃ o',h'.get? b=some o')
 (tups:∀ b xs,H b=some (.tup xs)->H' b=some (.tup xs)) (frzs:∀ b o u,H b=some (.frz o u)->H' b=some (.frz o u)) (tbls:∀ b ps,H b=some (.tbl ps)->∃ more,H' b=some (.tbl (ps++more)))
 (ns:∀ m,s.heap.Ns X.env.locals m->h'.Ns X.env.locals m) (hok:HOk X.prog X.w H' h') (hg:AllBare g'):
 Inv X pins σ H' { s with heap:=h',gens:=g',drawn:=d',toks:=t' }:=by
 have neL:∀ b o,X.s₀.heap.get? b=some o->b≠X.env.locals:=fun b o e=>Nat.ne_of_lt (Nat.lt_of_lt_of_le (Heap.lt_size e) I.ok.above)
 have neC:∀ b o,X.s₀.heap.get? b=some o->b∉X.ex->b∉ch:=fun b o e hx hb=>by
  rcases(hch b hb).1 with z | z
  ·exact hx z
  ·exact absurd (Nat.lt_of_lt_of_le (Heap.lt_size e) z) (Nat.lt_irrefl _)
 have cellK:∀ x c,X.env.cells.lookup x=some c->∀ v,s.heap.IsCell c v->h'.IsCell c v:=fun x c e v ⟨o,ho,hd⟩=>by
  have nch:c∉ch:=fun z=>(hch c z).2.2.1 x c e rfl
  by_cases hc:c∈X.fs
  ·obtain⟨sl,q⟩:=slot c o (I.cne x c e) hc nch ho (I.freeC x c e)
   exact⟨_,q,hd⟩
  ·exact⟨o,keep c o (I.cne x c e) hc nch ho (I.freeC x c e),hd⟩
 refine⟨I.ok,I.os,hg,⟨fun b o e n hb hx=>?_,fun b o e n hb hx=>?_,fun b o e n hx=>?_,fun b o e hx=>?_,fun b xs e=>tups b xs (I.base.tups b xs e),fun b o xs e=>frzs b o xs (I.base.frzs b o xs e),fun b ps e=>?_⟩,?_,fun x c e=>?_,?_,fun x c e=>?_,fun p hp=>?_,hok,I.len⟩
 ·exact keep b o (neL b o e) hb (neC b o e hx) (I.base.keep b o e n hb hx) (I.base.free b o e n hx)
 ·obtain⟨sl,e1⟩:=I.base.slot b o e n hb hx
  obtain⟨sl',e2⟩:=slot b _ (neL b o e) hb (neC b o e hx) e1 (I.base.free b o e n hx)
  exact⟨sl',e2⟩
 ·obtain⟨o',e1⟩:=I.base.there b o e hx
  exact free b o' (neC b o e hx) e1 (I.base.free b o e n hx)
 ·obtain⟨o',e1⟩:=I.base.there b o e hx
  exact there b o' (neC b o e hx) e1
 ·obtain⟨m1,e1⟩:=I.base.tbls b ps e
  obtain⟨m2,e2⟩:=tbls b _ e1
  exact⟨m1++m2,by rw[e2,Array.append_assoc]⟩
 ·obtain⟨m,hn,hl⟩:=I.loc
  refine⟨m,ns m hn,fun i x v e1 e2 e3=>?_⟩
  obtain⟨u,r,l⟩:=hl i x v e1 e2 e3
  refine⟨u,r,?_⟩
  rcases l with l | ⟨k,c,e,z⟩
  ·exact .inl l
  ·exact .inr ⟨k,c,e,cellK x c e _ z⟩
 ·obtain⟨v,z⟩:=I.cell x c e
  exact⟨v,cellK x c e v z⟩
 ·obtain⟨m,⟨o,_,_,ho,_⟩,_⟩:=I.loc
  exact free _ o (fun z=>(hch _ z).2.1 rfl) ho I.free
 ·obtain⟨v,o,ho,hd⟩:=I.cell x c e
  exact free c o (fun z=>(hch c z).2.2.1 x c e rfl) ho (I.freeC x c e)
 ·obtain⟨e,n,ne,nf,d⟩:=I.pin p hp
  have nch:p.1∉ch:=fun z=>(hch p.1 z).2.2.2 p hp rfl
  exact⟨keep p.1 p.2 ne nf nch e n,free p.1 p.2 nch e n,ne,nf,d⟩
theorem Inv.un{t':Nat}(I:Inv X pins σ H s)(u:Un X.fs [] H H' s.heap h')(hok:HOk X.prog X.w H' h'):Inv X pins σ H' { s with heap:=h',toks:=t' }:=by
 obtain⟨m,⟨o,es,ep,ho,r⟩,_⟩:=id I.loc
 obtain⟨sl,hL⟩:=u.any ho I.free (by simp)
 exact I.step (g':=s.gens) (d':=s.drawn) (ch:=[]) (fun _ z=>nomatch z) (fun b o _ hb _ e n=>u.keep b o e n hb (by simp)) (fun b o _ hb _ e n=>u.slot b o e n hb (by simp)) (fun b o _ e n=>u.free b o e n (by simp)) (fun b o _ e=>u.there b o e (by simp)) u.tups u.frzs u.tbls (fun m' hm=>by
  obtain⟨o',es',ep',ho',r'⟩:=hm
  rw[ho]at ho';cases ho'
  exact⟨_,es',ep',hL,r'⟩) hok I.bare
theorem Inv.call{g':Array GenState}{t':Nat}{d':Drawn}{ch:List Addr}(I:Inv X pins σ H s)(u:Un (frs X.stack) ch H H' s.heap h')(hok:HOk X.prog X.w H' h')(hg:AllBare g')
 (hch:∀ b∈ch,(b∈X.ex∨X.s₀.heap.objs.size<=b)/\b≠X.env.locals/\(∀ x c,X.env.cells.lookup x=some c->c≠b)/\∀ p∈X.pn++pins,p.1≠b):
 Inv X pins σ H' { s with heap:=h',gens:=g',drawn:=d',toks:=t' }:=by
 obtain⟨m,⟨o,es,ep,ho,r⟩,_⟩:=id I.loc
 obtain⟨sl,hL⟩:=u.any ho I.free fun z=>(hch _ z).2.1 rfl
 exact I.step (ch:=ch) hch (fun b o hL hb hc e n=>u.keep b o e n (fun z=>(List.mem_cons.mp (I.stkSub b z)).elim hL hb) hc) (fun b o _ _ hc e n=>u.any e n hc) (fun b o hc e n=>u.free b o e n hc) (fun b o hc e=>u.there b o e hc) u.tups u.frzs u.tbls (fun m' hm=>by
  obtain⟨o',es',ep',ho',r'⟩:=hm
  rw[ho]at ho';cases ho'
  exact⟨_,es',ep',hL,r'⟩) hok hg
theorem Inv.turned{t':Nat}{it:Addr}(I:Inv X pins σ H s)(k:∀ b o,b≠it->s.heap.get? b=some o->h'.get? b=some o)(hn:H it=none)(hL:it≠X.env.locals)
 (h1:it∈X.ex∨X.s₀.heap.objs.size<=it) (h2:∀ x c,X.env.cells.lookup x=some c->c≠it) (h3:∀ p∈X.pn++pins,p.1≠it):Inv X pins σ H { s with heap:=h',toks:=t' }:=by
 have nit:∀ b u,H b=some u->b≠it:=fun b u e z=>by rw[z,hn]at e;cases e
 refine I.step (g':=s.gens) (d':=s.drawn) (ch:=[it]) (fun b hb=>?_) (fun b o _ _ hc e _=>k b o (fun z=>hc (by simp[z])) e) (fun b o _ _ hc e _=>⟨o.slots,k b o (fun z=>hc (by simp[z])) e⟩) (fun _ _ _ _ n=>n)
  (fun b o hc e=>⟨o,k b o (fun z=>hc (by simp[z])) e⟩) (fun _ _ e=>e) (fun _ _ _ e=>e) (fun b ps e=>⟨#[],by rw[e];simp⟩) (fun m hm=>?_) (fun b u e=>?_) I.bare
 ·have e:b=it:=by simpa using hb
  subst e
  exact⟨h1,hL,h2,h3⟩
 ·obtain⟨o,es,ep,ho,r⟩:=hm
  exact⟨o,es,ep,k _ o (Ne.symm hL) ho,r⟩
 ·refine(I.hok b u e).stay (fun c v hc q=>k c v ?_ q) (fun _ q=>q) fun _ _ q=>q
  rcases hc with z | z
  ·rw[z];exact nit b u e
  ·exact nit c _ z
theorem Inv.tok(I:Inv X pins σ H s)(t:Nat):Inv X pins σ H { s with toks:=t }:=I.un (h':=s.heap) (t':=t) Un.refl I.hok
theorem Inv.kept{t':Nat}(I:Inv X pins σ H s)(k:∀ b u,s.heap.get? b=some u->h'.get? b=some u):Inv X pins σ H { s with heap:=h',toks:=t' }:=I.un (Un.kept k) (I.hok.kept k)
theorem Inv.laid{a:Addr}{o:HO}{t':Nat}(I:Inv X pins σ H s)(k:∀ b u,s.heap.get? b=some u->h'.get? b=some u)(hp:s.heap.objs.size<=a)(new:ObjOk X.prog X.w (upd H a o) h' a o):
 Inv X pins σ (upd H a o) { s with heap:=h',toks:=t' }:=I.un (Un.laid k hp (I.hok.fresh hp)) (I.hok.laid k hp new)
theorem Inv.write{x e:Addr}{o:HO}{t':Nat}(I:Inv X pins σ H s)(mu:Mut (H x))(he:e=x∨H e=some (.own x))(k:∀ b u,b≠e->s.heap.get? b=some u->h'.get? b=some u)(heo:∃ u,h'.get? e=some u)
 (new:ObjOk X.prog X.w (upd H x o) h' x o):Inv X pins σ (upd H x o) { s with heap:=h',toks:=t' }:=I.un (Un.write mu he k heo) (I.hok.write mu he k heo new)
theorem Inv.pins_of{pins':List (Addr×Obj)}(I:Inv X pins σ H s)(h:∀ p∈pins',s.heap.get? p.1=some p.2/\H p.1=none/\p.1≠X.env.locals/\p.1∉X.fs/\∀ v,p.2.data≠.cell v):Inv X pins' σ H s:=
 ⟨I.ok,I.os,I.bare,I.base,I.loc,I.cell,I.free,I.freeC,fun p hp=>(List.mem_append.mp hp).elim (fun z=>I.pin p (List.mem_append_left _ z)) (h p),I.hok,I.len⟩
theorem QDy{N:List Str}(hN:N.Nodup){i j:Nat}{x:Str}(a:N[i]?=some x)(b:N[j]?=some x):i=j:=by
 obtain⟨h1,e1⟩:=List.getElem?_eq_some_iff.mp a
 obtain⟨h2,e2⟩:=List.getElem?_eq_some_iff.mp b
 exact(List.getElem_inj hN).mp (e1.trans e2.symm)
theorem QAV{M:Model}{A:Around}{E:Value->Shared->Prop}{i:Nat}{x:Str}{v:V}{u:Value}{Q:Unit->Shared->Prop}(I:Inv X pins σ H s)(hN:X.N.Nodup)(hi:X.N[i]?=some x)(hx:Loc X.env.scope x)(r:RelV v u)
 (h:∀ s',Inv X pins (σ.set i (some v)) H s'->(∃ a,Heap.SameBut a s.heap s'.heap/\(a=X.env.locals∨X.env.cells.lookup x=some a))->Q () s') (hf:X.fn x=true∨X.env.scope.names.lookup x=some .local:=by first | exact .inl rfl | exact .inr rfl | assumption):wpAny M A (storeName X.env x u) Q E s:=by
 obtain⟨m,hn,hl⟩:=id I.loc
 have hcls:(X.env.scope.kind == .class||(X.env.scope.kind == .module&&X.env.locals != X.env.globals))=false:=by rw[I.ok.kind];rfl
 have hiσ:i<σ.length:=by rw[I.len];exact(List.getElem?_eq_some_iff.mp hi).1
 have cne:=I.cne
 have tracked:∀{a:Addr}{h':Heap},(∃ o,s.heap.get? a=some o/\H a=none)->Heap.SameBut a s.heap h'->HOk X.prog X.w H h':=fun {a h'} ha hs b ob e=>by
  obtain⟨_,_,hfree⟩:=ha
  refine(I.hok b ob e).stay (fun c w' hc q=>(hs.2 c ?_).trans q) (fun _ q=>q) fun _ _ q=>q
  rintro rfl
  rcases hc with rfl | hc
  ·rw[hfree]at e;cases e
  ·rw[hfree]at hc;cases hc
 rcases hx with hk | hk
 ·refine wpAny_storeName_local hk hn (fun h' hn' hs=>?_) hcls
  obtain⟨oL,_,_,hoL,_⟩:=id hn
  refine h _ ⟨I.ok,I.os,I.bare,⟨fun b o e n hb hx=>?_,fun b o e n hb hx=>?_,I.base.free,fun b o e hx=>?_,I.base.tups,I.base.frzs,I.base.tbls⟩,⟨_,hn',fun j y v' e1 e2 e3=>?_⟩,fun y c e=>?_,I.free,I.freeC,fun p hp=>?_,tracked ⟨oL,hoL,I.free⟩ hs,by simpa using I.len⟩ ⟨_,hs,.inl rfl⟩
  ·exact(hs.2 b (Nat.ne_of_lt (Nat.lt_of_lt_of_le (Heap.lt_size e) I.ok.above))).trans (I.base.keep b o e n hb hx)
  ·obtain⟨sl,e1⟩:=I.base.slot b o e n hb hx
   exact⟨sl,(hs.2 b (Nat.ne_of_lt (Nat.lt_of_lt_of_le (Heap.lt_size e) I.ok.above))).trans e1⟩
  ·obtain⟨o',e1⟩:=I.base.there b o e hx
   exact⟨o',(hs.2 b (Nat.ne_of_lt (Nat.lt_of_lt_of_le (Heap.lt_size e) I.ok.above))).trans e1⟩
  ·by_cases hj:j=i
   ·subst hj
    rw[hi]at e1;cases e1
    rw[List.getElem?_set_self hiσ]at e2
    cases e2
    exact⟨u,r,.inl ⟨hk,by simp⟩⟩
   ·rw[List.getElem?_set_ne (Ne.symm hj)]at e2
    obtain⟨u',r',q⟩:=hl j y v' e1 e2 e3
    refine⟨u',r',?_⟩
    rcases q with⟨k,e⟩ | ⟨k,c,e,z⟩
    ·refine .inl ⟨k,?_⟩
     have:y≠x:=fun e=>hj (QDy hN e1 (e ▸ hi))
     simp[this,e]
    ·exact .inr ⟨k,c,e,z.sameBut hs (cne y c e)⟩
  ·obtain⟨w',z⟩:=I.cell y c e
   exact⟨w',z.sameBut hs (cne y c e)⟩
  ·obtain⟨e,n,ne,nf,d⟩:=I.pin p hp
   exact⟨(hs.2 p.1 ne).trans e,n,ne,nf,d⟩
 ·have hfn:X.fn x=true:=by
   rcases hf with z | z
   ·exact z
   ·rw[z]at hk;cases hk
  obtain⟨c,hc⟩:=I.ok.has x (.inl hk)
  obtain⟨w',z⟩:=I.cell x c hc
  refine wpAny_storeName_cell I.ok.kind hk hc z (fun h' hc' hs=>?_)
  obtain⟨oc,hoc,hocd⟩:=id z
  refine h { s with heap:=h' } ⟨I.ok,I.os,I.bare,⟨fun b o e n hb hx=>?_,fun b o e n hb hx=>?_,I.base.free,fun b o e hx=>?_,I.base.tups,I.base.frzs,I.base.tbls⟩,⟨m,hn.sameBut hs (Ne.symm (cne x c hc)),fun j y v' e1 e2 e3=>?_⟩,fun y c' e=>?_,I.free,I.freeC,fun p hp=>?_,tracked ⟨oc,hoc,I.freeC x c hc⟩ hs,by simpa using I.len⟩ ⟨c,hs,.inr hc⟩
  ·exact(hs.2 b (Nat.ne_of_lt (Nat.lt_of_lt_of_le (Heap.lt_size e) (I.ok.cab x c hfn hc)))).trans (I.base.keep b o e n hb hx)
  ·obtain⟨sl,e1⟩:=I.base.slot b o e n hb hx
   exact⟨sl,(hs.2 b (Nat.ne_of_lt (Nat.lt_of_lt_of_le (Heap.lt_size e) (I.ok.cab x c hfn hc)))).trans e1⟩
  ·obtain⟨o',e1⟩:=I.base.there b o e hx
   exact⟨o',(hs.2 b (Nat.ne_of_lt (Nat.lt_of_lt_of_le (Heap.lt_size e) (I.ok.cab x c hfn hc)))).trans e1⟩
  ·by_cases hj:j=i
   ·subst hj
    rw[hi]at e1;cases e1
    rw[List.getElem?_set_self hiσ]at e2
    cases e2
    exact⟨u,r,.inr ⟨.inl hk,c,hc,hc'⟩⟩
   ·rw[List.getElem?_set_ne (Ne.symm hj)]at e2
    obtain⟨u',r',q⟩:=hl j y v' e1 e2 e3
    refine⟨u',r',?_⟩
    rcases q with q | ⟨k,c',e,z'⟩
    ·exact .inl q
    ·refine .inr ⟨k,c',e,z'.sameBut hs ?_⟩
     rintro rfl
     exact hj (QDy hN e1 (I.ok.inj _ _ _ e hc ▸ hi))
  ·by_cases hcc:c'=c
   ·subst hcc;exact⟨_,hc'⟩
   ·obtain⟨w2,z2⟩:=I.cell y c' e
    exact⟨w2,z2.sameBut hs hcc⟩
  ·obtain⟨e,n,ne,nf,d⟩:=I.pin p hp
   refine⟨(hs.2 p.1 ?_).trans e,n,ne,nf,d⟩
   intro q
   rw[q,hoc]at e
   have q':oc=p.2:=Option.some.inj e
   exact d w' (by rw[← q'];exact hocd)
theorem Qqy{M:Model}{A:Around}{E:Value->Shared->Prop}{i:Nat}{x:Str}{v:V}{u:Value}{Q:Unit->Shared->Prop}(I:Inv X pins σ H s)(hN:X.N.Nodup)(hi:X.N[i]?=some x)(hx:Loc X.env.scope x)(r:RelV v u)
 (h:∀ s',Inv X pins (σ.set i (some v)) H s'->Q () s') (hf:X.fn x=true∨X.env.scope.names.lookup x=some .local:=by first | exact .inl rfl | exact .inr rfl | assumption):wpAny M A (storeName X.env x u) Q E s:=
 QAV I hN hi hx r (fun s' I' _=>h s' I') hf
theorem Inv.call'{s':Shared}{ch:List Addr}(I:Inv X pins σ H s)(ho:s'.os=s.os)(u:Un (frs X.stack) ch H H' s.heap s'.heap)(hok:HOk X.prog X.w H' s'.heap)(hg:AllBare s'.gens)
 (hch:∀ b∈ch,(b∈X.ex∨X.s₀.heap.objs.size<=b)/\b≠X.env.locals/\(∀ x c,X.env.cells.lookup x=some c->c≠b)/\∀ p∈X.pn++pins,p.1≠b):Inv X pins σ H' s':=by
 obtain⟨h',g',d',t',o'⟩:=s'
 have e:o'=s.os:=ho
 subst e
 exact I.call (g':=g') (t':=t') (d':=d') u hok hg hch
end
abbrev XK:=Value->Option Addr->Hp->Prop
abbrev St:=List (Option V)
abbrev VK:=V->Hp->Prop
abbrev TE:=St->Hp->VK->Prop
abbrev TT:=St->Hp->(Bool->Hp->Prop)->Prop
abbrev TA:=St->Hp->(List V->Hp->Prop)->Prop
structure Ends where
 nx:St->Hp->Prop
 rt:VK
 bk:St->Hp->Prop:=fun _ _=>False
 ct:St->Hp->Prop:=fun _ _=>False
abbrev TS:=Ends->St->Hp->Prop
def EP(X:Cx)(pins:List (Addr×Obj))(σ:St)(Q:VK)(u:Value)(s':Shared):Prop:=∃ v H',Inv X pins σ H' s'/\RelV v u/\Q v H'
def TP(X:Cx)(pins:List (Addr×Obj))(σ:St)(Q:Bool->Hp->Prop)(b:Bool)(s':Shared):Prop:=∃ H',Inv X pins σ H' s'/\Q b H'
def AP(X:Cx)(pins:List (Addr×Obj))(σ:St)(Q:List V->Hp->Prop)(us:List Value)(s':Shared):Prop:=∃ vs H',Inv X pins σ H' s'/\Vals vs us/\Q vs H'
def SP(X:Cx)(pins:List (Addr×Obj))(D:Ends)(f:Flow)(s':Shared):Prop:=
 match f with
 | .next=>∃ σ' H',Inv X pins σ' H' s'/\D.nx σ' H'
 | .brk=>∃ σ' H',Inv X pins σ' H' s'/\D.bk σ' H'
 | .cont=>∃ σ' H',Inv X pins σ' H' s'/\D.ct σ' H'
 | .ret u=>∃ v σ' H',Inv X pins σ' H' s'/\RelV v u/\D.rt v H'
def PE(X:Cx)(e:Expr)(t:TE):Prop:=
 ∀(pins:List (Addr×Obj))(s:Shared)(σ:St)(H:Hp)(Q:VK),Inv X pins σ H s->t σ H Q->wpAny (model X.prog X.w) X.A (eval e X.env) (EP X pins σ Q) X.xe s
def PT(X:Cx)(e:Expr)(t:TT):Prop:=
 ∀(pins:List (Addr×Obj))(s:Shared)(σ:St)(H:Hp)(Q:Bool->Hp->Prop),Inv X pins σ H s->t σ H Q->wpAny (model X.prog X.w) X.A (isTrue e X.env (eval e X.env)) (TP X pins σ Q) X.xe s
def PW(X:Cx)(e:Expr)(t:TT):Prop:=
 ∀(whole:Sem Value)(pins:List (Addr×Obj))(s:Shared)(σ:St)(H:Hp)(Q:Bool->Hp->Prop),Inv X pins σ H s->t σ H Q->wpAny (model X.prog X.w) X.A (isTrue e X.env whole) (TP X pins σ Q) X.xe s
theorem PW.pt{X:Cx}{e:Expr}{t:TT}(h:PW X e t):PT X e t:=h _
def PA(X:Cx)(es:List Expr)(t:TA):Prop:=
 ∀(pos:Pos)(pins:List (Addr×Obj))(s:Shared)(σ:St)(H:Hp)(Q:List V->Hp->Prop),Inv X pins σ H s->t σ H Q->wpAny (model X.prog X.w) X.A (spliced (backTo pos (starEach es X.env))) (AP X pins σ Q) X.xe s
def PS(X:Cx)(st:Stmt)(t:TS):Prop:=
 ∀(pins:List (Addr×Obj))(s:Shared)(σ:St)(H:Hp)(D:Ends),Inv X pins σ H s->t D σ H->wpAny (model X.prog X.w) X.A (exec st X.env) (SP X pins D) X.xe s
def PSs(X:Cx)(st:List Stmt)(t:TS):Prop:=
 ∀(pins:List (Addr×Obj))(s:Shared)(σ:St)(H:Hp)(D:Ends),Inv X pins σ H s->t D σ H->wpAny (model X.prog X.w) X.A (execs st X.env) (SP X pins D) X.xe s
theorem thn{α:Type}{t:Sem α}{Q Q':α->Shared->Prop}{M:Model}{A:Around}{E:Value->Shared->Prop}{s:Shared}(h:wpAny M A t Q E s)(hQ:∀ a s,Q a s->Q' a s):wpAny M A t Q' E s:=wpAny_mono h hQ fun _ _ x=>x
end L2
namespace L2
open PySem PySem.Spec PyProof.Rows
section
variable{X:Cx}
def tVar(i:Nat):TE:=fun σ H Q=>∃ v,σ[i]?=some (some v)/\Q v H
def tC(v:V):TE:=fun _ H Q=>Q v H
theorem Qm9{i:Nat}{x:Str}{pos:Pos}(hN:X.N[i]?=some x)(hv:Vis X.env.scope x)(hd:(x == ("__debug__":Str))=false:=by decide)(hcd:(x == ("__classdict__":Str))=false:=by decide):PE X (.Name x pos) (tVar i):=by
 intro pins s σ H Q I h
 obtain⟨v,e,h⟩:=h
 obtain⟨m,hn,hl⟩:=I.loc
 obtain⟨u,r,l⟩:=hl i x v hN e hv
 have fin:EP X pins σ Q u s:=⟨v,H,I,r,h⟩
 rcases l with⟨hk,hm⟩ | ⟨hk,c,hc,hcell⟩
 ·exact wpAny_Name (wpAny_loadName_local I.ok.kind hk hn hm fin) hd
 ·rcases hk with hk | hk
  ·exact wpAny_Name (wpAny_loadName_cell I.ok.kind hk hc hcell fin) hd
  ·exact wpAny_Name (wpAny_loadName_free I.ok.kind hk hc hcell fin hcd) hd
theorem QRJ{i j pos}:PE X (.Constant (.int i) j pos) (tC (.int i)):=fun _ _ _ H _ I h=>wpAny_Constant_int ⟨.int i,H,I.tok _,⟨_,rfl⟩,h⟩
theorem pe_bl{b j pos}:PE X (.Constant (.bool b) j pos) (tC (.bl b)):=fun _ _ _ H _ I h=>Constant_bool ⟨.bl b,H,I,rfl,h⟩
theorem QRM{j pos}:PE X (.Constant .none j pos) (tC .non):=fun _ _ _ H _ I h=>Constant_none ⟨.non,H,I,rfl,h⟩
theorem QQG{x j pos}:PE X (.Constant (.str x) j pos) (tC (.str x)):=fun _ _ _ H _ I h=>Calls.Constant_str ⟨.str x,H,I.tok _,⟨_,rfl⟩,h⟩
def Gl(X:Cx)(x:Str):Prop:=X.env.kindOf x=some .globalImplicit
theorem QzC{E:Value->Shared->Prop}{pins:List (Addr×Obj)}{s:Shared}{σ:St}{H:Hp}{x:Str}{u:Value}{pos:Pos}{Q:Value->Shared->Prop}(I:Inv X pins σ H s)(hg:Gl X x)(hm:X.mg x=some u)(h:Q u s)
 (hd:(x == ("__debug__":Str))=false:=by decide):wpAny (model X.prog X.w) X.A (eval (.Name x pos) X.env) Q E s:=
 Calls.Name_function_global I.ok.kind hg (Calls.loadGlobal_global (by rw[I.ok.glob];exact I.mod.glob.keeps I.bk) hm h) hd
theorem Qks{E:Value->Shared->Prop}{pins:List (Addr×Obj)}{s:Shared}{σ:St}{H:Hp}{x:Str}{u:Value}{pos:Pos}{Q:Value->Shared->Prop}(I:Inv X pins σ H s)(hg:Gl X x)(hm:X.mg x=none)(hv:bootBuiltins x=some u)(h:Q u s)
 (hn:x≠"__name__":=by decide) (hd:(x == ("__debug__":Str))=false:=by decide):wpAny (model X.prog X.w) X.A (eval (.Name x pos) X.env) Q E s:=by
 obtain⟨mb,h1,h2⟩:=I.mod.blt
 exact Calls.Name_function_global I.ok.kind hg (Calls.loadGlobal_builtin (by rw[I.ok.glob];exact I.mod.glob.keeps I.bk) hm (by rw[I.ok.blt];exact h1.keeps I.bk) ((h2 x hn).trans hv) h) hd
theorem Qp9{x:Str}{v:V}{u:Value}{pos:Pos}(hg:Gl X x)(hm:X.mg x=some u)(r:RelV v u)(hd:(x == ("__debug__":Str))=false:=by decide):PE X (.Name x pos) (tC v):=
 fun _ _ _ H _ I h=>QzC I hg hm ⟨v,H,I,r,h⟩ hd
theorem QPS{x:Str}{v:V}{u:Value}{pos:Pos}(hg:Gl X x)(hm:X.mg x=none)(hv:bootBuiltins x=some u)(r:RelV v u)(hn:x≠"__name__":=by decide)(hd:(x == ("__debug__":Str))=false:=by decide):PE X (.Name x pos) (tC v):=
 fun _ _ _ H _ I h=>Qks I hg hm hv ⟨v,H,I,r,h⟩ hn hd
variable{a b:Expr}{ta tb:TE}{pos:Pos}
def tB(t:TE):TT:=fun σ H Q=>t σ H fun x H1=>∃ c,x=.bl c/\Q c H1
theorem QRn{e:Expr}{t:TE}(h:PE X e t)(he:∀ whole,isTrue e X.env whole=(do let v ← whole;standAt e.pos;holding [v] (truthy v)):=by intro _;rfl):PT X e (tB t):=by
 intro pins s σ H Q I hw
 refine isTrue_plain (thn (h pins s σ H _ I hw) fun v s1 ⟨x,H1,I1,r1,q1⟩=>?_) (he _)
 obtain⟨d,rfl,q⟩:=q1
 cases r1
 exact wpAny_truthy_bool ⟨H1,I1,q⟩
variable{tA tB':TT}{rest:List Expr}
def tAnd(t u:TT):TT:=fun σ H Q=>t σ H fun c H1=>if c=true then u σ H1 Q else Q false H1
def tOr(t u:TT):TT:=fun σ H Q=>t σ H fun c H1=>if c=true then Q true H1 else u σ H1 Q
def tNot(t:TT):TT:=fun σ H Q=>t σ H fun c H1=>Q (!c) H1
theorem QPs(ha:PT X a tA):PW X (.BoolOp .And [a] pos) tA:=by
 intro wh pins s σ H Q I h
 refine isTrue_and (thn (ha pins s σ H Q I h) fun c s1 e=>?_)
 cases c with
 | true=>exact isTrue_and_nil e
 | false=>exact e
theorem QQM(ha:PT X a tA):PW X (.BoolOp .Or [a] pos) tA:=by
 intro wh pins s σ H Q I h
 refine isTrue_or (thn (ha pins s σ H Q I h) fun c s1 e=>?_)
 cases c with
 | false=>exact isTrue_or_nil e
 | true=>exact e
theorem QRj(ha:PT X a tA)(hb:PW X (.BoolOp .And (b::rest) pos) tB'):PW X (.BoolOp .And (a::b::rest) pos) (tAnd tA tB'):=by
 intro wh pins s σ H Q I h
 refine isTrue_and (thn (ha pins s σ H _ I h) fun c s1 ⟨H1,I1,q1⟩=>?_)
 cases c with
 | true=>exact hb wh pins s1 σ H1 Q I1 q1
 | false=>exact⟨H1,I1,q1⟩
theorem pw_or(ha:PT X a tA)(hb:PW X (.BoolOp .Or (b::rest) pos) tB'):PW X (.BoolOp .Or (a::b::rest) pos) (tOr tA tB'):=by
 intro wh pins s σ H Q I h
 refine isTrue_or (thn (ha pins s σ H _ I h) fun c s1 ⟨H1,I1,q1⟩=>?_)
 cases c with
 | true=>exact⟨H1,I1,q1⟩
 | false=>exact hb wh pins s1 σ H1 Q I1 q1
theorem QRr(ha:PT X a tA):PT X (.UnaryOp .Not a pos) (tNot tA):=by
 intro pins s σ H Q I h
 exact isTrue_not (ha pins s σ H (fun c H1=>Q (!c) H1) I h)
def tAndV(ta tb:TE):TE:=fun σ H Q=>ta σ H fun x H1=>∃ c,x=.bl c/\if c=true then tb σ H1 Q else Q (.bl false) H1
def tNotV(ta:TE):TE:=fun σ H Q=>ta σ H fun x H1=>∃ c,x=.bl c/\Q (.bl (!c)) H1
theorem QRi{op}{t:TE}(h:PE X a t):PE X (.BoolOp op [a] pos) t:=fun pins s σ H Q I hw=>BoolOp_one (h pins s σ H Q I hw)
theorem QRz(ha:PE X a ta)(hb:PE X (.BoolOp .And (b::rest) pos) tb):PE X (.BoolOp .And (a::b::rest) pos) (tAndV ta tb):=by
 intro pins s σ H Q I h
 refine BoolOp_and (thn (ha pins s σ H _ I h) fun v s1 ⟨x,H1,I1,r1,q1⟩=>?_)
 obtain⟨c,rfl,q1⟩:=q1
 cases r1
 refine wpAny_truthy_bool ?_
 cases c with
 | true=>exact hb pins s1 σ H1 Q I1 q1
 | false=>exact⟨.bl false,H1,I1,rfl,q1⟩
theorem QQS(ha:PE X a ta):PE X (.UnaryOp .Not a pos) (tNotV ta):=by
 intro pins s σ H Q I h
 refine UnaryOp_ (thn (ha pins s σ H _ I h) fun v s1 ⟨x,H1,I1,r1,q1⟩=>?_)
 obtain⟨c,rfl,q1⟩:=q1
 cases r1
 exact not_of (wpAny_truthy_bool ⟨.bl (!c),H1,I1,rfl,q1⟩)
def tIf(t:TT)(ta tb:TE):TE:=fun σ H Q=>t σ H fun c H1=>if c=true then ta σ H1 Q else tb σ H1 Q
theorem QOF{c:Expr}(hc:PT X c tA)(ha:PE X a ta)(hb:PE X b tb):PE X (.IfExp c a b pos) (tIf tA ta tb):=by
 intro pins s σ H Q I h
 refine wpAny_IfExp (thn (hc pins s σ H _ I h) fun d s1 ⟨H1,I1,q1⟩=>?_)
 cases d with
 | true=>exact ha pins s1 σ H1 Q I1 q1
 | false=>exact hb pins s1 σ H1 Q I1 q1
end
end L2
namespace L2
open PySem PySem.Spec PyProof.Rows
def SqL(K:PySem.W.Frag)(H:Hp)(a:Addr)(xs:List V):Prop:=
 Rd H a (.lst xs)∨
  ∃(o:Obj)(its:Array Value)(n:Nat),K.lookup a=some o/\o.cls=.type "list"/\o.dict=none/\o.data=.seq its n/\its.size<=sizeLine/\Vals xs its.toList
def SqT(K:PySem.W.Frag)(H:Hp)(a:Addr)(xs:List V):Prop:=
 Rd H a (.tup xs)∨
  ∃(o:Obj)(its:Array Value)(n:Nat),K.lookup a=some o/\o.cls=.type "tuple"/\o.data=.seq its n/\its.size<=sizeLine/\Vals xs its.toList
def absV:Value->Option V
 | .none=>some .non
 | .bool b=>some (.bl b)
 | .int i _=>some (.int i)
 | .str x _=>some (.str x)
 | .bytes b _=>some (.byt b)
 | .float b _=>some (.flt b)
 | .ref a=>some (.ref a)
 | .type n=>some (.ty n)
 | _=>none
theorem RelV.abs{x:V}{u:Value}(r:RelV x u):absV u=some x:=by
 cases x with
 | non=>cases r;rfl
 | bl _=>cases r;rfl
 | int _=>obtain⟨t,rfl⟩:=r;rfl
 | str _=>obtain⟨t,rfl⟩:=r;rfl
 | byt _=>obtain⟨t,rfl⟩:=r;rfl
 | flt _=>obtain⟨t,rfl⟩:=r;rfl
 | ref _=>cases r;rfl
 | ty _=>cases r;rfl
theorem RelV.inj{x y:V}{u:Value}(r:RelV x u)(q:RelV y u):x=y:=Option.some.inj (r.abs.symm.trans q.abs)
theorem Vals.inj:∀{xs ys:List V}{us:List Value},Vals xs us->Vals ys us->xs=ys
 | _,_,_,.nil,.nil=>rfl
 | _,_,_,.cons r t,.cons r' t'=>by rw[r.inj r',Vals.inj t t']
section
variable{X:Cx}{pins:List (Addr×Obj)}{σ:St}{H:Hp}{s:Shared}{a:Addr}{xs ys:List V}
theorem SqL.of{K:PySem.W.Frag}(h:H a=some (.lst xs)):SqL K H a xs:=.inl (.inl h)
theorem SqT.of{K:PySem.W.Frag}(h:H a=some (.tup xs)):SqT K H a xs:=.inl (.inl h)
theorem Inv.list(I:Inv X pins σ H s)(h:SqL X.K H a xs):∃ its:List Value,Vals xs its/\PlainL s.heap a its.toArray/\xs.length<=sizeLine:=by
 rcases h with h | ⟨o,its,n,hk,hc,hd,hs,hz,r⟩
 ·obtain⟨z,its,n,r,e⟩:=h.ok I.hok
  exact⟨its,r,⟨_,n,e,rfl,rfl,rfl⟩,z⟩
 ·refine⟨its.toList,r,⟨o,n,I.kIn a o hk,hc,hd,by simpa using hs⟩,?_⟩
  have e:=r.length
  simp only[Array.length_toList]at e
  omega
theorem Inv.tuple(I:Inv X pins σ H s)(h:SqT X.K H a xs):∃ its:List Value,Vals xs its/\IsTup s.heap a its.toArray/\xs.length<=sizeLine:=by
 rcases h with h | ⟨o,its,n,hk,hc,hs,hz,r⟩
 ·obtain⟨z,its,r,p⟩:=h.ok I.hok
  exact⟨its,r,p,z⟩
 ·refine⟨its.toList,r,⟨o,I.kIn a o hk,hc,n,by simpa using hs⟩,?_⟩
  have e:=r.length
  simp only[Array.length_toList]at e
  omega
theorem Inv.list_inj(I:Inv X pins σ H s)(h:SqL X.K H a xs)(h':SqL X.K H a ys):xs=ys:=by
 obtain⟨its,r,⟨o,n,e,_,_,d⟩,_⟩:=I.list h
 obtain⟨its',r',⟨o',n',e',_,_,d'⟩,_⟩:=I.list h'
 rw[e]at e';cases e'
 rw[d]at d'
 injection d' with d1 _
 have:its=its':=by simpa using congrArg Array.toList d1
 subst this
 exact r.inj r'
end
abbrev Cx.wish(X:Cx)(E:Value->Shared->Prop):Cx:={ X with xe:=E }
abbrev Cx.nox(X:Cx):Cx:=X.wish fun _ _=>False
theorem Cx.Ok.wish{X:Cx}(ok:X.Ok)(E:Value->Shared->Prop):(X.wish E).Ok:=
 ⟨ok.mod,ok.kind,ok.glob,ok.blt,ok.above,ok.inj,ok.has,ok.cab,ok.hd,ok.frames,ok.stk,ok.exf,ok.bs,ok.bsz,ok.noex,ok.exfs,ok.funs,ok.frf⟩
theorem Cx.Ok.unwish{X:Cx}{E:Value->Shared->Prop}(ok:(X.wish E).Ok):X.Ok:=
 ⟨ok.mod,ok.kind,ok.glob,ok.blt,ok.above,ok.inj,ok.has,ok.cab,ok.hd,ok.frames,ok.stk,ok.exf,ok.bs,ok.bsz,ok.noex,ok.exfs,ok.funs,ok.frf⟩
section
variable{X:Cx}{pins:List (Addr×Obj)}{σ:St}{H:Hp}{s:Shared}{E:Value->Shared->Prop}
theorem Inv.wish(I:Inv X pins σ H s)(E:Value->Shared->Prop):Inv (X.wish E) pins σ H s:=⟨I.ok.wish E,I.os,I.bare,I.base,I.loc,I.cell,I.free,I.freeC,I.pin,I.hok,I.len⟩
theorem Inv.unwish(I:Inv (X.wish E) pins σ H s):Inv X pins σ H s:=⟨I.ok.unwish,I.os,I.bare,I.base,I.loc,I.cell,I.free,I.freeC,I.pin,I.hok,I.len⟩
theorem SP.unwish{D:Ends}{f:Flow}{s':Shared}(h:SP (X.wish E) pins D f s'):SP X pins D f s':=by
 cases f with
 | next=>obtain⟨σ',H',I,q⟩:=h;exact⟨σ',H',I.unwish,q⟩
 | brk=>obtain⟨σ',H',I,q⟩:=h;exact⟨σ',H',I.unwish,q⟩
 | cont=>obtain⟨σ',H',I,q⟩:=h;exact⟨σ',H',I.unwish,q⟩
 | ret u=>obtain⟨v,σ',H',I,r,q⟩:=h;exact⟨v,σ',H',I.unwish,r,q⟩
theorem PE.nox{e:Expr}{t:TE}(h:PE X.nox e t):PE X e t:=fun pins s σ H Q I hw=>
 wpAny_mono (h pins s σ H Q (I.wish _) hw) (fun _ _ ⟨v,H',I',r,q⟩=>⟨v,H',I'.unwish,r,q⟩) fun _ _ z=>False.elim z
theorem PT.nox{e:Expr}{t:TT}(h:PT X.nox e t):PT X e t:=fun pins s σ H Q I hw=>
 wpAny_mono (h pins s σ H Q (I.wish _) hw) (fun _ _ ⟨H',I',q⟩=>⟨H',I'.unwish,q⟩) fun _ _ z=>False.elim z
theorem PSs.nox{st:List Stmt}{t:TS}(h:PSs X.nox st t):PSs X st t:=fun pins s σ H D I hw=>
 wpAny_mono (h pins s σ H D (I.wish _) hw) (fun _ _ q=>q.unwish) fun _ _ z=>False.elim z
end
section
variable{X:Cx}{st:Stmt}{rest:List Stmt}{t u:TS}{e:Expr}{te:TE}{pos:Pos}
def tNext:TS:=fun D σ H=>D.nx σ H
def tSeq(t u:TS):TS:=fun D σ H=>t { D with nx:=u D } σ H
theorem QPX:PSs X [] tNext:=fun _ _ σ H _ I h=>wpAny_execs_nil ⟨σ,H,I,h⟩
theorem QNX(h1:PS X st t)(h2:PSs X rest u):PSs X (st::rest) (tSeq t u):=by
 intro pins s σ H D I h
 refine wpAny_execs_cons (thn (h1 pins s σ H { D with nx:=u D } I h) fun f s1 q=>?_)
 cases f with
 | next=>
  obtain⟨σ',H',I',q⟩:=q
  exact h2 pins s1 σ' H' D I' q
 | ret v=>exact q
 | brk=>exact q
 | cont=>exact q
theorem QO3(h1:PS X st t):PSs X [st] t:=by
 intro pins s σ H D I h
 refine wpAny_execs_cons (thn (h1 pins s σ H D I h) fun f s1 q=>?_)
 cases f with
 | next=>exact wpAny_execs_nil q
 | ret v=>exact q
 | brk=>exact q
 | cont=>exact q
theorem Inv.quiet{pins:List (Addr×Obj)}{σ:St}{H:Hp}{s:Shared}(I:Inv X pins σ H s):interactive X.env=false:=by simp[interactive,I.ok.kind]
def tDrop(te:TE):TS:=fun D σ H=>te σ H fun _ H1=>D.nx σ H1
theorem QJt(he:PE X e te)(hs:swapsWith e none pos.line X.env=pure false:=by rfl):PS X (.Expr e pos) (tDrop te):=by
 intro pins s σ H D I h
 exact wpAny_Expr_any (thn (he pins s σ H _ I h) fun v s1 ⟨x,H1,I1,r1,q1⟩=>⟨σ,H1,I1,q1⟩) I.quiet hs
def tRet(te:TE):TS:=fun D σ H=>te σ H D.rt
theorem QFR(he:PE X e te):PS X (.Return (some e) pos) (tRet te):=by
 intro pins s σ H D I h
 exact wpAny_Return_some (thn (he pins s σ H _ I h) fun v s1 ⟨x,H1,I1,r1,q1⟩=>⟨x,σ,H1,I1,r1,q1⟩)
def tIfS(c:TT)(t u:TS):TS:=fun D σ H=>c σ H fun b H1=>if b=true then t D σ H1 else u D σ H1
theorem ps_if{c:Expr}{a b:List Stmt}{tc:TT}(hc:PT X c tc)(ha:PSs X a t)(hb:PSs X b u):PS X (.If c a b pos) (tIfS tc t u):=by
 intro pins s σ H D I h
 refine wpAny_If (thn (hc pins s σ H _ I h) fun d s1 ⟨H1,I1,q1⟩=>?_)
 cases d with
 | true=>exact ha pins s1 σ H1 D I1 q1
 | false=>exact hb pins s1 σ H1 D I1 q1
def QQE:TS:=fun _ _ _=>False
theorem QOo:PS X st QQE:=fun _ _ _ _ _ _ h=>h.elim
end
abbrev TG:=V->St->Hp->(St->Hp->Prop)->Prop
abbrev TGs:=List V->St->Hp->(St->Hp->Prop)->Prop
def PG(X:Cx)(target:Expr)(t:TG):Prop:=
 ∀(pins:List (Addr×Obj))(s:Shared)(σ:St)(H:Hp)(v:V)(u:Value)(Q:St->Hp->Prop),Inv X pins σ H s->RelV v u->t v σ H Q->
  wpAny (model X.prog X.w) X.A (assign target X.env u) (fun _ s'=>∃ σ' H',Inv X pins σ' H' s'/\Q σ' H') X.xe s
def PGs(X:Cx)(ts:List Expr)(t:TGs):Prop:=
 ∀(pins:List (Addr×Obj))(s:Shared)(σ:St)(H:Hp)(vs:List V)(us:List Value)(Q:St->Hp->Prop),Inv X pins σ H s->Vals vs us->t vs σ H Q->
  wpAny (model X.prog X.w) X.A (assignInOrder ((assignEach ts X.env).map (·.2)) us) (fun _ s'=>∃ σ' H',Inv X pins σ' H' s'/\Q σ' H') X.xe s
section
variable{X:Cx}{pos:Pos}
def gName(i:Nat):TG:=fun v σ H Q=>Q (σ.set i (some v)) H
theorem QJx{i:Nat}{x:Str}(hN:X.N.Nodup)(hi:X.N[i]?=some x)(hx:Loc X.env.scope x)(hf:X.fn x=true∨X.env.scope.names.lookup x=some .local:=by first | exact .inl rfl | exact .inr rfl | assumption):PG X (.Name x pos) (gName i):=by
 intro pins s σ H v u Q I r h
 exact wpAny_assign_Name (Qqy I hN hi hx r (fun s' I'=>⟨_,H,I',h⟩) hf)
def gNil:TGs:=fun vs σ H Q=>vs=[]/\Q σ H
def gCons(t:TG)(u:TGs):TGs:=fun vs σ H Q=>∃ v r,vs=v::r/\t v σ H fun σ' H'=>u r σ' H' Q
theorem QQd:PGs X [] gNil:=by
 intro pins s σ H vs us Q I r h
 obtain⟨e,h⟩:=h
 subst e
 cases r
 exact assignInOrder_nil ⟨σ,H,I,h⟩
theorem QOx{e:Expr}{es:List Expr}{t:TG}{u:TGs}(h1:PG X e t)(h2:PGs X es u)
 (hs:(assignEach (e::es) X.env).map (·.2)=assign e X.env::(assignEach es X.env).map (·.2):=by rfl):PGs X (e::es) (gCons t u):=by
 intro pins s σ H vs us Q I r h
 obtain⟨v,vr,e1,h⟩:=h
 subst e1
 cases r with
 | cons r rr=>
  rw[hs]
  refine assignInOrder_cons (thn (h1 pins s σ H _ _ _ I r h) fun _ s1 ⟨σ1,H1,I1,q1⟩=>?_)
  exact h2 pins s1 σ1 H1 _ _ Q I1 rr q1
def gTup(K:PySem.W.Frag)(n:Nat)(t:TGs):TG:=fun v σ H Q=>∃ a xs,v=.ref a/\SqT K H a xs/\xs.length=n/\t xs σ H Q
theorem QM3{es:List Expr}{k:Nat}{t:TGs}{n:Nat}(hc:X.calm=true)(h:PGs X es t)
 (hn:(assignEach es X.env).length=n:=by rfl) (hst:(assignEach es X.env).findIdx? (·.1)=none:=by rfl):PG X (.Tuple es k pos) (gTup X.K n t):=by
 intro pins s σ H v u Q I r hw
 obtain⟨a,xs,e1,hq,hl,hw⟩:=hw
 subst e1
 cases r
 obtain⟨its,rv,ht,hz⟩:=I.tuple hq
 refine assign_Tuple_tuple (I.ok.hd hc) ht (by simp[hn, ← hl,rv.length]) hst fun h' hx=>?_
 have I1:Inv X pins σ H { s with heap:=h' }:=I.kept (t':=s.toks) fun b o e=>hx b o (Nat.ne_of_lt (Heap.lt_size e)) e
 exact h pins _ σ H xs _ Q I1 (by simpa using rv) hw
def tAsg(te:TE)(g:TG):TS:=fun D σ H=>te σ H fun x H1=>g x σ H1 D.nx
theorem QQ0{tg e:Expr}{te:TE}{g:TG}(he:PE X e te)(hg:PG X tg g)(hs:swapsWithSole [tg] e pos.line X.env=pure false:=by rfl)(hw:swappedStores [tg] e X.env=pure none:=by rfl)
 (h1:(assignEach [tg] X.env).map (·.2)=[assign tg X.env]:=by rfl):PS X (.Assign [tg] e pos) (tAsg te g):=by
 intro pins s σ H D I h
 refine wpAny_Assign_stores (thn (he pins s σ H _ I h) fun v s1 ⟨x,H1,I1,r1,q1⟩=>?_) hs hw
 rw[h1]
 exact thn (hg pins s1 σ H1 x v _ I1 r1 q1) fun _ s2 q=>q
theorem QMG{i:Nat}{x:Str}{e:Expr}{te:TE}{pos':Pos}(hN:X.N.Nodup)(hi:X.N[i]?=some x)(hx:Loc X.env.scope x)(he:PE X e te)(hs:swapsWith e (some (.Name x pos')) pos.line X.env=pure false:=by rfl)(hf:X.fn x=true∨X.env.scope.names.lookup x=some .local:=by first | exact .inl rfl | exact .inr rfl | assumption):
 PS X (.Assign [.Name x pos'] e pos) (tAsg te (gName i)):=by
 intro pins s σ H D I h
 refine wpAny_Assign_Name (thn (he pins s σ H _ I h) fun v s1 ⟨y,H1,I1,r1,q1⟩=>?_) hs
 exact Qqy I1 hN hi hx r1 (fun s2 I2=>⟨_,H1,I2,q1⟩) hf
def tPar(i j:Nat)(ta:TA):TS:=fun D σ H=>ta σ H fun vs H1=>∃ v w,vs=[v,w]/\D.nx ((σ.set i (some v)).set j (some w)) H1
theorem QRx{i j:Nat}{x y:Str}{a b:Expr}{ta:TA}{px py pt:Pos}{kt k2 pt2}(hc:X.calm=true)(hN:X.N.Nodup)(hi:X.N[i]?=some x)(hj:X.N[j]?=some y)(hij:i≠j)
 (hx:X.env.scope.names.lookup x=some .local) (hy:X.env.scope.names.lookup y=some .local) (ha:PA X [a,b] ta)
 (hw:swappedStores [.Tuple [.Name x px,.Name y py] kt pt] (.Tuple [a,b] k2 pt2) X.env=pure (some [x,y]))
 (hs:swapsWithSole [.Tuple [.Name x px,.Name y py] kt pt] (.Tuple [a,b] k2 pt2) pos.line X.env=pure false:=by rfl):
 PS X (.Assign [.Tuple [.Name x px,.Name y py] kt pt] (.Tuple [a,b] k2 pt2) pos) (tPar i j ta):=by
 intro pins s σ H D I h
 rw[exec_Assign_arm]
 refine wpAny_bind (wpAny_standAt ?_)
 rw[hs]
 refine wpAny_bind (wpAny_pure ?_)
 rw[if_neg (by decide)]
 refine wpAny_bind (Tuple_ (thn (ha _ pins s σ H _ I h) fun us s1 ⟨vs,H1,I1,r1,q1⟩=>?_))
 obtain⟨v,w,e1,q1⟩:=q1
 subst e1
 obtain⟨u1,u2,rfl,rv,rw'⟩:∃ u1 u2,us=[u1,u2]/\RelV v u1/\RelV w u2:=by
  cases r1 with
  | cons p q=>
   cases q with
   | cons p' q'=>
    cases q'
    exact⟨_,_,rfl,p,p'⟩
 refine wpAny_newObj_type ?_ (by show 2<=sizeLine;decide)
 have I2:Inv X pins σ H1 { s1 with heap:=s1.heap.push { cls:=.type "tuple",data:=.seq [u1,u2].toArray } }:=I1.kept (t':=s1.toks) fun b o e=>Heap.get?_push_of_some _ e
 rw[hw]
 refine wpAny_bind (wpAny_pure ?_)
 show wpAny (model X.prog X.w) X.A (do rule "assign.swapped-stores";let items ← unpackItems (.ref s1.heap.objs.size) 2 none;assignInOrder [fun v=>bindName X.env y v,fun v=>bindName X.env x v] items.reverse;pure Flow.next) _ _ _
 refine wpAny_bind (wpAny_rule (wpAny_bind (unpackItems_tuple (items := #[u1,u2]) (I.ok.hd hc) (IsTup.new s1.heap _) fun h' hx'=>?_)))
 have I3:=I2.kept (h':=h') (t':=s1.toks) fun b o e=>hx' b o (Nat.ne_of_lt (Heap.lt_size e)) e
 show wpAny _ _ (assignInOrder [fun v=>bindName X.env y v,fun v=>bindName X.env x v] [u2,u1]>>=fun _=>pure Flow.next) _ _ _
 refine wpAny_bind (assignInOrder_cons (wpAny_bindName (Qqy I3 hN hj (.inl hy) rw' (fun s2 I4=>?_) (.inr hy))))
 refine assignInOrder_cons (wpAny_bindName (Qqy I4 hN hi (.inl hx) rv (fun s3 I5=>assignInOrder_nil (wpAny_pure ?_)) (.inr hx)))
 rw[List.set_comm _ _ (Ne.symm hij)]at I5
 exact⟨_,H1,I5,q1⟩
end
section
variable{X:Cx}{pos:Pos}
def QQW(c:TT)(tb:TS):TS:=fun D σ H=>∃ W:Nat->St->Hp->Prop,(∃ m,W m σ H)/\∀ m σ H,W m σ H->
 c σ H fun b H1=>if b=true then ∃ N:St->Hp->Prop,(∀ σ' H',N σ' H'->∃ m',m'<m/\W m' σ' H')/\tb { D with nx:=N,ct:=N,bk:=D.nx } σ H1 else D.nx σ H1
theorem QOI{c:Expr}{body:List Stmt}{tc:TT}{tb:TS}(hp:PassesOwn (model X.prog X.w) X.A X.env X.xe)(hc:PT X c tc)(hb:PSs X body tb):PS X (.While c body [] pos) (QQW tc tb):=by
 intro pins s σ H D I h
 obtain⟨W,⟨m0,w0⟩,turn⟩:=h
 refine wpAny_While (codeAny_whileLoop (fun n s'=>∃ σ' H',Inv X pins σ' H' s'/\W n σ' H') ?_ m0 ⟨σ,H,I,w0⟩)
 rintro n s1 ⟨σ1,H1,I1,w1⟩
 refine wpAny_passesOwn hp (thn (hc pins s1 σ1 H1 _ I1 (turn n σ1 H1 w1)) fun b s2 ⟨H2,I2,q2⟩=>?_)
 cases b with
 | true=>
  obtain⟨N,hN,q2⟩:=q2
  rw[if_pos rfl]
  refine wpAny_passesOwn hp (thn (hb pins s2 σ1 H2 _ I2 q2) fun f s3 q3=>?_)
  cases f with
  | next=>
   obtain⟨σ3,H3,I3,n3⟩:=q3
   obtain⟨m',hm,w3⟩:=hN σ3 H3 n3
   exact⟨m',hm,σ3,H3,I3,w3⟩
  | cont=>
   obtain⟨σ3,H3,I3,n3⟩:=q3
   obtain⟨m',hm,w3⟩:=hN σ3 H3 n3
   exact⟨m',hm,σ3,H3,I3,w3⟩
  | brk=>exact q3
  | ret v=>exact q3
 | false=>
  rw[if_neg Bool.false_ne_true]
  exact wpAny_execs_nil ⟨σ1,H2,I2,q2⟩
end
structure It where
 go:Nat->Hp->Prop
 yld:Nat->Hp->V->Hp->Prop
 stop:Nat->Hp->Prop
def FpOk(X:Cx)(pins:List (Addr×Obj))(H:Hp)(b:Addr):Prop:=
 H b=none/\b≠X.env.locals/\b∉X.fs/\(b∈X.ex∨X.s₀.heap.objs.size<=b)/\(∀ x c,X.env.cells.lookup x=some c->c≠b)/\∀ p∈X.pn++pins,p.1≠b
theorem Inv.fpOk{X:Cx}{pins:List (Addr×Obj)}{σ:St}{H H':Hp}{s:Shared}{b:Addr}(I:Inv X pins σ H s)(hb:s.heap.objs.size<=b)(hn:H' b=none):FpOk X pins H' b:=by
 refine⟨hn,Nat.ne_of_gt (Nat.lt_of_lt_of_le I.lt hb),I.nofs hb,.inr (Nat.le_trans I.sz hb),fun x c e z=>?_,fun p hp z=>?_⟩
 ·obtain⟨v,q⟩:=I.cell x c e
  exact absurd (Nat.lt_of_lt_of_le q.lt (by rw[z];exact hb)) (Nat.lt_irrefl _)
 ·exact absurd (Nat.lt_of_lt_of_le (Heap.lt_size (I.pin p hp).1) (by rw[z];exact hb)) (Nat.lt_irrefl _)
structure Turn(P:Program)(w:World)(K:PySem.W.Frag)(tg:Expr)(J:It)(fp:List Addr)(it:Addr)(tn:Nat->Heap->Prop):Prop where
 mem:it∈fp
 obj:∀ i h,tn i h->∀ b∈fp,∃ o,h.get? b=some o/\∀ v,o.data≠.cell v
 keep:∀ i h h',tn i h->(∀ b∈fp,∀ o,h.get? b=some o->h'.get? b=some o)->tn i h'
 item:∀(X:Cx),X.prog=P->X.w=w->X.K=K->X.calm=true->∀(i:Nat)(pins:List (Addr×Obj))(s:Shared)(σ:St)(H:Hp)(E:Value->Shared->Prop),Inv X pins σ H s->(∀ b∈fp,FpOk X pins H b)->tn i s.heap->J.go i H->
  wpAny (model P w) X.A (pyNext (.ref it)) (fun r s1=>∃ u,r=some u/\
   wpAny (model P w) X.A (letOwnedTupleGo tg (.ref it) u) (fun _ s2=>∃ x H',Inv X pins σ H' s2/\RelV x u/\J.yld i H x H'/\tn (i+1) s2.heap/\∀ b∈fp,H' b=none) E s1) E s
 done:∀(X:Cx),X.prog=P->X.w=w->X.K=K->X.calm=true->∀(i:Nat)(pins:List (Addr×Obj))(s:Shared)(σ:St)(H:Hp)(E:Value->Shared->Prop),Inv X pins σ H s->(∀ b∈fp,FpOk X pins H b)->tn i s.heap->J.stop i H->
  wpAny (model P w) X.A (pyNext (.ref it)) (fun r s1=>r=none/\Inv X pins σ H s1) E s
 self:∀(A:Around)(i:Nat)(s:Shared)(Q:Value->Shared->Prop)(E:Value->Shared->Prop),tn i s.heap->Q (.ref it) s->wpAny (model P w) A (pyIter (.ref it)) Q E s
abbrev TI:=St->Hp->(It->Hp->Prop)->Prop
def PIE(X:Cx)(pins:List (Addr×Obj))(σ:St)(tg:Expr)(R:It->Hp->Prop)(itv:Value)(s2:Shared):Prop:=
 ∃(it:Addr)(fp:List Addr)(tn:Nat->Heap->Prop)(J:It)(H':Hp),itv=.ref it/\Inv X pins σ H' s2/\Turn X.prog X.w X.K tg J fp it tn/\tn 0 s2.heap/\(∀ b∈fp,FpOk X pins H' b)/\R J H'
def PI(X:Cx)(tg iter:Expr)(wi:TI):Prop:=
 ∀(pins:List (Addr×Obj))(s:Shared)(σ:St)(H:Hp)(R:It->Hp->Prop),Inv X pins σ H s->wi σ H R->
  wpAny (model X.prog X.w) X.A (eval iter X.env) (fun v s1=>wpAny (model X.prog X.w) X.A (pyIter v) (PIE X pins σ tg R) X.xe s1) X.xe s
theorem go_of{M:Model}{A:Around}{E:Value->Shared->Prop}{s:Shared}{tg:Expr}{it:Addr}{u:Value}{o:Obj}{n:String}{vs:Array Value}{Q:Unit->Shared->Prop}(ho:s.heap.get? it=some o)(hc:o.cls=.type n)(hd:o.data=.fields vs)
 (hn:["enumerate","zip","dict_itemiterator","dict_reverseitemiterator","odict_iterator","itertools.zip_longest","itertools.pairwise"].contains n=false) (hQ:Q () s):wpAny M A (letOwnedTupleGo tg (.ref it) u) Q E s:=by
 unfold letOwnedTupleGo
 cases tg<;>first
  | exact wpAny_pure hQ
  | (cases u<;>first
   | exact wpAny_pure hQ
   | (refine wpAny_bind (wpAny_load ho ?_)
      rw[hc,hd]
      show wpAny M A (if (["enumerate","zip","dict_itemiterator","dict_reverseitemiterator","odict_iterator","itertools.zip_longest","itertools.pairwise"].contains n&&vs[0]? == some (rawInt _))=true then _ else _) Q E s
      rw[if_neg (by intro h;rw[hn,Bool.false_and]at h;cases h)]
      exact wpAny_pure hQ))
def Itl(K:PySem.W.Frag)(a:Addr):It:=
 ⟨fun i H=>∃ xs x,SqL K H a xs/\xs[i]?=some x,fun i H x H'=>H'=H/\∀ xs,SqL K H a xs->xs[i]?=some x,fun i H=>∃ xs,SqL K H a xs/\xs.length<=i⟩
def Itr(lo:Int)(n:Nat):It:=⟨fun i _=>i<n,fun i H x H'=>H'=H/\x=.int (lo+i),fun i _=>n<=i⟩
theorem QMT{P:Program}{w:World}{K:PySem.W.Frag}{tg:Expr}(a it:Addr):Turn P w K tg (Itl K a) [it] it (fun i h=>h.IsListIter it a i) where
 mem:=by simp
 obj:=fun i h st b hb=>by
  have e:b=it:=by simpa using hb
  subst e
  obtain⟨o,e,c,d⟩:=st
  exact⟨o,e,fun v z=>by rw[d]at z;cases z⟩
 keep:=fun i h h' st k=>st.at fun o e=>k it (by simp) o e
 item:=by
  intro X hP hw hK hc i pins s σ H E I hf st hg
  subst hP hw hK
  obtain⟨xs,x,hq,hx⟩:=hg
  obtain⟨its,rv,p,hz⟩:=I.list hq
  obtain⟨u,hu,ru⟩:=rv.get hx
  obtain⟨f0,f1,f2,f3,f4,f5⟩:=hf it (by simp)
  refine wpAny_pyNext_list_item st p.isList (x:=u) (by simpa using hu) fun h' st' sb=>?_
  have I1:Inv X pins σ H { s with heap:=h' }:=I.turned (t':=s.toks) (fun b o hb e=>(sb.2 b hb).trans e) f0 f1 f3 f4 f5
  obtain⟨o,e,c,d⟩:=id st'
  exact⟨u,rfl,go_of (s:={ s with heap:=h' }) e c d (by decide) ⟨x,H,I1,ru,⟨rfl,fun ys hy=>by rw[I.list_inj hy hq];exact hx⟩,st',fun b hb=>(hf b hb).1⟩⟩
 done:=by
  intro X hP hw hK hc i pins s σ H E I hf st hg
  subst hP hw hK
  obtain⟨xs,hq,hx⟩:=hg
  obtain⟨its,rv,p,hz⟩:=I.list hq
  obtain⟨f0,f1,f2,f3,f4,f5⟩:=hf it (by simp)
  have hl:=rv.length
  exact wpAny_pyNext_list_end (I.ok.hd hc) st p.isList (by simp;omega) fun h' eb=>⟨rfl,I.turned (t':=s.toks) (fun b o hb e=>eb b o hb e) f0 f1 f3 f4 f5⟩
 self:=fun _ _ _ _ _ st h=>wpAny_pyIter_listiter st h
theorem QLy{P:Program}{w:World}{K:PySem.W.Frag}{tg:Expr}(it:Addr)(lo:Int)(n:Nat):Turn P w K tg (Itr lo n) [it] it (fun i h=>IsRangeIter h it (lo+(i:Nat) * 1) ((n:Int) - (i:Nat)) 1) where
 mem:=by simp
 obj:=fun i h st b hb=>by
  have e:b=it:=by simpa using hb
  subst e
  exact⟨_,st,fun v z=>by
   have z':Data.fields _=Data.cell v:=z
   cases z'⟩
 keep:=fun i h h' st k=>k it (by simp) _ st
 item:=by
  intro X hP hw hK hc i pins s σ H E I hf st hg
  subst hP hw hK
  obtain⟨f0,f1,f2,f3,f4,f5⟩:=hf it (by simp)
  have W:=Walks.range (prog:=X.prog) (w:=X.w) (I.ok.hd hc) it lo 1 n
  refine W.item i s _ _ hg st fun v h' tk hv st' kk=>?_
  obtain⟨t,rfl⟩:=hv
  have I1:Inv X pins σ H { s with heap:=h',toks:=tk }:=I.turned (fun b o hb e=>kk b o (by simpa using hb) e) f0 f1 f3 f4 f5
  refine⟨_,rfl,go_of (s:={ s with heap:=h',toks:=tk }) (n:="range_iterator") st' rfl rfl (by decide) ⟨.int (lo+i),H,I1,⟨t,?_⟩,⟨rfl,rfl⟩,st',fun b hb=>(hf b hb).1⟩⟩
  rw[Int.mul_one]
 done:=by
  intro X hP hw hK hc i pins s σ H E I hf st hg
  subst hP hw hK
  obtain⟨f0,f1,f2,f3,f4,f5⟩:=hf it (by simp)
  exact wpAny_pyNext_range_end (I.ok.hd hc) st (by have:n<=i:=hg;omega) fun h' eb=>⟨rfl,I.turned (t':=s.toks) (fun b o hb e=>eb b o hb e) f0 f1 f3 f4 f5⟩
 self:=fun _ _ _ _ _ st h=>wpAny_pyIter_rangeiter st h
end L2
namespace L2
open PySem PySem.Spec PyProof.Rows
section
variable{X:Cx}{tg:Expr}
def iList(K:PySem.W.Frag)(tl:TE):TI:=fun σ H R=>tl σ H fun x H1=>∃ a,x=.ref a/\(∃ xs,SqL K H1 a xs)/\R (Itl K a) H1
theorem QPu{l:Expr}{tl:TE}(hl:PE X l tl):PI X tg l (iList X.K tl):=by
 intro pins s σ H R I h
 refine thn (hl pins s σ H _ I h) fun v s1 ⟨x,H1,I1,r1,q1⟩=>?_
 obtain⟨a,e,⟨xs,hq⟩,q⟩:=q1
 subst e
 cases r1
 obtain⟨its,rv,p,hz⟩:=I1.list hq
 refine wpAny_pyIter_list p.isList ?_
 refine⟨s1.heap.objs.size,[s1.heap.objs.size],_,_,H1,rfl,I1.kept (t':=s1.toks) fun b o e=>Heap.get?_push_of_some _ e,QMT a _,⟨_,Heap.get?_push_size _ rfl,rfl,rfl⟩,fun b hb=>?_,q⟩
 have e:b=s1.heap.objs.size:=by simpa using hb
 subst e
 exact I1.fpOk (Nat.le_refl _) (I1.hok.fresh (Nat.le_refl _))
theorem QOK{pins:List (Addr×Obj)}{σ:St}{H:Hp}{s:Shared}{R:It->Hp->Prop}{E:Value->Shared->Prop}{lo hi:Int}{t u v:Tok}{tk:Nat}(I:Inv X pins σ H s)(h1 : -(2 ^ 62)<=lo)(h2:lo<2 ^ 62)(h3 : -(2 ^ 62)<=hi)(h4:hi<2 ^ 62)
 (q:R (Itr lo (hi - lo).toNat) H):wpAny (model X.prog X.w) X.A (pyIter (.ref s.heap.objs.size)) (PIE X pins σ tg R) E { s with heap:=s.heap.push { cls:=.type "range",data:=.fields #[.int lo t,.int hi u,.int 1 v] },toks:=tk }:=by
 refine wpAny_pyIter_range (IsRange.new ..) (small_one h1 h2 h3 h4) ?_
 have I1:Inv X pins σ H { s with heap:=s.heap.push { cls:=.type "range",data:=.fields #[.int lo t,.int hi u,.int 1 v] },toks:=tk }:=I.kept fun b o e=>Heap.get?_push_of_some _ e
 refine⟨(s.heap.push { cls:=.type "range",data:=.fields #[.int lo t,.int hi u,.int 1 v] }).objs.size,[(s.heap.push { cls:=.type "range",data:=.fields #[.int lo t,.int hi u,.int 1 v] }).objs.size],_,_,H,rfl,
  I1.kept (t':=tk) fun b o e=>Heap.get?_push_of_some _ e,QLy _ lo (hi - lo).toNat,?_,fun b hb=>?_,q⟩
 ·have e1:lo+((0:Nat):Int) * 1=lo:=by simp
  have e2:(((hi - lo).toNat:Nat):Int) - ((0:Nat):Int)=Builtin.Range.rangeSize lo hi 1:=by rw[rangeSize_one];split<;>omega
  show IsRangeIter _ _ (lo+((0:Nat):Int) * 1) ((((hi - lo).toNat:Nat):Int) - ((0:Nat):Int)) 1
  rw[e1,e2]
  exact Heap.get?_push_size _ rfl
 ·have e:b=(s.heap.push { cls:=.type "range",data:=.fields #[.int lo t,.int hi u,.int 1 v] }).objs.size:=by simpa using hb
  subst e
  exact I1.fpOk (Nat.le_refl _) (I1.hok.fresh (Nat.le_refl _))
def iRng1(ta:TA):TI:=fun σ H R=>ta σ H fun vs H1=>∃ j:Int,vs=[.int j] /\ -(2 ^ 62)<=j/\j<2 ^ 62/\R (Itr 0 j.toNat) H1
theorem QMS{a:Expr}{ta:TA}{p pos:Pos}(hg:Gl X "range")(hm:X.mg "range"=none)(ha:PA X [a] ta)(hs:starEach [a] X.env=[(false,eval a X.env)]:=by rfl):PI X tg (.Call (.Name "range" p) [a] [] pos) (iRng1 ta):=by
 intro pins s σ H R I h
 refine Call_ (Qks I hg hm boot_range (PyProof.Rows.callWith_type1 (thn (ha pos pins s σ H _ I h) fun us s1 ⟨vs,H1,I1,r1,q1⟩=>?_) hs rfl))
 obtain⟨j,e,q1,q2,q⟩:=q1
 subst e
 cases r1 with
 | cons r rr=>
  cases rr
  obtain⟨t,rfl⟩:=r
  exact call_range_1 (QOK I1 (by omega) (by omega) q1 q2 (by simpa using q))
def tFor(wi:TI)(g:TG)(tb:TS):TS:=fun D σ H=>wi σ H fun J H1=>∃ W:Nat->Nat->St->Hp->Prop,(∃ m,W 0 m σ H1)/\∀ i m σ H,W i m σ H->
 (J.stop i H/\D.nx σ H)∨(J.go i H/\∃ N:St->Hp->Prop,(∀ σ' H',N σ' H'->∃ m',m'<m/\W (i+1) m' σ' H')/\∀ x H',J.yld i H x H'->g x σ H' fun σ2 H2=>tb { D with nx:=N,ct:=N,bk:=D.nx } σ2 H2)
def Qth(fp:List Addr)(h:Heap):List (Addr×Obj):=fp.filterMap fun b=>(h.get? b).map fun o=>(b,o)
theorem Ql4{fp:List Addr}{h:Heap}{b:Addr}{o:Obj}(hb:b∈fp)(e:h.get? b=some o):(b,o)∈Qth fp h:=List.mem_filterMap.mpr ⟨b,hb,by rw[e];rfl⟩
theorem QMB{fp:List Addr}{h:Heap}{p:Addr×Obj}(hp:p∈Qth fp h):p.1∈fp/\h.get? p.1=some p.2:=by
 obtain⟨b,hb,e⟩:=List.mem_filterMap.mp hp
 cases q:h.get? b with
 | none=>rw[q]at e;cases e
 | some o=>
  rw[q]at e
  have e':(b,o)=p:=Option.some.inj e
  subst e'
  exact⟨hb,q⟩
theorem Inv.pinned{pins:List (Addr×Obj)}{σ:St}{H:Hp}{s:Shared}{fp:List Addr}(I:Inv X pins σ H s)(hf:∀ b∈fp,FpOk X pins H b)(ho:∀ b∈fp,∃ o,s.heap.get? b=some o/\∀ v,o.data≠.cell v):Inv X (pins++Qth fp s.heap) σ H s:=
 I.pins_of fun p hp=>(List.mem_append.mp hp).elim (fun z=>I.pin p (List.mem_append_right _ z)) fun z=>by
  obtain⟨hb,e⟩:=QMB z
  obtain⟨f0,f1,f2,_⟩:=hf p.1 hb
  obtain⟨o,e',d⟩:=ho p.1 hb
  rw[e]at e';cases e'
  exact⟨e,f0,f1,f2,d⟩
theorem Inv.unpinned{pins pl:List (Addr×Obj)}{σ:St}{H:Hp}{s:Shared}(I:Inv X (pins++pl) σ H s):Inv X pins σ H s:=I.pins_of fun p hp=>I.pin p (List.mem_append_right _ (List.mem_append_left _ hp))
theorem QQ7{iter:Expr}{body:List Stmt}{wi:TI}{g:TG}{tb:TS}{pos:Pos}(hp:PassesOwn (model X.prog X.w) X.A X.env X.xe)(hc:X.calm=true)(hi:PI X tg iter wi)(hg:PG X tg g)(hb:PSs X body tb)
 (hs:∀ x,foldedSetIterable iter X.env x=pure x:=by intro _;rfl):PS X (.For tg iter body [] pos) (tFor wi g tb):=by
 intro pins s σ H D I h
 refine wpAny_For (thn (hi pins s σ H _ I h) fun v s1 h1=>thn h1 fun itv s2 h2=>?_) hs
 obtain⟨it,fp,tn,J,H2,e,I2,T,st2,f2,W,⟨m0,w0⟩,turn⟩:=h2
 subst e
 -- what stays true of the iterator's objects through the loop
 have stat:∀{H':Hp},(∀ b∈fp,H' b=none)->∀ b∈fp,FpOk X pins H' b:=fun hn b hb=>⟨hn b hb,(f2 b hb).2⟩
 refine codeAny_forLoop_any (fun n s'=>∃ i σ' H',Inv X pins σ' H' s'/\tn i s'.heap/\(∀ b∈fp,H' b=none)/\W i n σ' H') ?_ m0 ⟨0,σ,H2,I2,st2,fun b hb=>(f2 b hb).1,w0⟩
 rintro n s3 ⟨i,σ3,H3,I3,st3,fr3,w3⟩
 rcases turn i n σ3 H3 w3 with⟨stop,qn⟩ | ⟨go,N,hN,step⟩
 ·refine wpAny_passesOwn hp (thn (T.done X rfl rfl rfl hc i pins s3 σ3 H3 X.xe I3 (stat fr3) st3 stop) fun r s4 ⟨hr,I4⟩=>?_)
  subst hr
  exact wpAny_execs_nil ⟨σ3,H3,I4,qn⟩
 ·refine wpAny_passesOwn hp (thn (T.item X rfl rfl rfl hc i pins s3 σ3 H3 X.xe I3 (stat fr3) st3 go) fun r s4 ⟨u,hr,h4⟩=>?_)
  subst hr
  refine wpAny_passesOwn hp (thn h4 fun _ s5 ⟨x,H5,I5,r5,y5,st5,fr5⟩=>?_)
  have I5':=I5.pinned (stat fr5) (T.obj _ _ st5)
  refine wpAny_passesOwn hp (thn (hg _ s5 σ3 H5 x u _ I5' r5 (step x H5 y5)) fun _ s6 ⟨σ6,H6,I6,q6⟩=>?_)
  refine wpAny_passesOwn hp (thn (hb _ s6 σ6 H6 _ I6 q6) fun f s7 q7=>?_)
  have again:∀{σ7:St}{H7:Hp},Inv X (pins++Qth fp s5.heap) σ7 H7 s7->N σ7 H7->∃ m,m<n/\∃ i σ' H',Inv X pins σ' H' s7/\tn i s7.heap/\(∀ b∈fp,H' b=none)/\W i m σ' H':=fun {σ7 H7} I7 n7=>by
   obtain⟨m',hm,w7⟩:=hN σ7 H7 n7
   refine⟨m',hm,i+1,σ7,H7,I7.unpinned,T.keep _ _ _ st5 fun b hb o e=>(I7.pin (b,o) (List.mem_append_right _ (List.mem_append_right _ (Ql4 hb e)))).1,fun b hb=>?_,w7⟩
   obtain⟨o,e,d⟩:=T.obj _ _ st5 b hb
   exact(I7.pin (b,o) (List.mem_append_right _ (List.mem_append_right _ (Ql4 hb e)))).2.1
  cases f with
  | next=>obtain⟨σ7,H7,I7,n7⟩:=q7;exact again I7 n7
  | cont=>obtain⟨σ7,H7,I7,n7⟩:=q7;exact again I7 n7
  | brk=>obtain⟨σ7,H7,I7,q7⟩:=q7;exact⟨σ7,H7,I7.unpinned,q7⟩
  | ret v=>obtain⟨x7,σ7,H7,I7,r7,q7⟩:=q7;exact⟨x7,σ7,H7,I7.unpinned,r7,q7⟩
end
end L2
namespace L2
open PySem PySem.Spec PyProof.Rows
abbrev R2:=V->V->Hp->VK->Prop
def OpR(X:Cx)(f:Value->Value->Sem Value)(r:R2):Prop:=
 ∀(pins:List (Addr×Obj))(s:Shared)(σ:St)(H:Hp)(x y:V)(v u:Value)(Q:VK),Inv X pins σ H s->RelV x v->RelV y u->r x y H Q->
  wpAny (model X.prog X.w) X.A (f v u) (EP X pins σ Q) X.xe s
def UnR(X:Cx)(f:Value->Sem Value)(r:V->Hp->VK->Prop):Prop:=
 ∀(pins:List (Addr×Obj))(s:Shared)(σ:St)(H:Hp)(x:V)(v:Value)(Q:VK),Inv X pins σ H s->RelV x v->r x H Q->
  wpAny (model X.prog X.w) X.A (f v) (EP X pins σ Q) X.xe s
def CallR(X:Cx)(f:Value)(r:List V->Hp->VK->Prop):Prop:=
 ∀(pins:List (Addr×Obj))(s:Shared)(σ:St)(H:Hp)(xs:List V)(us:List Value)(Q:VK),Inv X pins σ H s->Vals xs us->r xs H Q->
  wpAny (model X.prog X.w) X.A (call f us) (EP X pins σ Q) X.xe s
def tOp(r:R2)(ta tb:TE):TE:=fun σ H Q=>ta σ H fun x H1=>tb σ H1 fun y H2=>r x y H2 Q
def tUn(r:V->Hp->VK->Prop)(ta:TE):TE:=fun σ H Q=>ta σ H fun x H1=>r x H1 Q
def rI(C:Int->Int->Prop)(g:Int->Int->V):R2:=fun x y H Q=>∃ i j,x=.int i/\y=.int j/\C i j/\Q (g i j) H
def rI0(g:Int->Int->V):R2:=fun x y H Q=>∃ i j,x=.int i/\y=.int j/\Q (g i j) H
def rU(g:Int->V):V->Hp->VK->Prop:=fun x H Q=>∃ i,x=.int i/\Q (g i) H
section
variable{X:Cx}{a b c:Expr}{ta tb tc:TE}{pos:Pos}
theorem binT(ha:PE X a ta)(hb:PE X b tb){pins:List (Addr×Obj)}{s:Shared}{σ:St}{H:Hp}{R:V->V->Hp->Prop}(I:Inv X pins σ H s)
 (h:ta σ H fun x H1=>tb σ H1 fun y H2=>R x y H2) {Q:Value->Shared->Prop} {f:Value->Value->Sem Value}
 (hf:∀ v u s2 x y H2,Inv X pins σ H2 s2->RelV x v->RelV y u->R x y H2->wpAny (model X.prog X.w) X.A (f v u) Q X.xe s2):
 wpAny (model X.prog X.w) X.A (eval a X.env) (fun v s₁=>wpAny (model X.prog X.w) X.A (eval b X.env) (fun u s₂ => wpAny (model X.prog X.w) X.A (f v u) Q X.xe s₂) X.xe s₁) X.xe s:=by
 refine thn (ha pins s σ H _ I h) fun v s1 ⟨x,H1,I1,r1,q1⟩=>?_
 refine thn (hb pins s1 σ H1 _ I1 q1) fun u s2 ⟨y,H2,I2,r2,q2⟩=>?_
 exact hf v u s2 x y H2 I2 r1 r2 q2
theorem pe_op{op:Operator}{r:R2}(ho:OpR X (binaryOp op) r)(ha:PE X a ta)(hb:PE X b tb):PE X (.BinOp a op b pos) (tOp r ta tb):=by
 intro pins s σ H Q I h
 exact wpAny_BinOp (binT ha hb I h fun v u s2 x y H2 I2 rx ry q=>ho pins s2 σ H2 x y v u Q I2 rx ry q)
theorem pe_un{op:UnaryOp}{r:V->Hp->VK->Prop}(ho:UnR X (unaryOp op) r)(ha:PE X a ta):PE X (.UnaryOp op a pos) (tUn r ta):=by
 intro pins s σ H Q I h
 exact UnaryOp_ (thn (ha pins s σ H _ I h) fun v s1 ⟨x,H1,I1,r1,q1⟩=>ho pins s1 σ H1 x v Q I1 r1 q1)
theorem opI{f:Value->Value->Sem Value}{C:Int->Int->Prop}{g:Int->Int->Int}
 (rule:∀(i j:Int)(t u:Tok)(s:Shared)(Q:Value->Shared->Prop)(E:Value->Shared->Prop),C i j->Q (.int (g i j) s.toks) { s with toks:=s.toks+1 }->wpAny (model X.prog X.w) X.A (f (.int i t) (.int j u)) Q E s):
 OpR X f (rI C fun i j=>.int (g i j)):=by
 intro pins s σ H x y v u Q I rx ry h
 obtain⟨i,j,rfl,rfl,hc,q⟩:=h
 obtain⟨t,rfl⟩:=rx
 obtain⟨t',rfl⟩:=ry
 exact rule i j t t' s _ _ hc ⟨.int (g i j),H,I.tok _,⟨_,rfl⟩,q⟩
theorem opI0{f:Value->Value->Sem Value}{g:Int->Int->Int}
 (rule:∀(i j:Int)(t u:Tok)(s:Shared)(Q:Value->Shared->Prop)(E:Value->Shared->Prop),Q (.int (g i j) s.toks) { s with toks:=s.toks+1 }->wpAny (model X.prog X.w) X.A (f (.int i t) (.int j u)) Q E s):
 OpR X f (rI0 fun i j=>.int (g i j)):=by
 intro pins s σ H x y v u Q I rx ry h
 obtain⟨i,j,rfl,rfl,q⟩:=h
 obtain⟨t,rfl⟩:=rx
 obtain⟨t',rfl⟩:=ry
 exact rule i j t t' s _ _ ⟨.int (g i j),H,I.tok _,⟨_,rfl⟩,q⟩
theorem opB0{f:Value->Value->Sem Value}{g:Int->Int->Bool}
 (rule:∀(i j:Int)(t u:Tok)(s:Shared)(Q:Value->Shared->Prop)(E:Value->Shared->Prop),Q (.bool (g i j)) s->wpAny (model X.prog X.w) X.A (f (.int i t) (.int j u)) Q E s):
 OpR X f (rI0 fun i j=>.bl (g i j)):=by
 intro pins s σ H x y v u Q I rx ry h
 obtain⟨i,j,rfl,rfl,q⟩:=h
 obtain⟨t,rfl⟩:=rx
 obtain⟨t',rfl⟩:=ry
 exact rule i j t t' s _ _ ⟨.bl (g i j),H,I,rfl,q⟩
def CPow(i j:Int):Prop:=0<=j/\j<=1000000/\i.natAbs<2 ^ 64
def CMul(i j:Int):Prop:=(-(2 ^ 64)<i/\i<2 ^ 64)∨(-(2 ^ 64)<j/\j<2 ^ 64)
theorem CMul.ok{i j:Int}(h:CMul i j):IntMulOk i j:=by
 rcases h with⟨h1,h2⟩ | ⟨h1,h2⟩
 ·exact .of_left (intBits_le_64 h1 h2)
 ·exact .of_right (intBits_le_64 h1 h2)
theorem QRL:OpR X (binaryOp .Add) (rI0 fun i j=>.int (i+j)):=opI0 fun _ _ _ _ _ _ _ q=>add_int q
theorem QRv:OpR X (binaryOp .Sub) (rI0 fun i j=>.int (i - j)):=opI0 fun _ _ _ _ _ _ _ q=>sub_int q
theorem QPt:OpR X (binaryOp .Mod) (rI (fun _ j=>j≠0) fun i j=>.int (i.fmod j)):=opI fun _ _ _ _ _ _ _ hc q=>mod_int' hc q
theorem QR4:OpR X (binaryOp .Pow) (rI CPow fun i j=>.int (i ^ j.toNat)):=opI fun _ _ _ _ _ _ _ hc q=>pow_int_small hc.1 hc.2.1 hc.2.2 q
theorem unI{f:Value->Sem Value}{g:Int->Int}
 (rule:∀(i:Int)(t:Tok)(s:Shared)(Q:Value->Shared->Prop)(E:Value->Shared->Prop),Q (.int (g i) s.toks) { s with toks:=s.toks+1 }->wpAny (model X.prog X.w) X.A (f (.int i t)) Q E s):
 UnR X f (rU fun i=>.int (g i)):=by
 intro pins s σ H x v Q I rx h
 obtain⟨i,rfl,q⟩:=h
 obtain⟨t,rfl⟩:=rx
 exact rule i t s _ _ ⟨.int (g i),H,I.tok _,⟨_,rfl⟩,q⟩
theorem QQB:UnR X (unaryOp .USub) (rU fun i=>.int (-i)):=unI fun _ _ _ _ _ q=>neg_int q
end
def scal:V->V->Bool
 | .non,.non=>true | .non,.int _=>true | .int _,.non=>true | .non,.bl _=>true | .bl _,.non=>true | .non,.str _=>true | .str _,.non=>true
 | .int _,.int _=>true | .bl _,.bl _=>true | .str _,.str _=>true | .byt _,.byt _=>true
 | .int _,.str _=>true | .str _,.int _=>true | .bl _,.str _=>true | .str _,.bl _=>true
 | _,_=>false
section
variable{X:Cx}{a b c:Expr}{ta tb tc:TE}{pos:Pos}
theorem QQ2{pins:List (Addr×Obj)}{σ:St}{H:Hp}{s:Shared}{Q:VK}{k k':Bool}(I:Inv X pins σ H s)(q:Q (.bl k) H)(e:k=k'):EP X pins σ Q (.bool k') s:=by
 subst e
 exact⟨.bl k,H,I,rfl,q⟩
theorem op_lt:OpR X (compareOp .Lt) (rI0 fun i j=>.bl (decide (i<j))):=opB0 fun _ _ _ _ _ _ _ q=>lt_int q
theorem op_le:OpR X (compareOp .LtE) (rI0 fun i j=>.bl (decide (i<=j))):=opB0 fun _ _ _ _ _ _ _ q=>le_int q
theorem op_gt:OpR X (compareOp .Gt) (rI0 fun i j=>.bl (decide (j<i))):=opB0 fun _ _ _ _ _ _ _ q=>gt_int q
theorem op_ge:OpR X (compareOp .GtE) (rI0 fun i j=>.bl (decide (j<=i))):=opB0 fun _ _ _ _ _ _ _ q=>ge_int q
theorem QNf:OpR X (compareOp .In) (fun x y H Q=>∃ i j,x=.str i/\y=.str j/\Q (.bl (!(Builtin.Str.occurrences j i 0 j.length 1).isEmpty)) H):=by
 intro pins s σ H x y v u Q I rx ry h
 obtain⟨i,j,rfl,rfl,q⟩:=h
 obtain⟨t,rfl⟩:=rx
 obtain⟨t',rfl⟩:=ry
 exact in_str (QQ2 I q rfl)
theorem OpR.or{f:Value->Value->Sem Value}{r r':R2}(h:OpR X f r)(h':OpR X f r'):OpR X f (fun x y H Q=>r x y H Q∨r' x y H Q):=by
 intro pins s σ H x y v u Q I rx ry q
 rcases q with q | q
 ·exact h pins s σ H x y v u Q I rx ry q
 ·exact h' pins s σ H x y v u Q I rx ry q
theorem Qmv(b:Expr){op:CmpOp}(h:op≠.In:=by decide)(h2:op≠.NotIn:=by decide):behindInMarks op b=false:=by
 have e1:(op == CmpOp.In)=false:=by cases op<;>first | rfl | exact absurd rfl h
 have e2:(op == CmpOp.NotIn)=false:=by cases op<;>first | rfl | exact absurd rfl h2
 cases b<;>simp[behindInMarks,e1,e2]
theorem QPV{op:CmpOp}{r:R2}(ho:OpR X (compareOp op) r)(ha:PE X a ta)(hb:PE X b tb)(hm:behindInMarks op b=false):PE X (.Compare a [op] [b] pos) (tOp r ta tb):=by
 intro pins s σ H Q I h
 exact wpAny_Compare1 (binT ha hb I h fun v u s2 x y H2 I2 rx ry q=>ho pins s2 σ H2 x y v u Q I2 rx ry q) hm
def tTest(t:TE):TT:=fun σ H Q=>t σ H fun x H'=>∃ k,x=.bl k/\Q k H'
theorem QQk{op:CmpOp}{r:R2}(ho:OpR X (compareOp op) r)(ha:PE X a ta)(hb:PE X b tb)(hm:behindInMarks op b=false):PT X (.Compare a [op] [b] pos) (tTest (tOp r ta tb)):=by
 intro pins s σ H Q I h
 refine wpAny_isTrue_Compare1 (thn (ha pins s σ H _ I h) fun v s1 ⟨x,H1,I1,r1,q1⟩=>thn (hb pins s1 σ H1 _ I1 q1) fun u s2 ⟨y,H2,I2,r2,q2⟩=>
  thn (ho pins s2 σ H2 x y v u _ I2 r1 r2 q2) fun c s3 ⟨z,H3,I3,r3,k,e,q3⟩=>?_) hm
 subst e
 cases r3
 exact wpAny_truthy_bool ⟨H3,I3,q3⟩
def QE6(r r':R2)(ta tb tc:TE):TE:=fun σ H Q=>ta σ H fun x H1=>tb σ H1 fun y H2=>r x y H2 fun z H3=>∃ k,z=.bl k/\
 (if k=true then tc σ H3 fun w' H4=>r' y w' H4 Q else Q (.bl false) H3)
theorem QN3{op op':CmpOp}{r r':R2}(ho:OpR X (compareOp op) r)(ho':OpR X (compareOp op') r')(ha:PE X a ta)(hb:PE X b tb)(hc:PE X c tc)
 (hm:lastMarks [op,op'] [b,c]=false:=by with_unfolding_all rfl):PE X (.Compare a [op,op'] [b,c] pos) (QE6 r r' ta tb tc):=by
 intro pins s σ H Q I h
 refine Compare_chain (thn (ha pins s σ H _ I h) fun v s1 ⟨x,H1,I1,r1,q1⟩=>chain_link (thn (hb pins s1 σ H1 _ I1 q1) fun u s2 ⟨y,H2,I2,r2,q2⟩=>
  thn (ho pins s2 σ H2 x y v u _ I2 r1 r2 q2) fun d s3 ⟨z,H3,I3,r3,k,e,q3⟩=>?_)) hm
 subst e
 cases r3
 refine wpAny_truthy_bool ?_
 cases k with
 | false=>exact ite_ff ⟨.bl false,H3,I3,rfl,q3⟩
 | true=>exact ite_tt (chain_last (thn (hc pins s3 σ H3 _ I3 q3) fun w' s4 ⟨z',H4,I4,r4,q4⟩=>ho' pins s4 σ H4 y z' u w' Q I4 r2 r4 q4))
theorem QNT{op op':CmpOp}{r r':R2}(ho:OpR X (compareOp op) r)(ho':OpR X (compareOp op') r')(ha:PE X a ta)(hb:PE X b tb)(hc:PE X c tc)
 (hm:lastMarks [op,op'] [b,c]=false:=by with_unfolding_all rfl):PT X (.Compare a [op,op'] [b,c] pos) (tTest (QE6 r r' ta tb tc)):=by
 intro pins s σ H Q I h
 refine isTrue_chain (thn (ha pins s σ H _ I h) fun v s1 ⟨x,H1,I1,r1,q1⟩=>test_link (thn (hb pins s1 σ H1 _ I1 q1) fun u s2 ⟨y,H2,I2,r2,q2⟩=>
  thn (ho pins s2 σ H2 x y v u _ I2 r1 r2 q2) fun d s3 ⟨z,H3,I3,r3,k,e,q3⟩=>?_)) hm
 subst e
 cases r3
 refine wpAny_truthy_bool ?_
 cases k with
 | false=>
  obtain⟨k',e',q'⟩:=q3
  cases e'
  exact ite_ff ⟨H3,I3,q'⟩
 | true=>
  refine ite_tt (test_last (thn (hc pins s3 σ H3 _ I3 q3) fun w' s4 ⟨z',H4,I4,r4,q4⟩=>thn (ho' pins s4 σ H4 y z' u w' _ I4 r2 r4 q4) fun d' s5 ⟨z2,H5,I5,r5,k2,e2,q5⟩=>?_))
  subst e2
  cases r5
  exact wpAny_truthy_bool ⟨H5,I5,q5⟩
theorem QtM:(sizeLine:Nat)<2 ^ 63:=by rw[sizeLine_eq];decide
theorem QKt:OpR X (binaryOp .Add) (fun x y H Q=>∃ i j,x=.str i/\y=.str j/\i.length+j.length<=sizeLine/\Q (.str (i++j)) H):=by
 intro pins s σ H x y v u Q I rx ry h
 obtain⟨i,j,rfl,rfl,hz,q⟩:=h
 obtain⟨t,rfl⟩:=rx
 obtain⟨t',rfl⟩:=ry
 exact add_str (fun t' tk=>⟨.str (i++j),H,I.tok _,⟨_,rfl⟩,q⟩) hz
theorem vals1{x:V}{us:List Value}(r:Vals [x] us):∃ u,us=[u]/\RelV x u:=by
 cases r with
 | cons r1 r2=>cases r2;exact⟨_,rfl,r1⟩
theorem vals2{x y:V}{us:List Value}(r:Vals [x,y] us):∃ u w',us=[u,w']/\RelV x u/\RelV y w':=by
 cases r with
 | cons r1 r2=>
  cases r2 with
  | cons r3 r4=>cases r4;exact⟨_,_,rfl,r1,r3⟩
theorem QNJ:CallR X (.builtin "abs") (fun xs H Q=>∃ i,xs=[.int i]/\Q (.int (if i<0 then -i else i)) H):=by
 intro pins s σ H xs us Q I r h
 obtain⟨i,rfl,q⟩:=h
 obtain⟨u,rfl,t,rfl⟩:=vals1 r
 exact call_abs_int fun u tk=>⟨.int (if i<0 then -i else i),H,I.tok _,⟨_,rfl⟩,q⟩
theorem QMo:CallR X (.type "int") (fun xs H Q=>(∃ i,xs=[.int i]/\Q (.int i) H)∨∃ k,xs=[.bl k]/\Q (.int (if k then 1 else 0)) H):=by
 intro pins s σ H xs us Q I r h
 rcases h with⟨i,rfl,q⟩ | ⟨k,rfl,q⟩
 ·obtain⟨u,rfl,t,rfl⟩:=vals1 r
  exact call_int_int ⟨.int i,H,I,⟨_,rfl⟩,q⟩
 ·obtain⟨u,rfl,r1⟩:=vals1 r
  cases r1
  exact call_int_bool ⟨.int (if k then 1 else 0),H,I.tok _,⟨_,rfl⟩,q⟩
end
end L2
namespace L2
open PySem PySem.Spec PyProof.Rows
structure ObjM(h:Heap)(x dx C:Addr)(mA:Str->Option Value):Prop where
 obj:h.get? x=some (PySem.W.instObj C dx)
 ns:h.Ns1 dx mA
 ne:dx≠x
theorem QMW{h:Heap}{dx:Addr}{mA:Str->Option Value}(n:h.Ns1 dx mA):∃ od,h.get? dx=some od/\∀ name,PySem.W.lookIn name od=some (mA name):=by
 obtain⟨o,es,ep,ho,hd,hk,_,hm⟩:=n
 refine⟨o,ho,fun name=>?_⟩
 have e:=hm name
 unfold nsFind findBy at e
 rw[← Array.find?_toList]at e
 unfold PySem.W.lookIn
 rw[hd]
 dsimp only
 split
 ·rename_i y q
  rw[q]at e
  exact congrArg some e
 ·rename_i q
  rw[q]at e
  have a:es.toList.any (·.refKey)=false:=by
   rw[List.any_eq_false]
   intro y hy
   obtain⟨z,t,hkey⟩:=hk y (Array.mem_toList_iff.mp hy)
   simp[DictEntry.refKey,hkey]
  have a':¬ es.toList.any (·.refKey)=true:=by rw[a];exact Bool.false_ne_true
  rw[if_neg a']
  exact congrArg some e
theorem ObjM.look{h:Heap}{x dx C:Addr}{mA:Str->Option Value}(I:ObjM h x dx C mA):∃ od,PySem.W.InstAt h x (PySem.W.instObj C dx) C (some od)/\∀ name,PySem.W.lookIn name od=some (mA name):=
 let ⟨od,ho,hl⟩:=QMW I.ns
 ⟨od,⟨I.obj,rfl,rfl,ho⟩,hl⟩
section
variable{prog:Program}{w:World}{A:Around}{E:Value->Shared->Prop}{s:Shared}{K:PySem.W.Frag}{x dx C f:Addr}{mA:Str->Option Value}{name:Str}{v:Value}
theorem QO4{expr:Bool}{Q:Value->Shared->Prop}(X:K.In s.heap)(I:ObjM s.heap x dx C mA)(hg:PySem.W.plainGet K C name=true)(hh:PySem.W.hasDictIn K C=true)
 (ha:PySem.W.findIn K (.ref C) name=some none) (hv:mA name=some v) (hv':PySem.W.handedIn v=true) (h:Q v { s with toks:=s.toks+1 }):
 wpAny (model prog w) A (getAttr (.ref x) name expr) Q E s:=by
 obtain⟨od,J,hl⟩:=I.look
 exact PySem.W.get_value X J (PySem.W.plainGet_of hg).1 (PySem.W.findObj_own hh ha rfl (by rw[hl,hv])) hv' h
theorem QN1{pl:Sem Bool}{Q:Value×List Value->Shared->Prop}(X:K.In s.heap)(I:ObjM s.heap x dx C mA)(hg:PySem.W.plainGet K C name=true)
 (hf:PySem.W.findIn K (.ref C) name=some (some (.ref f))) (ht:PySem.W.isFn K (.ref f)=true) (hv:mA name=none) (h:Q (.ref f,[.ref x]) s):
 wpAny (model prog w) A (getMethod (.ref x) name pl) Q E s:=by
 obtain⟨od,J,hl⟩:=I.look
 exact PySem.W.method_fn X J (PySem.W.plainGet_of hg).1 (PySem.W.plainGet_of hg).2 hf (beq_iff_eq.mp ht) (by show(PySem.W.lookIn name od).map (·.isSome)=some false;rw[hl,hv];rfl) h
theorem QO9{ns:List Str}{Q:Unit->Shared->Prop}(X:K.In s.heap)(I:ObjM s.heap x dx C mA)
 (hs:PySem.W.findIn K (.ref C) "__setattr__"=some (some (.builtin "object.__setattr__"))) (hp:PySem.W.plainOver K C=true) (ht:PySem.W.takerIn K C name=some none) (hh:PySem.W.hasDictIn K C=true)
 (hw:PySem.Within mA ns) (hsz:ns.length<=sizeLine)
 (h:∀ h',ObjM h' x dx C (fun y=>if y=name then some v else mA y)->Heap.SameBut dx s.heap h'->Q () { s with heap:=h',toks:=s.toks+2 }):
 wpAny (model prog w) A (setAttr (.ref x) name v) Q E s:=by
 obtain⟨od,J,hl⟩:=I.look
 refine PySem.W.set_plain X J hs (PySem.W.osa_open (s:={ s with toks:=s.toks+1 }) (r:=none) X J hp ht fun b=>?_)
 obtain⟨cd,hc,hd'⟩:=PySem.W.any_some hh
 have hx:s.heap.get? x=some ⟨.ref C,some dx,.plain, #[]⟩:=I.obj
 refine wpAny_bind (wpAny_pure (wpAny_bind (wpAny_bind (wpAny_loadPart hx (wpAny_bind (PySem.W.Looks.here (s:={ s with toks:=s.toks+1 }) (PySem.W.looks_clsIn X hc) ?_))))))
 rw[hd']
 refine wpAny_pure (a:=some dx) (wpAny_bind (wpAny_pure (wpAny_bind ?_)))
 refine wpAny_nsSet1 (s:={ s with toks:=s.toks+1 }) I.ns fun h' hn2 hs2=>?_
 obtain⟨oD,esD,epD,hoD,hdD,hcD⟩:=hn2.count (PySem.Within.cons name v hw)
 refine wpAny_bind (wpAny_lookBehind hoD (by rw[hdD];exact pastItsLine_dict (Nat.le_trans hcD (by rw[List.length_cons];omega))) ?_)
 exact wpAny_pure (h _ ⟨(hs2.2 _ (Ne.symm I.ne)).trans I.obj,hn2,I.ne⟩ hs2)
theorem QNQ{R:Result->Shared->Prop}{vs:List Value}{kw:List (Str×Value)}(X:K.In s.heap)(hm:PySem.W.makesIn K C=true)
 (hi:PySem.W.findIn K (.ref C) "__init__"=some (some (.ref f))) (hf:PySem.W.typeIn K (.ref f)=some (.type "function"))
 (h:codeAny (model prog w) (A.under (.builtin "type.__call__" ⟨.ref C::vs,kw⟩)) (.call (.ref f) ⟨.ref (s.heap.objs.size+1)::vs,kw⟩) (PySem.W.InitBack (s.heap.objs.size+1) R)
  { s with heap:=(s.heap.push PySem.W.emptyDict).push (PySem.W.instObj C s.heap.objs.size) }):
 codeAny (model prog w) A (.call (.ref C) ⟨vs,kw⟩) R s:=by
 obtain⟨hh,g,d,t,os⟩:=s
 exact PySem.W.make_core (PySem.W.makes_of X hm) (PySem.W.looks_findIn X hi) (fun self=>PySem.W.bind_fn X self hf) (.inl rfl) h
end
def putF(f:Str)(v:V):List (Str×V)->List (Str×V)
 | []=>[(f,v)]
 | (g,x)::r=>if g=f then(g,v)::r else(g,x)::putF f v r
theorem Qvx(f g:Str)(v:V):∀ fs:List (Str×V),(putF f v fs).lookup g=if g=f then some v else fs.lookup g
 | []=>by
  show List.lookup g [(f,v)]=_
  by_cases h:g=f
  ·have hb:(g == f)=true:=beq_iff_eq.mpr h
   simp only[List.lookup,hb,if_pos h]
  ·have hb:(g == f)=false:=beq_eq_false_iff_ne.mpr h
   simp only[List.lookup,hb,if_neg h]
 | (k,x)::r=>by
  have ih:=Qvx f g v r
  rw[show putF f v ((k,x)::r)=(if k=f then(k,v)::r else(k,x)::putF f v r) from rfl]
  by_cases hk:k=f
  ·rw[if_pos hk]
   by_cases h:g=k
   ·have hb:(g == k)=true:=beq_iff_eq.mpr h
    simp only[List.lookup,hb,if_pos (h.trans hk)]
   ·have hb:(g == k)=false:=beq_eq_false_iff_ne.mpr h
    simp only[List.lookup,hb,if_neg (fun e:g=f=>h (e.trans hk.symm))]
  ·rw[if_neg hk]
   by_cases h:g=k
   ·have hb:(g == k)=true:=beq_iff_eq.mpr h
    simp only[List.lookup,hb,if_neg (fun e:g=f=>hk (h.symm.trans e))]
   ·have hb:(g == k)=false:=beq_eq_false_iff_ne.mpr h
    simp only[List.lookup,hb]
    exact ih
theorem Qs5(f:Str)(v:V):∀ fs:List (Str×V),f∈(putF f v fs).map (·.1)/\∀ g,g∈fs.map (·.1)->g∈(putF f v fs).map (·.1)
 | []=>⟨by simp[putF],fun g h=>by simp at h⟩
 | (k,x)::r=>by
  obtain⟨i1,i2⟩:=Qs5 f v r
  rw[show putF f v ((k,x)::r)=(if k=f then(k,v)::r else(k,x)::putF f v r) from rfl]
  by_cases hk:k=f
  ·rw[if_pos hk]
   subst hk
   exact⟨by simp,fun g h=>by simpa using h⟩
  ·rw[if_neg hk]
   refine⟨?_,fun g h=>?_⟩
   ·rw[List.map_cons]
    exact List.mem_cons_of_mem _ i1
   ·rw[List.map_cons]at h ⊢
    rcases List.mem_cons.mp h with e | e
    ·exact List.mem_cons.mpr (.inl e)
    ·exact List.mem_cons_of_mem _ (i2 g e)
theorem Qvu(f:Str)(v:V):∀ fs:List (Str×V),(putF f v fs).length<=fs.length+1
 | []=>by simp[putF]
 | (k,x)::r=>by
  have ih:=Qvu f v r
  rw[show putF f v ((k,x)::r)=(if k=f then(k,v)::r else(k,x)::putF f v r) from rfl]
  by_cases hk:k=f
  ·rw[if_pos hk,List.length_cons,List.length_cons];omega
  ·rw[if_neg hk,List.length_cons,List.length_cons];omega
theorem RelO.some_of{v:V}{o:Option Value}(r:RelO (some v) o):∃ u,o=some u/\RelV v u:=by
 cases o with
 | none=>exact(show False from r).elim
 | some u=>exact⟨u,rfl,r⟩
theorem RelO.none_of{o:Option Value}(r:RelO none o):o=none:=by
 cases o with
 | none=>rfl
 | some u=>exact(show False from r).elim
theorem QLZ{v:V}{u:Value}(r:RelV v u):PySem.W.handedIn u=true:=by
 cases v with
 | non=>cases (show u=Value.none from r);rfl
 | bl b=>cases (show u=Value.bool b from r);rfl
 | int i=>obtain⟨t,e⟩:=(show ∃ t,u=Value.int i t from r);cases e;rfl
 | str x=>obtain⟨t,e⟩:=(show ∃ t,u=Value.str x t from r);cases e;rfl
 | byt b=>obtain⟨t,e⟩:=(show ∃ t,u=Value.bytes b t from r);cases e;rfl
 | flt b=>obtain⟨t,e⟩:=(show ∃ t,u=Value.float b t from r);cases e;rfl
 | ref a=>cases (show u=Value.ref a from r);rfl
 | ty n=>cases (show u=Value.type n from r);rfl
section
variable{P:Program}{w:World}{H H':Hp}{h h':Heap}{a C dx:Addr}{fs fs':List (Str×V)}
theorem Qqp(hok:HOk P w H h)(e:H a=some (.ins C dx fs)):∃ mA,ObjM h a dx C mA/\(∀ f,RelO (fs.lookup f) (mA f))/\PySem.Within mA (fs.map (·.1))/\fs.length<=1000/\H dx=some (.own a):=by
 obtain⟨d,z,ne,ob,mA,n,r,q⟩:=(show ObjOk P w H h a (.ins C dx fs) from hok a _ e)
 exact⟨mA,⟨ob,n,ne⟩,r,q,z,d⟩
end
structure Cls(K:PySem.W.Frag)(C:Addr):Prop where
 pg:PySem.W.plainGet K C Str.empty=true
 hd:PySem.W.hasDictIn K C=true
 po:PySem.W.plainOver K C=true
 sa:PySem.W.findIn K (.ref C) "__setattr__"=some (some (.builtin "object.__setattr__"))
theorem Cls.get{K:PySem.W.Frag}{C:Addr}(c:Cls K C)(f:Str):PySem.W.plainGet K C f=true:=c.pg
def Qmu(K:PySem.W.Frag)(C:Addr)(f:Str):Prop:=PySem.W.findIn K (.ref C) f=some none
theorem Qmu.taker{K:PySem.W.Frag}{C:Addr}{f:Str}(n:Qmu K C f):PySem.W.takerIn K C f=some none:=by
 unfold PySem.W.takerIn
 rw[show PySem.W.findIn K (.ref C) f=some none from n]
 rfl
structure Con(K:PySem.W.Frag)(C:Addr)(f:Str)(v:V)(u:Value):Prop where
 at_:PySem.W.findIn K (.ref C) f=some (some u)
 rel:RelV v u
 get:PySem.W.specialIn K u "__get__"=some none
 cp:PySem.W.copiedNames.contains f=false
structure Meth(K:PySem.W.Frag)(C:Addr)(m:Str)(f:Addr):Prop where
 at_:PySem.W.findIn K (.ref C) m=some (some (.ref f))
 fn:PySem.W.isFn K (.ref f)=true
 kp:PySem.W.keepIn K (.ref f)=true
section
variable{X:Cx}{pins:List (Addr×Obj)}{σ:St}{H:Hp}{s:Shared}{a C dx:Addr}{fs:List (Str×V)}{f:Str}{v:V}{A:Around}{E:Value->Shared->Prop}
theorem QKj{b:Bool}{Q:Value->Shared->Prop}(I:Inv X pins σ H s)(e:H a=some (.ins C dx fs))(c:Cls X.K C)(n:Qmu X.K C f)(l:fs.lookup f=some v)
 (h:∀ u s',Inv X pins σ H s'->RelV v u->Q u s'):wpAny (model X.prog X.w) A (getAttr (.ref a) f b) Q E s:=by
 obtain⟨mA,O,r,_,_,_⟩:=Qqp I.hok e
 obtain⟨u,hu,ru⟩:=RelO.some_of (v:=v) (o:=mA f) (by rw[← l];exact r f)
 exact QO4 I.kIn O (c.get f) c.hd n hu (QLZ ru) (h u _ (I.tok _) ru)
theorem Qyb{m:Str}{g:Addr}{pl:Sem Bool}{Q:Value×List Value->Shared->Prop}(I:Inv X pins σ H s)(e:H a=some (.ins C dx fs))(c:Cls X.K C)(k:Meth X.K C m g)(l:fs.lookup m=none)
 (h:Q (.ref g,[.ref a]) s):wpAny (model X.prog X.w) A (getMethod (.ref a) m pl) Q E s:=by
 obtain⟨mA,O,r,_,_,_⟩:=Qqp I.hok e
 have hn:mA m=none:=RelO.none_of (by rw[← l];exact r m)
 exact QN1 I.kIn O (c.get m) k.at_ k.fn hn h
theorem QLv{y:V}{u:Value}{Q:Unit->Shared->Prop}(I:Inv X pins σ H s)(e:H a=some (.ins C dx fs))(c:Cls X.K C)(n:Qmu X.K C f)(hl:fs.length<1000)(ry:RelV y u)
 (h:∀ s',Inv X pins σ (upd H a (.ins C dx (putF f y fs))) s'->Q () s'):wpAny (model X.prog X.w) A (setAttr (.ref a) f u) Q E s:=by
 obtain⟨mA,O,r,wi,_,ho⟩:=Qqp I.hok e
 have hz:(fs.map (·.1)).length<=sizeLine:=by rw[List.length_map,sizeLine_eq];omega
 refine QO9 I.kIn O c.sa c.po n.taker c.hd wi hz fun h' O' sb=>h _ ?_
 have hd:∃ o,h'.get? dx=some o:=let ⟨o,_,_,e',_⟩:=O'.ns;⟨o,e'⟩
 refine I.write (x:=a) (e:=dx) (by rw[e];exact True.intro) (.inr ho) (fun b q hb z=>(sb.2 b hb).trans z) hd ?_
 refine⟨by rw[Qk O.ne];exact ho,?_,O.ne,O'.obj,_,O'.ns,fun g=>?_,fun g hg=>?_⟩
 ·have:=Qvu f y fs;omega
 ·show RelO ((putF f y fs).lookup g) (if g=f then some u else mA g)
  rw[Qvx]
  by_cases q:g=f
  ·rw[if_pos q,if_pos q];exact ry
  ·rw[if_neg q,if_neg q];exact r g
 ·by_cases q:g=f
  ·rw[q];exact(Qs5 f y fs).1
  ·refine(Qs5 f y fs).2 g (wi g fun z=>hg ?_)
   show(if g=f then some u else mA g)=none
   rw[if_neg q];exact z
theorem Inv.made(I:Inv X pins σ H s):Inv X pins σ (upd (upd H s.heap.objs.size (.own (s.heap.objs.size+1))) (s.heap.objs.size+1) (.ins C s.heap.objs.size []))
 { s with heap:=(s.heap.push PySem.W.emptyDict).push (PySem.W.instObj C s.heap.objs.size) }:=by
 have e1:(s.heap.push PySem.W.emptyDict).get? s.heap.objs.size=some PySem.W.emptyDict:=Heap.get?_push_size s.heap rfl
 have e2:((s.heap.push PySem.W.emptyDict).push (PySem.W.instObj C s.heap.objs.size)).get? (s.heap.objs.size+1)=some (PySem.W.instObj C s.heap.objs.size):=by
  have:=Heap.get?_push_size (s.heap.push PySem.W.emptyDict) (o:=PySem.W.instObj C s.heap.objs.size) rfl
  rwa [Heap.size_push]at this
 have e3:(s.heap.push PySem.W.emptyDict).Ns s.heap.objs.size (fun _=>none):=⟨PySem.W.emptyDict, #[],_,e1,rfl,(fun e he=>absurd he (by simp)),fun _=>rfl⟩
 have I1:=I.laid (a:=s.heap.objs.size) (o:=.own (s.heap.objs.size+1)) (h':=s.heap.push PySem.W.emptyDict) (t':=s.toks) (fun b u q=>Heap.get?_push_of_some _ q) (Nat.le_refl _) ⟨_,e1⟩
 refine I1.laid (a:=s.heap.objs.size+1) (o:=.ins C s.heap.objs.size []) (t':=s.toks) (fun b u q=>Heap.get?_push_of_some _ q) (Nat.le_of_eq (Heap.size_push _ _)) ?_
 have ne:s.heap.objs.size≠s.heap.objs.size+1:=Nat.ne_of_lt (Nat.lt_succ_self _)
 refine⟨by rw[Qk ne,QS],Nat.zero_le _,ne,e2,fun _=>none,(Heap.Ns1.of_empty e3).at fun o q=>Heap.get?_push_of_some _ q,fun _=>True.intro,fun y hy=>absurd rfl hy⟩
theorem QPY{prog:Program}{w:World}{env:Env}{e:Expr}{f:Str}{pos:Pos}{s:Shared}{Q:Value->Shared->Prop}(hb:attributeBase e f env (eval e env)=eval e env)
 (h:wpAny (model prog w) A (eval e env) (fun o s₁=>wpAny (model prog w) A (getAttr o f true) Q E s₁) E s):wpAny (model prog w) A (eval (.Attribute e f pos) env) Q E s:=
 Attribute_any_ h (by rw[arm_eval_Attribute,hb])
end
def tFld(K:PySem.W.Frag)(ta:TE)(f:Str):TE:=fun σ H Q=>ta σ H fun x H1=>∃ a C dx fs v,x=.ref a/\H1 a=some (.ins C dx fs)/\Cls K C/\Qmu K C f/\fs.lookup f=some v/\Q v H1
def sFld(K:PySem.W.Frag)(ta tv:TE)(f:Str):TS:=fun D σ H=>tv σ H fun y H1=>ta σ H1 fun x H2=>∃ a C dx fs,x=.ref a/\H2 a=some (.ins C dx fs)/\Cls K C/\Qmu K C f/\fs.length<1000/\
 D.nx σ (upd H2 a (.ins C dx (putF f y fs)))
section
variable{X:Cx}{o e value:Expr}{f:Str}{pos pos' tpos:Pos}{ta tv:TE}
theorem QRR(he:PE X e ta)(hb:attributeBase e f X.env (eval e X.env)=eval e X.env):PE X (.Attribute e f pos) (tFld X.K ta f):=by
 intro pins s σ H Q I h
 refine QPY hb (thn (he pins s σ H _ I h) fun u s1 ⟨x,H1,I1,rx,a,C,dx,fs,v,ex,ea,c,n,l,q⟩=>?_)
 subst ex
 obtain rfl:u=Value.ref a:=rx
 exact QKj I1 ea c n l fun u' s2 I2 ru=>⟨v,H1,I2,ru,q⟩
theorem QR6(ha:PE X o ta)(hv:PE X value tv)(hs:swapsWith value (some (.Attribute o f pos')) pos.line X.env=pure false):PS X (.Assign [.Attribute o f pos'] value pos) (sFld X.K ta tv f):=by
 intro pins s σ H D I h
 refine plainObj_wpAny_Assign_Attribute (thn (hv pins s σ H _ I h) fun u s1 ⟨y,H1,I1,ry,q⟩=>thn (ha pins s1 σ H1 _ I1 q) fun ov s2 ⟨x,H2,I2,rx,a,C,dx,fs,ex,ea,c,n,l,q2⟩=>?_) hs
 subst ex
 obtain rfl:ov=Value.ref a:=rx
 exact QLv I2 ea c n l ry fun s3 I3=>⟨σ,_,I3,q2⟩
end
section
variable{X:Cx}{pins:List (Addr×Obj)}{σ:St}{H:Hp}{s:Shared}{A:Around}{E:Value->Shared->Prop}{Q:Value->Shared->Prop}{c:Value}{b:Bool}
inductive TyOf(K:PySem.W.Frag)(H:Hp):V->Value->Prop where
 | non:TyOf K H .non (.type "NoneType")
 | bl (x:Bool):TyOf K H (.bl x) (.type "bool")
 | int (i:Int):TyOf K H (.int i) (.type "int")
 | str (x:Str):TyOf K H (.str x) (.type "str")
 | flt (x:UInt64):TyOf K H (.flt x) (.type "float")
 | lst {a:Addr} {xs:List V} (e:H a=some (.lst xs)):TyOf K H (.ref a) (.type "list")
 | frz {a:Addr} {o:Obj} {xs:List V} (e:H a=some (.frz o (.lst xs))):TyOf K H (.ref a) (.type "list")
 | tup {a:Addr} {xs:List V} (e:H a=some (.tup xs)):TyOf K H (.ref a) (.type "tuple")
 | dK {a:Addr} {kvs:List (Key×V)} (e:H a=some (.dK kvs)):TyOf K H (.ref a) (.type "dict")
 | dT {a:Addr} {kvs:List (List Key×V)} (e:H a=some (.dT kvs)):TyOf K H (.ref a) (.type "dict")
 | ins {a C dx:Addr} {fs:List (Str×V)} (e:H a=some (.ins C dx fs)) (cl:Cls K C) (ha:PySem.W.findIn K (.ref C) "__class__"=some (some (.builtin "object.__class__")))
  (hn:PySem.W.specialIn K (.builtin "object.__class__") "__get__"=some (some (.builtin "getset_descriptor.__get__"))) (htk:PySem.W.takesIn K (.builtin "object.__class__")=some true)
  (hm:PySem.W.mroIn K C (.type "object")=some true):TyOf K H (.ref a) (.ref C)
end
end L2
namespace L2
open PySem PySem.Spec PyProof.Rows
structure Room(k:Nat)(A:Around):Prop where
 hd:A.handled=none
 dp:A.depth+3 * k+5<recursionLimit
 un:A.units+16 * k+200<cLine
theorem Room.mono{j k:Nat}{A:Around}(r:Room k A)(h:j<=k):Room j A:=⟨r.hd,by have:=r.dp;omega,by have:=r.un;omega⟩
theorem Room.deeper{k:Nat}{A:Around}(r:Room (k+1) A)(env:Env):Room k (A.deeper env):=
 ⟨r.hd,by have:=r.dp;show A.depth+1+3 * k+5<_;omega,by have:=r.un;show A.units+3+16 * k+200<_;omega⟩
theorem QLg{A:Around}{C:Addr}{us:List Value}{kw:List (Str×Value)}:(A.under (.builtin "type.__call__" ⟨.ref C::us,kw⟩)).depth=A.depth+1:=by
 first | rfl | simp[Around.under,Code.weight,Code.isCreation,Code.isGuard,Code.isCaller,Code.frames,Code.isFrame,guardIds]
theorem QKF{A:Around}{C:Addr}{us:List Value}{kw:List (Str×Value)}:(A.under (.builtin "type.__call__" ⟨.ref C::us,kw⟩)).units=A.units+1:=by
 first | rfl | simp[Around.under,Code.cUnits,Code.frames,Code.isFrame]
theorem Room.make{k:Nat}{A:Around}(r:Room (k+1) A)(C:Addr)(us:List Value)(kw:List (Str×Value)):Room k (A.under (.builtin "type.__call__" ⟨.ref C::us,kw⟩)):=
 ⟨r.hd,by have:=r.dp;rw[QLg];omega,by have:=r.un;rw[QKF];omega⟩
theorem Room.depth{k:Nat}{A:Around}(r:Room k A):A.depth<recursionLimit:=by have:=r.dp;omega
theorem Room.units{k:Nat}{A:Around}(r:Room k A):A.units+64<cLine:=by have:=r.un;omega
def tNil:TA:=fun _ H Q=>Q [] H
def tCons(ta:TE)(tr:TA):TA:=fun σ H Q=>ta σ H fun x H1=>tr σ H1 fun xs H2=>Q (x::xs) H2
section
variable{X:Cx}{e:Expr}{es:List Expr}{te:TE}{t:TA}{pos:Pos}
theorem Qge:PA X [] tNil:=fun _ _ _ _ H Q I h=>Calls.spliced_nil ⟨[],H,I,.nil,h⟩
theorem QcY(ha:PE X e te)(hr:PA X es t)(hs:starEach (e::es) X.env=(false,eval e X.env)::starEach es X.env:=by rfl):PA X (e::es) (tCons te t):=by
 intro pos pins s σ H Q I h
 rw[hs]
 show wpAny _ _ (spliced ((false,eval e X.env)::backTo pos (starEach es X.env))) _ _ s
 refine Calls.spliced_cons (thn (ha pins s σ H _ I h) fun u s1 ⟨x,H1,I1,r1,q1⟩=>?_)
 exact thn (hr pos pins s1 σ H1 _ I1 q1) fun us s2 ⟨xs,H2,I2,r2,q2⟩=>⟨x::xs,H2,I2,.cons r1 r2,q2⟩
def tTup(t:TA):TE:=fun σ H Q=>t σ H fun xs H1=>xs.length<=sizeLine/\∀ p,H1 p=none->Q (.ref p) (upd H1 p (.tup xs))
def tLst(t:TA):TE:=fun σ H Q=>t σ H fun xs H1=>xs.length<=sizeLine/\∀ p,H1 p=none->Q (.ref p) (upd H1 p (.lst xs))
theorem QMJ{x1}(h:PA X es t):PE X (.Tuple es x1 pos) (tTup t):=by
 intro pins s σ H Q I hq
 refine wpAny_Tuple_spliced (thn (h pos pins s σ H _ I hq) fun us s1 ⟨xs,H1,I1,r,z,q⟩=>⟨by rw[← r.length];exact z,?_⟩)
 have hf:H1 s1.heap.objs.size=none:=I1.hok.fresh (Nat.le_refl _)
 refine⟨.ref s1.heap.objs.size,upd H1 s1.heap.objs.size (.tup xs),I1.laid (t':=s1.toks) (fun b u e=>Heap.get?_push_of_some _ e) (Nat.le_refl _) ?_,rfl,q _ hf⟩
 exact⟨z,us,r,⟨_,Heap.get?_push_size _ rfl,rfl,_,rfl⟩⟩
theorem QQF(h:PA X es t):PE X (.List es pos) (tLst t):=by
 intro pins s σ H Q I hq
 refine wpAny_List_spliced (thn (h pos pins s σ H _ I hq) fun us s1 ⟨xs,H1,I1,r,z,q⟩=>⟨by rw[← r.length];exact z,?_⟩)
 have hf:H1 s1.heap.objs.size=none:=I1.hok.fresh (Nat.le_refl _)
 refine⟨.ref s1.heap.objs.size,upd H1 s1.heap.objs.size (.lst xs),I1.laid (t':=s1.toks) (fun b u e=>Heap.get?_push_of_some _ e) (Nat.le_refl _) ?_,rfl,q _ hf⟩
 exact⟨z,us,0,r,Heap.get?_push_size _ rfl⟩
end
abbrev Sp:=List V->Hp->VK->XK->Prop
abbrev CXT:=List Env->Hp->Shared->XK->Value->Shared->Prop
structure Env0(P:Program)(w:World)(K:PySem.W.Frag)(mg:Str->Option Value)(base:Heap)(A:Around)(outer:List Env)(s:Shared)(H:Hp):Prop where
 frames:A.frames=some outer
 mod:Mod K mg base
 bs:∀ b o,base.get? b=some o->s.heap.get? b=some o/\H b=none
 bsz:base.objs.size<=s.heap.objs.size
 funs:s.heap.FunFrames base outer
 frf:∀ b∈frs outer,H b=none
 hok:HOk P w H s.heap
 bare:AllBare s.gens
def CE(outer:List Env)(P:Program)(w:World)(H:Hp)(s:Shared)(Q:VK)(u:Value)(s':Shared):Prop:=
 ∃ v H',s'.os=s.os/\AllBare s'.gens/\Un (frs outer) [] H H' s.heap s'.heap/\HOk P w H' s'.heap/\RelV v u/\Q v H'
def CR(CX:CXT)(outer:List Env)(P:Program)(w:World)(H:Hp)(s:Shared)(Q:VK)(E:XK)(r:Result)(s':Shared):Prop:=
 match r with
 | .ok (.ret u)=>CE outer P w H s Q u s'
 | .ok _=>False
 | .error e=>CX outer H s E e s'
structure FnOk(P:Program)(w:World)(K:PySem.W.Frag)(mg:Str->Option Value)(base:Heap)(CX:CXT)(k:Nat)(f:Addr)(fd:FuncData)(ps:List Str)(sp:Sp):Prop where
 len:∀ vs H Q E,sp vs H Q E->vs.length=ps.length
 run:∀(A:Around)(outer:List Env)(s:Shared)(H:Hp)(args:Args)(us:List Value)(vs:List V)(Q:VK)(E:XK),Room k A->Env0 P w K mg base A outer s H->BindsTo s fd args (ps.zip us)->Vals vs us->sp vs H Q E->
  codeAny (model P w) A (.call (.ref f) args) (CR CX outer P w H s Q E) s
theorem FnOk.mono{P:Program}{w:World}{K:PySem.W.Frag}{mg:Str->Option Value}{base:Heap}{CX:CXT}{j k:Nat}{f:Addr}{fd:FuncData}{ps:List Str}{sp:Sp}(F:FnOk P w K mg base CX j f fd ps sp)(h:j<=k):
 FnOk P w K mg base CX k f fd ps sp:=⟨F.len,fun A outer s H args us vs Q E hr=>F.run A outer s H args us vs Q E (hr.mono h)⟩
theorem Env0.make{P:Program}{w:World}{K:PySem.W.Frag}{mg:Str->Option Value}{base:Heap}{A:Around}{outer:List Env}{s:Shared}{H:Hp}(e:Env0 P w K mg base A outer s H)(C:Addr)(us:List Value)(kw:List (Str×Value)):
 Env0 P w K mg base (A.under (.builtin "type.__call__" ⟨.ref C::us,kw⟩)) outer s H:=⟨by first | exact e.frames | (simpa [Around.under,Code.envs,Code.isFrame,pushEnvs] using e.frames),e.mod,e.bs,e.bsz,e.funs,e.frf,e.hok,e.bare⟩
section
variable{X:Cx}{pins:List (Addr×Obj)}{σ:St}{H:Hp}{s s':Shared}
theorem Inv.env0(I:Inv X pins σ H s):Env0 X.prog X.w X.K X.mg X.base X.A X.stack s H:=
 ⟨I.ok.frames,I.ok.mod,I.bs,Nat.le_trans I.ok.bsz I.sz,I.stack,I.stkFree,I.hok,I.bare⟩
theorem Inv.after{Q:VK}{u:Value}(I:Inv X pins σ H s)(h:CE X.stack X.prog X.w H s Q u s'):EP X pins σ Q u s':=by
 obtain⟨v,H',os,bare,un,hok,r,q⟩:=h
 obtain⟨hh,g,d,t,os'⟩:=s'
 obtain rfl:os'=s.os:=os
 exact⟨v,H',I.call (h':=hh) (g':=g) (d':=d) (t':=t) (ch:=[]) un hok bare (fun b z=>absurd z (by simp)),r,q⟩
end
def tCall(sp:Sp)(dvs:List V)(E:XK)(t:TA):TE:=fun σ H Q=>t σ H fun vs H1=>sp (vs++dvs) H1 Q E
def tMake(C:Addr)(sp:Sp)(dvs:List V)(E:XK)(t:TA):TE:=fun σ H Q=>t σ H fun vs H1=>∀ x dx,H1 x=none->H1 dx=none->dx≠x->
 sp (.ref x::(vs++dvs)) (upd (upd H1 dx (.own x)) x (.ins C dx [])) (fun v H2=>v=.non/\Q (.ref x) H2) E
def Binds(K:PySem.W.Frag)(fd:FuncData)(ps:List Str)(ds:List Value):Prop:=
 ∀(s:Shared)(us:List Value),K.In s.heap->(us++ds).length=ps.length->BindsTo s fd ⟨us,[]⟩ (ps.zip (us++ds))
theorem Binds.all{K:PySem.W.Frag}{fd:FuncData}{ps:List Str}(h:∀ us:List Value,us.length=ps.length->bindArgs fd ⟨us,[]⟩=pure (ps.zip us)):Binds K fd ps []:=fun s us _ hl=>by
 rw[List.append_nil]at hl ⊢
 exact .of_eq (h us hl)
def Qiq(CX:CXT)(X:Cx)(E:XK):Prop:=∀(pins:List (Addr×Obj))(σ:St)(H:Hp)(s:Shared)(e:Value)(s':Shared),Inv X pins σ H s->CX X.stack H s E e s'->X.xe e s'
section
variable{X:Cx}{CX:CXT}{k:Nat}{f C:Addr}{fd:FuncData}{ps:List Str}{sp:Sp}{dvs:List V}{ds:List Value}{E:XK}{x m:Str}{p pos apos:Pos}{e o:Expr}{es:List Expr}{ta:TE}{t:TA}
theorem QFb{pins:List (Addr×Obj)}{σ:St}{H:Hp}{s:Shared}{Q:VK}{us:List Value}{vs:List V}(F:FnOk X.prog X.w X.K X.mg X.base CX k f fd ps sp)(hr:Room k X.A)(hb:Binds X.K fd ps ds)(hd:Vals dvs ds)(hx:Qiq CX X E)
 (I:Inv X pins σ H s) (r:Vals vs us) (h:sp (vs++dvs) H Q E):wpAny (model X.prog X.w) X.A (call (.ref f) us) (EP X pins σ Q) X.xe s:=by
 have r2:Vals (vs++dvs) (us++ds):=r.append hd
 have hl:(us++ds).length=ps.length:=by rw[← r2.length];exact F.len _ _ _ _ h
 refine wpAny_call (codeAny_mono (F.run X.A X.stack s H ⟨us,[]⟩ (us++ds) (vs++dvs) Q E hr I.env0 (hb s us I.kIn hl) r2 h) fun r s' hq=>?_)
 cases r with
 | error e=>exact hx pins σ H s e s' I hq
 | ok fl=>
  cases fl with
  | ret u=>exact I.after hq
  | next=>exact False.elim hq
  | brk=>exact False.elim hq
  | cont=>exact False.elim hq
theorem QOM(F:FnOk X.prog X.w X.K X.mg X.base CX k f fd ps sp)(hr:Room k X.A)(hg:Gl X x)(hm:X.mg x=some (.ref f))(hk:PySem.W.keepIn X.K (.ref f)=true)(hb:Binds X.K fd ps ds)(hd:Vals dvs ds)(hx:Qiq CX X E)
 (ha:PA X (e::es) t) (hdb:(x == ("__debug__":Str))=false:=by decide) (he:starEach (e::es) X.env=(false,eval e X.env)::starEach es X.env:=by rfl) (hpl:(backTo pos (starEach es X.env)).any (·.1)=false:=by rfl):
 PE X (.Call (.Name x p) (e::es) [] pos) (tCall sp dvs E t):=by
 intro pins s σ H Q I h
 refine wpAny_Call_Name_kw (QzC I hg hm ?_ hdb)
 refine PySem.W.callWith_K (h₀:=X.base) I.ok.mod.kin hk (thn (ha pos pins s σ H _ I h) fun us s1 ⟨vs,H1,I1,r,q⟩=>⟨I1.kIn,?_⟩) he hpl
 exact QFb F hr hb hd hx I1 r q
structure Mk(K:PySem.W.Frag)(C f:Addr):Prop where
 makes:PySem.W.makesIn K C=true
 init:PySem.W.findIn K (.ref C) "__init__"=some (some (.ref f))
 fn:PySem.W.isFn K (.ref f)=true
 kp:PySem.W.keepIn K (.ref C)=true
theorem QOp{pins:List (Addr×Obj)}{σ:St}{H:Hp}{s:Shared}{Q:VK}{us:List Value}{vs:List V}(M:Mk X.K C f)(F:FnOk X.prog X.w X.K X.mg X.base CX k f fd ps sp)(hr:Room (k+1) X.A)(hb:Binds X.K fd ps ds)(hd:Vals dvs ds)
 (hx:Qiq CX X E) (I:Inv X pins σ H s) (r:Vals vs us)
 (h:∀ x dx,H x=none->H dx=none->dx≠x->sp (.ref x::(vs++dvs)) (upd (upd H dx (.own x)) x (.ins C dx [])) (fun v H2=>v=.non/\Q (.ref x) H2) E):
 wpAny (model X.prog X.w) X.A (call (.ref C) us) (EP X pins σ Q) X.xe s:=by
 have hq:=h (s.heap.objs.size+1) s.heap.objs.size (I.hok.fresh (Nat.le_succ _)) (I.hok.fresh (Nat.le_refl _)) (Nat.ne_of_lt (Nat.lt_succ_self _))
 have I2:=Inv.made (C:=C) I
 have r2:Vals (V.ref (s.heap.objs.size+1)::(vs++dvs)) (Value.ref (s.heap.objs.size+1)::(us++ds)):=.cons rfl (r.append hd)
 have hl:(Value.ref (s.heap.objs.size+1)::us++ds).length=ps.length:=by
  have e:=r2.length
  rw[F.len _ _ _ _ hq]at e
  exact e.symm
 refine wpAny_call (QNQ (f:=f) I.kIn M.makes M.init (beq_iff_eq.mp M.fn) (codeAny_mono (F.run _ X.stack _ _ ⟨Value.ref (s.heap.objs.size+1)::us,[]⟩ (Value.ref (s.heap.objs.size+1)::(us++ds)) _ _ E (hr.make C us [])
  (I2.env0.make C us []) (hb _ (Value.ref (s.heap.objs.size+1)::us) I2.kIn hl) r2 hq) fun r s' hq'=>?_))
 cases r with
 | error e=>exact hx pins σ _ _ e s' I2 hq'
 | ok fl=>
  cases fl with
  | ret u=>
   obtain⟨v,H',I3,rv,ev,q3⟩:=I2.after hq'
   subst ev
   exact⟨rv,⟨V.ref (s.heap.objs.size+1),H',I3,rfl,q3⟩⟩
  | next=>exact False.elim hq'
  | brk=>exact False.elim hq'
  | cont=>exact False.elim hq'
theorem QPJ(M:Mk X.K C f)(F:FnOk X.prog X.w X.K X.mg X.base CX k f fd ps sp)(hr:Room (k+1) X.A)(hg:Gl X x)(hm:X.mg x=some (.ref C))(hb:Binds X.K fd ps ds)(hd:Vals dvs ds)(hx:Qiq CX X E)
 (ha:PA X (e::es) t) (hdb:(x == ("__debug__":Str))=false:=by decide) (he:starEach (e::es) X.env=(false,eval e X.env)::starEach es X.env:=by rfl) (hpl:(backTo pos (starEach es X.env)).any (·.1)=false:=by rfl):
 PE X (.Call (.Name x p) (e::es) [] pos) (tMake C sp dvs E t):=by
 intro pins s σ H Q I h
 refine wpAny_Call_Name_kw (QzC I hg hm ?_ hdb)
 refine PySem.W.callWith_K (h₀:=X.base) I.ok.mod.kin M.kp (thn (ha pos pins s σ H _ I h) fun us s1 ⟨vs,H1,I1,r,q⟩=>⟨I1.kIn,?_⟩) he hpl
 exact QOp M F hr hb hd hx I1 r q
end
section
variable{X:Cx}{CX:CXT}{k:Nat}{f C:Addr}{fd:FuncData}{ps ks:List Str}{sp:Sp}{E:XK}{x m:Str}{p pos apos kpos:Pos}{e o:Expr}{es:List Expr}{kws:List Keyword}{te ta:TE}{t tk:TA}{nm:Option Str}
structure QSd(K:PySem.W.Frag)(fd:FuncData)(ps ks:List Str)(g:List Value->List Value->List Value)(gV:List V->List V->List V):Prop where
 to:∀(s:Shared)(us ws:List Value),K.In s.heap->(g us ws).length=ps.length->BindsTo s fd ⟨us,ks.zip ws⟩ (ps.zip (g us ws))
 rel:∀{vs:List V}{us:List Value}{zs:List V}{ws:List Value},Vals vs us->Vals zs ws->Vals (gV vs zs) (g us ws)
variable{g:List Value->List Value->List Value}{gV:List V->List V->List V}
end
structure Qo(N P:List Str)(sc:Scope):Prop where
 kind:sc.kind=.function
 co:sc.isCoroutine=false
 gen:sc.isGenerator=false
 nd:N.Nodup
 pre:N.take P.length=P
 par:∀ x∈P,sc.names.lookup x=some .local∨sc.names.lookup x=some .cell
 nofree:∀ y∈sc.names,y.2≠.free
theorem QBb{kindOf:Str->Option NameKind}{x:Str}:∀{binds:List (Str×Value)}{m:Str->Option Value},(∀ v,(x,v)∉binds)->bindL kindOf binds m x=m x
 | [],_,_=>rfl
 | (n,v)::r,m,h=>by
  unfold bindL
  rw[QBb fun w hw=>h w (List.mem_cons_of_mem _ hw)]
  split
  ·have:x≠n:=by rintro rfl;exact h v List.mem_cons_self
   simp[this]
  ·rfl
theorem QAT{kindOf:Str->Option NameKind}{x:Str}:∀{binds:List (Str×Value)}{m:Str->Option Value},(∀ v,(x,v)∉binds)->bindC kindOf binds m x=m x
 | [],_,_=>rfl
 | (n,v)::r,m,h=>by
  unfold bindC
  rw[QAT fun w hw=>h w (List.mem_cons_of_mem _ hw)]
  split
  ·rfl
  ·have:x≠n:=by rintro rfl;exact h v List.mem_cons_self
   simp[this]
theorem QBd{kindOf:Str->Option NameKind}{x:Str}{v:Value}:∀{P:List Str}{vs:List Value}{i:Nat}{m:Str->Option Value},P.Nodup->P[i]?=some x->vs[i]?=some v->kindOf x=some .local->
 bindL kindOf (P.zip vs) m x=some v
 | [],_,_,_,_,h,_,_=>by simp at h
 | _::_,[],_,_,_,_,h,_=>by simp at h
 | p::P,w::vs,0,m,nd,h1,h2,hk=>by
  simp at h1 h2;subst h1;subst h2
  show bindL kindOf ((p,w)::P.zip vs) m p=_
  unfold bindL
  rw[QBb fun v hv=>(List.nodup_cons.mp nd).1 (List.of_mem_zip hv).1,if_pos hk]
  simp
 | p::P,w::vs,i+1,m,nd,h1,h2,hk=>by
  show bindL kindOf ((p,w)::P.zip vs) m x=_
  unfold bindL
  exact QBd (i:=i) (List.nodup_cons.mp nd).2 (by simpa using h1) (by simpa using h2) hk
theorem QA9{kindOf:Str->Option NameKind}{x:Str}{v:Value}:∀{P:List Str}{vs:List Value}{i:Nat}{m:Str->Option Value},P.Nodup->P[i]?=some x->vs[i]?=some v->kindOf x≠some .local->
 bindC kindOf (P.zip vs) m x=some v
 | [],_,_,_,_,h,_,_=>by simp at h
 | _::_,[],_,_,_,_,h,_=>by simp at h
 | p::P,w::vs,0,m,nd,h1,h2,hk=>by
  simp at h1 h2;subst h1;subst h2
  show bindC kindOf ((p,w)::P.zip vs) m p=_
  unfold bindC
  rw[QAT fun v hv=>(List.nodup_cons.mp nd).1 (List.of_mem_zip hv).1,if_neg hk]
  simp
 | p::P,w::vs,i+1,m,nd,h1,h2,hk=>by
  show bindC kindOf ((p,w)::P.zip vs) m x=_
  unfold bindC
  exact QA9 (i:=i) (List.nodup_cons.mp nd).2 (by simpa using h1) (by simpa using h2) hk
def start(N:List Str)(vs:List V):St:=vs.map some++List.replicate (N.length - vs.length) none
def cxOf(CX:CXT)(P:Program)(w:World)(K:PySem.W.Frag)(mg:Str->Option Value)(base:Heap)(N:List Str)(qual:Str)(scope:Scope)(f:Addr)(cd:Value)(A:Around)(outer:List Env)(s:Shared)(H:Hp)(E:XK):Cx where
 prog:=P
 w:=w
 K:=K
 mg:=mg
 base:=base
 A:=A.deeper (envOfC qual scope s.heap.objs.size f cd)
 N:=N
 s₀:=s
 H₀:=H
 env:=envOfC qual scope s.heap.objs.size f cd
 outer:=outer
 stack:=envOfC qual scope s.heap.objs.size f cd::outer
 ex:=[]
 calm:=true
 fn:=fun _=>true
 pn:=[]
 xe:=fun e s'=>wpAny (model P w) (A.deeper (envOfC qual scope s.heap.objs.size f cd)) (leaving (envOfC qual scope s.heap.objs.size f cd) e) (fun _ s''=>CX outer H s E e s'') (fun e' s''=>CX outer H s E e' s'') s'
theorem QEA{sc:Scope}{n:Nat}{x:Str}(h:sc.names.lookup x=some .cell):∃ c,(cellsFrom n sc.names []).lookup x=some c:=by
 have q:=PySem.W.cellsFrom_some sc.names n [] (.inl h)
 exact Option.isSome_iff_exists.mp q
theorem QL6{CX:CXT}{P:Program}{w:World}{K:PySem.W.Frag}{mg:Str->Option Value}{base:Heap}{N ps:List Str}{qual:Str}{scope:Scope}{f:Addr}{cd:Value}{A:Around}{outer:List Env}{s s1:Shared}{H:Hp}{E:XK}{us:List Value}{vs:List V}
 (S:Qo N ps scope) (hd:A.handled=none) (e0:Env0 P w K mg base A outer s H) (hl:vs.length=ps.length) (r:Vals vs us)
 (x:InCallC s s.heap.objs.size (bindL (envOfC qual scope s.heap.objs.size f cd).kindOf (ps.zip us) fun _=>none) (cellsFrom (s.heap.objs.size+1) scope.names []) (bindC (envOfC qual scope s.heap.objs.size f cd).kindOf (ps.zip us) fun _=>none) s1):
 Inv (cxOf CX P w K mg base N qual scope f cd A outer s H E) [] (start N vs) H s1:=by
 have hpl:ps.length<=N.length:=by have:=congrArg List.length S.pre;rw[List.length_take]at this;omega
 obtain⟨h1,tk,rfl,hk⟩:=x.done
 have noA:∀ b:Addr,b∉(cxOf CX P w K mg base N qual scope f cd A outer s H E).ex:=fun b z=>absurd (show b∈([]:List Addr) from z) (by simp)
 refine⟨⟨e0.mod,S.kind,rfl,rfl,Nat.le_refl _,fun y z c h1 h2=>?_,fun y hy=>?_,fun y c _ h=>?_,fun _=>hd,Around.frames_deeper e0.frames,.inr ⟨rfl,rfl⟩,fun b z=>absurd z (noA b),e0.bs,e0.bsz,fun b _ _=>noA b,fun b z=>absurd z (noA b),e0.funs,e0.frf⟩,
  rfl,e0.bare,Un.kept hk,⟨_,x.toInCall.ns,fun i y v h1 h2 h3=>?_⟩,fun y c h=>⟨_,x.cell y c h⟩,e0.hok.fresh (Nat.le_refl _),fun y c h=>?_,fun p hp=>absurd (show p∈([]:List (Addr×Obj)) from hp) (by simp),e0.hok.kept hk,?_⟩
 ·exact name_of_addr x.apart (PySem.mem_of_lookup h1) (PySem.mem_of_lookup h2)
 ·have hy:scope.names.lookup y=some .cell∨scope.names.lookup y=some .free:=hy
  rcases hy with hy | hy
  ·exact QEA hy
  ·exact absurd rfl (S.nofree _ (PySem.mem_of_lookup hy))
 ·exact Nat.le_of_lt (x.above y c (PySem.mem_of_lookup h))
 ·have hi:i<vs.length:=by
   unfold start at h2
   by_cases hi:i<vs.length
   ·exact hi
   ·rw[List.getElem?_append_right (by simpa using hi)]at h2
    rw[List.getElem?_replicate]at h2
    split at h2<;>cases h2
  have ha:vs[i]?=some v:=by
   unfold start at h2
   rw[List.getElem?_append_left (by simpa using hi),List.getElem?_map]at h2
   cases e:vs[i]? with
   | none=>rw[e]at h2;cases h2
   | some a=>rw[e]at h2;cases h2;rfl
  obtain⟨u,hu,rv⟩:=r.get ha
  have hp:ps[i]?=some y:=by
   rw[← S.pre,List.getElem?_take_of_lt (by omega)];exact h1
  have ndP:ps.Nodup:=by rw[← S.pre];exact S.nd.sublist (List.take_sublist _ _)
  refine⟨u,rv,?_⟩
  rcases S.par y (List.mem_of_getElem? hp) with k | k
  ·exact .inl ⟨k,QBd ndP hp hu k⟩
  ·obtain⟨c,e⟩:=QEA (n:=s.heap.objs.size+1) k
   refine .inr ⟨.inl k,c,e,?_⟩
   have q:=x.cell y c e
   rw[QA9 ndP hp hu (by show scope.names.lookup y≠_;rw[k];decide)]at q
   exact q
 ·exact e0.hok.fresh (Nat.le_of_lt (x.above y c (PySem.mem_of_lookup h)))
 ·unfold start
  show _=N.length
  rw[List.length_append,List.length_map,List.length_replicate]
  omega
theorem fn_of{CX:CXT}{P:Program}{w:World}{K:PySem.W.Frag}{mg:Str->Option Value}{base:Heap}{k:Nat}{f:Addr}{name qual:Str}{params:Arguments}{body:List Stmt}{scope:Scope}{dV kV doc pm cdv ct oc:Value}{an od:Option Addr}
 {osl:Array (Option Value)} {N ps:List Str} {sp:Sp} (lk:K.lookup f=some ⟨oc,od,.func (PySem.W.fnOf name qual params body scope dV kV doc pm an cdv ct),osl⟩) (hcd:PySem.W.codeIn K cdv qual=true) (S:Qo N ps scope)
 (len:∀ vs H Q E,sp vs H Q E->vs.length=ps.length)
 (hbody:∀(A:Around)(outer:List Env)(s:Shared)(H:Hp)(vs:List V)(Q:VK)(E:XK),Room k (A.deeper (envOfC qual scope s.heap.objs.size f cdv))->sp vs H Q E->
  ∃ t,PSs (cxOf CX P w K mg base N qual scope f cdv A outer s H E) body t/\t { nx:=fun _ H'=>Q .non H',rt:=Q } (start N vs) H):
 FnOk P w K mg base CX (k+1) f (PySem.W.fnOf name qual params body scope dV kV doc pm an cdv ct) ps sp:=by
 refine⟨len,fun A outer s H args us vs Q E hr e0 hb r hsp=>?_⟩
 have hl:=len _ _ _ _ hsp
 have KX:K.In s.heap:=e0.mod.kin.keeps fun b o e=>(e0.bs b o e).1
 have lim:s.heap.NoLimit:=e0.mod.nolimit.keeps fun b o e=>(e0.bs b o e).1
 have hkind:∀ y∈ps.zip us,scope.names.lookup y.1=some .local∨(scope.names.lookup y.1=some .cell/\((cellsFrom (s.heap.objs.size+1) scope.names []).lookup y.1).isSome=true):=fun⟨n,v⟩ hy=>by
  rcases S.par n (List.of_mem_zip hy).1 with q | q
  ·exact .inl q
  ·exact .inr ⟨q,PySem.W.cellsFrom_some _ _ _ (.inl q)⟩
 refine codeAny_call_function hr.depth (KX _ _ lk) rfl S.co S.gen rfl (PySem.W.codeRec_of KX hcd) (hb _ _ _ _ ?_)
 refine wpAny_newFunctionEnv_cells S.kind hkind fun env he s1 x=>?_
 subst he
 refine⟨lim.keeps x.toInCall.keep,codeAny_func ?_⟩
 obtain⟨t,ht,hq⟩:=hbody A outer s H vs Q E (hr.deeper _) hsp
 have I:Inv (cxOf CX P w K mg base N qual scope f cdv A outer s H E) [] (start N vs) H s1:=QL6 S hr.hd e0 hl r x
 refine wpAny_mono (ht [] s1 (start N vs) H _ I hq) (fun fl s' hs=>?_) fun e s' hs=>hs
 have fin:∀{σ':St}{H':Hp}{v:V}{u:Value},Inv (cxOf CX P w K mg base N qual scope f cdv A outer s H E) [] σ' H' s'->RelV v u->Q v H'->CE outer P w H s Q u s':=
  fun {σ' H' v u} J rv q=>⟨v,H',J.os,J.bare,J.base,J.hok,rv,q⟩
 cases fl with
 | ret u=>
  obtain⟨v,σ',H',J,rv,q⟩:=hs
  exact fin J rv q
 | next=>
  obtain⟨σ',H',J,q⟩:=hs
  exact fin (v:=V.non) (u:=Value.none) J rfl q
 | brk=>
  obtain⟨_,_,_,q⟩:=hs
  exact False.elim q
 | cont=>
  obtain⟨_,_,_,q⟩:=hs
  exact False.elim q
end L2
namespace L2
open PySem PySem.Spec PyProof.Rows
section
variable{X:Cx}{x:Str}{p pos:Pos}{e:Expr}{es:List Expr}{t:TA}{id T:String}{r:List V->Hp->VK->Prop}
def tCB(r:List V->Hp->VK->Prop)(t:TA):TE:=fun σ H Q=>t σ H fun vs H1=>r vs H1 Q
theorem Qwl(hc:CallR X (.builtin id) r)(hg:Gl X x)(hm:X.mg x=none)(hv:bootBuiltins x=some (.builtin id))(ha:PA X (e::es) t)(hn:x≠"__name__":=by decide)(hdb:(x == ("__debug__":Str))=false:=by decide)
 (he:starEach (e::es) X.env=(false,eval e X.env)::starEach es X.env:=by rfl) (hpl:(backTo pos (starEach es X.env)).any (·.1)=false:=by rfl):PE X (.Call (.Name x p) (e::es) [] pos) (tCB r t):=by
 intro pins s σ H Q I h
 refine wpAny_Call_Name_kw (Qks I hg hm hv ?_ hn hdb)
 exact PyProof.Rows.callWith_builtin1 (thn (ha pos pins s σ H _ I h) fun us s1 ⟨vs,H1,I1,r1,q1⟩=>hc pins s1 σ H1 vs us Q I1 r1 q1) he hpl
theorem QA7(hc:CallR X (.type T) r)(hg:Gl X x)(hm:X.mg x=none)(hv:bootBuiltins x=some (.type T))(ha:PA X (e::es) t)(hn:x≠"__name__":=by decide)(hdb:(x == ("__debug__":Str))=false:=by decide)
 (he:starEach (e::es) X.env=(false,eval e X.env)::starEach es X.env:=by rfl) (hpl:(backTo pos (starEach es X.env)).any (·.1)=false:=by rfl):PE X (.Call (.Name x p) (e::es) [] pos) (tCB r t):=by
 intro pins s σ H Q I h
 refine wpAny_Call_Name_kw (Qks I hg hm hv ?_ hn hdb)
 exact PyProof.Rows.callWith_type1 (thn (ha pos pins s σ H _ I h) fun us s1 ⟨vs,H1,I1,r1,q1⟩=>hc pins s1 σ H1 vs us Q I1 r1 q1) he hpl
end
end L2
namespace HT
open PySem PyProof.Rows
section
open PySem.SeqAt
open PySem.AutoSeq1 (wpAny_loadPart')
open PySem.MeetsSeq PySem.MeetsSeq2 PySem.MeetsSeq3
end
section
variable{prog:Program}{w:World}{A:Around}{E:Value->Shared->Prop}{s:Shared}
def sIx(n d:Nat):Option Int->Nat
 | none=>d
 | some v=>if v<0 then(v+(n:Int)).toNat else min v.toNat n
theorem sIx_none(n d:Nat):sIx n d none=d:=rfl
theorem sIx_nat(n d k:Nat):sIx n d (some (k:Int))=min k n:=by
 show(if (k:Int)<0 then((k:Int)+(n:Int)).toNat else min (k:Int).toNat n)=min k n
 rw[if_neg (by omega),Int.toNat_natCast]
end
end HT
namespace L2
open PySem PySem.Spec PyProof.Rows
abbrev TO:=St->Hp->(Option Int->Hp->Prop)->Prop
def PO(X:Cx)(e:Option Expr)(t:TO):Prop:=
 ∀(pins:List (Addr×Obj))(s:Shared)(σ:St)(H:Hp)(Q:Option Int->Hp->Prop),Inv X pins σ H s->t σ H Q->
  wpAny (model X.prog X.w) X.A (evalPart e X.env) (fun u s'=>∃ o H',Inv X pins σ H' s'/\IsPart u o/\Q o H') X.xe s
def QPz:TO:=fun _ H Q=>Q none H
def tPart(t:TE):TO:=fun σ H Q=>t σ H fun x H1=>∃ i,x=.int i/\Q (some i) H1
section
variable{X:Cx}{e:Expr}{te:TE}{lo hi:Option Expr}{tl th:TO}{pos p2:Pos}
theorem QPc:PO X none QPz:=by
 intro pins s σ H Q I h
 rw[evalPart_none]
 exact wpAny_pure ⟨none,H,I,.none,h⟩
theorem QPF(h:PE X e te):PO X (some e) (tPart te):=by
 intro pins s σ H Q I hw
 rw[evalPart_some]
 refine thn (h pins s σ H _ I hw) fun u s1 ⟨x,H1,I1,r1,q1⟩=>?_
 obtain⟨i,rfl,q⟩:=q1
 obtain⟨t,rfl⟩:=r1
 exact⟨some i,H1,I1,.int i t,q⟩
def SlR(X:Cx)(r:V->Option Int->Option Int->Hp->VK->Prop):Prop:=
 ∀(pins:List (Addr×Obj))(s:Shared)(σ:St)(H:Hp)(x:V)(v vl vu:Value)(lo hi:Option Int)(sl:Addr)(Q:VK),Inv X pins σ H s->RelV x v->s.heap.IsSliceOf sl vl vu .none->IsPart vl lo->IsPart vu hi->r x lo hi H Q->
  ∃ T id,typeLookup (.type T) "__getitem__"=pure (some (.builtin id))/\s.TypeIs v T/\wpAny (model X.prog X.w) X.A (getItem v (.ref sl)) (EP X pins σ Q) X.xe s
def tSl(r:V->Option Int->Option Int->Hp->VK->Prop)(te:TE)(tl th:TO):TE:=fun σ H Q=>te σ H fun x H1=>tl σ H1 fun l H2=>th σ H2 fun u H3=>r x l u H3 Q
theorem QOH{r:V->Option Int->Option Int->Hp->VK->Prop}(hr:SlR X r)(he:PE X e te)(hl:PO X lo tl)(hu:PO X hi th):PE X (.Subscript e (.Slice lo hi none p2) pos) (tSl r te tl th):=by
 intro pins s σ H Q I h
 refine Subscript_ (thn (he pins s σ H _ I h) fun v s1 ⟨x,H1,I1,r1,q1⟩=>?_)
 refine wpAny_Slice (thn (hl pins s1 σ H1 _ I1 q1) fun vl s2 ⟨l,H2,I2,pl,q2⟩=>thn (hu pins s2 σ H2 _ I2 q2) fun vu s3 ⟨u,H3,I3,pu,q3⟩=>?_)
 rw[evalPart_none]
 refine wpAny_pure ?_
 have I4:Inv X pins σ H3 { s3 with heap:=s3.heap.push { cls:=.type "slice",data:=.fields #[vl,vu,.none] } }:=I3.kept (t':=s3.toks) fun b ob q=>Heap.get?_push_of_some _ q
 obtain⟨T,id,hT,ht,hg⟩:=hr pins { s3 with heap:=s3.heap.push { cls:=.type "slice",data:=.fields #[vl,vu,.none] } } σ H3 x v vl vu l u s3.heap.objs.size Q I4 r1 (Heap.IsSliceOf.new ..) pl pu q3
 show wpAny (model X.prog X.w) X.A (subscriptTail e (.Slice lo hi none p2) v (.ref s3.heap.objs.size)) (EP X pins σ Q) X.xe { s3 with heap:=s3.heap.push { cls:=.type "slice",data:=.fields #[vl,vu,.none] } }
 exact tail_any (ops:=[.ref s3.heap.objs.size,v]) ht hT hg (by with_unfolding_all rfl)
def cutV(xs:List V)(lo hi:Option Int):List V:=(xs.drop (HT.sIx xs.length 0 lo)).take (HT.sIx xs.length xs.length hi - HT.sIx xs.length 0 lo)
theorem QIt(xs:List V)(lo hi:Option Int):(cutV xs lo hi).length<=xs.length:=by
 unfold cutV
 rw[List.length_take,List.length_drop]
 omega
end
end L2
namespace L2
open PySem PySem.Spec PyProof.Rows
def ixN(n:Nat)(i:Int):Option Nat:=if 0<=i then(if i<n then some i.toNat else none) else if -(n:Int)<=i then some (i+n).toNat else none
def atI{α:Type}(xs:List α)(i:Int):Option α:=(ixN xs.length i).bind fun j=>xs[j]?
theorem QPn{n:Nat}{i:Int}{j:Nat}(h:ixN n i=some j):seqIndex? i n=some j/\j<n /\ -(n:Int)<=i/\i<n:=by
 unfold ixN at h
 by_cases h0:0<=i
 ·rw[if_pos h0]at h
  by_cases h1:i<n
  ·rw[if_pos h1]at h
   have e:i.toNat=j:=Option.some.inj h
   exact⟨by rw[seqIndex_of h0 h1,e],by omega,by omega,h1⟩
  ·rw[if_neg h1]at h;cases h
 ·rw[if_neg h0]at h
  by_cases h1 : -(n:Int)<=i
  ·rw[if_pos h1]at h
   have e:(i+n).toNat=j:=Option.some.inj h
   exact⟨by rw[seqIndex_neg (by omega) h1,e],by omega,h1,by omega⟩
  ·rw[if_neg h1]at h;cases h
theorem QAg{α:Type}{xs:List α}{i:Int}{v:α}(h:atI xs i=some v):∃ j,seqIndex? i xs.length=some j/\xs[j]?=some v/\j<xs.length /\ -(xs.length:Int)<=i/\i<xs.length:=by
 unfold atI at h
 cases e:ixN xs.length i with
 | none=>rw[e]at h;cases h
 | some j=>
  rw[e]at h
  obtain⟨h1,h2,h3,h4⟩:=QPn e
  exact⟨j,h1,h,h2,h3,h4⟩
theorem QJw{α:Type}{xs:List α}{j:Nat}{v:α}(h:xs[j]?=some v):atI xs (j:Int)=some v:=by
 have hj:j<xs.length:=(List.getElem?_eq_some_iff.mp h).1
 have e:ixN xs.length (j:Int)=some j:=by
  unfold ixN
  rw[if_pos (by omega),if_pos (by omega)];simp
 unfold atI;rw[e];exact h
def Qy9(b:Expr):Prop:=∀ o i,subscripted b false o i=operate [o,i] (getItem o i)
def IxR(X:Cx)(r:R2):Prop:=
 ∀(value slice:Expr)(pins:List (Addr×Obj))(s:Shared)(σ:St)(H:Hp)(x y:V)(v u:Value)(Q:VK),Inv X pins σ H s->RelV x v->RelV y u->r x y H Q->
  subscripted slice false v u=operate [v,u] (getItem v u)->wpAny (model X.prog X.w) X.A (subscriptTail value slice v u) (EP X pins σ Q) X.xe s
def MtR(X:Cx)(id:String)(r:V->List V->Hp->VK->Prop):Prop:=
 ∀(pins:List (Addr×Obj))(s:Shared)(σ:St)(H:Hp)(x:V)(xs:List V)(v:Value)(us:List Value)(Q:VK),Inv X pins σ H s->RelV x v->Vals xs us->r x xs H Q->
  wpAny (model X.prog X.w) X.A (call (.builtin id) (v::us)) (EP X pins σ Q) X.xe s
section
variable{X:Cx}{a b:Expr}{ta tb:TE}{pos:Pos}
theorem IxR.or{r r':R2}(h:IxR X r)(h':IxR X r'):IxR X (fun x y H Q=>r x y H Q∨r' x y H Q):=by
 intro value slice pins s σ H x y v u Q I rx ry q hs
 rcases q with q | q
 ·exact h value slice pins s σ H x y v u Q I rx ry q hs
 ·exact h' value slice pins s σ H x y v u Q I rx ry q hs
theorem pe_ix{r:R2}(hr:IxR X r)(ha:PE X a ta)(hb:PE X b tb)(hs:Qy9 b):PE X (.Subscript a b pos) (tOp r ta tb):=by
 intro pins s σ H Q I h
 exact Subscript_ (binT ha hb I h fun v u s2 x y H2 I2 rx ry q=>hr a b pins s2 σ H2 x y v u Q I2 rx ry q (hs _ _))
def rIxL(K:PySem.W.Frag):R2:=fun x y H Q=>∃ p xs i v,x=.ref p/\y=.int i/\SqL K H p xs/\atI xs i=some v/\Q v H
def rIxT(K:PySem.W.Frag):R2:=fun x y H Q=>∃ p xs i v,x=.ref p/\y=.int i/\SqT K H p xs/\atI xs i=some v/\Q v H
def rIxS:R2:=fun x y H Q=>∃ z i c,x=.str z/\y=.int i/\z.length<=sizeLine/\atI z.cps.toList i=some c/\Q (.str ⟨#[c]⟩) H
theorem QPk:IxR X (rIxL X.K):=by
 intro value slice pins s σ H x y v u Q I rx ry h hs
 obtain⟨p,xs,i,z,rfl,rfl,hq,he,q⟩:=h
 cases rx
 obtain⟨t,rfl⟩:=ry
 obtain⟨its,r,pl,hz⟩:=I.list hq
 obtain⟨j,h1,h2,h3,h4,h5⟩:=QAg he
 obtain⟨w,ew,rw'⟩:=r.get h2
 have hl:=r.length
 have hn:=QtM
 have fin:EP X pins σ Q w s:=⟨z,H,I,rw',q⟩
 by_cases h0:0<=i
 ·have hj:i.toNat=j:=by
   rw[seqIndex_of h0 h5]at h1
   exact Option.some.inj h1
  exact item_listR pl.isList h0 (by omega) (by rw[hj];simpa using ew) fin hs
 ·have hj:(i+(its.toArray.size:Int)).toNat=j:=by
   rw[seqIndex_neg (by omega) h4]at h1
   rw[List.size_toArray, ← hl]
   exact Option.some.inj h1
  exact subscriptTail_builtinR (x:=w) pl.isList.typeIs slot_list_getitem.lookup
   (wpAny_getItem_list_neg (Q:=fun r s'=>r=w/\EP X pins σ Q r s') pl.isList (by omega) (by rw[List.size_toArray]<;>omega) (by omega) (by rw[hj];simpa using ew) ⟨rfl,fin⟩) hs
theorem QQR:IxR X (rIxT X.K):=by
 intro value slice pins s σ H x y v u Q I rx ry h hs
 obtain⟨p,xs,i,z,rfl,rfl,hq,he,q⟩:=h
 cases rx
 obtain⟨t,rfl⟩:=ry
 obtain⟨its,r,pl,hz⟩:=I.tuple hq
 obtain⟨j,h1,h2,h3,h4,h5⟩:=QAg he
 obtain⟨w,ew,rw'⟩:=r.get h2
 have hl:=r.length
 have hn:=QtM
 have fin:EP X pins σ Q w s:=⟨z,H,I,rw',q⟩
 exact subscriptTail_builtinR (x:=w) pl.typeIs slot_tuple_getitem.lookup
  (getItem_tuple (j:=j) (Q:=fun r s'=>r=w/\EP X pins σ Q r s') pl (by omega) (by omega) (by rw[List.size_toArray, ← hl];exact h1) (by simpa using ew) ⟨rfl,fin⟩) hs
theorem QRY:IxR X rIxS:=by
 intro value slice pins s σ H x y v u Q I rx ry h hs
 obtain⟨z,i,c,rfl,rfl,hz,he,q⟩:=h
 obtain⟨t,rfl⟩:=rx
 obtain⟨t',rfl⟩:=ry
 obtain⟨j,h1,h2,h3,h4,h5⟩:=QAg he
 have hl:z.cps.toList.length=z.length:=by simp[Str.length]
 rw[hl]at h1 h4 h5
 have hn:=QtM
 exact tail_any (typeIs_str s z t) slot_str_getitem.lookup (getItem_str (c:=c) (by
  have e1:decide (i < -(2 ^ 63:Int))=false:=decide_eq_false (by omega)
  have e2:decide (i ≥ 2 ^ 63)=false:=decide_eq_false (by omega)
  rw[e1,e2,Bool.or_false]) (by rw[h1];simpa using h2) ⟨.str ⟨#[c]⟩,H,I.tok _,⟨_,rfl⟩,q⟩) hs
def rIx(K:PySem.W.Frag):R2:=fun x y H Q=>rIxL K x y H Q∨rIxT K x y H Q∨rIxS x y H Q
theorem QLN:IxR X (rIx X.K):=QPk.or (QQR.or QRY)
theorem QEE(lo hi:Option Int)(n:Nat):(sliceBounds lo hi none n).1=((HT.sIx n 0 lo:Nat):Int)/\(sliceBounds lo hi none n).2.1=((HT.sIx n n hi:Nat):Int)/\(sliceBounds lo hi none n).2.2=1:=by
 refine⟨?_,?_,rfl⟩
 ·cases lo with
  | none=>simp[sliceBounds,HT.sIx]
  | some i=>
   simp only[sliceBounds,HT.sIx,Option.getD_none,show(1:Int) > 0 by decide,if_true]
   by_cases h:i<0
   ·simp only[h,if_true]<;>omega
   ·simp only[h,if_false]<;>omega
 ·cases hi with
  | none=>simp[sliceBounds,HT.sIx]
  | some i=>
   simp only[sliceBounds,HT.sIx,Option.getD_none,show(1:Int) > 0 by decide,if_true]
   by_cases h:i<0
   ·simp only[h,if_true]<;>omega
   ·simp only[h,if_false]<;>omega
theorem QCk(its:List Value)(lo hi:Option Int):slicePick its.toArray lo hi none=((its.drop (HT.sIx its.length 0 lo)).take (HT.sIx its.length its.length hi - HT.sIx its.length 0 lo)).toArray:=by
 obtain⟨h1,h2,h3⟩:=QEE lo hi its.toArray.size
 unfold slicePick
 rw[h1,h2,h3]
 simp only[sliceRange_one,pick_run,List.size_toArray]<;>rfl
def rSlL(K:PySem.W.Frag):V->Option Int->Option Int->Hp->VK->Prop:=fun x lo hi H Q=>∃ a xs,x=.ref a/\SqL K H a xs/\∀ p,H p=none->Q (.ref p) (upd H p (.lst (cutV xs lo hi)))
theorem QPv:SlR X (rSlL X.K):=by
 intro pins s σ H x v vl vu lo hi sl Q I rx hs pl pu h
 obtain⟨a,xs,rfl,hx,q⟩:=h
 cases rx
 obtain⟨its,r,ht,hz⟩:=I.list hx
 have hlen:=r.length
 refine⟨"list",_,slot_list_getitem.lookup,ht.isList.typeIs,?_⟩
 refine wpAny_getItem_list_slice ht.isList hs pl pu .none (by simp) ?_ (by rw[List.size_toArray]<;>omega)
 rw[QCk, ← hlen]
 refine⟨.ref s.heap.objs.size,_,I.laid (t':=s.toks) (o:=.lst (cutV xs lo hi)) (fun b ob q=>Heap.get?_push_of_some _ q) (Nat.le_refl _) ?_,rfl,q _ (I.hok.fresh (Nat.le_refl _))⟩
 exact⟨Nat.le_trans (QIt xs lo hi) hz,_,0,(r.drop (HT.sIx xs.length 0 lo)).take (HT.sIx xs.length xs.length hi - HT.sIx xs.length 0 lo),Heap.get?_push_size _ rfl⟩
def flatV:V->Bool
 | .non=>true
 | .bl _=>true
 | .int _=>true
 | .str _=>true
 | _=>false
def eqV:V->V->Bool
 | .non,.non=>true
 | .bl a,.bl b=>a == b
 | .bl a,.int b=>(if a then 1 else 0) == b
 | .int a,.bl b=>a == (if b then 1 else 0)
 | .int a,.int b=>a == b
 | .str a,.str b=>a == b
 | _,_=>false
theorem QRc{A:Around}{s:Shared}{y x:V}{u v:Value}(ry:RelV y u)(rx:RelV x v)(fy:flatV y=true)(fx:flatV x=true):SeqAt.EqAt A s u v (eqV y x):=by
 cases y with
 | non=>
  cases ry
  cases x with
  | non=>cases rx;exact SeqAt.EqAt.same _
  | bl b=>cases rx;exact SeqAt.EqAt.none_bool b
  | int b=>obtain⟨t,rfl⟩:=rx;exact SeqAt.EqAt.none_int b t
  | str b=>obtain⟨t,rfl⟩:=rx;exact SeqAt.EqAt.none_str b t
  | _=>exact absurd (show false=true from fx) Bool.false_ne_true
 | bl a=>
  cases ry
  cases x with
  | non=>cases rx;exact SeqAt.EqAt.bool_none a
  | bl b=>cases rx;exact SeqAt.EqAt.bool_bool a b
  | int b=>obtain⟨t,rfl⟩:=rx;exact SeqAt.EqAt.bool_int a b t
  | str b=>obtain⟨t,rfl⟩:=rx;exact SeqAt.EqAt.bool_str a b t
  | _=>exact absurd (show false=true from fx) Bool.false_ne_true
 | int a=>
  obtain⟨t',rfl⟩:=ry
  cases x with
  | non=>cases rx;exact SeqAt.EqAt.int_none a t'
  | bl b=>cases rx;exact SeqAt.EqAt.int_bool a t' b
  | int b=>obtain⟨t,rfl⟩:=rx;exact SeqAt.EqAt.int_int a t' b t
  | str b=>obtain⟨t,rfl⟩:=rx;exact SeqAt.EqAt.int_str a t' b t
  | _=>exact absurd (show false=true from fx) Bool.false_ne_true
 | str a=>
  obtain⟨t',rfl⟩:=ry
  cases x with
  | non=>cases rx;exact SeqAt.EqAt.str_none a t'
  | bl b=>cases rx;exact SeqAt.EqAt.str_bool a t' b
  | int b=>obtain⟨t,rfl⟩:=rx;exact SeqAt.EqAt.str_int a t' b t
  | str b=>obtain⟨t,rfl⟩:=rx;exact SeqAt.EqAt.str_str a t' b t
  | _=>exact absurd (show false=true from fx) Bool.false_ne_true
 | _=>exact absurd (show false=true from fy) Bool.false_ne_true
def eqU(x:V)(u:Value):Bool:=match u with
 | .none=>eqV .non x
 | .bool b=>eqV (.bl b) x
 | .int i _=>eqV (.int i) x
 | .str z _=>eqV (.str z) x
 | _=>false
theorem QL8{x y:V}{u:Value}(r:RelV y u)(f:flatV y=true):eqU x u=eqV y x:=by
 cases y with
 | non=>cases r;rfl
 | bl b=>cases r;rfl
 | int i=>obtain⟨t,rfl⟩:=r;rfl
 | str z=>obtain⟨t,rfl⟩:=r;rfl
 | _=>exact absurd (show false=true from f) Bool.false_ne_true
theorem QAr{x:V}:∀{xs:List V}{us:List Value},Vals xs us->xs.all flatV=true->us.any (eqU x)=xs.any fun y=>eqV y x
 | _,_,.nil,_=>rfl
 | y::xs,u::us,.cons r t,f=>by
  rw[List.all_cons,Bool.and_eq_true]at f
  rw[List.any_cons,List.any_cons,QL8 r f.1,QAr t f.2]
theorem Qwp{A:Around}{s:Shared}{x:V}{v:Value}(rx:RelV x v)(fx:flatV x=true):∀{xs:List V}{us:List Value},Vals xs us->xs.all flatV=true->∀ u∈us,SeqAt.EqAt A s u v (eqU x u)
 | _,_,.nil,_=>fun u hu=>by cases hu
 | y::xs,u::us,.cons r t,f=>fun u' hu=>by
  rw[List.all_cons,Bool.and_eq_true]at f
  rcases List.mem_cons.mp hu with rfl | hu
  ·rw[QL8 r f.1];exact QRc r rx f.1 fx
  ·exact Qwp rx fx t f.2 u' hu
def inV(x:V)(xs:List V):Bool:=xs.any fun y=>eqV y x
def rIn(K:PySem.W.Frag)(neg:Bool):R2:=fun x y H Q=>∃ p xs,y=.ref p/\(SqL K H p xs∨SqT K H p xs)/\flatV x=true/\xs.all flatV=true/\Q (.bl (if neg then !inV x xs else inV x xs)) H
theorem QLX:OpR X (compareOp .In) (rIn X.K false):=by
 intro pins s σ H x y v u Q I rx ry h
 obtain⟨p,xs,rfl,hq,fx,fs,q⟩:=h
 cases ry
 rcases hq with hq | hq
 ·obtain⟨its,r,pl,hz⟩:=I.list hq
  refine SeqAt.in_listAt (eqU x) pl.isList (fun w hw=>Qwp rx fx r fs w (by simpa using hw)) ⟨.bl _,H,I,rfl,?_⟩
  rw[show its.toArray.any (eqU x)=its.any (eqU x) by simp,QAr r fs]
  exact q
 ·obtain⟨its,r,pl,hz⟩:=I.tuple hq
  refine SeqAt.in_tupleAt (eqU x) pl (fun w hw=>Qwp rx fx r fs w (by simpa using hw)) ⟨.bl _,H,I,rfl,?_⟩
  rw[show its.toArray.any (eqU x)=its.any (eqU x) by simp,QAr r fs]
  exact q
theorem QE3:CallR X (.builtin "len") (fun xs H Q=>∃ p ys,xs=[.ref p]/\(SqL X.K H p ys∨SqT X.K H p ys)/\Q (.int ys.length) H):=by
 intro pins s σ H xs us Q I r h
 obtain⟨p,ys,rfl,hq,q⟩:=h
 obtain⟨u,rfl,rx⟩:=vals1 r
 cases rx
 have hn:=QtM
 rcases hq with hq | hq
 ·obtain⟨its,r',pl,hz⟩:=I.list hq
  have hlen:=r'.length
  exact Calls.call_len_list pl.isList (by simp only[List.size_toArray]<;>omega) ⟨.int ys.length,H,I.tok _,⟨s.toks+1,by rw[List.size_toArray,hlen]⟩,q⟩
 ·obtain⟨its,r',pl,hz⟩:=I.tuple hq
  have hlen:=r'.length
  exact len_tuple pl (by simp only[List.size_toArray]<;>omega) ⟨.int ys.length,H,I.tok _,⟨s.toks+1,by rw[List.size_toArray,hlen]⟩,q⟩
theorem QDx:CallR X (.builtin "len") (fun xs H Q=>∃ z,xs=[.str z]/\z.length<=sizeLine/\Q (.int z.length) H):=by
 intro pins s σ H xs us Q I r h
 obtain⟨z,rfl,hz,q⟩:=h
 obtain⟨u,rfl,t,rfl⟩:=vals1 r
 have hn:=QtM
 exact len_str (by omega) ⟨.int z.length,H,I.tok _,⟨_,rfl⟩,q⟩
theorem CallR.or{f:Value}{r r':List V->Hp->VK->Prop}(h:CallR X f r)(h':CallR X f r'):CallR X f (fun xs H Q=>r xs H Q∨r' xs H Q):=by
 intro pins s σ H xs us Q I rs q
 rcases q with q | q
 ·exact h pins s σ H xs us Q I rs q
 ·exact h' pins s σ H xs us Q I rs q
theorem QGb:CallR X (.type "list") (fun xs H Q=>∃ p ys,xs=[.ref p]/\(SqL X.K H p ys∨SqT X.K H p ys)/\∀ l,H l=none->Q (.ref l) (upd H l (.lst ys))):=by
 intro pins s σ H xs us Q I r h
 obtain⟨p,ys,rfl,hq,q⟩:=h
 obtain⟨u,rfl,rx⟩:=vals1 r
 cases rx
 have fin:∀(its:List Value),Vals ys its->ys.length<=sizeLine->∀(h':Heap)(c':Nat),(∀ b o',s.heap.get? b=some o'->h'.get? b=some o')->
  h'.get? s.heap.objs.size=some { cls:=.type "list",dict:=none,data:=.seq its.toArray c',slots := #[] }->EP X pins σ Q (.ref s.heap.objs.size) { s with heap:=h' }:=fun its r' hz h' c' kp e=>
  ⟨.ref s.heap.objs.size,_,I.laid (t':=s.toks) kp (Nat.le_refl _) (show ObjOk X.prog X.w _ h' _ (.lst ys) from⟨hz,its,c',r',e⟩),rfl,q _ (I.hok.fresh (Nat.le_refl _))⟩
 rcases hq with hq | hq
 ·obtain⟨its,r',pl,hz⟩:=I.list hq
  have hlen:=r'.length
  obtain⟨o,ho,hc,n,hd⟩:=pl.isList
  exact call_list_seq p (.inl rfl) ho hc hd (fun h' c' kp e=>fin its r' hz h' c' kp e) (by simp only[List.size_toArray]<;>omega)
 ·obtain⟨its,r',pl,hz⟩:=I.tuple hq
  have hlen:=r'.length
  obtain⟨o,ho,hc,n,hd⟩:=pl
  exact call_list_seq p (.inr rfl) ho hc hd (fun h' c' kp e=>fin its r' hz h' c' kp e) (by simp only[List.size_toArray]<;>omega)
def tyV(K:PySem.W.Frag)(T:String)(x:V)(H:Hp):Prop:=match x with
 | .str _=>T="str"
 | .int _=>T="int"
 | .ref p=>(T="list"/\∃ xs,SqL K H p xs)∨(T="tuple"/\∃ o,K.lookup p=some o/\o.cls=.type "tuple"/\o.dict=none)∨
  (T="dict"/\((∃ kvs,H p=some (.dK kvs))∨∃ kvs,H p=some (.dT kvs)))∨(T="set"/\∃ S n,H p=some (.set S n))
 | _=>False
theorem QQ6{pins:List (Addr×Obj)}{σ:St}{H:Hp}{s:Shared}{T:String}{x:V}{v:Value}(I:Inv X pins σ H s)(r:RelV x v)(ty:tyV X.K T x H):
 s.TypeIs v T/\∀ a,v=.ref a->∃ ob,s.heap.get? a=some ob/\ob.dict=none:=by
 cases x with
 | str z=>
  obtain⟨t,rfl⟩:=r
  cases (show T="str" from ty)
  exact⟨typeIs_str s z t,fun _ e=>nomatch e⟩
 | int i=>
  obtain⟨t,rfl⟩:=r
  cases (show T="int" from ty)
  exact⟨typeIs_int s i t,fun _ e=>nomatch e⟩
 | ref p=>
  cases r
  rcases ty with⟨rfl,xs,hq⟩ | ⟨rfl,o,hk,hc,hd⟩ | ⟨rfl,hk⟩ | ⟨rfl,S,n,hk⟩
  ·obtain⟨its,_,pl,_⟩:=I.list hq
   refine⟨pl.isList.typeIs,fun a e=>?_⟩
   cases e
   obtain⟨o,n,e,c,hd,_⟩:=pl
   exact⟨o,e,hd⟩
  ·refine⟨⟨o,I.kIn p o hk,hc⟩,fun a e=>?_⟩
   cases e
   exact⟨o,I.kIn _ o hk,hd⟩
  ·have z:∃ o,s.heap.get? p=some o/\o.ExactDict:=by
    rcases hk with⟨kvs,hk⟩ | ⟨kvs,hk⟩
    ·obtain⟨_,_,_,_,o,_,_,e,ex,_⟩:=I.hok p _ hk
     exact⟨o,e,ex⟩
    ·obtain⟨_,_,_,_,o,_,_,e,ex,_⟩:=I.hok p _ hk
     exact⟨o,e,ex⟩
   obtain⟨o,e,ex⟩:=z
   refine⟨⟨o,e,ex.1⟩,fun a e2=>?_⟩
   cases e2
   exact⟨o,e,ex.2.1⟩
  ·obtain⟨o,_,_,_,e,ex,_⟩:=I.hok p _ hk
   refine⟨⟨o,e,ex.1⟩,fun a e2=>?_⟩
   cases e2
   exact⟨o,e,ex.2.1⟩
 | _=>exact False.elim ty
def tBM(K:PySem.W.Frag)(T:String)(r:V->List V->Hp->VK->Prop)(to:TE)(t:TA):TE:=fun σ H Q=>to σ H fun x H1=>tyV K T x H1/\t σ H1 fun xs H2=>r x xs H2 Q
variable{o e:Expr}{es:List Expr}{to:TE}{t:TA}{name:Str}{apos cpos:Pos}{T id:String}{r:V->List V->Hp->VK->Prop}
theorem pe_bm(pa:PlainAttrs T)(slot:Slot T name id)(hty:typeOf (.builtin id)=pure (.type "method_descriptor"))(hm:MtR X id r)(ho:PE X o to)(ha:PA X (e::es) t)
 (hbase:attributeBase o name X.env (eval o X.env)=eval o X.env:=by rfl)
 (hfew:((backTo cpos (starEach (e::es) X.env)).all (fun x => !x.1)&&(backToKw cpos (keywordEach [] X.env)).all (fun x=>x.1.isSome)
  && decide ((e::es).length+([]:List Keyword).length+(if ([]:List Keyword).isEmpty then 0 else 1)<30))=true:=by rfl)
 (hline:(apos.endLine == cpos.line)=true:=by rfl) (hs:starEach (e::es) X.env=(false,eval e X.env)::starEach es X.env:=by rfl) (hplain:(backTo cpos (starEach es X.env)).any (·.1)=false:=by rfl):
 PE X (.Call (.Attribute o name apos) (e::es) [] cpos) (tBM X.K T r to t):=by
 intro pins s σ H Q I h
 refine wpAny_Call_method_late hbase hfew hline rfl (thn (ho pins s σ H _ I h) fun v s1 ⟨x,H1,I1,r1,ty,q1⟩=>?_)
 obtain⟨h1,h2⟩:=QQ6 I1 r1 ty
 refine⟨T,id,pa,slot,hty,h1,h2,?_⟩
 have hA:=ha cpos pins s1 σ H1 _ I1 q1
 rw[hs]at hA ⊢
 refine Calls.callWith_builtin (by show(false||(backTo cpos (starEach es X.env)).any (·.1))=false;rw[hplain]<;>rfl) (Calls.evalArgs_plain ?_)
 exact thn hA fun us s2 ⟨vs,H2,I2,r2,q2⟩=>hm pins s2 σ H2 x vs v us Q I2 r1 r2 q2
end
end L2
namespace L2
open PySem PySem.Spec PyProof.Rows
def MtM(X:Cx)(id:String)(r:V->List V->Hp->VK->Prop):Prop:=
 ∀(pins:List (Addr×Obj))(s:Shared)(σ:St)(H:Hp)(x:V)(xs:List V)(v:Value)(us:List Value)(Q:VK),Inv X pins σ H s->RelV x v->Vals xs us->r x xs H Q->
  wpAny (model X.prog X.w) X.A (call (.builtin id) (v::us)) (EP X pins σ Q) X.xe s
theorem Vals.one:∀{x:V}{us:List Value},Vals [x] us->∃ u,us=[u]/\RelV x u
 | _,_,.cons r .nil=>⟨_,rfl,r⟩
section
variable{X:Cx}{pins:List (Addr×Obj)}{σ:St}{H:Hp}{s:Shared}{l b:Addr}{xs ys zs:List V}
theorem Inv.lset{its its':List Value}{n:Nat}{f:Array Value->Array Value}{t':Nat}(I:Inv X pins σ H s)(hH:H l=some (.lst xs))
 (e:s.heap.get? l=some { cls:=.type "list",data:=.seq its.toArray n }) (hf:f its.toArray=its'.toArray) (hv:Vals ys its') (hz:ys.length<=sizeLine):
 Inv X pins σ (upd H l (.lst ys)) { s with heap:=s.heap.update l (Obj.mapSeq f),toks:=t' }:=by
 have q:=PySem.IsL.update e f
 rw[hf]at q
 refine I.write (x:=l) (e:=l) (by rw[hH];exact trivial) (.inl rfl) (fun b' u hb hu=>(Heap.get?_update_other s.heap (Obj.mapSeq f) (Ne.symm hb)).trans hu) ⟨_,q⟩ ?_
 exact⟨hz,its',_,hv,q⟩
theorem Inv.lnew{its:List Value}{t':Nat}(I:Inv X pins σ H s)(hv:Vals ys its)(hz:ys.length<=sizeLine):
 Inv X pins σ (upd H s.heap.objs.size (.lst ys)) { s with heap:=s.heap.push { cls:=.type "list",data:=.seq its.toArray },toks:=t' }:=
 I.laid (fun _ _ q=>Heap.get?_push_of_some _ q) (Nat.le_refl _) ⟨hz,its,0,hv,Heap.get?_push_size _ rfl⟩
theorem Inv.fresh(I:Inv X pins σ H s):H s.heap.objs.size=none:=I.hok.fresh (Nat.le_refl _)
theorem Inv.lstM(I:Inv X pins σ H s)(hH:H l=some (.lst xs)):xs.length<=sizeLine/\∃(its:List Value)(n:Nat),Vals xs its/\xs.length=its.length/\s.heap.get? l=some { cls:=.type "list",data:=.seq its.toArray n }:=by
 obtain⟨z,its,n,r,e⟩:=I.hok l _ hH
 exact⟨z,its,n,r,r.length,e⟩
end
section
variable{X:Cx}
def QOU:V->List V->Hp->VK->Prop:=fun x vs H Q=>∃ l xs y,x=.ref l/\vs=[y]/\H l=some (.lst xs)/\xs.length<sizeLine/\Q .non (upd H l (.lst (xs++[y])))
theorem QBn:MtM X "list.append" QOU:=by
 intro pins s σ H x vs v us Q I rx rv h
 obtain⟨l,xs,y,rfl,rfl,hH,hz,q⟩:=h
 cases rx
 obtain⟨u,rfl,ru⟩:=rv.one
 obtain⟨z,its,n,r,hl,e⟩:=I.lstM hH
 refine call_meets F.slot_list_append ⟨_,e,rfl⟩ F.entry_list_append (F.args_list_append_2 _ _) (PySem.list_append l its.toArray n u (by rw[List.size_toArray];omega)) ⟨e,?_⟩
 refine⟨.non,_,I.lset (its':=its++[u]) hH e (by simp) (r.append (.cons ru .nil)) ?_,rfl,q⟩
 rw[List.length_append,List.length_singleton]
 omega
end
section
variable{prog:Program}{w:World}{A:Around}{E:Value->Shared->Prop}{s:Shared}
end
section
variable{X:Cx}
end
end L2
namespace Att
open PySem PySem.W PySem.Calls PyProof.Rows
theorem QyH{P:Params}{h:Heap}:∀(ns:List Int)(vs:List Value),WellAll P h vs (ns.map WData.int)->IntsAre vs ns:=by
 intro ns
 induction ns with
 | nil=>
  intro vs w
  rw[List.map_nil]at w
  cases w
  exact .nil
 | cons n ns ih=>
  intro vs w
  rw[List.map_cons]at w
  cases w with
  | cons a b=>
   cases a
   exact .cons _ _ (ih _ b)
theorem script_of{l:OpenLaw}{n:Nat}(hn:l.most=some n){P:Params}{h:Heap}{args:List WData}{vals:List Value}
 (hpre:l.row.toRowW.claim.pre args=true) (hwl:WellAll P h vals args):
 ∃ a vs ns,vals=[Value.ref a]/\args=[WData.list (ns.map WData.int)]/\h.get? a=some { cls:=.type "list",data:=.seq vs.toArray }/\IntsAre vs ns/\ns.length<=n:=by
 have hsh:WShape.hasAll [] args [.list .int]=true:=(pre_splitW hpre).1
 have hc:l.pre.holds [] { args:=args }=true:=(pre_splitW hpre).2
 obtain⟨d,r,rfl,h1,h2⟩:=hasAllW_cons hsh
 obtain rfl:=hasAllW_nil h2
 obtain⟨xs,rfl,h3⟩:=hasW_list h1
 obtain⟨ns,rfl⟩:=items_int h3
 have hlen:ns.length<=n:=by
  unfold OpenLaw.pre at hc
  have h4:(WTm.not (.lt (.lit (.int (n:Int))) (.len (.arg 0)))).holds [] { args:=[.list (ns.map .int)] }=true:=by
   have h4:=(holds_andW hc).1
   rw[hn]at h4
   exact h4
  have h5:=condW_of h4 (w_not (w_lt w_lit (w_len_list (w_arg rfl))))
  rw[List.length_map]at h5
  refine Nat.le_of_not_lt fun q=>?_
  have q':(n:Int)<((ns.length:Nat):Int):=by omega
  first
   | (rw[decide_eq_true q']at h5;exact absurd h5 (by decide))
   | (simp at h5;omega)
 cases hwl with
 | cons w1 w2=>
  cases w2
  cases w1 with
  | list ho hall=>exact⟨_,_,ns,rfl,rfl,ho,QyH ns _ hall,hlen⟩
theorem post_true(l:OpenLaw)(args:List WData):l.row.toRowW.claim.post args (.bool true) args=true:=
 postW_of (r:=l.row.toRowW) (X:=(true == true))
  (show WShape.has [] (.bool true) .bool=true by first | rfl | decide | simp[WShape.has,WShape.arms,WShape.armsAll])
  (show(WTm.eq .res (.lit (.bool true))).value [] { args:=args,res:=some (.bool true),after:=args }=some (.bool (true == true)) from w_eq_bool (w_res rfl) w_lit) rfl
section
variable{prog:Program}{w:World}{A:Around}{E:Value->Shared->Prop}{s:Shared}{K:Frag}
end
end Att
namespace L2
open PySem PySem.Spec PyProof.Rows
theorem QA2:∀{vs:List Value}{ns:List Int},IntsAre vs ns->Vals (ns.map V.int) vs
 | _,_,.nil=>.nil
 | _,_,.cons n t h=>.cons ⟨t,rfl⟩ (QA2 h)
def Only(H:Hp):Prop:=∀ b,H b=none∨∃ o xs,H b=some (.frz o (.lst xs))
theorem QNz{P:Program}{w:World}{K:PySem.W.Frag}{mg mb:Str->Option Value}{CX:CXT}{k:Nat}{fa a:Addr}{fd:FuncData}{x:Str}{sp:Sp}{s₁:Shared}{vs:List Value}{ns:List Int}
 (KX:K.In s₁.heap) (hns:s₁.heap.Ns mainGlobals mg) (hb:s₁.heap.Ns builtinsNs mb) (hbb:∀ x:Str,x≠"__name__"->mb x=bootBuiltins x) (hlim:s₁.heap.NoLimit) (hg:s₁.gens = #[])
 (ha:s₁.heap.get? a=some { cls:=.type "list",data:=.seq vs.toArray }) (hi:IntsAre vs ns) (hl:ns.length<=sizeLine) (hr:Room k callerA)
 (F:∀ base:Heap,K.In base->base.Ns mainGlobals mg->FnOk P w K mg base CX k fa fd [x] sp) (hbind:∀(s:Shared)(u:Value),BindsTo s fd ⟨[u],[]⟩ [(x,u)])
 (hsp:∀ H:Hp,Only H->SqL K H a (ns.map V.int)->sp [.ref a] H (fun v _=>v=.bl true) fun _ _ _=>False)
 (hCX:∀ H e s',CX [] H s₁ (fun _ _ _=>False) e s'->False):
 codeAny (model P w) callerA (.call (.ref fa) ⟨[.ref a],[]⟩) (fun r s'=>r=.ok (.ret (.bool true))/\OldK s₁.heap s'.heap/\s'.os=s₁.os/\AllBare s'.gens) s₁:=by
 have rv:=QA2 hi
 have lenV:=hi.length
 -- from an abstract heap in which nothing but the script may be tracked
 have core:∀ H:Hp,Only H->SqL K H a (ns.map V.int)->HOk P w H s₁.heap->(∀ b,H b≠none->b=a)->(H a≠none->K.lookup a=none)->
  codeAny (model P w) callerA (.call (.ref fa) ⟨[.ref a],[]⟩) (fun r s'=>r=.ok (.ret (.bool true))/\OldK s₁.heap s'.heap/\s'.os=s₁.os/\AllBare s'.gens) s₁:=by
  intro H hO hS hok hA hK
  have base_of:∀{b:Addr}{o:Obj},s₁.heap.get? b=some o->H b=none->(hidT s₁.heap H).get? b=some o:=fun e n=>QOG e n
  have noA:∀{b:Addr}{o:Obj}{es:Array DictEntry}{ep:Nat},s₁.heap.get? b=some o->o.data=.dict es ep->H b=none:=fun {b o es ep} e d=>by
   cases q:H b with
   | none=>rfl
   | some u=>
    have e':b=a:=hA b (by rw[q];simp)
    subst e'
    rw[ha]at e;cases e
    have d':Data.seq vs.toArray _=Data.dict es ep:=d
    cases d'
  have nsK:∀{b:Addr}{m:Str->Option Value},s₁.heap.Ns b m->(hidT s₁.heap H).Ns b m:=fun {b m} ⟨o,es,ep,e,d,r⟩=>⟨o,es,ep,base_of e (noA e d),d,r⟩
  have hKb:K.In (hidT s₁.heap H):=fun b o e=>base_of (KX b o e) (by
   cases q:H b with
   | none=>rfl
   | some u=>
    have e':b=a:=hA b (by rw[q];simp)
    subst e'
    rw[hK (by rw[q];simp)]at e;cases e)
  have hM:Mod K mg (hidT s₁.heap H):=⟨hKb,nsK hns,⟨mb,nsK hb,hbb⟩,let ⟨mc,h1,h2⟩:=hlim;⟨mc,nsK h1,h2⟩⟩
  have e0:Env0 P w K mg (hidT s₁.heap H) callerA [] s₁ H:=⟨rfl,hM,fun b o e=>QPf e,Nat.le_of_eq (QM4 _ _),trivial,fun b hb=>absurd (show b∈([]:List Addr) from hb) (by simp),hok,.of_eq hg⟩
  refine codeAny_mono ((F _ hKb (nsK hns)).run callerA [] s₁ H ⟨[.ref a],[]⟩ [.ref a] [.ref a] _ _ hr e0 (hbind s₁ (.ref a)) (.cons rfl .nil) (hsp H hO hS)) fun r s' h=>?_
  cases r with
  | error e=>exact(hCX H e s' h).elim
  | ok fl=>
   cases fl with
   | next=>exact False.elim h
   | brk=>exact False.elim h
   | cont=>exact False.elim h
   | ret u=>
    obtain⟨v,H',os,bare,un,hok',r',q⟩:=h
    have q':v=.bl true:=q
    subst q'
    obtain rfl:u=Value.bool true:=r'
    refine⟨rfl,OldK.of_keep fun b o e=>?_,os,bare⟩
    cases q:H b with
    | none=>exact un.keep b o e q (by intro z;exact absurd (show b∈([]:List Addr) from z) (by simp)) (by simp)
    | some u=>
     rcases hO b with z | ⟨ob,xs,z⟩
     ·rw[q]at z;cases z
     ·have z2:=un.frzs b ob _ z
      obtain⟨e1,_⟩:=hok b _ z
      obtain⟨e2,_⟩:=hok' b _ z2
      rw[e]at e1;cases e1
      exact e2
 cases hk:K.lookup a with
 | some o=>
  -- the script is one of the module's own objects
  have e:=KX a o hk
  rw[ha]at e
  cases e
  refine core (fun _=>none) (fun _=>.inl rfl) (.inr ⟨_,vs.toArray,_,hk,rfl,rfl,rfl,by rw[List.size_toArray,lenV];exact hl,by simpa using rv⟩) (fun b u z=>by have z':(none:Option HO)=some u:=z;cases z') (fun b z=>absurd rfl z) fun z=>absurd rfl z
 | none=>
  refine core (fun b=>if b=a then some (.frz { cls:=.type "list",data:=.seq vs.toArray } (.lst (ns.map V.int))) else none) (fun b=>?_) (.inl (.inr ⟨{ cls:=.type "list",data:=.seq vs.toArray },if_pos rfl⟩)) (fun b u z=>?_) (fun b z=>?_) fun _=>hk
  ·by_cases hb:b=a
   ·exact .inr ⟨_,_,if_pos hb⟩
   ·exact .inl (if_neg hb)
  ·by_cases hb:b=a
   ·have z':=(if_pos hb).symm.trans z
    cases z'
    subst hb
    exact⟨ha,by rw[List.length_map];exact hl,vs,_,rv,ha⟩
   ·have z':=(if_neg hb).symm.trans z
    cases z'
  ·by_cases hb:b=a
   ·exact hb
   ·exact absurd (if_neg hb) z
end L2
namespace L2
open PySem PySem.Spec PyProof.Rows
end L2
namespace L2
open PySem PySem.Spec PyProof.Rows
def Qn(s:Stmt):Arguments:=match s with
 | .FunctionDef _ a _ _ _ _ _ _ _ _=>a
 | _=>{ posonlyargs:=[],args:=[],vararg:=none,kwonlyargs:=[],kw_defaults:=[],kwarg:=none,defaults:=[] }
def Qm(s:Stmt):List Stmt:=match s with
 | .FunctionDef _ _ b _ _ _ _ _ _ _=>b
 | _=>[]
def Qa(s:Stmt):Scope:=match s with
 | .FunctionDef _ _ _ _ _ _ sc _ _ _=>sc
 | _=>{ kind:=.function,names:=[],isGenerator:=false,isCoroutine:=false }
abbrev CX0:CXT:=fun _ _ _ _ _ _=>False
abbrev E0:XK:=fun _ _ _=>False
theorem pass0{X:Cx}:Qiq CX0 X E0:=fun _ _ _ _ _ _ _ h=>h.elim
structure Fun(K:PySem.W.Frag)(x qual:Str)(st:Stmt)(f:Addr)(fd:FuncData):Prop where
 ex:∃(oc:Value)(od:Option Addr)(kV doc pm:Value)(an:Option Addr)(cdv ct:Value)(osl:Array (Option Value)),
  fd=PySem.W.fnOf x qual (Qn st) (Qm st) (Qa st) .none kV doc pm an cdv ct/\K.lookup f=some ⟨oc,od,.func fd,osl⟩/\PySem.W.codeIn K cdv qual=true
 kp:PySem.W.keepIn K (.ref f)=true
section
variable{P:Program}{w:World}{K:PySem.W.Frag}{mg:Str->Option Value}{base:Heap}
theorem Fun.ok{x qual:Str}{st:Stmt}{f:Addr}{fd:FuncData}{N ps:List Str}{k:Nat}{sp:Sp}(F:Fun K x qual st f fd)(S:Qo N ps (Qa st))(len:∀ vs H Q E,sp vs H Q E->vs.length=ps.length)
 (hbody:∀(cdv:Value)(A:Around)(outer:List Env)(s:Shared)(H:Hp)(vs:List V)(Q:VK)(E:XK),Room k (A.deeper (envOfC qual (Qa st) s.heap.objs.size f cdv))->sp vs H Q E->
  ∃ t,PSs (cxOf CX0 P w K mg base N qual (Qa st) f cdv A outer s H E).nox (Qm st) t/\t { nx:=fun _ H'=>Q .non H',rt:=Q } (start N vs) H):FnOk P w K mg base CX0 (k+1) f fd ps sp:=by
 obtain⟨oc,od,kV,doc,pm,an,cdv,ct,osl,rfl,lk,hcd⟩:=F.ex
 refine fn_of lk hcd S len fun A outer s H vs Q E hr hsp=>?_
 obtain⟨t,h,q⟩:=hbody cdv A outer s H vs Q E hr hsp
 exact⟨t,h.nox,q⟩
end
section
variable{X:Cx}
end
theorem iteF{A B:Prop}(h:B):if false=true then A else B:=by
 rw[if_neg Bool.false_ne_true]
 exact h
theorem iteT{A B:Prop}(h:A):if true=true then A else B:=by
 rw[if_pos rfl]
 exact h
def Same(H H':Hp):Prop:=∀ b o,H b=some o->H' b=some o
theorem Same.refl(H:Hp):Same H H:=fun _ _ h=>h
theorem Same.trans{H H1 H2:Hp}(a:Same H H1)(b:Same H1 H2):Same H H2:=fun c o h=>b c o (a c o h)
theorem Same.free{H H':Hp}(e:Same H H'){l:Addr}(h:H' l=Option.none):H l=Option.none:=by
 cases q:H l with
 | none=>rfl
 | some o=>
  rw[e l o q]at h
  cases h
theorem Same.seq{K:PySem.W.Frag}{H H':Hp}{a:Addr}{xs:List V}(e:Same H H')(h:SqL K H a xs):SqL K H' a xs:=by
 rcases h with(h | ⟨o,h⟩) | h
 ·exact .inl (.inl (e _ _ h))
 ·exact .inl (.inr ⟨o,e _ _ h⟩)
 ·exact .inr h
end L2
namespace L2
open PySem PySem.Spec PyProof.Rows
section
variable{κ:Type}[DecidableEq κ]
def valV(kvs:List (κ×V))(k:κ):Option V:=(kvs.find? fun kv=>decide (kv.1=k)).map (·.2)
def putK(kvs:List (κ×V))(k:κ)(v:V):List (κ×V):=
 if (kvs.any fun kv=>decide (kv.1=k))=true then kvs.map (fun kv=>if kv.1=k then(kv.1,v) else kv) else kvs++[(k,v)]
theorem Qv3{p:κ×V}{r:List (κ×V)}{k:κ}(e:p.1=k):valV (p::r) k=some p.2:=by simp[valV,List.find?_cons,e]
theorem Qwc{p:κ×V}{r:List (κ×V)}{k:κ}(e:¬ p.1=k):valV (p::r) k=valV r k:=by simp[valV,List.find?_cons,e]
theorem QFC(k:κ):∀ kvs:List (κ×V),(kvs.any fun kv=>decide (kv.1=k))=(valV kvs k).isSome
 | []=>rfl
 | p::r=>by
  rw[List.any_cons]
  by_cases e:p.1=k
  ·simp only[Qv3 e,decide_eq_true e,Bool.true_or,Option.isSome_some]
  ·rw[Qwc e,decide_eq_false e,Bool.false_or];exact QFC k r
theorem Qvk(kvs:List (κ×V))(k:κ)(v:V):(putK kvs k v).length<=kvs.length+1:=by
 unfold putK
 split
 ·rw[List.length_map];omega
 ·rw[List.length_append,List.length_cons,List.length_nil];omega
theorem RelO.isSome_eq{o:Option V}{u:Option Value}(r:RelO o u):o.isSome=u.isSome:=by
 cases o with
 | none=>cases u with
  | none=>rfl
  | some _=>exact(show False from r).elim
 | some _=>cases u with
  | none=>exact(show False from r).elim
  | some _=>rfl
theorem RelO.getD{o:Option V}{u:Option Value}{d:V}{d':Value}(r:RelO o u)(rd:RelV d d'):RelV (o.getD d) (u.getD d'):=by
 cases o with
 | none=>cases u with
  | none=>exact rd
  | some _=>exact(show False from r).elim
 | some _=>cases u with
  | none=>exact(show False from r).elim
  | some _=>exact r
theorem KV.val{kvs:List (κ×V)}{vs:List (κ×Value)}(r:KV kvs vs)(k:κ):RelO (valV kvs k) (valueAt vs k):=by
 unfold KV at r
 induction r with
 | nil=>exact True.intro
 | @cons p q ps qs h t ih=>
  obtain⟨h1,h2⟩:=h
  by_cases e:p.1=k
  ·have e':q.1=k:=h1.symm.trans e
   have b:valueAt (q::qs) k=some q.2:=by simp[valueAt,List.find?_cons,e']
   rw[Qv3 e,b];exact h2
  ·have e':¬ q.1=k:=fun z=>e (h1.trans z)
   have b:valueAt (q::qs) k=valueAt qs k:=by simp[valueAt,List.find?_cons,e']
   rw[Qwc e,b];exact ih
theorem KV.any{kvs:List (κ×V)}{vs:List (κ×Value)}(r:KV kvs vs)(k:κ):(kvs.any fun kv=>decide (kv.1=k))=vs.any fun kv=>decide (kv.1=k):=by
 unfold KV at r
 induction r with
 | nil=>rfl
 | cons h t ih=>rw[List.any_cons,List.any_cons,ih,h.1]
theorem KV.repl{kvs:List (κ×V)}{vs:List (κ×Value)}(r:KV kvs vs)(k:κ){y:V}{u:Value}(ry:RelV y u):
 KV (kvs.map fun kv=>if kv.1=k then(kv.1,y) else kv) (vs.map fun kv=>if kv.1=k then(kv.1,u) else kv):=by
 unfold KV at r ⊢
 induction r with
 | nil=>exact .nil
 | @cons p q ps qs h t ih=>
  rw[List.map_cons,List.map_cons]
  refine .cons ?_ ih
  obtain⟨h1,h2⟩:=h
  by_cases e:p.1=k
  ·rw[if_pos e,if_pos (h1.symm.trans e)];exact⟨h1,ry⟩
  ·rw[if_neg e,if_neg (fun z=>e (h1.trans z))];exact⟨h1,h2⟩
theorem KV.put{kvs:List (κ×V)}{vs:List (κ×Value)}(r:KV kvs vs)(k:κ){y:V}{u:Value}(ry:RelV y u):KV (putK kvs k y) (stored vs k u):=by
 unfold putK stored
 rw[r.any k]
 by_cases e:(vs.any fun kv=>decide (kv.1=k))=true
 ·rw[if_pos e,if_pos e];exact r.repl k ry
 ·rw[if_neg e,if_neg e];exact Paired.snoc r ⟨rfl,ry⟩
theorem KV.length{kvs:List (κ×V)}{vs:List (κ×Value)}(r:KV kvs vs):kvs.length=vs.length:=Paired.length r
end
theorem kV_is{P:Program}{w:World}{k:Key}{u:Value}(r:RelV (kV k) u):(Qcy P w).is k u=true:=by
 cases k with
 | inl i=>obtain⟨t,e⟩:=(show ∃ t,u=Value.int i t from r);subst e;exact QH7 P w i t
 | inr x=>obtain⟨t,e⟩:=(show ∃ t,u=Value.str x t from r);subst e;exact QGV P w x t
theorem QBe{P:Program}{w:World}:∀{ks:List Key}{us:List Value},Vals (ks.map kV) us->ItemsAre (Qcy P w) ks us
 | [],_,r=>by rw[List.map_nil]at r;cases r;exact .nil
 | k::ks,_,r=>by
  rw[List.map_cons]at r
  cases r with
  | cons h t=>exact .cons (kV_is h) (QBe t)
abbrev KT(H:Hp):List (List Key×V)->List (List Key×Addr×Value)->Prop:=Paired fun p q=>p.1=q.1/\H q.2.1=some (.tup (p.1.map kV))/\RelV p.2 q.2.2
theorem KT.val{H:Hp}{kvs:List (List Key×V)}{xs:List (List Key×Addr×Value)}(r:KT H kvs xs)(k:List Key):RelO (valV kvs k) ((atKey xs k).map (·.2)):=by
 induction r with
 | nil=>exact True.intro
 | @cons p q ps qs h t ih=>
  obtain⟨h1,_,h2⟩:=h
  by_cases e:p.1=k
  ·have e':q.1=k:=h1.symm.trans e
   have b:atKey (q::qs) k=some q.2:=by simp[atKey,List.find?_cons,e']
   rw[Qv3 e,b];exact h2
  ·have e':¬ q.1=k:=fun z=>e (h1.trans z)
   have b:atKey (q::qs) k=atKey qs k:=by simp[atKey,List.find?_cons,e']
   rw[Qwc e,b];exact ih
theorem KT.repl{H:Hp}{kvs:List (List Key×V)}{xs:List (List Key×Addr×Value)}(r:KT H kvs xs)(k:List Key){y:V}{u:Value}(ry:RelV y u):
 KT H (kvs.map fun kv=>if kv.1=k then(kv.1,y) else kv) (xs.map (putAt k u)):=by
 induction r with
 | nil=>exact .nil
 | @cons p q ps qs h t ih=>
  rw[List.map_cons,List.map_cons]
  refine .cons ?_ ih
  obtain⟨h1,h2,h3⟩:=h
  unfold putAt
  by_cases e:p.1=k
  ·rw[if_pos e,if_pos (h1.symm.trans e)];exact⟨h1,h2,ry⟩
  ·rw[if_neg e,if_neg (fun z=>e (h1.trans z))];exact⟨h1,h2,h3⟩
theorem KT.put{H:Hp}{kvs:List (List Key×V)}{xs:List (List Key×Addr×Value)}(r:KT H kvs xs)(k:List Key){b:Addr}{y:V}{u:Value}(hb:H b=some (.tup (k.map kV)))(ry:RelV y u):
 KT H (putK kvs k y) (storedH xs k b u):=by
 have e:(kvs.any fun kv=>decide (kv.1=k))=(atKey xs k).isSome:=by
  rw[QFC,(r.val k).isSome_eq,Option.isSome_map]
 unfold putK storedH
 rw[e]
 by_cases q:(atKey xs k).isSome=true
 ·rw[if_pos q,if_pos q];exact r.repl k ry
 ·rw[if_neg q,if_neg q];exact Paired.snoc r ⟨rfl,hb,ry⟩
theorem KT.keeps{H H':Hp}{kvs:List (List Key×V)}{xs:List (List Key×Addr×Value)}(r:KT H kvs xs)(ht:∀ b ys,H b=some (.tup ys)->H' b=some (.tup ys)):KT H' kvs xs:=
 Paired.mapP r fun _ _ z=>⟨z.1,ht _ _ z.2.1,z.2.2⟩
section
variable{P:Program}{w:World}{H:Hp}{h:Heap}{a:Addr}
theorem rd_of{u:HO}(ok:HOk P w H h)(e:Rd H a u):ObjOk P w H h a u:=e.ok ok
theorem dk_rd{kvs:List (Key×V)}(ok:HOk P w H h)(e:Rd H a (.dK kvs)):kvs.length<=sizeLine/\(a == sysModules)=false/\∃ vs,KV kvs vs/\h.DictOf (Qcy P w) a vs:=
 show ObjOk P w H h a (.dK kvs) from rd_of ok e
theorem dk_of{kvs:List (Key×V)}(ok:HOk P w H h)(e:H a=some (.dK kvs)):kvs.length<=sizeLine/\(a == sysModules)=false/\∃ vs,KV kvs vs/\h.DictOf (Qcy P w) a vs:=dk_rd ok (.inl e)
theorem QxM{ks:List Key}(ok:HOk P w H h)(e:H a=some (.tup (ks.map kV))):(tupleKind (Qcy P w)).is h ks a:=by
 obtain⟨_,its,r,o,h1,h2,n,h3⟩:=(show ObjOk P w H h a (.tup (ks.map kV)) from ok a _ e)
 exact⟨o,its.toArray,n,h1,h2,h3,by simpa using QBe r⟩
theorem dt_rd{kvs:List (List Key×V)}(ok:HOk P w H h)(e:Rd H a (.dT kvs)):kvs.length<=sizeLine/\(a == sysModules)=false/\
 ∃ xs,KT H kvs xs/\h.DictOfH (tupleKind (Qcy P w)) a xs:=by
 obtain⟨z,y,xs,r,o,es,ep,h1,h2,h3,h4,h5⟩:=(show ObjOk P w H h a (.dT kvs) from rd_of ok e)
 refine⟨z,y,xs,r,o,es,ep,h1,h2,h3,h4,fun x hx=>?_,h5⟩
 have all:∀{l:List (List Key×V)}{m:List (List Key×Addr×Value)},KT H l m->∀ x∈m,(tupleKind (Qcy P w)).is h x.1 x.2.1:=by
  intro l m q
  induction q with
  | nil=>intro x hx;exact nomatch hx
  | @cons p q ps qs hq t ih=>
   intro x hx
   rcases List.mem_cons.mp hx with e | hx
   ·subst e
    exact QxM ok (by rw[← hq.1];exact hq.2.1)
   ·exact ih x hx
 exact all r x hx
theorem dt_of{kvs:List (List Key×V)}(ok:HOk P w H h)(e:H a=some (.dT kvs)):kvs.length<=sizeLine/\(a == sysModules)=false/\
 ∃ xs,KT H kvs xs/\h.DictOfH (tupleKind (Qcy P w)) a xs:=dt_rd ok (.inl e)
end
def DGet(H:Hp)(a:Addr)(y:V)(r:Option V):Prop:=
 (∃ kvs k,Rd H a (.dK kvs)/\y=kV k/\r=valV kvs k)∨∃ kvs k b,Rd H a (.dT kvs)/\y=.ref b/\H b=some (.tup (k.map kV))/\r=valV kvs k
def DPut(H:Hp)(a:Addr)(y v:V)(H':Hp):Prop:=
 (∃ kvs k,H a=some (.dK kvs)/\y=kV k/\kvs.length<sizeLine/\H'=upd H a (.dK (putK kvs k v)))∨
 ∃ kvs k b,H a=some (.dT kvs)/\y=.ref b/\H b=some (.tup (k.map kV))/\kvs.length<sizeLine/\H'=upd H a (.dT (putK kvs k v))
theorem DGet.k{H:Hp}{a:Addr}{kvs:List (Key×V)}{k:Key}(e:H a=some (.dK kvs)):DGet H a (kV k) (valV kvs k):=.inl ⟨kvs,k,.inl e,rfl,rfl⟩
theorem DGet.t{H:Hp}{a b:Addr}{kvs:List (List Key×V)}{k:List Key}(e:H a=some (.dT kvs))(eb:H b=some (.tup (k.map kV))):DGet H a (.ref b) (valV kvs k):=.inr ⟨kvs,k,b,.inl e,rfl,eb,rfl⟩
theorem DPut.k{H:Hp}{a:Addr}{kvs:List (Key×V)}{k:Key}{v:V}(e:H a=some (.dK kvs))(hl:kvs.length<sizeLine):DPut H a (kV k) v (upd H a (.dK (putK kvs k v))):=.inl ⟨kvs,k,e,rfl,hl,rfl⟩
theorem DPut.t{H:Hp}{a b:Addr}{kvs:List (List Key×V)}{k:List Key}{v:V}(e:H a=some (.dT kvs))(eb:H b=some (.tup (k.map kV)))(hl:kvs.length<sizeLine):
 DPut H a (.ref b) v (upd H a (.dT (putK kvs k v))):=.inr ⟨kvs,k,b,e,rfl,eb,hl,rfl⟩
section
variable{X:Cx}{pins:List (Addr×Obj)}{σ:St}{H:Hp}{s:Shared}{a:Addr}{y v:V}{u r:Value}{o:Option V}{A:Around}{E:Value->Shared->Prop}
theorem QNy{Q:Value->Shared->Prop}(hu:A.units+1<cLine)(I:Inv X pins σ H s)(g:DGet H a y (some v))(ry:RelV y u)(h:∀ w' s',Inv X pins σ H s'->RelV v w'->Q w' s'):
 wpAny (model X.prog X.w) A (getItem (.ref a) u) Q E s:=by
 rcases g with⟨kvs,k,e,ey,l⟩ | ⟨kvs,k,b,e,ey,eb,l⟩
 ·subst ey
  obtain⟨z,hd,vs,rel,dd⟩:=dk_rd I.hok e
  obtain⟨w',hw,rw'⟩:=RelO.some_of (v:=v) (o:=valueAt vs k) (by rw[l];exact rel.val k)
  exact wpAny_getItem_of (kV_is ry) dd.mapOf hw (h w' _ (I.tok _) rw')
 ·subst ey
  cases (show u=Value.ref b from ry)
  obtain⟨z,hd,xs,rel,dd⟩:=dt_rd I.hok e
  obtain⟨w',hw,rw'⟩:=RelO.some_of (v:=v) (o:=(atKey xs k).map (·.2)) (by rw[l];exact rel.val k)
  obtain⟨p,hp,hp2⟩:=Option.map_eq_some_iff.mp hw
  refine wpAny_getItem_heap (tupleKind_room_in1 hu) (QxM I.hok eb) dd hp ?_
  rw[hp2]
  exact h w' _ (I.tok _) rw'
theorem QJu{h':Heap}{t':Nat}{ob:HO}(I:Inv X pins σ H s)(mu:Mut (H a))(hs:Heap.SameBut a s.heap h')(he:∃ q,h'.get? a=some q)(new:ObjOk X.prog X.w (upd H a ob) h' a ob):
 Inv X pins σ (upd H a ob) { s with heap:=h',toks:=t' }:=
 I.write (x:=a) (e:=a) mu (.inl rfl) (fun b q hb z=>(hs.2 b hb).trans z) he new
theorem QRF{P:Program}{w:World}{H':Hp}{h':Heap}{kvs:List (Key×V)}{vs:List (Key×Value)}(z:kvs.length<=sizeLine)(hd:(a == sysModules)=false)(rel:KV kvs vs)(dd:h'.DictOf (Qcy P w) a vs):
 ObjOk P w H' h' a (.dK kvs):=⟨z,hd,vs,rel,dd⟩
theorem QL7{H':Hp}{Q:Unit->Shared->Prop}(hu:A.units+1<cLine)(I:Inv X pins σ H s)(g:DPut H a y v H')(ry:RelV y u)(rv:RelV v r)(h:∀ s',Inv X pins σ H' s'->Q () s'):
 wpAny (model X.prog X.w) A (setItem (.ref a) u r) Q E s:=by
 rcases g with⟨kvs,k,e,ey,l,eH⟩ | ⟨kvs,k,b,e,ey,eb,l,eH⟩
 ·subst ey eH
  obtain⟨z,hd,vs,rel,dd⟩:=dk_of I.hok e
  have hz:vs.length<=sizeLine:=by rw[← rel.length];exact z
  have hl:(putK kvs k v).length<=sizeLine:=by have:=Qvk kvs k v;omega
  refine wpAny_setItem_pairs (hsz:=hz) (kV_is ry) dd fun h' dd' hs=>h _ ?_
  have he:∃ q,h'.get? a=some q:=let ⟨q,_,_,hq,_⟩:=dd';⟨q,hq⟩
  exact QJu I (by rw[e];exact True.intro) hs he (QRF hl hd (rel.put k rv) dd')
 ·subst ey eH
  cases (show u=Value.ref b from ry)
  obtain⟨z,hd,xs,rel,dd⟩:=dt_of I.hok e
  have hz:xs.length<=sizeLine:=by rw[← Paired.length rel];exact z
  have hl:(putK kvs k v).length<=sizeLine:=by have:=Qvk kvs k v;omega
  refine wpAny_setItem_heap (hsz:=hz) (tupleKind_room_in1 hu) (QxM I.hok eb) dd fun h' dd' hs=>h _ ?_
  obtain⟨q,es,ep,hq,h2,h3,h4,_,h5⟩:=dd'
  refine QJu I (by rw[e];exact True.intro) hs ⟨q,hq⟩ ⟨hl,hd,_,(rel.put k eb rv).keeps fun c ys ec=>?_,q,es,ep,hq,h2,h3,h4,h5⟩
  rw[Qk (ne_of ec e (fun z=>nomatch z))]
  exact ec
end
section
variable{X:Cx}{pins:List (Addr×Obj)}{σ:St}{H:Hp}{s:Shared}{a:Addr}{kvs:List (Key×V)}{k:Key}{u:Value}{A:Around}{E:Value->Shared->Prop}
end
def NoSl(i:Expr):Prop:=∀ ov iv,subscripted i false ov iv=operate [ov,iv] (getItem ov iv)
theorem QQl{prog:Program}{w:World}{A:Around}{E:Value->Shared->Prop}{s:Shared}{env:Env}{value slice:Expr}{pos:Pos}{T id:String}{Q:Value->Shared->Prop}
 (hl:typeLookup (.type T) "__getitem__"=pure (some (.builtin id))) (hs:NoSl slice)
 (h:wpAny (model prog w) A (eval value env) (fun o s₁=>wpAny (model prog w) A (eval slice env) (fun i s₂ => s₂.TypeIs o T/\wpAny (model prog w) A (getItem o i) Q E s₂) E s₁) E s):
 wpAny (model prog w) A (eval (.Subscript value slice pos) env) Q E s:=by
 refine Subscript_ (wpAny_mono h (fun o s₁ h₁=>wpAny_mono h₁ (fun i s₂ h₂ => ?_) fun _ _ x=>x) fun _ _ x=>x)
 obtain⟨hT,h₂⟩:=h₂
 unfold subscriptTail
 refine wpAny_bind ?_
 rw[getitemInPython_of_ne hT.not_modules]
 refine wpAny_bind (wpAny_specialOf hT hl ?_)
 have fin:wpAny (model prog w) A (subscripted slice false o i) (fun r s₃ => wpAny (model prog w) A (letTemporaryGo value o r>>=fun _=>pure r) Q E s₃) E s₂ := by
  rw[hs o i]
  exact wpAny_operating (wpAny_mono h₂ (fun r s₃ h₃ => wpAny_bind (wpAny_letTemporaryGo (wpAny_pure h₃))) fun _ _ x=>x)
 first
  | exact wpAny_pure (wpAny_bind fin)
  | exact wpAny_bind (wpAny_pure (wpAny_bind fin))
  | exact wpAny_bind fin
theorem QHt{X:Cx}{pins:List (Addr×Obj)}{σ:St}{H:Hp}{s:Shared}{a:Addr}{y:V}{o:Option V}(I:Inv X pins σ H s)(g:DGet H a y o):s.TypeIs (.ref a) "dict":=by
 rcases g with⟨kvs,k,e,_,_⟩ | ⟨kvs,k,b,e,_,_,_⟩
 ·obtain⟨_,_,vs,_,dd⟩:=dk_rd I.hok e
  exact dd.typeIs
 ·obtain⟨_,_,xs,_,dd⟩:=dt_rd I.hok e
  exact dd.typeIs
def tDGet(td ty:TE):TE:=fun σ H Q=>td σ H fun x H1=>ty σ H1 fun y H2=>∃ a v,x=.ref a/\DGet H2 a y (some v)/\Q v H2
def sDPut(td ty tv:TE):TS:=fun D σ H=>tv σ H fun v H1=>td σ H1 fun x H2=>ty σ H2 fun y H3=>∃ a H4,x=.ref a/\DPut H3 a y v H4/\D.nx σ H4
section
variable{X:Cx}{o i e value:Expr}{pos pos' tpos:Pos}{td ty tv:TE}
theorem QPm(hu:X.A.units+1<cLine)(ho:PE X o td)(hi:PE X i ty)(hs:NoSl i):PE X (.Subscript o i pos) (tDGet td ty):=by
 intro pins s σ H Q I h
 refine QQl PySem.F.slot_dict_getitem.lookup hs (thn (ho pins s σ H _ I h) fun u s1 ⟨x,H1,I1,rx,q1⟩=>thn (hi pins s1 σ H1 _ I1 q1) fun iv s2 ⟨y,H2,I2,ry,a,v,ex,g,q2⟩=>?_)
 subst ex
 obtain rfl:u=Value.ref a:=rx
 exact⟨QHt I2 g,QNy hu I2 g ry fun w' s3 I3 rw'=>⟨v,H2,I3,rw',q2⟩⟩
theorem QPM(hu:X.A.units+1<cLine)(ho:PE X o td)(hi:PE X i ty)(hv:PE X value tv)(hs:swapsWith value (some (.Subscript o i pos')) pos.line X.env=pure false):
 PS X (.Assign [.Subscript o i pos'] value pos) (sDPut td ty tv):=by
 intro pins s σ H D I h
 refine wpAny_Assign_Subscript (thn (hv pins s σ H _ I h) fun r s1 ⟨v,H1,I1,rv,q1⟩=>thn (ho pins s1 σ H1 _ I1 q1) fun u s2 ⟨x,H2,I2,rx,q2⟩=>thn (hi pins s2 σ H2 _ I2 q2) fun iv s3 ⟨y,H3,I3,ry,a,H4,ex,g,q3⟩=>?_) hs
 subst ex
 obtain rfl:u=Value.ref a:=rx
 exact QL7 hu I3 g ry rv fun s4 I4=>⟨σ,H4,I4,q3⟩
end
section
variable{X:Cx}{pos:Pos}
end
structure M1(X:Cx)(o:Expr)(m:Str)(apos:Pos)(e:Expr)(cpos:Pos):Prop where
 base:attributeBase o m X.env (eval o X.env)=eval o X.env
 few:((backTo cpos (starEach [e] X.env)).all (fun x => !x.1)&&(backToKw cpos (keywordEach [] X.env)).all (fun x=>x.1.isSome)
  && decide (([e]:List Expr).length+([]:List Keyword).length+(if ([]:List Keyword).isEmpty then 0 else 1)<30))=true
 line:(apos.endLine == cpos.line)=true
 trees:backTo cpos (starEach [e] X.env)=[(false,eval e X.env)]
structure M2(X:Cx)(o:Expr)(m:Str)(apos:Pos)(e f:Expr)(cpos:Pos):Prop where
 base:attributeBase o m X.env (eval o X.env)=eval o X.env
 few:((backTo cpos (starEach [e,f] X.env)).all (fun x => !x.1)&&(backToKw cpos (keywordEach [] X.env)).all (fun x=>x.1.isSome)
  && decide (([e,f]:List Expr).length+([]:List Keyword).length+(if ([]:List Keyword).isEmpty then 0 else 1)<30))=true
 line:(apos.endLine == cpos.line)=true
 trees:backTo cpos (starEach [e,f] X.env)=[(false,eval e X.env),(false,eval f X.env)]
def IsD(H:Hp)(a:Addr):Prop:=(∃ kvs,Rd H a (.dK kvs))∨∃ kvs,Rd H a (.dT kvs)
theorem QR0{X:Cx}{pins:List (Addr×Obj)}{σ:St}{H:Hp}{s:Shared}{a:Addr}(I:Inv X pins σ H s)(d:IsD H a):
 s.TypeIs (.ref a) "dict"/\(∀ b,Value.ref a=.ref b->∃ ob,s.heap.get? b=some ob/\ob.dict=none)/\(a == sysModules)=false:=by
 rcases d with⟨kvs,e⟩ | ⟨kvs,e⟩
 ·obtain⟨_,hd,vs,_,dd⟩:=dk_rd I.hok e
  refine⟨dd.typeIs,fun b q=>?_,hd⟩
  cases q
  obtain⟨ob,_,_,h1,h2,_⟩:=dd
  exact⟨ob,h1,h2.2.1⟩
 ·obtain⟨_,hd,xs,_,dd⟩:=dt_rd I.hok e
  refine⟨dd.typeIs,fun b q=>?_,hd⟩
  cases q
  obtain⟨ob,_,_,h1,h2,_⟩:=dd
  exact⟨ob,h1,h2.2.1⟩
section
variable{X:Cx}{pins:List (Addr×Obj)}{σ:St}{H:Hp}{s:Shared}{a:Addr}{y d:V}{u r:Value}{o:Option V}{A:Around}{E:Value->Shared->Prop}
theorem QRw{Q:Value->Shared->Prop}(hu:A.units+1<cLine)(I:Inv X pins σ H s)(g:DGet H a y o)(ry:RelV y u)(h:∀ w' s',Inv X pins σ H s'->RelV (o.getD .non) w'->Q w' s'):
 wpAny (model X.prog X.w) A (call (.builtin "dict.get") [.ref a,u]) Q E s:=by
 rcases g with⟨kvs,k,e,ey,l⟩ | ⟨kvs,k,b,e,ey,eb,l⟩
 ·subst ey
  obtain⟨z,hd,vs,rel,dd⟩:=dk_rd I.hok e
  refine call_meetsIn PySem.F.slot_dict_get dd.typeIs PySem.F.entry_dict_get (PySem.F.args_dict_get_2 _ _) (meets_dict_get (Qcy X.prog X.w) a (kV_is ry) hd) ⟨_,dd.mapOf,h _ _ (I.tok _) ?_⟩
  rw[l]
  exact(rel.val k).getD rfl
 ·subst ey
  cases (show u=Value.ref b from ry)
  obtain⟨z,hd,xs,rel,dd⟩:=dt_rd I.hok e
  refine call_meetsIn PySem.F.slot_dict_get dd.typeIs PySem.F.entry_dict_get (PySem.F.args_dict_get_2 _ _) (meetsH_dict_get (tupleKind (Qcy X.prog X.w)) a b hd) ⟨tupleKind_room_in1 hu,k,xs,QxM I.hok eb,dd,h _ _ (I.tok _) ?_⟩
  rw[l]
  exact(rel.val k).getD rfl
end
def QRy(td ty:TE):TE:=fun σ H Q=>td σ H fun x H1=>∃ a,x=.ref a/\IsD H1 a/\ty σ H1 fun y H2=>∃ o,DGet H2 a y o/\Q (o.getD .non) H2
section
variable{X:Cx}{o e f:Expr}{apos cpos:Pos}{td ty tx:TE}
theorem QOq(hu:X.A.units+1<cLine)(ho:PE X o td)(he:PE X e ty)(m:M1 X o "get" apos e cpos):PE X (.Call (.Attribute o "get" apos) [e] [] cpos) (QRy td ty):=by
 intro pins s σ H Q I h
 refine wpAny_Call_method m.base m.few m.line PySem.F.plainAttrs_dict PySem.F.slot_dict_get PySem.F.type_dict_get (thn (ho pins s σ H _ I h) fun u s1 ⟨x,H1,I1,rx,a,ex,d,q1⟩=>?_)
 subst ex
 obtain rfl:u=Value.ref a:=rx
 obtain⟨t1,t2,_⟩:=QR0 I1 d
 refine⟨t1,t2,?_⟩
 rw[m.trees]
 refine Calls.callWith_builtin rfl (Calls.evalArgs_plain (Calls.spliced_cons (thn (he pins s1 σ H1 _ I1 q1) fun iv s2 ⟨y,H2,I2,ry,ov,g,q2⟩=>Calls.spliced_nil ?_)))
 exact QRw hu I2 g ry fun w' s3 I3 rw'=>⟨_,H2,I3,rw',q2⟩
end
section
variable{X:Cx}{pins:List (Addr×Obj)}{σ:St}{H:Hp}{s:Shared}{a:Addr}{kvs:List (Key×V)}{A:Around}{E:Value->Shared->Prop}
end
section
variable{X:Cx}{pins:List (Addr×Obj)}{σ:St}{H:Hp}{s:Shared}{a:Addr}{y:V}{u:Value}{A:Around}{E:Value->Shared->Prop}
end
end L2
namespace L2
open PySem PySem.Spec PyProof.Rows
structure FlyS(P:Program)(w:World)(l:List Env)(H:Hp)(s:Shared)(ea C t:Addr)(H':Hp)(B:Heap)(s':Shared):Prop where
 os:s'.os=s.os
 bare:AllBare s'.gens
 un:Un (frs l) [] H H' s.heap s'.heap
 kb:∀ b o,s.heap.get? b=some o->H b=none->b∉frs l->B.get? b=some o
 th:∀ b o,s.heap.get? b=some o->b∉frs l->∃ o',B.get? b=some o'
 hok:HOk P w H' B
 fly:Heap.FlyingW B l ea (.ref C) (.ref t) s'.heap
def CXR(P:Program)(w:World):CXT:=fun l H s E e s'=>∃ ea C t H' B,e=.ref ea/\FlyS P w l H s ea C t H' B s'/\E (.ref C) none H'
section
variable{P:Program}{w:World}{l:List Env}{H H':Hp}{s s':Shared}{ea C t:Addr}{B h':Heap}
end
section
variable{X:Cx}{pins:List (Addr×Obj)}{σ:St}{H1:Hp}{s1:Shared}{E:XK}{ea C:Addr}{vs:List Value}{h':Heap}{Ex:Value->Shared->Prop}{M:Model}
theorem QlS(I:Inv X pins σ H1 s1):∀ b o,X.s₀.heap.get? b=some o->b∉X.fs->b∉frs X.stack:=fun b o e hb z=>by
 rcases List.mem_cons.mp (I.stkSub b z) with q | q
 ·have:=Heap.lt_size e
  rw[q]at this
  exact absurd (Nat.lt_of_lt_of_le this I.ok.above) (Nat.lt_irrefl _)
 ·exact hb q
theorem QOQ(I:Inv X pins σ H1 s1):HOk X.prog X.w H1 (PySem.W.hideAll s1.heap (frs X.stack)):=fun a o e=>
 (I.hok a o e).stay (fun b u hb q=>PySem.W.hideAll_get _ q fun z=>by
  have:=I.stkFree b z
  rcases hb with rfl | hb
  ·rw[this]at e;cases e
  ·rw[this]at hb;cases hb) (fun _ q=>q) fun _ _ q=>q
theorem QJk(I:Inv X pins σ H1 s1):∀ b∈X.fs,∀ o,X.s₀.heap.get? b=some o->∀ vs,o.data≠.fields vs:=fun b hb o e=>by
 obtain⟨_,o',h1,h2⟩:=I.ok.funs.mem hb
 rw[e]at h1;cases h1
 exact h2
theorem QLx(I:Inv X pins σ H1 s1)(hst:X.stack=X.env::X.outer)(hfr:X.env.frame=some X.env.locals)(hex:X.ex=[])(hx:Heap.MadeExcOf s1.heap h' ea (.ref C) vs)(hE:E (.ref C) none H1):
 wpAny M X.A (leaving X.env (.ref ea)) (fun _ s''=>CXR X.prog X.w X.outer X.H₀ X.s₀ E (.ref ea) s'') Ex { s1 with heap:=h' }:=by
 have hin:∀ env∈X.stack,∀ b,env.frame=some b->b∈frs X.stack:=fun env he b hb=>List.mem_filterMap.mpr ⟨env,he,hb⟩
 have st:=I.stack
 refine wpAny_leaves_madeW (base:=PySem.W.hideAll s1.heap (frs X.stack)) (h:=s1.heap) (env:=X.env) (outer:=X.outer) (by rw[← hst];exact I.ok.frames) hfr (fun b o q=>PySem.W.of_hideAll _ q)
  (by rw[← hst];exact PySem.W.funFrames_hide st hin) hx fun h2 t fl tp nt up=>?_
 have nx:∀ b:Addr,b∉X.ex:=fun b z=>by rw[hex]at z;cases z
 have kbB:∀ b o,X.s₀.heap.get? b=some o->X.H₀ b=none->b∉X.fs->(PySem.W.hideAll s1.heap (frs X.stack)).get? b=some o:=fun b o e n hb=>PySem.W.hideAll_get _ (I.base.keep b o e n hb (nx b)) (QlS I b o e hb)
 have thB:∀ b o,X.s₀.heap.get? b=some o->b∉X.fs->∃ o',(PySem.W.hideAll s1.heap (frs X.stack)).get? b=some o':=fun b o e hb=>by
  obtain⟨o',q⟩:=I.base.there b o e (nx b)
  exact⟨o',PySem.W.hideAll_get _ q (QlS I b o e hb)⟩
 have slot:∀ b o,X.s₀.heap.get? b=some o->X.H₀ b=none->b∈X.fs->∃ sl,h2.get? b=some { o with slots:=sl }:=fun b o e n hb=>by
  obtain⟨sl,q⟩:=I.base.slot b o e n hb (nx b)
  obtain⟨sl2,q2⟩:=up b _ (hx.keeps _ _ q) (QJk I b hb o e)
  exact⟨sl2,q2⟩
 refine⟨ea,C,t,H1,_,rfl,⟨I.os,I.bare,⟨fun b o e n hb _=>fl.1 b o (kbB b o e n hb),fun b o e n hb _=>slot b o e n hb,fun b o e n _=>I.base.free b o e n (nx b),fun b o e _=>?_,I.base.tups,I.base.frzs,I.base.tbls⟩,kbB,thB,QOQ I,fl⟩,hE⟩
 by_cases hb:b∈X.fs
 ·obtain⟨sl,q⟩:=slot b o e (I.ok.frf b hb) hb
  exact⟨_,q⟩
 ·obtain⟨o',q⟩:=thB b o e hb
  exact⟨o',fl.1 b o' q⟩
theorem QOz{s':Shared}{e:Value}(I:Inv X pins σ H1 s1)(hst:X.stack=X.env::X.outer)(hfr:X.env.frame=some X.env.locals)(hex:X.ex=[])(h:CXR X.prog X.w X.stack H1 s1 E e s'):
 wpAny M X.A (leaving X.env e) (fun _ s''=>CXR X.prog X.w X.outer X.H₀ X.s₀ E e s'') Ex s':=by
 obtain⟨ea,C,t,H',B,rfl,F,hE⟩:=h
 have fl:=F.fly
 rw[hst]at fl
 refine wpAny_leaves_onW (by rw[← hst];exact I.ok.frames) hfr fl fun h2 fl2 up=>?_
 have nx:∀ b:Addr,b∉X.ex:=fun b z=>by rw[hex]at z;cases z
 have nn:∀ b:Addr,b∉([]:List Addr):=fun b z=>by cases z
 have kbB:∀ b o,X.s₀.heap.get? b=some o->X.H₀ b=none->b∉X.fs->B.get? b=some o:=fun b o e n hb=>
  F.kb b o (I.base.keep b o e n hb (nx b)) (I.base.free b o e n (nx b)) (QlS I b o e hb)
 have thB:∀ b o,X.s₀.heap.get? b=some o->b∉X.fs->∃ o',B.get? b=some o':=fun b o e hb=>by
  obtain⟨o',q⟩:=I.base.there b o e (nx b)
  exact F.th b o' q (QlS I b o e hb)
 have slot:∀ b o,X.s₀.heap.get? b=some o->X.H₀ b=none->b∈X.fs->∃ sl,h2.get? b=some { o with slots:=sl }:=fun b o e n hb=>by
  obtain⟨sl,q⟩:=I.base.slot b o e n hb (nx b)
  have hs:b∈frs X.stack:=by
   rw[hst]
   obtain⟨env,h1,h2⟩:=List.mem_filterMap.mp hb
   exact List.mem_filterMap.mpr ⟨env,List.mem_cons_of_mem _ h1,h2⟩
  obtain⟨sl1,q1⟩:=F.un.slot b _ q (I.base.free b o e n (nx b)) hs (nn b)
  obtain⟨sl2,q2⟩:=up b _ q1 (QJk I b hb o e)
  exact⟨sl2,q2⟩
 refine⟨ea,C,t,H',B,rfl,⟨F.os.trans I.os,F.bare,⟨fun b o e n hb _=>fl2.1 b o (kbB b o e n hb),fun b o e n hb _=>slot b o e n hb,fun b o e n _=>?_,fun b o e _=>?_,fun b xs e=>F.un.tups b xs (I.base.tups b xs e),fun b o u e=>F.un.frzs b o u (I.base.frzs b o u e),fun b ps e=>?_⟩,kbB,thB,F.hok,fl2⟩,hE⟩
 ·obtain⟨o',q⟩:∃ o',s1.heap.get? b=some o':=I.base.there b o e (nx b)
  exact F.un.free b o' q (I.base.free b o e n (nx b)) (nn b)
 ·by_cases hb:b∈X.fs
  ·obtain⟨sl,q⟩:=slot b o e (I.ok.frf b hb) hb
   exact⟨_,q⟩
  ·obtain⟨o',q⟩:=thB b o e hb
   exact⟨o',fl2.1 b o' q⟩
 ·obtain⟨m1,q1⟩:=I.base.tbls b ps e
  obtain⟨m2,q2⟩:=F.un.tbls b _ q1
  exact⟨m1++m2,by rw[q2,Array.append_assoc]⟩
end
section
variable{P:Program}{w:World}{K:PySem.W.Frag}{mg:Str->Option Value}{base:Heap}{N:List Str}{qual:Str}{scope:Scope}{f:Addr}{cd:Value}{A:Around}{outer:List Env}{s:Shared}{H:Hp}{E:XK}
theorem passR:Qiq (CXR P w) (cxOf (CXR P w) P w K mg base N qual scope f cd A outer s H E) E:=fun pins σ H1 s1 e s' I h=>QOz I rfl rfl rfl h
end
end L2
namespace L2
open PySem PySem.Spec PyProof.Rows
section
variable{X:Cx}{C:Addr}{E:XK}{x:Str}{e₀:Expr}{rest:List Expr}{ta:TA}{np cpos pos:Pos}
end
end L2
namespace L2
open PySem PySem.Spec PyProof.Rows
def exO(ea C:Addr):HO:=.ext fun h=>∃ o vs,h.get? ea=some o/\o.cls=.ref C/\o.data=.fields vs
section
variable{X:Cx}{pins:List (Addr×Obj)}{σ:St}{H H':Hp}{s s':Shared}{ea C t:Addr}{B:Heap}
end
section
variable{X:Cx}{pins:List (Addr×Obj)}{σ:St}{H H':Hp}{s s':Shared}{ea C DD t:Addr}{B:Heap}{x n:Str}{np hpos:Pos}{b₀:Stmt}{suite:List Stmt}{rest:List ExceptHandler}{D:Ends}{Ex:Value->Shared->Prop}{i:Nat}{ts:TS}
end
end L2
namespace L2
open PySem PySem.Spec PyProof.Rows
abbrev TXS:=Ends->St->Hp->(St->XK)->Prop
section
variable{X:Cx}{k:Nat}{f:Addr}{fd:FuncData}{ps:List Str}{sp:Sp}{dvs:List V}{ds:List Value}{x:Str}{p pos:Pos}{e:Expr}{es:List Expr}{ta:TA}
theorem PA.nox{es:List Expr}{t:TA}(h:PA X.nox es t){pos:Pos}{pins:List (Addr×Obj)}{s:Shared}{σ:St}{H:Hp}{Q:List V->Hp->Prop}{E:Value->Shared->Prop}(I:Inv X pins σ H s)(q:t σ H Q):
 wpAny (model X.prog X.w) X.A (spliced (backTo pos (starEach es X.env))) (AP X pins σ Q) E s:=
 wpAny_mono (h pos pins s σ H Q (I.wish _) q) (fun _ _ ⟨v,H',I',r,q⟩=>⟨v,H',I'.unwish,r,q⟩) fun _ _ z=>False.elim z
variable{t u:TXS}{te:TX}{st:Stmt}{rest:List Stmt}{i:Nat}{px:Pos}
end
end L2
namespace L2
open PySem PySem.Spec PyProof.Rows
def ExAt(x D:Addr)(h:Heap):Prop:=∃ o vs,h.get? x=some o/\o.cls=.ref D/\o.data=.fields vs
section
open PySem.W PySem.Calls Builtin Builtin.ObjectAttr Builtin.Getset_descriptor
variable{K:PySem.W.Frag}{x D:Addr}
theorem QpY{M:Model}{h:Heap}(I:ExAt x D h):Looks M h (typeOf (.ref x)) (.ref D):=by
 obtain⟨o,vs,h1,h2,_⟩:=I
 exact h2 ▸ (Looks.ld h1).andThen .now
theorem Qx3{M:Model}{h:Heap}(X:K.In h){name:Str}{a g:Value}(ha:findIn K (.ref D) name=some (some a))(hg:specialIn K a "__get__"=some (some g))(ht:takesIn K a=some true):
 Looks M h (find (.ref x) (.ref D) name) (.bind g a):=by
 have L1:=looks_findIn (M:=M) X ha
 have L2:Looks M h (getOf (some a)) (some g):=looks_specialIn X hg
 have L3:=looks_takesIn (M:=M) X ht
 exact L1.andThen (L2.andThen ((show Looks M h (dataDescriptor? (some a) (some g)) (some (g,a)) from L3.andThen .now).andThen (Looks.tag .now)))
variable{prog:Program}{w:World}{A:Around}{E:Value->Shared->Prop}{s:Shared}{name:Str}
theorem QNK{M:Model}{nameV:Value}{Q:Unit->Shared->Prop}(X:K.In s.heap)(I:ExAt x D s.heap)(hb:mroIn K D (.type "BaseException")=some true)(hq:Q () s):wpAny M A (checkBuiltinCall "BaseException.__getattribute__" ⟨[.ref x,nameV],[]⟩) Q E s:=by
 obtain⟨hh,g,dr,t,os⟩:=s
 have hk:builtinKind "BaseException.__getattribute__"=some .slot:=dk
 have hsplit:splitId "BaseException.__getattribute__"=some ("BaseException","__getattribute__"):=dk
 have L0:=QpY (M:=M) I
 have L1:=looks_mroIn (M:=M) X hb
 have ha:=F.args_bexc_ga (.ref x) nameV
 simp only[checkBuiltinCall,hk,hsplit]
 refine wpAny_bind ?_
 unfold isInstance
 repeat (first | lk | wp_step)
 exact hq
theorem QRt{R:Result->Shared->Prop}{tp:Value}(X:K.In s.heap)(I:ExAt x D s.heap)(hm:mroIn K D (.type "object")=some true)
 (h:R (.ok (.ret (.ref D))) s):codeAny (model prog w) A (.call (.builtin "getset_descriptor.__get__") ⟨[.builtin "object.__class__",.ref x,tp],[]⟩) R s:=by
 obtain⟨hh,g,dr,t,os⟩:=s
 have L0:=QpY (M:=model prog w) I
 have L1:=looks_mroIn (M:=model prog w) X hm
 refine codeAny_call_builtin KF.slot_gs.plain KF.entry_gs (KF.slot_gs.check _ _ _ _ _ _ _ _ KF.type_class (KF.args_gs _ _ _) ?_)
 unfold Builtin.«getset_descriptor.__get__» descrGet
 rw[dga_obj]
 refine wpAny_bind (wpAny_pure ?_)
 unfold descrGetter descrCheckInstance descrNameAndClass isInstance
 simp only[KF.owner_class]
 repeat lk
 refine⟨Code.quiet_builtin _ (dk),codeAny_builtin KF.entry_class ?_⟩
 unfold Builtin.«object.__class__» shownTypeOf
 repeat lk
 exact h
theorem QOr{g a:Value}{tk:Tok}{Q:Fin->Shared->Prop}(X:K.In s.heap)(I:ExAt x D s.heap)(ha:findIn K (.ref D) "__class__"=some (some (.builtin "object.__class__")))
 (hn:specialIn K (.builtin "object.__class__") "__get__"=some (some (.builtin "getset_descriptor.__get__"))) (ht:takesIn K (.builtin "object.__class__")=some true) (hm:mroIn K D (.type "object")=some true)
 (hq:Q (.done (.ret (.ref D))) s):wpAny (model prog w) A (Builtin.«object.__getattribute__» ⟨[.ref x,.str "__class__" tk],[]⟩) Q E s:=by
 have L3:=Qx3 (x:=x) (M:=model prog w) X ha hn ht
 have L0:=QpY (M:=model prog w) I
 obtain⟨hh,gg,d,t,os⟩:=s
 refine wpAny_bind (wpAny_pure ?_)
 refine wpAny_bind (wpAny_pure (wpAny_bind (L0.at (wpAny_bind (L3.at ?_)))))
 show wpAny _ _ (holding [_] (call (.builtin "getset_descriptor.__get__") [.builtin "object.__class__",.ref x,.ref D])>>=ret) _ _ _
 exact wpAny_bind (wpAny_holding (wpAny_call (QRt (s:=⟨hh,gg,d,t,os⟩) X I hm (wpAny_pure hq))))
theorem QP9{Q:Option Value->Shared->Prop}(X:K.In s.heap)(I:ExAt x D s.heap)(g1:findIn K (.ref D) "__getattribute__"=some (some (.builtin "BaseException.__getattribute__")))(hb:mroIn K D (.type "BaseException")=some true)
 (g2:findIn K (.ref D) "__getattr__"=some none) (ha:findIn K (.ref D) "__class__"=some (some (.builtin "object.__class__")))
 (hn:specialIn K (.builtin "object.__class__") "__get__"=some (some (.builtin "getset_descriptor.__get__"))) (ht:takesIn K (.builtin "object.__class__")=some true) (hm:mroIn K D (.type "object")=some true)
 (h:Q (some (.ref D)) { s with toks:=s.toks+1 }):wpAny (model prog w) A (getAttr? (.ref x) "__class__") Q E s:=by
 obtain⟨hh,g,d,t,os⟩:=s
 have L0:=QpY (M:=model prog w) I
 have L1:=looks_findIn (M:=model prog w) X g1
 have L2:=looks_findIn (M:=model prog w) X g2
 have f3:=PySem.F.attr_ValueError.ga.bind (.ref x)
 have hx2:(Value.builtin "BaseException.__getattribute__" == Value.builtin "object.__getattribute__")=false:=dk
 have hx1:(onTheHeap (Value.ref D)&&Value.builtin "BaseException.__getattribute__" == Value.builtin "object.__getattribute__")=false:=by rw[hx2];rfl
 unfold getAttr? getAttrBy? getAttrBy
 refine wpAny_bind (wpAny_mkText (wpAny_bind (wpAny_attempt (wpAny_holding (wpAny_bind (L0.at (wpAny_bind (L1.at ?_))))))))
 show wpAny _ _ (if (onTheHeap (Value.ref D)&&Value.builtin "BaseException.__getattribute__" == Value.builtin "object.__getattribute__")=true then _ else getAttrByItsOwn _ _ _ _ _ _) _ _ _
 rw[hx1,if_neg (by decide)]
 unfold getAttrByItsOwn
 refine wpAny_bind ?_
 show wpAny _ _ (typeLookup (.ref D) "__getattr__") _ _ _
 refine L2.at ?_
 refine wpAny_bind (wpAny_attempt ?_)
 refine wpAny_holding ?_
 show wpAny _ _ (boundAndCalled (.builtin "BaseException.__getattribute__") (.ref x) _) _ _ _
 unfold boundAndCalled
 refine wpAny_bind (wpAny_of_eq f3 ?_)
 refine wpAny_call (codeAny_call_builtin PySem.F.attr_ValueError.ga.plain F.entry_bexc_ga (QNK (s:=⟨hh,g,d,t+1,os⟩) X I hb (QOr (g:=.none) (a:=.none) (s:=⟨hh,g,d,t+1,os⟩) X I ha hn ht hm ?_)))
 show wpAny _ _ (handedOut (.ref D)) _ _ _
 exact handed_on rfl (wpAny_pure h)
structure ExCls(K:PySem.W.Frag)(D:Addr):Prop where
 cl:(clsIn K D).isSome=true
 g1:findIn K (.ref D) "__getattribute__"=some (some (.builtin "BaseException.__getattribute__"))
 hb:mroIn K D (.type "BaseException")=some true
 g2:findIn K (.ref D) "__getattr__"=some none
 ha:findIn K (.ref D) "__class__"=some (some (.builtin "object.__class__"))
 hn:specialIn K (.builtin "object.__class__") "__get__"=some (some (.builtin "getset_descriptor.__get__"))
 htk:takesIn K (.builtin "object.__class__")=some true
 hm:mroIn K D (.type "object")=some true
theorem QOf(e:ExCls K D):KitX K (.ref x) (.ref D) (ExAt x D) where
 ty:=fun _ _ _ I=>QpY I
 it:=fun _ _ X _=>by
  obtain⟨cdD,hcD⟩:=Option.isSome_iff_exists.mp e.cl
  unfold clsIn at hcD
  split at hcD
  ·rename_i c' d' cd' sl' ho
   intro A' Q' E' s' k q
   unfold isType loadHead
   exact wpAny_bind (wpAny_loadPart (k _ _ (X _ _ ho)) (wpAny_pure q))
  ·cases hcD
 ne:=fun h tp dd its n sl X htp=>by
  obtain⟨cdD,hcD⟩:=Option.isSome_iff_exists.mp e.cl
  refine Bool.eq_false_iff.mpr fun q=>?_
  have e:D=tp:=Value.ref.inj (beq_iff_eq.mp q)
  subst e
  unfold clsIn at hcD
  split at hcD
  ·rename_i c' d' cd' sl' ho
   have z:=(X _ _ ho).symm.trans htp
   cases z
  ·cases hcD
 ca:=fun X I k=>QP9 X I e.g1 e.hb e.g2 e.ha e.hn e.htk e.hm k
end
end L2
set_option maxHeartbeats 1000000
namespace L2
open PySem PySem.Spec PyProof.Rows
section
variable{prog:Program}{w:World}{A:Around}{R:Result->Shared->Prop}{s:Shared}
theorem QDO{elt target iter:Expr}{ifs:List Expr}{scope:Scope}{pos:Pos}{it acc:Value}{env:Env}(I:Nat->Shared->Prop)(NB:Value->Shared->Prop)(hNB:∀ e s',NB e s'->notedBy (model prog w) A env (fun e s'=>R (.error e) s') e s')
 (turn:∀ n s,I n s->wpAny (model prog w) A (pyNext it) (fun r s₁=>match r with
  | none=>R (.ok .next) s₁
  | some v=>wpAny (model prog w) A (letOwnedTupleGo target it v) (fun _ s₁'=>wpAny (model prog w) A (assign target env v) (fun _ s₂ =>
   wpAny (model prog w) A (forIn ifs true fun c r=>if r=true then do let ok ← isTrue c env (eval c env);pure (ForInStep.yield ok) else pure (ForInStep.yield r)) (fun ok s₃ =>
    if ok=true then wpAny (model prog w) A (eval elt env) (fun x s₄ =>
     wpAny (model prog w) A (call (.builtin "list.append") [acc,x]) (fun _ s₅ => ∃ m,m<n/\I m s₅) NB s₄) NB s₃
    else ∃ m,m<n/\I m s₃) NB s₂) NB s₁') NB s₁) NB s)
 (n:Nat) (h:I n s):
 codeAny (model prog w) A (.compLoop (.ListComp elt [⟨target,iter,ifs,0⟩] scope pos) 0 it acc env) R s:=by
 refine codeAny_loop rfl I (fun n s hI=>?_) n h
 show wpAny _ A ((compTurn (.ListComp elt [⟨target,iter,ifs,0⟩] scope pos) 0 it acc env).onRaise (fun x=>do noteFrame x env;theTreesLotGoes x)) _ _ s
 refine wpAny_noted ?_
 rw[compTurn_list]
 refine wpAny_bind (wpAny_standAt (wpAny_bind (wpAny_mono (turn n s hI) (fun r s₁ h₁=>?_) hNB)))
 cases r with
 | none=>exact wpAny_pure h₁
 | some v=>
  refine wpAny_bind (wpAny_mono h₁ (fun _ s₁' h₁'=>?_) hNB)
  refine wpAny_bind (wpAny_mono h₁' (fun _ s₂ h₂ => wpAny_bind (wpAny_mono h₂ (fun ok s₃ h₃ => ?_) hNB)) hNB)
  cases ok with
  | false=>exact wpAny_pure ⟨rfl,h₃⟩
  | true=>
   exact wpAny_bind (wpAny_bind (wpAny_mono h₃ (fun x s₄ h₄ => wpAny_bind (wpAny_mono h₄ (fun _ s₅ h₅ => wpAny_pure (wpAny_pure ⟨rfl,h₅⟩)) hNB)) hNB))
end
def Qi(scope outer:Scope):Scope:=
 { scope with names:=scope.names.map fun(n,k)=>if (k == .free&&outer.kind == .function&&outer.names.lookup n == some .cell) then(n,.cell) else(n,k) }
theorem Qql(c:Str->NameKind->Bool)(x:Str):∀ names:List (Str×NameKind),(names.map fun(n,k)=>if c n k=true then(n,NameKind.cell) else(n,k)).lookup x=(names.lookup x).map fun k=>if c x k=true then NameKind.cell else k
 | []=>rfl
 | (n,k)::r=>by
  have ih:=Qql c x r
  show List.lookup x ((if c n k=true then(n,NameKind.cell) else(n,k))::_)=_
  by_cases hx:x=n
  ·subst hx
   by_cases hc:c x k=true
   ·rw[if_pos hc,List.lookup_cons_self,List.lookup_cons_self];simp[hc]
   ·rw[if_neg hc,List.lookup_cons_self,List.lookup_cons_self];simp[hc]
  ·have hb:(x == n)=false:=by simpa using hx
   by_cases hc:c n k=true
   ·rw[if_pos hc,List.lookup_cons,List.lookup_cons,hb];exact ih
   ·rw[if_neg hc,List.lookup_cons,List.lookup_cons,hb];exact ih
theorem QnO(scope outer:Scope)(x:Str):(Qi scope outer).names.lookup x=(scope.names.lookup x).map fun k=>if (k == .free&&outer.kind == .function&&outer.names.lookup x == some .cell)=true then NameKind.cell else k:=
 Qql (fun n k=>k == .free&&outer.kind == .function&&outer.names.lookup n == some .cell) x scope.names
theorem QCQ{scope outer:Scope}{x:Str}(h:scope.names.lookup x=some .free):(Qi scope outer).names.lookup x=some .cell∨(Qi scope outer).names.lookup x=some .free:=by
 rw[QnO,h]
 show some (if _ then _ else _)=_∨some (if _ then _ else _)=_
 split
 ·exact .inl rfl
 ·exact .inr rfl
theorem QBs{scope outer:Scope}{x:Str}(h:(Qi scope outer).names.lookup x=some .cell∨(Qi scope outer).names.lookup x=some .free):scope.names.lookup x=some .cell∨scope.names.lookup x=some .free:=by
 rw[QnO]at h
 cases e:scope.names.lookup x with
 | none=>rw[e]at h;rcases h with h | h<;>cases h
 | some k=>
  rw[e]at h
  cases k with
  | free=>exact .inr rfl
  | cell=>exact .inl rfl
  | _=>rcases h with h | h<;>cases h
def QbP(env:Env):List (Str×NameKind)->List (Str×Addr)->List (Str×Addr)
 | [],acc=>acc
 | (n,k)::r,acc=>if (k == .free)=true then QbP env r ((n,(env.cells.lookup n).getD 0)::acc) else QbP env r acc
theorem Qxm{scope:Scope}{env:Env}(h:∀ y∈scope.names,y.2=.free->(env.cells.lookup y.1).isSome=true):closureFor scope env=pure (QbP env scope.names []):=by
 have go:∀(names:List (Str×NameKind))(acc:List (Str×Addr)),(∀ y∈names,y.2=.free->(env.cells.lookup y.1).isSome=true)->
  (forIn names acc fun x r=>if (x.2 == NameKind.free)=true then(cellOf env x.1>>=fun a=>pure (ForInStep.yield ((x.1,a)::r))) else pure (ForInStep.yield r):Sem (List (Str×Addr)))=pure (QbP env names acc):=by
  intro names
  induction names with
  | nil=>intro acc _;rfl
  | cons y r ih=>
   intro acc hy
   obtain⟨n,k⟩:=y
   rw[List.forIn_cons]
   unfold QbP
   by_cases hk:(k == NameKind.free)=true
   ·obtain⟨c,hc⟩:=Option.isSome_iff_exists.mp (hy (n,k) List.mem_cons_self (beq_iff_eq.mp hk))
    have e:cellOf env n=pure c:=by unfold cellOf;rw[show env.cells.lookup n=some c from hc]
    simp only[hk,if_true,e]
    rw[show(env.cells.lookup n).getD 0=c from by rw[show env.cells.lookup n=some c from hc];rfl]
    exact ih _ fun y hm=>hy y (List.mem_cons_of_mem _ hm)
   ·simp only[hk]
    exact ih _ fun y hm=>hy y (List.mem_cons_of_mem _ hm)
 have e:=go scope.names [] h
 unfold closureFor
 exact congrArg (fun m=>m>>=fun s=>(pure s:Sem (List (Str×Addr)))) e
theorem QlE{env:Env}{p:Str×Addr}:∀{names:List (Str×NameKind)}{acc:List (Str×Addr)},p∈QbP env names acc->p∈acc∨p.2=(env.cells.lookup p.1).getD 0/\∃ y∈names,y.1=p.1/\y.2=.free
 | [],_,h=>.inl h
 | (n,k)::r,acc,h=>by
  unfold QbP at h
  split at h
  ·rename_i hk
   rcases QlE h with h | ⟨h,y,hy,e⟩
   ·rcases List.mem_cons.mp h with h | h
    ·subst h;exact .inr ⟨rfl,(n,k),List.mem_cons_self,rfl,beq_iff_eq.mp hk⟩
    ·exact .inl h
   ·exact .inr ⟨h,y,List.mem_cons_of_mem _ hy,e⟩
  ·rcases QlE h with h | ⟨h,y,hy,e⟩
   ·exact .inl h
   ·exact .inr ⟨h,y,List.mem_cons_of_mem _ hy,e⟩
theorem Ql9{env:Env}{x:Str}:∀{names:List (Str×NameKind)}{acc:List (Str×Addr)},(acc.lookup x).isSome=true∨(∃ y∈names,y.1=x/\y.2=.free)->((QbP env names acc).lookup x).isSome=true
 | [],_,h=>h.elim id fun⟨_,hy,_⟩=>nomatch hy
 | (n,k)::r,acc,h=>by
  unfold QbP
  split
  ·rename_i hk
   refine Ql9 ?_
   rcases h with h | ⟨y,hy,e1,e2⟩
   ·refine .inl ?_
    rw[List.lookup_cons]
    split
    ·rfl
    ·exact h
   ·rcases List.mem_cons.mp hy with rfl | hy
    ·refine .inl ?_
     have e1:n=x:=e1
     subst e1
     rw[List.lookup_cons_self];rfl
    ·exact .inr ⟨y,hy,e1,e2⟩
  ·rename_i hk
   refine Ql9 ?_
   rcases h with h | ⟨y,hy,e1,e2⟩
   ·exact .inl h
   ·rcases List.mem_cons.mp hy with rfl | hy
    ·have e2:k=.free:=e2
     subst e2
     exact absurd rfl hk
    ·exact .inr ⟨y,hy,e1,e2⟩
theorem Qdc{α:Type}{l:List (Str×α)}{x:Str}{c:α}(h:l.lookup x=some c):(x,c)∈l:=PySem.mem_of_lookup h
theorem Qw7{p:Str×Addr}:∀{names:List (Str×NameKind)}{n:Nat}{acc:List (Str×Addr)},p∈cellsFrom n names acc->p∈acc∨n<=p.2
 | [],_,_,h=>.inl h
 | (y,k)::r,n,acc,h=>by
  unfold cellsFrom at h
  split at h
  ·rcases Qw7 h with h | h
   ·rcases List.mem_cons.mp h with h | h
    ·subst h;exact .inr (Nat.le_refl _)
    ·exact .inl h
   ·exact .inr (Nat.le_of_succ_le h)
  ·exact Qw7 h
theorem QF8:∀{names:List (Str×NameKind)}{n:Nat}{acc:List (Str×Addr)},(∀ p∈acc,p.2<n)->(∀ p∈acc,∀ q∈acc,p.2=q.2->p.1=q.1)->∀ p∈cellsFrom n names acc,∀ q∈cellsFrom n names acc,p.2=q.2->p.1=q.1
 | [],_,_,_,h=>h
 | (y,k)::r,n,acc,hl,hi=>by
  unfold cellsFrom
  split
  ·refine QF8 (fun p hp=>?_) fun p hp q hq e=>?_
   ·rcases List.mem_cons.mp hp with rfl | hp
    ·exact Nat.lt_succ_self _
    ·exact Nat.lt_succ_of_lt (hl p hp)
   ·rcases List.mem_cons.mp hp with rfl | hp<;>rcases List.mem_cons.mp hq with rfl | hq
    ·rfl
    ·exact absurd e (Nat.ne_of_gt (hl q hq))
    ·exact absurd e (Nat.ne_of_lt (hl p hp))
    ·exact hi p hp q hq e
  ·exact QF8 hl hi
theorem Qzf:∀{names:List (Str×NameKind)}{h:Heap}{acc:List (Str×Addr)},(∀ p∈acc,∃ v,h.IsCell p.2 v)->∀ p∈cellsFrom h.objs.size names acc,∃ v,(pushCells h names).IsCell p.2 v
 | [],_,_,h=>h
 | (y,k)::r,h,acc,hc=>by
  unfold cellsFrom pushCells
  split
  ·have:=Qzf (names:=r) (h:=h.push { cls:=.type "cell",data:=.cell none }) (acc:=(y,h.objs.size)::acc) fun p hp=>by
    rcases List.mem_cons.mp hp with rfl | hp
    ·exact⟨none,_,Heap.get?_push_size _ rfl,rfl⟩
    ·obtain⟨v,q⟩:=hc p hp
     exact⟨v,q.keeps fun b o e=>Heap.get?_push_of_some _ e⟩
   rwa [Heap.size_push]at this
  ·exact Qzf hc
theorem QzL{x:Str}:∀{names:List (Str×NameKind)}{n:Nat}{acc:List (Str×Addr)},(∀ y∈names,y.1=x->y.2=.free)->(cellsFrom n names acc).lookup x=acc.lookup x
 | [],_,_,_=>rfl
 | (y,k)::r,n,acc,h=>by
  unfold cellsFrom
  split
  ·rename_i hk
   rw[QzL fun z hz=>h z (List.mem_cons_of_mem _ hz),List.lookup_cons]
   split
   ·rename_i hb
    have hx:x=y:=beq_iff_eq.mp hb
    have:=h (y,k) List.mem_cons_self hx.symm
    have this:k=.free:=this
    subst this
    exact absurd hk (by decide)
   ·rfl
  ·exact QzL fun z hz=>h z (List.mem_cons_of_mem _ hz)
def QD4(scope:Scope)(cl:List (Str×Addr))(L:Addr)(env:Env):Env:=
 { scope:=Qi scope env.scope,locals:=L,globals:=env.globals,cells:=cellsFrom (L+1) scope.names cl,qual:=env.qual,func:=none,code:=env.code,frame:=env.frame,builtins:=env.builtins }
theorem QQs{M:Model}{A:Around}{E:Value->Shared->Prop}{s:Shared}{scope:Scope}{cl:List (Str×Addr)}{env:Env}{Q:Env->Shared->Prop}
 (h:∀ c,{ c with scope:=relabel scope env }=QD4 scope cl s.heap.objs.size env->c.locals=s.heap.objs.size->Q c { s with heap:=pushCells (s.heap.push { cls:=.type "dict",data:=.dict #[] }) scope.names }):
 wpAny M A (newFunctionEnv scope env.globals cl [] env.qual none .none (some env)) Q E s:=by
 simp only[newFunctionEnv,Option.isSome_some,if_true]
 refine wpAny_bind (wpAny_alloc ?_)
 refine wpAny_bind (wpAny_layCells _ (fun name kind cells=>by cases hkc:kind == NameKind.cell<;>simp[hkc]) _ _ _ _ ?_)
 rw[show({ s with heap:=s.heap.push { cls:=.type "dict",data:=.dict #[] } }:Shared).heap.objs.size=s.heap.objs.size+1 from Heap.size_push ..]
 refine wpAny_bind (wpAny_pure (wpAny_pure (h _ ?_ rfl)))
 rfl
def capt(js:List (Option Nat))(σ:St):St:=js.map fun j=>j.bind fun j=>(σ[j]?).join
structure QM(N':List Str)(js:List (Option Nat))(scope outer:Scope)(N:List Str):Prop where
 kind:scope.kind=.function
 uniq:∀ y∈scope.names,scope.names.lookup y.1=some y.2
 nd:N'.Nodup
 len:js.length=N'.length
 free:∀ y∈scope.names,y.2=.free->outer.names.lookup y.1=some .cell∨outer.names.lookup y.1=some .free
 cap:((N'.zip js).all fun p=>match p.2 with
  | none=>true
  | some j=>decide (N[j]?=some p.1)&&decide (scope.names.lookup p.1=some .free))=true
theorem QM.capOf{N':List Str}{js:List (Option Nat)}{scope outer:Scope}{N:List Str}(S:QM N' js scope outer N){i j:Nat}{x:Str}(h1:N'[i]?=some x)(h2:js[i]?=some (some j)):
 N[j]?=some x/\scope.names.lookup x=some .free/\∀ y∈scope.names,y.1=x->y.2=.free:=by
 have h:=List.all_eq_true.mp S.cap (x,some j) (by
  refine List.mem_of_getElem? (i:=i) ?_
  rw[List.getElem?_zip_eq_some]
  exact⟨h1,h2⟩)
 simp only[Bool.and_eq_true,decide_eq_true_eq]at h
 exact⟨h.1,h.2,fun y hy e=>by
  have:=S.uniq y hy
  rw[e,h.2]at this
  exact(Option.some.inj this).symm⟩
theorem QM.names{N':List Str}{js:List (Option Nat)}{scope outer:Scope}{N:List Str}(S:QM N' js scope outer N):∀ y∈scope.names,y.2=.local->scope.names.lookup y.1=some .local:=fun y hy e=>by
 rw[S.uniq y hy,e]
def cxC(X:Cx)(N':List Str)(scope:Scope)(fp:List Addr)(s:Shared)(H:Hp):Cx:=
 { X with N:=N',s₀:=s,H₀:=H,env:=QD4 scope (QbP X.env scope.names []) s.heap.objs.size X.env,outer:=X.stack,ex:=fp,
          fn:=fun x=>match scope.names.lookup x with | some .cell=>true | _=>false,pn:=[],xe:=fun _ _=>False }
theorem QOt{X:Cx}{N':List Str}{js:List (Option Nat)}{scope:Scope}{pins:List (Addr×Obj)}{σ:St}{H:Hp}{s:Shared}{fp:List Addr}(S:QM N' js scope X.env.scope X.N)(I:Inv X pins σ H s)(hf:∀ b∈fp,FpOk X pins H b)
 (hlt:∀ b∈fp,b<s.heap.objs.size):
 Inv (cxC X N' scope fp s H) [] (capt js σ) H { s with heap:=pushCells (s.heap.push { cls:=.type "dict",data:=.dict #[] }) scope.names }:=by
 have hk:∀ b o,s.heap.get? b=some o->(pushCells (s.heap.push { cls:=.type "dict",data:=.dict #[] }) scope.names).get? b=some o:=fun b o e=>pushCells_keeps _ _ b o (Heap.get?_push_of_some _ e)
 have sz:(s.heap.push { cls:=.type "dict",data:=.dict #[] }).objs.size=s.heap.objs.size+1:=Heap.size_push ..
 -- captured cells stand in the outer frame
 have out:∀ x,(∃ y∈scope.names,y.1=x/\y.2=.free)->∃ c,X.env.cells.lookup x=some c:=fun x ⟨y,hy,e1,e2⟩=>by
  subst e1
  exact I.ok.has y.1 (S.free y hy e2)
 have clm:∀ p∈QbP X.env scope.names [],X.env.cells.lookup p.1=some p.2:=fun p hp=>by
  rcases QlE hp with h | ⟨h,hy⟩
  ·cases h
  ·obtain⟨c,hc⟩:=out p.1 hy
   rw[hc]at h ⊢
   rw[h];rfl
 have cllt:∀ p∈QbP X.env scope.names [],p.2<s.heap.objs.size:=fun p hp=>by
  obtain⟨v,q⟩:=I.cell p.1 p.2 (clm p hp)
  exact q.lt
 have cin:∀ x c,(cellsFrom (s.heap.objs.size+1) scope.names (QbP X.env scope.names [])).lookup x=some c->X.env.cells.lookup x=some c∨s.heap.objs.size+1<=c:=fun x c e=>by
  rcases Qw7 (Qdc e) with h | h
  ·exact .inl (clm _ h)
  ·exact .inr h
 have capL:∀ x,scope.names.lookup x=some .free->(∀ y∈scope.names,y.1=x->y.2=.free)->(cellsFrom (s.heap.objs.size+1) scope.names (QbP X.env scope.names [])).lookup x=X.env.cells.lookup x:=fun x hx hy=>by
  rw[QzL hy]
  have hs:=Ql9 (env:=X.env) (x:=x) (names:=scope.names) (acc:=[]) (.inr ⟨_,Qdc hx,rfl,rfl⟩)
  obtain⟨c,hc⟩:=Option.isSome_iff_exists.mp hs
  rw[hc,clm _ (Qdc hc)]
 refine⟨⟨I.ok.mod,S.kind,I.ok.glob,I.ok.blt,Nat.le_refl _,fun x y c h1 h2=>?_,fun x hx=>?_,fun x c hx h=>?_,I.ok.hd,I.ok.frames,.inl rfl,fun b hb=>?_,I.bs,Nat.le_trans I.ok.bsz I.sz,fun b o e hb=>?_,fun b hb hz=>?_,I.stack,I.stkFree⟩,
  rfl,I.bare,Un.kept hk,?_,fun x c h=>?_,I.hok.fresh (Nat.le_refl _),fun x c h=>?_,fun p hp=>absurd (show p∈([]:List (Addr×Obj)) from hp) (by simp),I.hok.kept hk,?_⟩
 ·refine QF8 (names:=scope.names) (n:=s.heap.objs.size+1) (acc:=QbP X.env scope.names []) (fun p hp=>Nat.lt_succ_of_lt (cllt p hp)) (fun p hp q hq e=>?_) (x,c) (Qdc h1) (y,c) (Qdc h2) rfl
  have a:=clm p hp
  have b:=clm q hq
  rw[← e]at b
  exact I.ok.inj _ _ _ a b
 ·have hx':=QBs (show(Qi scope X.env.scope).names.lookup x=some .cell∨_ from hx)
  refine Option.isSome_iff_exists.mp (PySem.W.cellsFrom_some scope.names _ _ ?_)
  rcases hx' with h | h
  ·exact .inl h
  ·exact .inr (Ql9 (.inr ⟨_,Qdc h,rfl,rfl⟩))
 ·rcases Qw7 (Qdc h) with hm | hm
  ·-- an own cell's name is captured too: its first entry is the own one
   have hx':scope.names.lookup x=some .cell:=by
    have hx2:(match scope.names.lookup x with | some .cell=>true | _=>false)=true:=hx
    split at hx2
    ·assumption
    ·cases hx2
   rcases QlE hm with q | ⟨_,y,hy,e1,e2⟩
   ·cases q
   ·have:=S.uniq y hy
    have e1:y.1=x:=e1
    rw[e1,hx',e2]at this
    cases this
  ·exact Nat.le_of_succ_le hm
 ·refine⟨Nat.ne_of_lt (hlt b hb),fun x c h e=>?_⟩
  rcases cin x c h with q | q
  ·exact(hf b hb).2.2.2.2.1 x c q e
  ·have:=hlt b hb
   rw[← e]at this
   exact absurd (Nat.lt_of_lt_of_le this (Nat.le_of_succ_le q)) (Nat.lt_irrefl _)
 ·rcases(hf b hb).2.2.2.1 with z | z
  ·exact I.ok.noex b o e z
  ·exact absurd (Nat.lt_of_lt_of_le (Heap.lt_size (I.ok.bs b o e).1) z) (Nat.lt_irrefl _)
 ·rcases List.mem_cons.mp (I.stkSub b hz) with e | e
  ·exact(hf b hb).2.1 e
  ·exact(hf b hb).2.2.1 e
 ·obtain⟨m,hn,hl⟩:=I.loc
  refine⟨fun _=>none,(Heap.Ns.new s.heap (.type "dict")).keeps (pushCells_keeps _ _),fun i x v h1 h2 h3=>?_⟩
  have h2':((js[i]?).map fun j=>j.bind fun j=>(σ[j]?).join)=some (some v):=by
   unfold capt at h2
   rw[List.getElem?_map]at h2
   exact h2
  cases e:js[i]? with
  | none=>rw[e]at h2';cases h2'
  | some o=>
   rw[e]at h2'
   cases o with
   | none=>cases h2'
   | some j=>
    have h4:(σ[j]?).join=some v:=Option.some.inj h2'
    have h5:σ[j]?=some (some v):=by
     cases z:σ[j]? with
     | none=>rw[z]at h4;cases h4
     | some o=>rw[z]at h4;have h4:o=some v:=h4;rw[h4]
    obtain⟨hN,hx,hy⟩:=S.capOf h1 e
    have hvis:=S.free _ (Qdc hx) rfl
    obtain⟨u,r,lk⟩:=hl j x v hN h5 (.inr hvis)
    refine⟨u,r,.inr ⟨QCQ hx,?_⟩⟩
    rcases lk with⟨k,_⟩ | ⟨_,c,hc,z⟩
    ·have k:X.env.scope.names.lookup x=some .local:=k
     rcases hvis with q | q
     ·rw[k]at q;cases q
     ·rw[k]at q;cases q
    ·exact⟨c,(capL x hx hy).trans hc,z.keeps hk⟩
 ·have:=Qzf (names:=scope.names) (h:=s.heap.push { cls:=.type "dict",data:=.dict #[] }) (acc:=QbP X.env scope.names []) (fun p hp=>by
   obtain⟨v,q⟩:=I.cell p.1 p.2 (clm p hp)
   exact⟨v,q.keeps fun b o e=>Heap.get?_push_of_some _ e⟩) (x,c) (by rw[sz];exact Qdc h)
  exact this
 ·rcases cin x c h with q | q
  ·exact I.freeC x c q
  ·exact I.hok.fresh (Nat.le_of_succ_le q)
 ·show(js.map _).length=N'.length
  rw[List.length_map];exact S.len
def eMax(X:Cx)(e:Expr):TE:=fun σ H Q=>∃ t,PE X e t/\t σ H Q
theorem QRO{X:Cx}{e:Expr}:PE X e (eMax X e):=fun pins s σ H Q I ⟨t,ht,h⟩=>ht pins s σ H Q I h
def gMax(X:Cx)(e:Expr):TG:=fun v σ H Q=>∃ t,PG X e t/\t v σ H Q
theorem QQP{X:Cx}{e:Expr}:PG X e (gMax X e):=fun pins s σ H v u Q I r ⟨t,ht,h⟩=>ht pins s σ H v u Q I r h
def PIf(X:Cx)(ifs:List Expr)(tc:TT):Prop:=(ifs=[]/\tc=fun _ H Q=>Q true H)∨∃ c,ifs=[c]/\PT X c tc
theorem QPp{X:Cx}:PIf X [] (fun _ H Q=>Q true H):=.inl ⟨rfl,rfl⟩
theorem QP7{X:Cx}{c:Expr}{tc:TT}(h:PT X c tc):PIf X [c] tc:=.inr ⟨c,rfl,h⟩
theorem PIf.run{X:Cx}{ifs:List Expr}{tc:TT}(h:PIf X ifs tc){pins:List (Addr×Obj)}{s:Shared}{σ:St}{H:Hp}{Q:Bool->Hp->Prop}(I:Inv X pins σ H s)(q:tc σ H Q):
 wpAny (model X.prog X.w) X.A (forIn ifs true fun c r=>if r=true then do let ok ← isTrue c X.env (eval c X.env);pure (ForInStep.yield ok) else pure (ForInStep.yield r)) (TP X pins σ Q) X.xe s:=by
 rcases h with⟨rfl,rfl⟩ | ⟨c,rfl,h⟩
 ·exact wpAny_tests_nil ⟨H,I,q⟩
 ·exact wpAny_tests_one (h pins s σ H Q I q)
def cMax(X:Cx)(ifs:List Expr):TT:=fun σ H Q=>∃ t,PIf X ifs t/\t σ H Q
def CompW(X':Cx)(js:List (Option Nat))(tg elt:Expr)(ifs:List Expr)(σ:St)(H1:Hp)(J:It)(p:Addr)(Q:VK):Prop:=
 ∃ W:Nat->Nat->St->Hp->Prop,(∃ m,W 0 m (capt js σ) (upd H1 p (.lst [])))/\∀ i m τ H',W i m τ H'->
 (J.stop i H'/\Q (.ref p) H')∨(J.go i H'/\∃ N:St->Hp->Prop,(∀ τ' H'',N τ' H''->∃ m',m'<m/\W (i+1) m' τ' H'')/\∀ x H'',J.yld i H' x H''->gMax X' tg x τ H'' fun τ2 H2=>cMax X' ifs τ2 H2 fun b H3=>
  if b=true then eMax X' elt τ2 H3 fun y H4=>∃ ys,H4 p=some (.lst ys)/\ys.length<sizeLine/\N τ2 (upd H4 p (.lst (ys++[y]))) else N τ2 H3)
def tComp(X:Cx)(N':List Str)(js:List (Option Nat))(scope:Scope)(tg elt:Expr)(ifs:List Expr)(wi:TI):TE:=fun σ H Q=>wi σ H fun J H1=>∀ p,H1 p=none->∀ fp s,
 CompW (cxC X N' scope fp s (upd H1 p (.lst []))) js tg elt ifs σ H1 J p Q
section
variable{X:Cx}{N':List Str}{js:List (Option Nat)}{scope:Scope}{tg iter elt:Expr}{ifs:List Expr}{wi:TI}{pos:Pos}
theorem Qx1{pins:List (Addr×Obj)}{σ:St}{H:Hp}{s:Shared}{R:V->Hp->Prop}{E:Value->Shared->Prop}(hc:X.calm=true)(S:QM N' js scope X.env.scope X.N)
 {it:Addr} {fp:List Addr} {tn:Nat->Heap->Prop} {J:It} (I2:Inv X pins σ H s) (T:Turn X.prog X.w X.K tg J fp it tn) (st:tn 0 s.heap) (hf:∀ b∈fp,FpOk X pins H b)
 (hW:∀ p,H p=none->∀ fp s,CompW (cxC X N' scope fp s (upd H p (.lst []))) js tg elt ifs σ H J p R)
 {RR:Value->Addr->Result->Shared->Prop}
 (hRR:∀(D C:Addr)(s':Shared)(H':Hp),Inv X pins σ H' s'->(∃ m,s'.heap.Ns C m)->H' C=none->C≠X.env.locals->X.s₀.heap.objs.size<=C->(∀ x c,X.env.cells.lookup x=some c->c≠C)->(∀ p∈X.pn++pins,p.1≠C)->R (.ref D) H'->RR (.ref D) C (.ok .next) s'):
 wpAny (model X.prog X.w) X.A (newList []) (fun acc s₃ => wpAny (model X.prog X.w) X.A (newFunctionEnv scope X.env.globals (QbP X.env scope.names []) [] X.env.qual none .none (some X.env)) (fun cenv s₄ =>
  codeAny (model X.prog X.w) X.A (.compStart (.ListComp elt [⟨tg,iter,ifs,0⟩] scope pos) 0 (.ref it) acc { cenv with scope:=relabel scope X.env }) (RR acc cenv.locals) s₄) E s₃) E s:=by
 refine wpAny_newObj_type ?_
 have hfresh:H s.heap.objs.size=none:=I2.hok.fresh (Nat.le_refl _)
 have I3:Inv X pins σ (upd H s.heap.objs.size (.lst [])) { s with heap:=s.heap.push { cls:=.type "list",data:=.seq ([]:List Value).toArray } }:=I2.lnew (t':=s.toks) .nil (Nat.zero_le _)
 generalize hs3:({ s with heap:=s.heap.push { cls:=.type "list",data:=.seq ([]:List Value).toArray } }:Shared)=s3 at I3 ⊢
 have hsz3:s3.heap.objs.size=s.heap.objs.size+1:=by rw[← hs3];exact Heap.size_push ..
 have hk3:∀ b o,s.heap.get? b=some o->s3.heap.get? b=some o:=fun b o e=>by rw[← hs3];exact Heap.get?_push_of_some _ e
 have flt:∀ b∈fp,b<s.heap.objs.size:=fun b hb=>by
  obtain⟨o,e,_⟩:=T.obj _ _ st b hb
  exact Heap.lt_size e
 have hf3:∀ b∈fp,FpOk X pins (upd H s.heap.objs.size (.lst [])) b:=fun b hb=>⟨by rw[Qk (Nat.ne_of_lt (flt b hb))];exact(hf b hb).1,(hf b hb).2⟩
 have st3:tn 0 s3.heap:=T.keep _ _ _ st fun b _ o e=>hk3 b o e
 refine QQs fun cenv ecenv el=>?_
 rw[ecenv,el]
 have I4:=QOt (fp:=fp) S I3 hf3 fun b hb=>by rw[hsz3];exact Nat.lt_succ_of_lt (flt b hb)
 obtain⟨W,⟨m0,w0⟩,turn⟩:=hW _ hfresh fp s3
 generalize hX':cxC X N' scope fp s3 (upd H s.heap.objs.size (.lst []))=X' at I4 turn
 generalize hs4:({ s3 with heap:=pushCells (s3.heap.push { cls:=.type "dict",data:=.dict #[] }) scope.names }:Shared)=s4 at I4 ⊢
 have eenv:QD4 scope (QbP X.env scope.names []) s3.heap.objs.size X.env=X'.env:=by rw[← hX'];rfl
 have eprog:X'.prog=X.prog:=by rw[← hX'];rfl
 have ew:X'.w=X.w:=by rw[← hX'];rfl
 have eK:X'.K=X.K:=by rw[← hX'];rfl
 have eA:X'.A=X.A:=by rw[← hX'];rfl
 have ecalm:X'.calm=true:=by rw[← hX'];exact hc
 have exe:∀ e s',X'.xe e s'->False:=fun e s' h=>by rw[← hX']at h;exact h
 have eex:X'.ex=fp:=by rw[← hX'];rfl
 have efs:X'.fs=frs X.stack:=by rw[← hX'];rfl
 have epn:X'.pn=[]:=by rw[← hX'];rfl
 have es0:X'.s₀=s3:=by rw[← hX'];rfl
 have eH0:X'.H₀=upd H s.heap.objs.size (.lst []):=by rw[← hX'];rfl
 have eloc:X'.env.locals=s3.heap.objs.size:=by rw[← eenv];rfl
 rw[eenv]
 have st4:tn 0 s4.heap:=T.keep _ _ _ st3 fun b _ o e=>by rw[← hs4];exact pushCells_keeps _ _ b o (Heap.get?_push_of_some _ e)
 -- the iterator's objects,seen from the block
 have fpok:∀{H':Hp},(∀ b∈fp,H' b=none)->∀ b∈fp,FpOk X' [] H' b:=fun {H'} hn b hb=>by
  obtain⟨h1,h2⟩:=I4.ok.exf b (by rw[eex];exact hb)
  exact⟨hn b hb,h1,fun z=>I4.ok.exfs b (by rw[eex];exact hb) z,.inl (by rw[eex];exact hb),h2,fun p hp=>by rw[epn]at hp;cases hp⟩
 have loop:∀ s5,s5=s4->codeAny (model X.prog X.w) X.A (.compLoop (.ListComp elt [⟨tg,iter,ifs,0⟩] scope pos) 0 (.ref it) (.ref s.heap.objs.size) X'.env) (RR (.ref s.heap.objs.size) s3.heap.objs.size) s5:=by
  rintro s5 rfl
  refine QDO (fun n s'=>∃ i τ H',Inv X' [] τ H' s'/\tn i s'.heap/\(∀ b∈fp,H' b=none)/\W i n τ H') (fun _ _=>False) (fun _ _ h=>h.elim) ?_ m0 ⟨0,_,_,I4,st4,fun b hb=>(hf3 b hb).1,w0⟩
  rintro n s6 ⟨i,τ,H6,I6,st6,fr6,w6⟩
  have A1:∀{α:Type}{t:Sem α}{Q:α->Shared->Prop}{s:Shared},wpAny (model X'.prog X'.w) X'.A t Q X'.xe s->wpAny (model X.prog X.w) X.A t Q (fun _ _=>False) s:=fun {α t Q s} h=>by
   rw[eprog,ew,eA]at h
   exact wpAny_mono h (fun _ _ q=>q) exe
  rcases turn i n τ H6 w6 with⟨stop,qn⟩ | ⟨go,N,hN,step⟩
  ·have h7:=T.done X' eprog ew eK ecalm i [] s6 τ H6 (fun _ _=>False) I6 (fpok fr6) st6 stop
   rw[eA]at h7
   refine thn h7 fun r s7 ⟨hr,I7⟩=>?_
   subst hr
   -- back to the frame around
   have un:=I7.base
   rw[es0,eH0,efs,eex]at un
   have Iout:Inv X pins σ H6 s7:=I3.call' (ch:=fp) (by rw[I7.os,es0]) un (by have:=I7.hok;rw[eprog,ew]at this;exact this) I7.bare fun b hb=>by
    obtain⟨f0,f1,f2,f3,f4,f5⟩:=hf3 b hb
    exact⟨f3,f1,f4,f5⟩
   refine hRR _ _ s7 H6 Iout ?_ ?_ ?_ ?_ ?_ ?_ qn
   ·obtain⟨m,hn,_⟩:=I7.loc
    rw[eloc]at hn
    exact⟨m,hn⟩
   ·have:=I7.free
    rw[eloc]at this
    exact this
   ·exact Nat.ne_of_gt I3.lt
   ·exact I3.sz
   ·intro x c e z
    obtain⟨v,q⟩:=I3.cell x c e
    exact absurd q.lt (by rw[z];exact Nat.lt_irrefl _)
   ·intro p hp z
    exact absurd (Heap.lt_size (I3.pin p hp).1) (by rw[z];exact Nat.lt_irrefl _)
  ·have h6:=T.item X' eprog ew eK ecalm i [] s6 τ H6 (fun _ _=>False) I6 (fpok fr6) st6 go
   rw[eA]at h6
   refine thn h6 fun r s7 ⟨u,hr,h7⟩=>?_
   subst hr
   refine thn h7 fun _ s8 ⟨x,H8,I8,r8,y8,st8,fr8⟩=>?_
   have I8':=I8.pinned (fpok fr8) (T.obj _ _ st8)
   refine thn (A1 (QQP _ s8 τ H8 x u _ I8' r8 (step x H8 y8))) fun _ s9 ⟨τ9,H9,I9,q9⟩=>?_
   obtain⟨tcc,hif,q9⟩:=q9
   refine thn (A1 (hif.run I9 q9)) fun ok s10 ⟨H10,I10,q10⟩=>?_
   have again:∀{τ':St}{H':Hp}{s':Shared},Inv X' ([]++Qth fp s8.heap) τ' H' s'->N τ' H'->∃ m,m<n/\∃ i τ H',Inv X' [] τ H' s'/\tn i s'.heap/\(∀ b∈fp,H' b=none)/\W i m τ H':=fun {τ' H' s'} I' n'=>by
    obtain⟨m',hm,w'⟩:=hN τ' H' n'
    refine⟨m',hm,i+1,τ',H',I'.unpinned,T.keep _ _ _ st8 fun b hb o e=>(I'.pin (b,o) (List.mem_append_right _ (List.mem_append_right _ (Ql4 hb e)))).1,fun b hb=>?_,w'⟩
    obtain⟨o,e,d⟩:=T.obj _ _ st8 b hb
    exact(I'.pin (b,o) (List.mem_append_right _ (List.mem_append_right _ (Ql4 hb e)))).2.1
   cases ok with
   | false=>
    rw[if_neg Bool.false_ne_true]at q10 ⊢
    exact again I10 q10
   | true=>
    rw[if_pos rfl]at q10 ⊢
    refine thn (A1 (QRO _ s10 τ9 H10 _ I10 q10)) fun y s11 ⟨yv,H11,I11,r11,ys,hp11,hz,n11⟩=>?_
    refine thn (A1 (QBn _ s11 τ9 H11 (.ref s.heap.objs.size) [yv] (.ref s.heap.objs.size) [y] (fun _ H'=>N τ9 H') I11 rfl (.cons r11 .nil) ⟨_,ys,yv,rfl,rfl,hp11,hz,n11⟩)) fun _ s12 ⟨v12,H12,I12,_,n12⟩=>?_
    exact again I12 n12
 exact codeAny_compStart_list (loop _ rfl) (T.self _ 0 _ _ _ st4 (loop _ rfl))
theorem QPP(hc:X.calm=true)(S:QM N' js scope X.env.scope X.N)(hi:PI X tg iter wi)
 (hs:∀ x,foldedSetIterable iter X.env x=pure x:=by intro _;rfl):PE X (.ListComp elt [⟨tg,iter,ifs,0⟩] scope pos) (tComp X N' js scope tg elt ifs wi):=by
 intro pins s σ H Q I h
 rw[eval_ListComp]
 have hcl:closureFor scope X.env=pure (QbP X.env scope.names []):=Qxm fun y hy e=>by
  obtain⟨c,hc⟩:=I.ok.has y.1 (S.free y hy e)
  rw[hc];rfl
 refine wpAny_comprehension_free (use:=none) rfl hs hcl S.kind S.names (thn (hi pins s σ H _ I h) fun v s1 h1=>thn h1 fun itv s2 h2=>?_)
 obtain⟨it,fp,tn,J,H2,e,I2,T,st2,f2,hW⟩:=h2
 subst e
 refine Qx1 (R:=Q) (RR:=fun acc C=>compPost (model X.prog X.w) X.A X.xe none (EP X pins σ Q) acc C) hc S I2 T st2 f2 hW ?_
 intro D C s' H' I' ⟨m,hn⟩ hC h1 h2 h3 h4 q
 refine⟨m,hn,fun h' hsb=>⟨.ref D,H',?_,rfl,q⟩⟩
 exact I'.turned (t':=s'.toks) (fun b o hb e=>(hsb.2 b hb).trans e) hC (Ne.symm (Ne.symm h1)) (.inr h2) h3 h4
theorem QP4{i:Nat}{x:Str}{px spos:Pos}(hc:X.calm=true)(S:QM N' js scope X.env.scope X.N)(hi:PI X tg iter wi)
 (hN:X.N.Nodup) (hx:X.N[i]?=some x) (hl:Loc X.env.scope x)
 (hsw:swapsWith (.ListComp elt [⟨tg,iter,ifs,0⟩] scope pos) (some (.Name x px)) spos.line X.env=pure true)
 (hf:X.fn x=true∨X.env.scope.names.lookup x=some .local:=by first | exact .inl rfl | exact .inr rfl | assumption)
 (hs:∀ x,foldedSetIterable iter X.env x=pure x:=by intro _;rfl):PS X (.Assign [.Name x px] (.ListComp elt [⟨tg,iter,ifs,0⟩] scope pos) spos) (tAsg (tComp X N' js scope tg elt ifs wi) (gName i)):=by
 intro pins s σ H D I h
 rw[exec_Assign_Name_used _ _ _ _ hsw]
 refine wpAny_bind (wpAny_standAt (wpAny_bind ?_))
 show wpAny _ X.A (do let _ ← comprehension (.ListComp elt [⟨tg,iter,ifs,0⟩] scope pos) scope X.env _ (newList []) false (eval iter X.env) (some (assign (.Name x px) X.env))) _ _ s
 have hcl:closureFor scope X.env=pure (QbP X.env scope.names []):=Qxm fun y hy e=>by
  obtain⟨c,hc⟩:=I.ok.has y.1 (S.free y hy e)
  rw[hc];rfl
 refine wpAny_bind (wpAny_mono (wpAny_comprehension_free (use:=some (assign (.Name x px) X.env)) (Q:=fun _ s'=>SP X pins D .next s') rfl hs hcl S.kind S.names
  (thn (hi pins s σ H _ I h) fun v s1 h1=>thn h1 fun itv s2 h2=>?_)) (fun _ s' hq=>wpAny_pure (wpAny_pure hq)) fun _ _ e=>e)
 obtain⟨it,fp,tn,J,H2,e,I2,T,st2,f2,hW⟩:=h2
 subst e
 refine Qx1 (R:=fun v H'=>D.nx (σ.set i (some v)) H') (RR:=fun acc C=>compPost (model X.prog X.w) X.A X.xe (some (assign (.Name x px) X.env)) (fun _ s'=>SP X pins D .next s') acc C) hc S I2 T st2 f2 hW ?_
 intro DD C s' H' I' ⟨m,hn⟩ hC h1 h2 h3 h4 q
 show wpAny _ X.A (assign (.Name x px) X.env (.ref DD)) _ _ s'
 refine wpAny_assign_Name (QAV (v:=.ref DD) I' hN hx hl rfl (fun s'' I'' ⟨a,hsb,ha⟩=>?_) hf)
 have hCa:C≠a:=by
  rcases ha with rfl | ha
  ·exact h1
  ·exact Ne.symm (h3 x a ha)
 refine⟨m,hn.sameBut hsb hCa,fun h' hsb'=>⟨_,H',?_,q⟩⟩
 exact I''.turned (t':=s''.toks) (fun b o hb e=>(hsb'.2 b hb).trans e) hC h1 (.inr h2) h3 h4
end
end L2
namespace DL
open PySem PySem.Spec PyProof.Rows L2
inductive D where
 | non | bl (b:Bool) | int (i:Int) | str (x:Str)
 | lst (xs:List D) | tup (xs:List D) | dic (kvs:List (Key×D)) | ins (c:Str) (fs:List (Str×D)) | err (c:Str)
instance:Inhabited D:=⟨.non⟩
abbrev CTab:=Str->Option Addr
section
variable(K:PySem.W.Frag)(CT:CTab)(H:Hp)
mutual
def Rep:D->V->Prop
 | .non,v=>v=.non
 | .bl b,v=>v=.bl b
 | .int i,v=>v=.int i
 | .str x,v=>v=.str x
 | .lst ds,v=>∃ a vs,v=.ref a/\SqL K H a vs/\RepL ds vs
 | .tup ds,v=>∃ a vs,v=.ref a/\SqT K H a vs/\RepL ds vs
 | .dic kds,v=>∃ a kvs,v=.ref a/\Rd H a (.dK kvs)/\RepK kds kvs
 | .ins c fds,v=>∃ a C dx fs,v=.ref a/\CT c=some C/\H a=some (.ins C dx fs)/\RepF fds fs
 | .err c,v=>∃ a C,v=.ref a/\CT c=some C/\H a=some (exO a C)
def RepL:List D->List V->Prop
 | [],vs=>vs=[]
 | d::ds,vs=>∃ v r,vs=v::r/\Rep d v/\RepL ds r
def RepK:List (Key×D)->List (Key×V)->Prop
 | [],kvs=>kvs=[]
 | (k,d)::ds,kvs=>∃ v r,kvs=(k,v)::r/\Rep d v/\RepK ds r
def RepF:List (Str×D)->List (Str×V)->Prop
 | [],kvs=>kvs=[]
 | (k,d)::ds,kvs=>∃ v r,kvs=(k,v)::r/\Rep d v/\RepF ds r
end
end
section
variable{K:PySem.W.Frag}{CT:CTab}{H H':Hp}
theorem Same.sqT{a:Addr}{xs:List V}(e:Same H H')(h:SqT K H a xs):SqT K H' a xs:=by
 rcases h with(h | ⟨o,h⟩) | h
 ·exact .inl (.inl (e _ _ h))
 ·exact .inl (.inr ⟨o,e _ _ h⟩)
 ·exact .inr h
theorem Same.rd{a:Addr}{u:HO}(e:Same H H')(h:Rd H a u):Rd H' a u:=by
 rcases h with h | ⟨o,h⟩
 ·exact .inl (e _ _ h)
 ·exact .inr ⟨o,e _ _ h⟩
mutual
theorem Rep.mono(e:Same H H'):∀(d:D)(v:V),Rep K CT H d v->Rep K CT H' d v
 | .non,_,h=>h
 | .bl _,_,h=>h
 | .int _,_,h=>h
 | .str _,_,h=>h
 | .lst ds,_,⟨a,vs,h1,h2,h3⟩=>⟨a,vs,h1,e.seq h2,RepL.mono e ds vs h3⟩
 | .tup ds,_,⟨a,vs,h1,h2,h3⟩=>⟨a,vs,h1,Same.sqT e h2,RepL.mono e ds vs h3⟩
 | .dic ds,_,⟨a,vs,h1,h2,h3⟩=>⟨a,vs,h1,Same.rd e h2,RepK.mono e ds vs h3⟩
 | .ins c ds,_,⟨a,C,dx,fs,h1,h2,h3,h4⟩=>⟨a,C,dx,fs,h1,h2,e _ _ h3,RepF.mono e ds fs h4⟩
 | .err c,_,⟨a,C,h1,h2,h3⟩=>⟨a,C,h1,h2,e _ _ h3⟩
theorem RepL.mono(e:Same H H'):∀(ds:List D)(vs:List V),RepL K CT H ds vs->RepL K CT H' ds vs
 | [],_,h=>h
 | d::ds,_,⟨v,r,h1,h2,h3⟩=>⟨v,r,h1,Rep.mono e d v h2,RepL.mono e ds r h3⟩
theorem RepK.mono(e:Same H H'):∀(ds:List (Key×D))(vs:List (Key×V)),RepK K CT H ds vs->RepK K CT H' ds vs
 | [],_,h=>h
 | (k,d)::ds,_,⟨v,r,h1,h2,h3⟩=>⟨v,r,h1,Rep.mono e d v h2,RepK.mono e ds r h3⟩
theorem RepF.mono(e:Same H H'):∀(ds:List (Str×D))(vs:List (Str×V)),RepF K CT H ds vs->RepF K CT H' ds vs
 | [],_,h=>h
 | (k,d)::ds,_,⟨v,r,h1,h2,h3⟩=>⟨v,r,h1,Rep.mono e d v h2,RepF.mono e ds r h3⟩
end
theorem RepL.length:∀{ds:List D}{vs:List V},RepL K CT H ds vs->ds.length=vs.length
 | [],_,h=>by cases h;rfl
 | d::ds,_,⟨v,r,h1,h2,h3⟩=>by subst h1;simp[RepL.length h3]
theorem RepL.get:∀{ds:List D}{vs:List V}{i:Nat}{d:D},RepL K CT H ds vs->ds[i]?=some d->∃ v,vs[i]?=some v/\Rep K CT H d v
 | [],_,_,_,_,e=>by simp at e
 | d::ds,_,0,_,⟨v,r,h1,h2,h3⟩,e=>by subst h1;simp at e;subst e;exact⟨v,rfl,h2⟩
 | d::ds,_,i+1,x,⟨v,r,h1,h2,h3⟩,e=>by
  subst h1
  obtain⟨u,a,b⟩:=RepL.get (i:=i) (d:=x) h3 (by simpa using e)
  exact⟨u,by simpa using a,b⟩
theorem RepL.append:∀{ds es:List D}{vs us:List V},RepL K CT H ds vs->RepL K CT H es us->RepL K CT H (ds++es) (vs++us)
 | [],_,_,_,h,k=>by cases h;exact k
 | d::ds,_,_,_,⟨v,r,h1,h2,h3⟩,k=>by subst h1;exact⟨v,_,rfl,h2,RepL.append h3 k⟩
theorem RepL.take:∀(n:Nat){ds:List D}{vs:List V},RepL K CT H ds vs->RepL K CT H (ds.take n) (vs.take n)
 | 0,_,_,_=>by simp[RepL]
 | n+1,[],_,h=>by cases h;simp[RepL]
 | n+1,d::ds,_,⟨v,r,h1,h2,h3⟩=>by subst h1;exact⟨v,_,rfl,h2,RepL.take n h3⟩
theorem RepL.drop:∀(n:Nat){ds:List D}{vs:List V},RepL K CT H ds vs->RepL K CT H (ds.drop n) (vs.drop n)
 | 0,_,_,h=>h
 | n+1,[],_,h=>by cases h;simp[RepL]
 | n+1,d::ds,_,⟨v,r,h1,h2,h3⟩=>by subst h1;exact RepL.drop n h3
theorem RepL.one{d:D}{v:V}(h:Rep K CT H d v):RepL K CT H [d] [v]:=⟨v,[],rfl,h,rfl⟩
theorem RepL.map_int:∀(ns:List Int),RepL K CT H (ns.map D.int) (ns.map V.int)
 | []=>rfl
 | n::ns=>⟨_,_,rfl,rfl,RepL.map_int ns⟩
end
inductive Out(α:Type) where
 | ok (a:α) | exc (x:D) | stuck
namespace Out
def bind{α β:Type}:Out α->(α->Out β)->Out β
 | .ok a,f=>f a
 | .exc x,_=>.exc x
 | .stuck,_=>.stuck
instance:Monad Out where
 pure:=.ok
 bind:=bind
def post{α:Type}(o:Out α)(k:α->Prop)(x:D->Prop):Prop:=match o with
 | .ok a=>k a
 | .exc e=>x e
 | .stuck=>False
@[simp] theorem bind_ok{α β:Type}(a:α)(f:α->Out β):(Out.ok a>>=f)=f a:=rfl
@[simp] theorem bind_exc{α β:Type}(x:D)(f:α->Out β):((Out.exc x:Out α)>>=f)=.exc x:=rfl
@[simp] theorem bind_stuck{α β:Type}(f:α->Out β):((Out.stuck:Out α)>>=f)=.stuck:=rfl
@[simp] theorem QSc{α β:Type}(a:α)(f:α->Out β):(Out.ok a).bind f=f a:=rfl
@[simp] theorem QSb{α β:Type}(x:D)(f:α->Out β):(Out.exc x:Out α).bind f=.exc x:=rfl
@[simp] theorem QR7{α β:Type}(f:α->Out β):(Out.stuck:Out α).bind f=.stuck:=rfl
@[simp] theorem pure_eq{α:Type}(a:α):(pure a:Out α)=.ok a:=rfl
theorem post_bind{α β:Type}(o:Out α)(f:α->Out β)(k:β->Prop)(x:D->Prop):(o>>=f).post k x↔o.post (fun a=>(f a).post k x) x:=by
 cases o<;>exact Iff.rfl
theorem post_mono{α:Type}{o:Out α}{k k':α->Prop}{x:D->Prop}(h:o.post k x)(hk:∀ a,k a->k' a):o.post k' x:=by
 cases o with
 | ok a=>exact hk a h
 | exc e=>exact h
 | stuck=>exact h
end Out
end DL
namespace DL
open PySem PySem.Spec PyProof.Rows L2
abbrev St:=L2.St
inductive SM where
 | k | o | l | s
abbrev SD:=List (Option (SM×D))
structure Dc where
 X:Cx
 CT:CTab
 G0:Hp
 XD:D->Prop
 /-- what is lent -/
 B:Hp
 /-- what of the entry's objects may be written -/
 M:Addr->Prop
abbrev Dc.K(C:Dc):PySem.W.Frag:=C.X.K
def Own(K:PySem.W.Frag)(CT:CTab)(G H:Hp)(p:Addr):D->Prop
 | .lst ds=>∃ vs,H p=some (.lst vs)/\RepL K CT G ds vs
 | .dic ds=>∃ kvs,H p=some (.dK kvs)/\RepK K CT G ds kvs
 | .ins c ds=>∃ A dx fs,CT c=some A/\H p=some (.ins A dx fs)/\RepF K CT G ds fs
 | _=>False
theorem Own.there{K:PySem.W.Frag}{CT:CTab}{G H:Hp}{p:Addr}:∀{d:D},Own K CT G H p d->∃ o,H p=some o
 | .lst _,⟨_,h,_⟩=>⟨_,h⟩
 | .dic _,⟨_,h,_⟩=>⟨_,h⟩
 | .ins _ _,⟨_,_,_,_,h,_⟩=>⟨_,h⟩
 | .non,h=>h.elim
 | .bl _,h=>h.elim
 | .int _,h=>h.elim
 | .str _,h=>h.elim
 | .tup _,h=>h.elim
theorem Own.mono{K:PySem.W.Frag}{CT:CTab}{G G' H H':Hp}{p:Addr}(g:Same G G')(h:∀ o,H p=some o->H' p=some o):∀{d:D},Own K CT G H p d->Own K CT G' H' p d
 | .lst ds,⟨vs,a,b⟩=>⟨vs,h _ a,RepL.mono g ds vs b⟩
 | .dic ds,⟨vs,a,b⟩=>⟨vs,h _ a,RepK.mono g ds vs b⟩
 | .ins _ ds,⟨A,dx,fs,e,a,b⟩=>⟨A,dx,fs,e,h _ a,RepF.mono g ds fs b⟩
 | .non,h=>h.elim
 | .bl _,h=>h.elim
 | .int _,h=>h.elim
 | .str _,h=>h.elim
 | .tup _,h=>h.elim
theorem Own.rep{K:PySem.W.Frag}{CT:CTab}{G H:Hp}{p:Addr}(g:Same G H):∀{d:D},Own K CT G H p d->Rep K CT H d (.ref p)
 | .lst ds,⟨vs,a,b⟩=>⟨p,vs,rfl,SqL.of a,RepL.mono g ds vs b⟩
 | .dic ds,⟨vs,a,b⟩=>⟨p,vs,rfl,Rd.of a,RepK.mono g ds vs b⟩
 | .ins _ ds,⟨A,dx,fs,e,a,b⟩=>⟨p,A,dx,fs,rfl,e,a,RepF.mono g ds fs b⟩
 | .non,h=>h.elim
 | .bl _,h=>h.elim
 | .int _,h=>h.elim
 | .str _,h=>h.elim
 | .tup _,h=>h.elim
structure GH(C:Dc)(G H:Hp):Prop where
 sub:Same G H
 g0:Same C.G0 G
 new:∀ b,C.G0 b=none->G b≠none->C.X.H₀ b=none
 fr:∀ b o,C.X.H₀ b=some o->¬ C.M b->H b=some o
 dom:∀ b,H b=none->C.X.H₀ b=none
 bs:Same C.B H
 bh:∀ b,C.X.H₀ b=none->C.B b=none
structure StR(C:Dc)(G H:Hp)(σ:St)(ς:SD):Prop extends GH C G H where
 len:σ.length=ς.length
 fz:∀(i:Nat) d,ς[i]?=some (some (.k,d))->∃ v,σ[i]?=some (some v)/\Rep C.X.K C.CT G d v
 ow:∀(i:Nat) d,ς[i]?=some (some (.o,d))->∃ p,σ[i]?=some (some (.ref p))/\G p=none/\C.X.H₀ p=none/\Own C.X.K C.CT G H p d
 ln:∀(i:Nat) d,ς[i]?=some (some (.l,d))->∃ v,σ[i]?=some (some v)/\Rep C.X.K C.CT C.B d v
 inj:∀(i j:Nat) d e p,i≠j->ς[i]?=some (some (.o,d))->ς[j]?=some (some (.o,e))->σ[i]?=some (some (.ref p))->σ[j]?≠some (some (.ref p))
 sf:∀(i:Nat) d,ς[i]?=some (some (.s,d))->∃ p,σ[i]?=some (some (.ref p))/\G p=none/\C.X.H₀ p≠none/\C.M p/\C.B p=none/\Own C.X.K C.CT G H p d
 su:∀(i j:Nat) d e,ς[i]?=some (some (.s,d))->ς[j]?=some (some (.s,e))->i=j
section
variable{C:Dc}{G G' H H':Hp}{σ:St}{ς:SD}
theorem GH.gnone(S:GH C G H){p:Addr}(h:H p=none):G p=none:=S.sub.free h
theorem GH.h0none(S:GH C G H){p:Addr}(h:H p=none):C.X.H₀ p=none:=S.dom p h
theorem QE{H:Hp}{p:Addr}{o:HO}(h:H p=none):Same H (upd H p o):=fun b u e=>by
 rw[Qk (QZ e h)];exact e
theorem Qum{G H:Hp}{p:Addr}{o:HO}(s:Same G H):Same (upd G p o) (upd H p o):=fun b u e=>by
 by_cases hb:b=p
 ·subst hb;rw[QS]at e ⊢;exact e
 ·rw[Qk hb]at e ⊢;exact s b u e
theorem GH.grow(S:GH C G H)(hH:Same H H')(hG:Same G G')(hs:Same G' H')(hn:∀ b,G b=none->G' b≠none->H b=none):GH C G' H' where
 sub:=hs
 g0:=S.g0.trans hG
 new:=fun b h0 h1=>by
  cases q:G b with
  | none=>exact S.h0none (hn b q h1)
  | some o=>exact S.new b h0 (by rw[q];simp)
 fr:=fun b o e m=>hH b o (S.fr b o e m)
 dom:=fun b e=>S.dom b (hH.free e)
 bs:=S.bs.trans hH
 bh:=S.bh
theorem StR.own_ne(S:StR C G H σ ς){i:Nat}{d:D}{p:Addr}(h:ς[i]?=some (some (.o,d)))(hp:σ[i]?=some (some (.ref p))):∃ o,H p=some o:=by
 obtain⟨q,e,_,_,o⟩:=S.ow i d h
 rw[hp]at e;cases e
 exact o.there
theorem StR.grow(S:StR C G H σ ς)(hH:Same H H')(hG:Same G G')(hs:Same G' H')(hn:∀ b,G b=none->G' b≠none->H b=none):StR C G' H' σ ς where
 toGH:=S.toGH.grow hH hG hs hn
 len:=S.len
 fz:=fun i d e=>let ⟨v,a,b⟩:=S.fz i d e;⟨v,a,Rep.mono hG d v b⟩
 ow:=fun i d e=>by
  obtain⟨p,a,b,c,o⟩:=S.ow i d e
  refine⟨p,a,?_,c,o.mono hG fun u q=>hH _ _ q⟩
  cases q:G' p with
  | none=>rfl
  | some u=>
   obtain⟨w,hw⟩:=o.there
   have:=hn p b (by rw[q];simp)
   rw[hw]at this;cases this
 ln:=S.ln
 inj:=S.inj
 sf:=fun i d e=>by
  obtain⟨p,a,b,c,m,z,o⟩:=S.sf i d e
  refine⟨p,a,?_,c,m,z,o.mono hG fun u q=>hH _ _ q⟩
  cases q:G' p with
  | none=>rfl
  | some u=>
   obtain⟨w,hw⟩:=o.there
   have:=hn p b (by rw[q];simp)
   rw[hw]at this;cases this
 su:=S.su
theorem StR.alloc(S:StR C G H σ ς){p:Addr}{o:HO}(h:H p=none):StR C (upd G p o) (upd H p o) σ ς:=
 S.grow (QE h) (QE (S.sub.free h)) (Qum S.sub) fun b g n=>by
  by_cases hb:b=p
  ·subst hb;exact h
  ·rw[Qk hb,g]at n;exact absurd rfl n
theorem StR.allocO(S:StR C G H σ ς){p:Addr}{o:HO}(h:H p=none):StR C G (upd H p o) σ ς:=
 S.grow (QE h) (Same.refl G) (S.sub.trans (QE h)) fun b g n=>absurd g n
end
def KD(C:Dc)(G H:Hp)(σ:St)(ς:SD)(Q:VK)(d:D):Prop:=∀ v H' G',StR C G' H' σ ς->Same H H'->Same G G'->Rep C.X.K C.CT G' d v->Q v H'
def KB(C:Dc)(G H:Hp)(σ:St)(ς:SD)(Q:VK)(d:D):Prop:=∀ v H' G',StR C G' H' σ ς->Same H H'->Same G G'->Rep C.X.K C.CT H' d v->Q v H'
def KF(C:Dc)(G H:Hp)(σ:St)(ς:SD)(Q:VK)(d:D):Prop:=∀ p H' G',StR C G' H' σ ς->Same H H'->Same G G'->H p=none->G' p=none->Own C.X.K C.CT G' H' p d->Q (.ref p) H'
def DE(C:Dc)(e:Expr)(E:SD->Out D):Prop:=∃ t,PE C.X e t/\∀ G H σ ς Q,StR C G H σ ς->(E ς).post (KD C G H σ ς Q) C.XD->t σ H Q
def DB(C:Dc)(e:Expr)(E:SD->Out D):Prop:=∃ t,PE C.X e t/\∀ G H σ ς Q,StR C G H σ ς->(E ς).post (KB C G H σ ς Q) C.XD->t σ H Q
def DF(C:Dc)(e:Expr)(E:SD->Out D):Prop:=∃ t,PE C.X e t/\∀ G H σ ς Q,StR C G H σ ς->(E ς).post (KF C G H σ ς Q) C.XD->t σ H Q
def KT(C:Dc)(G H:Hp)(σ:St)(ς:SD)(Q:Bool->Hp->Prop)(b:Bool):Prop:=∀ H' G',StR C G' H' σ ς->Same H H'->Same G G'->Q b H'
def DT(C:Dc)(e:Expr)(T:SD->Out Bool):Prop:=∃ t,PT C.X e t/\∀ G H σ ς Q,StR C G H σ ς->(T ς).post (KT C G H σ ς Q) C.XD->t σ H Q
def DW(C:Dc)(e:Expr)(T:SD->Out Bool):Prop:=∃ t,PW C.X e t/\∀ G H σ ς Q,StR C G H σ ς->(T ς).post (KT C G H σ ς Q) C.XD->t σ H Q
def DA(C:Dc)(es:List Expr)(A:SD->Out (List D)):Prop:=∃ t,PA C.X es t/\∀ G H σ ς Q,StR C G H σ ς->
 (A ς).post (fun ds=>∀ vs H' G',StR C G' H' σ ς->Same H H'->Same G G'->RepL C.X.K C.CT G' ds vs->Q vs H') C.XD->t σ H Q
def DAB(C:Dc)(es:List Expr)(A:SD->Out (List D)):Prop:=∃ t,PA C.X es t/\∀ G H σ ς Q,StR C G H σ ς->
 (A ς).post (fun ds=>∀ vs H' G',StR C G' H' σ ς->Same H H'->Same G G'->RepL C.X.K C.CT H' ds vs->Q vs H') C.XD->t σ H Q
inductive Fl where
 | nx (ς:SD) | rt (fr:Bool) (d:D) | bk (ς:SD) | ct (ς:SD)
def RetR(K:PySem.W.Frag)(CT:CTab)(fr:Bool)(H0 G' H':Hp)(d:D)(v:V):Prop:=
 if fr=true then ∃ p,v=.ref p/\H0 p=none/\G' p=none/\Own K CT G' H' p d else Rep K CT G' d v
def FlK(C:Dc)(G:Hp)(W:Ends):Fl->Prop
 | .nx ς'=>∀ σ' H' G',StR C G' H' σ' ς'->Same G G'->W.nx σ' H'
 | .bk ς'=>∀ σ' H' G',StR C G' H' σ' ς'->Same G G'->W.bk σ' H'
 | .ct ς'=>∀ σ' H' G',StR C G' H' σ' ς'->Same G G'->W.ct σ' H'
 | .rt fr d=>∀ v H' G',GH C G' H'->Same G G'->RetR C.X.K C.CT fr C.X.H₀ G' H' d v->W.rt v H'
def DS(C:Dc)(st:Stmt)(T:SD->Out Fl):Prop:=∃ t,PS C.X st t/\∀ G H σ ς W,StR C G H σ ς->(T ς).post (FlK C G W) C.XD->t W σ H
def DSs(C:Dc)(st:List Stmt)(T:SD->Out Fl):Prop:=∃ t,PSs C.X st t/\∀ G H σ ς W,StR C G H σ ς->(T ς).post (FlK C G W) C.XD->t W σ H
section
variable{C:Dc}{e:Expr}{E:SD->Out D}
theorem StR.freeze{G H:Hp}{σ:St}{ς:SD}(S:StR C G H σ ς){p:Addr}{o:HO}(hp:H p=some o)(hg:G p=none)(h0:C.X.H₀ p=none)(hn:∀(i:Nat) d,ς[i]?=some (some (.o,d))->σ[i]?≠some (some (.ref p))):StR C (upd G p o) H σ ς where
 sub:=fun b u q=>by
  by_cases hb:b=p
  ·subst hb;rw[QS]at q;cases q;exact hp
  ·rw[Qk hb]at q;exact S.sub b u q
 g0:=S.g0.trans (QE hg)
 new:=fun b h1 h2=>by
  by_cases hb:b=p
  ·subst hb;exact h0
  ·rw[Qk hb]at h2;exact S.new b h1 h2
 fr:=S.fr
 dom:=S.dom
 bs:=S.bs
 bh:=S.bh
 len:=S.len
 fz:=fun i d q=>let ⟨v,a,b⟩:=S.fz i d q;⟨v,a,Rep.mono (QE hg) d v b⟩
 ow:=fun i d q=>by
  obtain⟨r,a,b,c,w⟩:=S.ow i d q
  refine⟨r,a,?_,c,w.mono (QE hg) fun _ z=>z⟩
  rw[Qk (by rintro rfl;exact hn i d q a)];exact b
 ln:=S.ln
 inj:=S.inj
 sf:=fun i d q=>by
  obtain⟨r,a,b,c,m,z,w⟩:=S.sf i d q
  refine⟨r,a,?_,c,m,z,w.mono (QE hg) fun _ z=>z⟩
  rw[Qk (by rintro rfl;exact c h0)];exact b
 su:=S.su
theorem Own.known{K:PySem.W.Frag}{CT:CTab}{G H:Hp}{p:Addr}{o:HO}(hg:G p=none)(hp:H p=some o):∀{d:D},Own K CT G H p d->Rep K CT (upd G p o) d (.ref p)
 | .lst ds,⟨vs,a,b⟩=>by rw[hp]at a;cases a;exact⟨p,vs,rfl,SqL.of QS,RepL.mono (QE hg) ds vs b⟩
 | .dic ds,⟨vs,a,b⟩=>by rw[hp]at a;cases a;exact⟨p,vs,rfl,Rd.of QS,RepK.mono (QE hg) ds vs b⟩
 | .ins _ ds,⟨A,dx,fs,e,a,b⟩=>by rw[hp]at a;cases a;exact⟨p,A,dx,fs,rfl,e,QS,RepF.mono (QE hg) ds fs b⟩
 | .non,h=>h.elim
 | .bl _,h=>h.elim
 | .int _,h=>h.elim
 | .str _,h=>h.elim
 | .tup _,h=>h.elim
theorem StR.new_ne{G H:Hp}{σ:St}{ς:SD}(S:StR C G H σ ς){p:Addr}(h:H p=none):∀(i:Nat) d,ς[i]?=some (some (.o,d))->σ[i]?≠some (some (.ref p)):=fun i d q z=>by
 obtain⟨o,w⟩:=S.own_ne q z
 rw[h]at w;cases w
theorem KD.ofF{G H:Hp}{σ:St}{ς:SD}{Q:VK}{d:D}(S:StR C G H σ ς)(k:KD C G H σ ς Q d):KF C G H σ ς Q d:=fun p H' G' S' hH hG hp hg ow=>by
 obtain⟨o,ho⟩:=ow.there
 exact k _ _ _ (S'.freeze ho hg (S.h0none hp) (S.new_ne hp)) hH (hG.trans (QE hg)) (ow.known hg ho)
theorem DF.de(h:DF C e E):DE C e E:=by
 obtain⟨t,h1,h2⟩:=h
 refine⟨t,h1,fun G H σ ς Q S q=>h2 G H σ ς Q S (Out.post_mono q fun d k=>KD.ofF S k)⟩
theorem DE.db(h:DE C e E):DB C e E:=by
 obtain⟨t,h1,h2⟩:=h
 refine⟨t,h1,fun G H σ ς Q S q=>h2 G H σ ς Q S (Out.post_mono q fun d k v H' G' S' a b r=>k v H' G' S' a b (Rep.mono S'.sub d v r))⟩
def D.scal:D->Bool
 | .non=>true
 | .bl _=>true
 | .int _=>true
 | .str _=>true
 | _=>false
theorem Rep.scal{K:PySem.W.Frag}{CT:CTab}{G H:Hp}:∀{d:D}{v:V},d.scal=true->Rep K CT H d v->Rep K CT G d v
 | .non,_,_,h=>h
 | .bl _,_,_,h=>h
 | .int _,_,_,h=>h
 | .str _,_,_,h=>h
theorem KD.now{G H:Hp}{σ:St}{ς:SD}{Q:VK}{d:D}{v:V}(k:KD C G H σ ς Q d)(S:StR C G H σ ς)(r:Rep C.X.K C.CT G d v):Q v H:=k v H G S (Same.refl H) (Same.refl G) r
theorem KT.now{G H:Hp}{σ:St}{ς:SD}{Q:Bool->Hp->Prop}{b:Bool}(k:KT C G H σ ς Q b)(S:StR C G H σ ς):Q b H:=k H G S (Same.refl H) (Same.refl G)
theorem KD.later{G H G1 H1:Hp}{σ:St}{ς:SD}{Q:VK}{d:D}(k:KD C G H σ ς Q d)(hH:Same H H1)(hG:Same G G1):KD C G1 H1 σ ς Q d:=fun v H' G' S a b r=>k v H' G' S (hH.trans a) (hG.trans b) r
theorem KT.later{G H G1 H1:Hp}{σ:St}{ς:SD}{Q:Bool->Hp->Prop}{d:Bool}(k:KT C G H σ ς Q d)(hH:Same H H1)(hG:Same G G1):KT C G1 H1 σ ς Q d:=fun H' G' S a b=>k H' G' S (hH.trans a) (hG.trans b)
theorem KF.later{G H G1 H1:Hp}{σ:St}{ς:SD}{Q:VK}{d:D}(k:KF C G H σ ς Q d)(hH:Same H H1)(hG:Same G G1):KF C G1 H1 σ ς Q d:=fun p H' G' S a b hp hg ow=>k p H' G' S (hH.trans a) (hG.trans b) (hH.free hp) hg ow
theorem KF.lst{G H:Hp}{σ:St}{ς:SD}{Q:VK}{ds:List D}{vs:List V}(k:KF C G H σ ς Q (.lst ds))(S:StR C G H σ ς)(r:RepL C.X.K C.CT G ds vs):∀ p,H p=none->Q (.ref p) (upd H p (.lst vs)):=fun p hp=>
 k p _ G (S.allocO hp) (QE hp) (Same.refl G) hp (S.gnone hp) ⟨vs,QS,r⟩
theorem KD.tup{G H:Hp}{σ:St}{ς:SD}{Q:VK}{ds:List D}{vs:List V}(k:KD C G H σ ς Q (.tup ds))(S:StR C G H σ ς)(r:RepL C.X.K C.CT G ds vs):∀ p,H p=none->Q (.ref p) (upd H p (.tup vs)):=fun p hp=>
 k _ _ _ (S.alloc hp) (QE hp) (QE (S.gnone hp)) ⟨p,vs,rfl,SqT.of QS,RepL.mono (QE (S.gnone hp)) ds vs r⟩
end
end DL
namespace DL
open PySem PySem.Spec PyProof.Rows L2
def eVar(i:Nat):SD->Out D:=fun ς=>match ς[i]? with | some (some (.k,d))=>.ok d | _=>.stuck
def eC(d:D):SD->Out D:=fun _=>.ok d
section
variable{C:Dc}{pos:Pos}
theorem QOc{i:Nat}{ς:SD}{k:D->Prop}{x:D->Prop}(h:(eVar i ς).post k x):∃ d,ς[i]?=some (some (.k,d))/\k d:=by
 unfold eVar at h
 split at h
 ·rename_i d e;exact⟨d,e,h⟩
 ·exact h.elim
theorem Qb(i:Nat){x:Str}(hN:C.X.N[i]?=some x:=by rfl)(hv:Vis C.X.env.scope x:=by first | exact Or.inl rfl | exact Or.inr (Or.inl rfl) | exact Or.inr (Or.inr rfl))
 (hd:(x == ("__debug__":Str))=false:=by decide) (hcd:(x == ("__classdict__":Str))=false:=by decide):DE C (.Name x pos) (eVar i):=by
 refine⟨_,Qm9 (i:=i) hN hv hd hcd,fun G H σ ς Q S q=>?_⟩
 obtain⟨d,e,k⟩:=QOc q
 obtain⟨v,a,b⟩:=S.fz i d e
 exact⟨v,a,k.now S b⟩
theorem Qe{i:Int}{j}:DE C (.Constant (.int i) j pos) (eC (.int i)):=⟨_,QRJ,fun G H σ ς Q S q=>KD.now q S rfl⟩
theorem de_bl{b:Bool}{j}:DE C (.Constant (.bool b) j pos) (eC (.bl b)):=⟨_,pe_bl,fun G H σ ς Q S q=>KD.now q S rfl⟩
theorem QQY{j}:DE C (.Constant .none j pos) (eC .non):=⟨_,QRM,fun G H σ ς Q S q=>KD.now q S rfl⟩
theorem QmS{x:Str}{j}:DE C (.Constant (.str x) j pos) (eC (.str x)):=⟨_,QQG,fun G H σ ς Q S q=>KD.now q S rfl⟩
def toV:D->V
 | .bl b=>.bl b
 | .int i=>.int i
 | .str x=>.str x
 | _=>.non
theorem Qz9{K:PySem.W.Frag}{CT:CTab}{H:Hp}:∀{d:D},d.scal=true->Rep K CT H d (toV d)
 | .non,_=>rfl
 | .bl _,_=>rfl
 | .int _,_=>rfl
 | .str _,_=>rfl
theorem QfA{x:Str}{d:D}{u:Value}(hg:Gl C.X x)(hm:C.X.mg x=some u)(hs:d.scal=true)(r:RelV (toV d) u)(hd:(x == ("__debug__":Str))=false:=by decide):DE C (.Name x pos) (eC d):=
 ⟨_,Qp9 hg hm r hd,fun G H σ ς Q S q=>KD.now q S (Qz9 hs)⟩
end
def e1(f:D->Out D)(a:SD->Out D):SD->Out D:=fun ς=>a ς>>=f
def e2(f:D->D->Out D)(a b:SD->Out D):SD->Out D:=fun ς=>a ς>>=fun x=>b ς>>=fun y=>f x y
def DRS(C:Dc)(r:R2)(f:D->D->Out D):Prop:=∀ G H σ ς (Q:VK) x y vx vy,StR C G H σ ς->Rep C.X.K C.CT H x vx->Rep C.X.K C.CT H y vy->
 (f x y).post (fun d=>d.scal=true/\Q (toV d) H) (fun _=>False)->r vx vy H Q
def scal2(f:D->D->Out D):Prop:=∀ x y,match f x y with | .ok d=>d.scal=true | .exc _=>False | .stuck=>True
section
variable{C:Dc}{a b c:Expr}{A B A':SD->Out D}{pos:Pos}
theorem Qm5{o:Out D}{G H:Hp}{σ:St}{ς:SD}{Q:VK}(S:StR C G H σ ς)(hs:match o with | .ok d=>d.scal=true | .exc _=>False | .stuck=>True)(q:o.post (KD C G H σ ς Q) C.XD):
 o.post (fun d=>d.scal=true/\Q (toV d) H) (fun _=>False):=by
 cases o with
 | ok d=>exact⟨hs,KD.now q S (Qz9 hs)⟩
 | exc _=>exact hs
 | stuck=>exact q
theorem dop{t:TE}{r:R2}{f:D->D->Out D}{ta tb:TE}(hr:DRS C r f)(hs:scal2 f)
 (h1:∀ G H σ ς Q,StR C G H σ ς->(A ς).post (KB C G H σ ς Q) C.XD->ta σ H Q) (h2:∀ G H σ ς Q,StR C G H σ ς->(B ς).post (KB C G H σ ς Q) C.XD->tb σ H Q):
 ∀ G H σ ς Q,StR C G H σ ς->(e2 f A B ς).post (KD C G H σ ς Q) C.XD->tOp r ta tb σ H Q:=by
 intro G H σ ς Q S q
 unfold e2 at q
 rw[Out.post_bind]at q
 refine h1 G H σ ς _ S (Out.post_mono q fun x k v1 H1 G1 S1 a1 b1 r1=>?_)
 rw[Out.post_bind]at k
 refine h2 G1 H1 σ ς _ S1 (Out.post_mono k fun y k2 v2 H2 G2 S2 a2 b2 r2=>?_)
 refine hr G2 H2 σ ς _ x y v1 v2 S2 (Rep.mono a2 x v1 r1) r2 (Qm5 S2 (hs x y) ?_)
 exact Out.post_mono k2 fun d kd=>KD.later kd (a1.trans a2) (b1.trans b2)
theorem de_op{op:Operator}{r:R2}{f:D->D->Out D}(ho:OpR C.X (binaryOp op) r)(hr:DRS C r f)(hs:scal2 f)(ha:DB C a A)(hb:DB C b B):DE C (.BinOp a op b pos) (e2 f A B):=by
 obtain⟨ta,p1,q1⟩:=ha
 obtain⟨tb,p2,q2⟩:=hb
 exact⟨_,pe_op ho p1 p2,dop (t:=ta) hr hs q1 q2⟩
theorem QFQ{op:CmpOp}{r:R2}{f:D->D->Out D}(ho:OpR C.X (compareOp op) r)(hr:DRS C r f)(hs:scal2 f)(ha:DB C a A)(hb:DB C b B)(hm:behindInMarks op b=false):DE C (.Compare a [op] [b] pos) (e2 f A B):=by
 obtain⟨ta,p1,q1⟩:=ha
 obtain⟨tb,p2,q2⟩:=hb
 exact⟨_,QPV ho p1 p2 hm,dop (t:=ta) hr hs q1 q2⟩
def tVal(a:SD->Out D):SD->Out Bool:=fun ς=>a ς>>=fun d=>match d with | .bl b=>.ok b | _=>.stuck
theorem Qux{o:Out D}{G H:Hp}{σ:St}{ς:SD}{Q:Bool->Hp->Prop}(q:(o>>=fun d=>match d with | .bl b=>Out.ok b | _=>.stuck).post (KT C G H σ ς Q) C.XD):
 o.post (KD C G H σ ς fun x H'=>∃ k,x=.bl k/\Q k H') C.XD:=by
 rw[Out.post_bind]at q
 refine Out.post_mono q fun d k v H' G' S' a b r=>?_
 cases d with
 | bl c=>exact⟨c,r,k H' G' S' a b⟩
 | _=>exact k.elim
theorem Qqf{op:CmpOp}{r:R2}{f:D->D->Out D}(ho:OpR C.X (compareOp op) r)(hr:DRS C r f)(hs:scal2 f)(ha:DB C a A)(hb:DB C b B)(hm:behindInMarks op b=false):DT C (.Compare a [op] [b] pos) (tVal (e2 f A B)):=by
 obtain⟨ta,p1,q1⟩:=ha
 obtain⟨tb,p2,q2⟩:=hb
 exact⟨_,QQk ho p1 p2 hm,fun G H σ ς Q S q=>dop (t:=ta) hr hs q1 q2 G H σ ς _ S (Qux q)⟩
theorem Qav(h:DE C a A)(he:∀ whole,isTrue a C.X.env whole=(do let v ← whole;standAt a.pos;holding [v] (truthy v)):=by intro _;rfl):DT C a (tVal A):=by
 obtain⟨ta,p1,q1⟩:=h
 exact⟨_,QRn p1 he,fun G H σ ς Q S q=>q1 G H σ ς _ S (Qux q)⟩
def Qf5(f g:D->D->Out D)(a b c:SD->Out D):SD->Out D:=fun ς=>a ς>>=fun x=>b ς>>=fun y=>f x y>>=fun z=>match z with
 | .bl true=>c ς>>=fun w=>g y w
 | .bl false=>.ok (.bl false)
 | _=>.stuck
theorem QMA{r r':R2}{f g:D->D->Out D}{ta tb tc:TE}(hr:DRS C r f)(hs:scal2 f)(hr':DRS C r' g)(hs':scal2 g)
 (h1:∀ G H σ ς Q,StR C G H σ ς->(A ς).post (KB C G H σ ς Q) C.XD->ta σ H Q) (h2:∀ G H σ ς Q,StR C G H σ ς->(B ς).post (KB C G H σ ς Q) C.XD->tb σ H Q)
 (h3:∀ G H σ ς Q,StR C G H σ ς->(A' ς).post (KB C G H σ ς Q) C.XD->tc σ H Q):
 ∀ G H σ ς Q,StR C G H σ ς->(Qf5 f g A B A' ς).post (KD C G H σ ς Q) C.XD->QE6 r r' ta tb tc σ H Q:=by
 intro G H σ ς Q S q
 unfold Qf5 at q
 rw[Out.post_bind]at q
 refine h1 G H σ ς _ S (Out.post_mono q fun x k v1 H1 G1 S1 a1 b1 r1=>?_)
 rw[Out.post_bind]at k
 refine h2 G1 H1 σ ς _ S1 (Out.post_mono k fun y k2 v2 H2 G2 S2 a2 b2 r2=>?_)
 rw[Out.post_bind]at k2
 refine hr G2 H2 σ ς _ x y v1 v2 S2 (Rep.mono a2 x v1 r1) r2 ?_
 have hxy:=hs x y
 cases e:f x y with
 | exc _=>rw[e]at hxy;exact hxy
 | stuck=>rw[e]at k2;exact k2.elim
 | ok z=>
  rw[e]at k2
  refine⟨by rw[e]at hxy;exact hxy,?_⟩
  cases z with
  | bl cc=>
   refine⟨cc,rfl,?_⟩
   cases cc with
   | false=>exact iteF (KD.now (KD.later (show KD C G H σ ς Q (.bl false) from k2) (a1.trans a2) (b1.trans b2)) S2 rfl)
   | true=>
    refine iteT (h3 G2 H2 σ ς _ S2 ?_)
    have k2':(A' ς>>=fun w=>g y w).post (KD C G H σ ς Q) C.XD:=k2
    rw[Out.post_bind]at k2'
    refine Out.post_mono k2' fun w k3 v3 H3 G3 S3 a3 b3 r3=>?_
    refine hr' G3 H3 σ ς _ y w v2 v3 S3 (Rep.mono a3 y v2 r2) r3 (Qm5 S3 (hs' y w) ?_)
    exact Out.post_mono k3 fun d kd=>KD.later kd ((a1.trans a2).trans a3) ((b1.trans b2).trans b3)
  | _=>exact k2.elim
theorem QEF{op op':CmpOp}{r r':R2}{f g:D->D->Out D}(ho:OpR C.X (compareOp op) r)(hr:DRS C r f)(hs:scal2 f)(ho':OpR C.X (compareOp op') r')(hr':DRS C r' g)(hs':scal2 g)
 (ha:DB C a A) (hb:DB C b B) (hc:DB C c A') (hm:lastMarks [op,op'] [b,c]=false:=by with_unfolding_all rfl):DE C (.Compare a [op,op'] [b,c] pos) (Qf5 f g A B A'):=by
 obtain⟨ta,p1,q1⟩:=ha
 obtain⟨tb,p2,q2⟩:=hb
 obtain⟨tc,p3,q3⟩:=hc
 exact⟨_,QN3 ho ho' p1 p2 p3 hm,QMA hr hs hr' hs' q1 q2 q3⟩
theorem QD0{op op':CmpOp}{r r':R2}{f g:D->D->Out D}(ho:OpR C.X (compareOp op) r)(hr:DRS C r f)(hs:scal2 f)(ho':OpR C.X (compareOp op') r')(hr':DRS C r' g)(hs':scal2 g)
 (ha:DB C a A) (hb:DB C b B) (hc:DB C c A') (hm:lastMarks [op,op'] [b,c]=false:=by with_unfolding_all rfl):DT C (.Compare a [op,op'] [b,c] pos) (tVal (Qf5 f g A B A')):=by
 obtain⟨ta,p1,q1⟩:=ha
 obtain⟨tb,p2,q2⟩:=hb
 obtain⟨tc,p3,q3⟩:=hc
 exact⟨_,QNT ho ho' p1 p2 p3 hm,fun G H σ ς Q S q=>QMA hr hs hr' hs' q1 q2 q3 G H σ ς _ S (Qux q)⟩
end
section
variable{C:Dc}
def dI(cnd:Int->Int->Bool)(g:Int->Int->D):D->D->Out D
 | .int i,.int j=>if cnd i j=true then .ok (g i j) else .stuck
 | _,_=>.stuck
def dI0(g:Int->Int->D):D->D->Out D
 | .int i,.int j=>.ok (g i j)
 | _,_=>.stuck
theorem Qaq{α:Type}{c:Prop}[Decidable c]{a b:Out α}{k:α->Prop}{x:D->Prop}(h:(if c then a else b).post k x):(c/\a.post k x)∨(¬ c/\b.post k x):=by
 by_cases e:c
 ·rw[if_pos e]at h;exact .inl ⟨e,h⟩
 ·rw[if_neg e]at h;exact .inr ⟨e,h⟩
theorem QmZ{c:Prop}[Decidable c]{d:D}(h:d.scal=true):match (if c then Out.ok d else Out.stuck:Out D) with | .ok d=>d.scal=true | .exc _=>False | .stuck=>True:=by
 by_cases e:c
 ·rw[if_pos e];exact h
 ·rw[if_neg e];exact True.intro
theorem QuJ{cnd:Int->Int->Bool}{g:Int->Int->D}(h:∀ i j,(g i j).scal=true):scal2 (dI cnd g):=by
 intro x y
 cases x with
 | int i=>
  cases y with
  | int j=>exact QmZ (h i j)
  | _=>exact True.intro
 | _=>exact True.intro
theorem Qcx{g:Int->Int->D}(h:∀ i j,(g i j).scal=true):scal2 (dI0 g):=by
 intro x y
 cases x<;>cases y<;>simp[dI0,h]
theorem Qxy{cnd:Int->Int->Bool}{P:Int->Int->Prop}{g:Int->Int->D}(hP:∀ i j,cnd i j=true->P i j):DRS C (rI P fun i j=>toV (g i j)) (dI cnd g):=by
 intro G H σ ς Q x y vx vy S hx hy q
 cases x with
 | int i=>
  cases y with
  | int j=>
   cases hx;cases hy
   refine⟨i,j,rfl,rfl,?_⟩
   rcases Qaq (show(if cnd i j=true then Out.ok (g i j) else Out.stuck).post _ _ from q) with⟨hc,q⟩ | ⟨hc,q⟩
   ·exact⟨hP i j hc,q.2⟩
   ·exact q.elim
  | _=>exact q.elim
 | _=>exact q.elim
theorem Qdj{g:Int->Int->D}:DRS C (rI0 fun i j=>toV (g i j)) (dI0 g):=by
 intro G H σ ς Q x y vx vy S hx hy q
 cases x with
 | int i=>
  cases y with
  | int j=>
   cases hx;cases hy
   exact⟨i,j,rfl,rfl,q.2⟩
  | _=>exact q.elim
 | _=>exact q.elim
variable{a b c:Expr}{A B:SD->Out D}{pos:Pos}
def dSub:D->D->Out D:=dI0 fun i j=>.int (i - j)
def big(i:Int):Bool:=decide (i.natAbs<2 ^ 9000)
def dMul:D->D->Out D:=dI (fun i j=>decide (Builtin.Int.intBits i+Builtin.Int.intBits j<=134217728)) fun i j=>.int (i * j)
def dFdiv:D->D->Out D:=dI (fun i j=>decide (j≠0)&&big j) fun i j=>.int (i.fdiv j)
def dMod:D->D->Out D:=dI (fun i j=>decide (j≠0)) fun i j=>.int (i.fmod j)
def dPow:D->D->Out D:=dI (fun i j=>decide (0<=j)&&decide (j<=1000000)&&decide (i.natAbs<2 ^ 64)) fun i j=>.int (i ^ j.toNat)
theorem QND{i:Int}(h:big i=true):i.natAbs.log2<9000:=by
 have h':i.natAbs<2 ^ 9000:=of_decide_eq_true h
 by_cases z:i.natAbs=0
 ·rw[z];decide
 ·exact(Nat.log2_lt z).mpr h'
theorem QPC{X:Cx}:OpR X (binaryOp .Mult) (rI IntMulOk fun i j=>.int (i * j)):=opI fun _ _ _ _ _ _ _ hc q=>mul_int q hc
def CDivB(i j:Int):Prop:=j≠0/\j.natAbs.log2<9000
theorem QNF{X:Cx}:OpR X (binaryOp .FloorDiv) (rI CDivB fun i j=>.int (i.fdiv j)):=opI fun _ _ _ _ _ _ _ hc q=>floordiv_int hc.1 q (.inl (PyProof.noPylong_of_log2 hc.2))
theorem QcN(ha:DB C a A)(hb:DB C b B):DE C (.BinOp a .Sub b pos) (e2 dSub A B):=de_op QRv Qdj (Qcx fun _ _=>rfl) ha hb
theorem QbO(ha:DB C a A)(hb:DB C b B):DE C (.BinOp a .Mult b pos) (e2 dMul A B):=de_op QPC (Qxy fun i j h=>IntMulOk.of_le (Nat.le_refl _) (Nat.le_refl _) (of_decide_eq_true h)) (QuJ fun _ _=>rfl) ha hb
theorem Qch(ha:DB C a A)(hb:DB C b B):DE C (.BinOp a .FloorDiv b pos) (e2 dFdiv A B):=de_op QNF (Qxy fun i j h=>by
 rw[Bool.and_eq_true]at h
 exact⟨of_decide_eq_true h.1,QND h.2⟩) (QuJ fun _ _=>rfl) ha hb
theorem Qbq(ha:DB C a A)(hb:DB C b B):DE C (.BinOp a .Mod b pos) (e2 dMod A B):=de_op QPt (Qxy fun i j h=>of_decide_eq_true h) (QuJ fun _ _=>rfl) ha hb
theorem QEz(ha:DB C a A)(hb:DB C b B):DE C (.BinOp a .Pow b pos) (e2 dPow A B):=de_op QR4 (Qxy fun i j h=>by
 rw[Bool.and_eq_true,Bool.and_eq_true]at h
 exact⟨of_decide_eq_true h.1.1,of_decide_eq_true h.1.2,of_decide_eq_true h.2⟩) (QuJ fun _ _=>rfl) ha hb
def dAdd:D->D->Out D
 | .int i,.int j=>.ok (.int (i+j))
 | .str x,.str y=>if x.length+y.length<=sizeLine then .ok (.str (x++y)) else .stuck
 | _,_=>.stuck
theorem Qbo(ha:DB C a A)(hb:DB C b B):DE C (.BinOp a .Add b pos) (e2 dAdd A B):=by
 refine de_op (QRL.or QKt) ?_ ?_ ha hb
 ·intro G H σ ς Q x y vx vy S hx hy q
  cases x with
  | int i=>
   cases y with
   | int j=>
    cases hx;cases hy
    exact .inl ⟨i,j,rfl,rfl,q.2⟩
   | _=>exact q.elim
  | str i=>
   cases y with
   | str j=>
    cases hx;cases hy
    rcases Qaq (show(if i.length+j.length<=sizeLine then Out.ok (D.str (i++j)) else Out.stuck).post _ _ from q) with⟨hc,q⟩ | ⟨hc,q⟩
    ·exact .inr ⟨i,j,rfl,rfl,hc,q.2⟩
    ·exact q.elim
   | _=>exact q.elim
  | _=>exact q.elim
 ·intro x y
  cases x with
  | int i=>
   cases y with
   | int j=>exact rfl
   | _=>exact True.intro
  | str i=>
   cases y with
   | str j=>exact QmZ rfl
   | _=>exact True.intro
  | _=>exact True.intro
def dLt:D->D->Out D:=dI0 fun i j=>.bl (decide (i<j))
def dLe:D->D->Out D:=dI0 fun i j=>.bl (decide (i<=j))
def dGt:D->D->Out D:=dI0 fun i j=>.bl (decide (j<i))
def dGe:D->D->Out D:=dI0 fun i j=>.bl (decide (j<=i))
end
section
variable{C:Dc}{a b c:Expr}{A B:SD->Out D}{pos:Pos}
def dNeg:D->Out D
 | .int i=>.ok (.int (-i))
 | _=>.stuck
theorem Qqn(ha:DB C a A):DE C (.UnaryOp .USub a pos) (e1 dNeg A):=by
 obtain⟨ta,p1,q1⟩:=ha
 refine⟨_,pe_un QQB p1,fun G H σ ς Q S q=>?_⟩
 unfold e1 at q
 rw[Out.post_bind]at q
 refine q1 G H σ ς _ S (Out.post_mono q fun x k v1 H1 G1 S1 a1 b1 r1=>?_)
 cases x with
 | int i=>cases r1;exact⟨i,rfl,KD.now (KD.later k a1 b1) S1 rfl⟩
 | _=>exact k.elim
variable{TA TB:SD->Out Bool}{rest:List Expr}
def tAnd'(a b:SD->Out Bool):SD->Out Bool:=fun ς=>a ς>>=fun c=>if c=true then b ς else .ok false
def tOr'(a b:SD->Out Bool):SD->Out Bool:=fun ς=>a ς>>=fun c=>if c=true then .ok true else b ς
def tNot'(a:SD->Out Bool):SD->Out Bool:=fun ς=>a ς>>=fun c=>.ok (!c)
theorem DW.dt{e:Expr}{T:SD->Out Bool}(h:DW C e T):DT C e T:=let ⟨t,p,q⟩:=h;⟨t,p.pt,q⟩
theorem QPQ(ha:DT C a TA):DW C (.BoolOp .And [a] pos) TA:=let ⟨t,p,q⟩:=ha;⟨t,QPs p,q⟩
theorem Qga(ha:DT C a TA):DW C (.BoolOp .Or [a] pos) TA:=let ⟨t,p,q⟩:=ha;⟨t,QQM p,q⟩
theorem QQU(ha:DT C a TA)(hb:DW C (.BoolOp .And (b::rest) pos) TB):DW C (.BoolOp .And (a::b::rest) pos) (tAnd' TA TB):=by
 obtain⟨t1,p1,q1⟩:=ha
 obtain⟨t2,p2,q2⟩:=hb
 refine⟨_,QRj p1 p2,fun G H σ ς Q S q=>?_⟩
 unfold tAnd' at q
 rw[Out.post_bind]at q
 refine q1 G H σ ς _ S (Out.post_mono q fun x k H1 G1 S1 a1 b1=>?_)
 cases x with
 | true=>exact iteT (q2 G1 H1 σ ς _ S1 (Out.post_mono (show(TB ς).post _ _ from k) fun x k=>KT.later k a1 b1))
 | false=>exact iteF (KT.now (KT.later (show KT C G H σ ς Q false from k) a1 b1) S1)
theorem dw_or(ha:DT C a TA)(hb:DW C (.BoolOp .Or (b::rest) pos) TB):DW C (.BoolOp .Or (a::b::rest) pos) (tOr' TA TB):=by
 obtain⟨t1,p1,q1⟩:=ha
 obtain⟨t2,p2,q2⟩:=hb
 refine⟨_,pw_or p1 p2,fun G H σ ς Q S q=>?_⟩
 unfold tOr' at q
 rw[Out.post_bind]at q
 refine q1 G H σ ς _ S (Out.post_mono q fun x k H1 G1 S1 a1 b1=>?_)
 cases x with
 | true=>exact iteT (KT.now (KT.later (show KT C G H σ ς Q true from k) a1 b1) S1)
 | false=>exact iteF (q2 G1 H1 σ ς _ S1 (Out.post_mono (show(TB ς).post _ _ from k) fun x k=>KT.later k a1 b1))
theorem Qap(ha:DT C a TA):DT C (.UnaryOp .Not a pos) (tNot' TA):=by
 obtain⟨t1,p1,q1⟩:=ha
 refine⟨_,QRr p1,fun G H σ ς Q S q=>?_⟩
 unfold tNot' at q
 rw[Out.post_bind]at q
 exact q1 G H σ ς _ S (Out.post_mono q fun x k H1 G1 S1 a1 b1=>k H1 G1 S1 a1 b1)
def eAnd(a b:SD->Out D):SD->Out D:=fun ς=>a ς>>=fun d=>match d with | .bl true=>b ς | .bl false=>.ok (.bl false) | _=>.stuck
def eOr(a b:SD->Out D):SD->Out D:=fun ς=>a ς>>=fun d=>match d with | .bl true=>.ok (.bl true) | .bl false=>b ς | _=>.stuck
def eNot(a:SD->Out D):SD->Out D:=fun ς=>a ς>>=fun d=>match d with | .bl c=>.ok (.bl (!c)) | _=>.stuck
theorem Qj6{op}(h:DE C a A):DE C (.BoolOp op [a] pos) A:=let ⟨t,p,q⟩:=h;⟨t,QRi p,q⟩
theorem Qf4(ha:DE C a A)(hb:DE C (.BoolOp .And (b::rest) pos) B):DE C (.BoolOp .And (a::b::rest) pos) (eAnd A B):=by
 obtain⟨t1,p1,q1⟩:=ha
 obtain⟨t2,p2,q2⟩:=hb
 refine⟨_,QRz p1 p2,fun G H σ ς Q S q=>?_⟩
 unfold eAnd at q
 rw[Out.post_bind]at q
 refine q1 G H σ ς _ S (Out.post_mono q fun x k v1 H1 G1 S1 a1 b1 r1=>?_)
 cases x with
 | bl c=>
  refine⟨c,r1,?_⟩
  cases c with
  | true=>exact iteT (q2 G1 H1 σ ς _ S1 (Out.post_mono (show(B ς).post _ _ from k) fun x k=>KD.later k a1 b1))
  | false=>exact iteF (KD.now (KD.later (show KD C G H σ ς Q (.bl false) from k) a1 b1) S1 rfl)
 | _=>exact k.elim
theorem QNq(ha:DE C a A):DE C (.UnaryOp .Not a pos) (eNot A):=by
 obtain⟨t1,p1,q1⟩:=ha
 refine⟨_,QQS p1,fun G H σ ς Q S q=>?_⟩
 unfold eNot at q
 rw[Out.post_bind]at q
 refine q1 G H σ ς _ S (Out.post_mono q fun x k v1 H1 G1 S1 a1 b1 r1=>?_)
 cases x with
 | bl c=>exact⟨c,r1,KD.now (KD.later (show KD C G H σ ς Q (.bl (!c)) from k) a1 b1) S1 rfl⟩
 | _=>exact k.elim
def eIf(t:SD->Out Bool)(a b:SD->Out D):SD->Out D:=fun ς=>t ς>>=fun c=>if c=true then a ς else b ς
theorem de_if{t:Expr}(ht:DT C t TA)(ha:DE C a A)(hb:DE C b B):DE C (.IfExp t a b pos) (eIf TA A B):=by
 obtain⟨t0,p0,q0⟩:=ht
 obtain⟨t1,p1,q1⟩:=ha
 obtain⟨t2,p2,q2⟩:=hb
 refine⟨_,QOF p0 p1 p2,fun G H σ ς Q S q=>?_⟩
 unfold eIf at q
 rw[Out.post_bind]at q
 refine q0 G H σ ς _ S (Out.post_mono q fun x k H1 G1 S1 a1 b1=>?_)
 cases x with
 | true=>exact iteT (q1 G1 H1 σ ς _ S1 (Out.post_mono (show(A ς).post _ _ from k) fun x k=>KD.later k a1 b1))
 | false=>exact iteF (q2 G1 H1 σ ς _ S1 (Out.post_mono (show(B ς).post _ _ from k) fun x k=>KD.later k a1 b1))
end
end DL
namespace DL
open PySem PySem.Spec PyProof.Rows L2
def aNil:SD->Out (List D):=fun _=>.ok []
def aCons(a:SD->Out D)(r:SD->Out (List D)):SD->Out (List D):=fun ς=>a ς>>=fun x=>r ς>>=fun xs=>.ok (x::xs)
section
variable{C:Dc}{e:Expr}{es:List Expr}{E:SD->Out D}{A:SD->Out (List D)}{pos:Pos}
theorem Qg:DA C [] aNil:=⟨_,Qge,fun G H σ ς Q S q=>q [] H G S (Same.refl H) (Same.refl G) rfl⟩
theorem Qx:DAB C [] aNil:=⟨_,Qge,fun G H σ ς Q S q=>q [] H G S (Same.refl H) (Same.refl G) rfl⟩
theorem Qc(ha:DE C e E)(hr:DA C es A)(hs:starEach (e::es) C.X.env=(false,eval e C.X.env)::starEach es C.X.env:=by rfl):DA C (e::es) (aCons E A):=by
 obtain⟨t1,p1,q1⟩:=ha
 obtain⟨t2,p2,q2⟩:=hr
 refine⟨_,QcY p1 p2 hs,fun G H σ ς Q S q=>?_⟩
 unfold aCons at q
 rw[Out.post_bind]at q
 refine q1 G H σ ς _ S (Out.post_mono q fun x k v1 H1 G1 S1 a1 b1 r1=>?_)
 rw[Out.post_bind]at k
 refine q2 G1 H1 σ ς _ S1 (Out.post_mono k fun xs k2 vs H2 G2 S2 a2 b2 r2=>?_)
 exact k2 (v1::vs) H2 G2 S2 (a1.trans a2) (b1.trans b2) ⟨v1,vs,rfl,Rep.mono b2 x v1 r1,r2⟩
theorem Qs(ha:DB C e E)(hr:DAB C es A)(hs:starEach (e::es) C.X.env=(false,eval e C.X.env)::starEach es C.X.env:=by rfl):DAB C (e::es) (aCons E A):=by
 obtain⟨t1,p1,q1⟩:=ha
 obtain⟨t2,p2,q2⟩:=hr
 refine⟨_,QcY p1 p2 hs,fun G H σ ς Q S q=>?_⟩
 unfold aCons at q
 rw[Out.post_bind]at q
 refine q1 G H σ ς _ S (Out.post_mono q fun x k v1 H1 G1 S1 a1 b1 r1=>?_)
 rw[Out.post_bind]at k
 refine q2 G1 H1 σ ς _ S1 (Out.post_mono k fun xs k2 vs H2 G2 S2 a2 b2 r2=>?_)
 exact k2 (v1::vs) H2 G2 S2 (a1.trans a2) (b1.trans b2) ⟨v1,vs,rfl,Rep.mono a2 x v1 r1,r2⟩
def fits(n:Nat):Bool:=decide (n<=sizeLine)
def eTup(a:SD->Out (List D)):SD->Out D:=fun ς=>a ς>>=fun xs=>if fits xs.length=true then .ok (.tup xs) else .stuck
def eLst(a:SD->Out (List D)):SD->Out D:=fun ς=>a ς>>=fun xs=>if fits xs.length=true then .ok (.lst xs) else .stuck
theorem Qda{x1}(h:DA C es A):DE C (.Tuple es x1 pos) (eTup A):=by
 obtain⟨t,p,q⟩:=h
 refine⟨_,QMJ p,fun G H σ ς Q S k=>?_⟩
 unfold eTup at k
 rw[Out.post_bind]at k
 refine q G H σ ς _ S (Out.post_mono k fun xs k2 vs H1 G1 S1 a1 b1 r1=>?_)
 rcases Qaq k2 with⟨hc,k3⟩ | ⟨_,k3⟩
 ·exact⟨by rw[← r1.length];exact of_decide_eq_true hc,KD.tup (KD.later k3 a1 b1) S1 r1⟩
 ·exact k3.elim
theorem QcK(h:DA C es A):DF C (.List es pos) (eLst A):=by
 obtain⟨t,p,q⟩:=h
 refine⟨_,QQF p,fun G H σ ς Q S k=>?_⟩
 unfold eLst at k
 rw[Out.post_bind]at k
 refine q G H σ ς _ S (Out.post_mono k fun xs k2 vs H1 G1 S1 a1 b1 r1=>?_)
 rcases Qaq k2 with⟨hc,k3⟩ | ⟨_,k3⟩
 ·exact⟨by rw[← r1.length];exact of_decide_eq_true hc,KF.lst (KF.later k3 a1 b1) S1 r1⟩
 ·exact k3.elim
end
theorem QAc{K:PySem.W.Frag}{CT:CTab}{H:Hp}{ds:List D}{vs:List V}{i:Int}{d:D}(r:RepL K CT H ds vs)(h:atI ds i=some d):∃ v,atI vs i=some v/\Rep K CT H d v:=by
 unfold atI at h ⊢
 rw[← r.length]
 cases e:ixN ds.length i with
 | none=>rw[e]at h;cases h
 | some j=>
  rw[e]at h
  exact r.get h
def optO{α:Type}:Option α->Out α
 | some a=>.ok a
 | none=>.stuck
theorem QjE{α:Type}{o:Option α}{k:α->Prop}{x:D->Prop}(h:(optO o).post k x):∃ a,o=some a/\k a:=by
 cases o with
 | none=>exact h.elim
 | some a=>exact⟨a,rfl,h⟩
def dIx:D->D->Out D
 | .lst xs,.int i=>optO (atI xs i)
 | .tup xs,.int i=>optO (atI xs i)
 | .str x,.int i=>if fits x.length=true then optO ((atI x.cps.toList i).map fun c=>D.str ⟨#[c]⟩) else .stuck
 | _,_=>.stuck
section
variable{C:Dc}{a b:Expr}{A B:SD->Out D}{pos:Pos}
theorem de_ix(ha:DE C a A)(hb:DB C b B)(hs:Qy9 b:=by intro _ _;rfl):DE C (.Subscript a b pos) (e2 dIx A B):=by
 obtain⟨ta,p1,q1⟩:=ha
 obtain⟨tb,p2,q2⟩:=hb
 refine⟨_,pe_ix QLN p1 p2 hs,fun G H σ ς Q S q=>?_⟩
 unfold e2 at q
 rw[Out.post_bind]at q
 refine q1 G H σ ς _ S (Out.post_mono q fun x k v1 H1 G1 S1 a1 b1 r1=>?_)
 rw[Out.post_bind]at k
 refine q2 G1 H1 σ ς _ S1 (Out.post_mono k fun y k2 v2 H2 G2 S2 a2 b2 r2=>?_)
 have r1':=Rep.mono b2 x v1 r1
 cases y with
 | int i=>
  cases r2
  cases x with
  | lst xs=>
   obtain⟨p,vs,rfl,h2,h3⟩:=r1'
   obtain⟨d,e,kd⟩:=QjE k2
   obtain⟨v,e2,r⟩:=QAc h3 e
   exact .inl ⟨p,vs,i,v,rfl,rfl,S2.sub.seq h2,e2,KD.now (KD.later kd (a1.trans a2) (b1.trans b2)) S2 r⟩
  | tup xs=>
   obtain⟨p,vs,rfl,h2,h3⟩:=r1'
   obtain⟨d,e,kd⟩:=QjE k2
   obtain⟨v,e2,r⟩:=QAc h3 e
   exact .inr (.inl ⟨p,vs,i,v,rfl,rfl,Same.sqT S2.sub h2,e2,KD.now (KD.later kd (a1.trans a2) (b1.trans b2)) S2 r⟩)
  | str z=>
   cases r1'
   rcases Qaq (show(if fits z.length=true then optO ((atI z.cps.toList i).map fun c=>D.str ⟨#[c]⟩) else .stuck).post _ C.XD from k2) with⟨hc,q⟩ | ⟨_,q⟩
   ·obtain⟨d,e,kd⟩:=QjE q
    cases e3:atI z.cps.toList i with
    | none=>rw[e3]at e;cases e
    | some c=>
     rw[e3]at e
     cases e
     exact .inr (.inr ⟨z,i,c,rfl,rfl,of_decide_eq_true hc,e3,KD.now (KD.later kd (a1.trans a2) (b1.trans b2)) S2 rfl⟩)
   ·exact q.elim
  | _=>exact k2.elim
 | _=>cases x<;>exact k2.elim
end
def cutD{α:Type}(xs:List α)(lo hi:Option Int):List α:=(xs.drop (HT.sIx xs.length 0 lo)).take (HT.sIx xs.length xs.length hi - HT.sIx xs.length 0 lo)
theorem QOW{K:PySem.W.Frag}{CT:CTab}{H:Hp}{ds:List D}{vs:List V}(lo hi:Option Int)(r:RepL K CT H ds vs):RepL K CT H (cutD ds lo hi) (cutV vs lo hi):=by
 unfold cutD cutV
 rw[r.length]
 exact(r.drop _).take _
def oNo:SD->Out (Option Int):=fun _=>.ok none
def oSome(e:SD->Out D):SD->Out (Option Int):=fun ς=>e ς>>=fun d=>match d with | .int i=>.ok (some i) | _=>.stuck
def DO(C:Dc)(e:Option Expr)(T:SD->Out (Option Int)):Prop:=∃ t,PO C.X e t/\∀ G H σ ς Q,StR C G H σ ς->(T ς).post (fun o=>∀ H' G',StR C G' H' σ ς->Same H H'->Same G G'->Q o H') C.XD->t σ H Q
section
variable{C:Dc}{a b:Expr}{A B:SD->Out D}{lo hi:Option Expr}{L U:SD->Out (Option Int)}{pos p2:Pos}
theorem QJq:DO C none oNo:=⟨_,QPc,fun G H σ ς Q S q=>q H G S (Same.refl H) (Same.refl G)⟩
theorem QuE(h:DB C a A):DO C (some a) (oSome A):=by
 obtain⟨t,p,q⟩:=h
 refine⟨_,QPF p,fun G H σ ς Q S k=>?_⟩
 unfold oSome at k
 rw[Out.post_bind]at k
 refine q G H σ ς _ S (Out.post_mono k fun x k2 v1 H1 G1 S1 a1 b1 r1=>?_)
 cases x with
 | int i=>cases r1;exact⟨i,rfl,k2 H1 G1 S1 a1 b1⟩
 | _=>exact k2.elim
def eSl(a:SD->Out D)(l u:SD->Out (Option Int)):SD->Out D:=fun ς=>a ς>>=fun x=>l ς>>=fun i=>u ς>>=fun j=>match x with
 | .lst xs=>.ok (.lst (cutD xs i j))
 | _=>.stuck
theorem df_sl(ha:DE C a A)(hl:DO C lo L)(hu:DO C hi U):DF C (.Subscript a (.Slice lo hi none p2) pos) (eSl A L U):=by
 obtain⟨ta,p1,q1⟩:=ha
 obtain⟨tl,p3,q3⟩:=hl
 obtain⟨tu,p4,q4⟩:=hu
 refine⟨_,QOH QPv p1 p3 p4,fun G H σ ς Q S q=>?_⟩
 unfold eSl at q
 rw[Out.post_bind]at q
 refine q1 G H σ ς _ S (Out.post_mono q fun x k v1 H1 G1 S1 a1 b1 r1=>?_)
 rw[Out.post_bind]at k
 refine q3 G1 H1 σ ς _ S1 (Out.post_mono k fun i k2 H2 G2 S2 a2 b2=>?_)
 rw[Out.post_bind]at k2
 refine q4 G2 H2 σ ς _ S2 (Out.post_mono k2 fun j k3 H3 G3 S3 a3 b3=>?_)
 cases x with
 | lst xs=>
  obtain⟨p,vs,rfl,h2,h3⟩:=Rep.mono (b2.trans b3) _ v1 r1
  exact⟨p,vs,rfl,S3.sub.seq h2,KF.lst (KF.later (show KF C G H σ ς Q (.lst (cutD xs i j)) from k3) ((a1.trans a2).trans a3) ((b1.trans b2).trans b3)) S3 (QOW i j h3)⟩
 | _=>exact k3.elim
end
section
variable{C:Dc}{x:Str}{p pos:Pos}{e:Expr}{es:List Expr}{A:SD->Out (List D)}{id T:String}
def eA(f:List D->Out D)(a:SD->Out (List D)):SD->Out D:=fun ς=>a ς>>=f
def DCS(C:Dc)(r:List V->Hp->VK->Prop)(f:List D->Out D):Prop:=∀ G H σ ς (Q:VK) xs vs,StR C G H σ ς->RepL C.X.K C.CT H xs vs->
 (f xs).post (fun d=>d.scal=true/\Q (toV d) H) (fun _=>False)->r vs H Q
def scalA(f:List D->Out D):Prop:=∀ xs,match f xs with | .ok d=>d.scal=true | .exc _=>False | .stuck=>True
theorem dcall{r:List V->Hp->VK->Prop}{f:List D->Out D}{t:TA}(hr:DCS C r f)(hs:scalA f)
 (h:∀ G H σ ς Q,StR C G H σ ς->(A ς).post (fun ds=>∀ vs H' G',StR C G' H' σ ς->Same H H'->Same G G'->RepL C.X.K C.CT H' ds vs->Q vs H') C.XD->t σ H Q):
 ∀ G H σ ς Q,StR C G H σ ς->(eA f A ς).post (KD C G H σ ς Q) C.XD->tCB r t σ H Q:=by
 intro G H σ ς Q S q
 unfold eA at q
 rw[Out.post_bind]at q
 refine h G H σ ς _ S (Out.post_mono q fun ds k vs H1 G1 S1 a1 b1 r1=>?_)
 exact hr G1 H1 σ ς Q ds vs S1 r1 (Qm5 S1 (hs ds) (Out.post_mono k fun d kd=>KD.later kd a1 b1))
theorem Qmm{r:List V->Hp->VK->Prop}{f:List D->Out D}(hc:CallR C.X (.builtin id) r)(hr:DCS C r f)(hs:scalA f)(hg:Gl C.X x)(hm:C.X.mg x=none)(hv:bootBuiltins x=some (.builtin id))(ha:DAB C (e::es) A)(hn:x≠"__name__":=by decide)(hdb:(x == ("__debug__":Str))=false:=by decide)
 (he:starEach (e::es) C.X.env=(false,eval e C.X.env)::starEach es C.X.env:=by rfl) (hpl:(backTo pos (starEach es C.X.env)).any (·.1)=false:=by rfl):DE C (.Call (.Name x p) (e::es) [] pos) (eA f A):=by
 obtain⟨t,p1,q1⟩:=ha
 exact⟨_,Qwl hc hg hm hv p1 hn hdb he hpl,dcall hr hs q1⟩
theorem QML{r:List V->Hp->VK->Prop}{f:List D->Out D}(hc:CallR C.X (.type T) r)(hr:DCS C r f)(hs:scalA f)(hg:Gl C.X x)(hm:C.X.mg x=none)(hv:bootBuiltins x=some (.type T))(ha:DAB C (e::es) A)(hn:x≠"__name__":=by decide)(hdb:(x == ("__debug__":Str))=false:=by decide)
 (he:starEach (e::es) C.X.env=(false,eval e C.X.env)::starEach es C.X.env:=by rfl) (hpl:(backTo pos (starEach es C.X.env)).any (·.1)=false:=by rfl):DE C (.Call (.Name x p) (e::es) [] pos) (eA f A):=by
 obtain⟨t,p1,q1⟩:=ha
 exact⟨_,QA7 hc hg hm hv p1 hn hdb he hpl,dcall hr hs q1⟩
def fLen:List D->Out D
 | [.lst xs]=>.ok (.int xs.length)
 | [.tup xs]=>.ok (.int xs.length)
 | [.str x]=>if fits x.length=true then .ok (.int x.length) else .stuck
 | _=>.stuck
theorem QPw:DCS C (fun xs H Q=>(∃ p ys,xs=[.ref p]/\(SqL C.X.K H p ys∨SqT C.X.K H p ys)/\Q (.int ys.length) H)∨∃ z,xs=[.str z]/\z.length<=sizeLine/\Q (.int z.length) H) fLen:=by
 intro G H σ ς Q xs vs S r q
 cases xs with
 | nil=>exact q.elim
 | cons x xr=>
  obtain⟨v,vr,rfl,r1,r2⟩:=r
  cases xr with
  | cons y yr=>cases x<;>exact q.elim
  | nil=>
   cases r2
   cases x with
   | lst ys=>
    obtain⟨p,us,rfl,h2,h3⟩:=r1
    exact .inl ⟨p,us,rfl,.inl h2,by rw[← h3.length];exact q.2⟩
   | tup ys=>
    obtain⟨p,us,rfl,h2,h3⟩:=r1
    exact .inl ⟨p,us,rfl,.inr h2,by rw[← h3.length];exact q.2⟩
   | str z=>
    cases r1
    rcases Qaq (show(if fits z.length=true then Out.ok (D.int z.length) else .stuck).post _ _ from q) with⟨hc,q⟩ | ⟨_,q⟩
    ·exact .inr ⟨z,rfl,of_decide_eq_true hc,q.2⟩
    ·exact q.elim
   | _=>exact q.elim
theorem QOg:scalA fLen:=by
 intro xs
 cases xs with
 | nil=>exact True.intro
 | cons x xr=>
  cases xr with
  | cons y yr=>cases x<;>exact True.intro
  | nil=>
   cases x with
   | lst ys=>exact rfl
   | tup ys=>exact rfl
   | str z=>exact QmZ rfl
   | _=>exact True.intro
theorem Qaz(hg:Gl C.X "len")(hm:C.X.mg "len"=none)(ha:DAB C (e::es) A)
 (he:starEach (e::es) C.X.env=(false,eval e C.X.env)::starEach es C.X.env:=by rfl) (hpl:(backTo pos (starEach es C.X.env)).any (·.1)=false:=by rfl):DE C (.Call (.Name "len" p) (e::es) [] pos) (eA fLen A):=
 Qmm (QE3.or QDx) QPw QOg hg hm PySem.boot_len ha (by decide) (by decide) he hpl
def f1(g:D->Out D):List D->Out D
 | [x]=>g x
 | _=>.stuck
theorem Qqm{g:D->Out D}(h:∀ x,match g x with | .ok d=>d.scal=true | .exc _=>False | .stuck=>True):scalA (f1 g):=by
 intro xs
 match xs with
 | []=>exact True.intro
 | [x]=>exact h x
 | _::_::_=>exact True.intro
def dAbs:D->Out D
 | .int i=>.ok (.int (if i<0 then -i else i))
 | _=>.stuck
theorem Qtz{r:List V->Hp->VK->Prop}{g:D->Out D}(h:∀ G H σ ς (Q:VK) x v,StR C G H σ ς->Rep C.X.K C.CT H x v->(g x).post (fun d=>d.scal=true/\Q (toV d) H) (fun _=>False)->r [v] H Q):DCS C r (f1 g):=by
 intro G H σ ς Q xs vs S r q
 match xs,r with
 | [],_=>exact q.elim
 | [x],⟨v,vr,e1,r1,r2⟩=>cases r2;subst e1;exact h G H σ ς Q x v S r1 q
 | _::_::_,_=>exact q.elim
theorem Qxh(hg:Gl C.X "abs")(hm:C.X.mg "abs"=none)(hv:bootBuiltins "abs"=some (.builtin "abs"))(ha:DAB C (e::es) A)
 (he:starEach (e::es) C.X.env=(false,eval e C.X.env)::starEach es C.X.env:=by rfl) (hpl:(backTo pos (starEach es C.X.env)).any (·.1)=false:=by rfl):DE C (.Call (.Name "abs" p) (e::es) [] pos) (eA (f1 dAbs) A):=by
 refine Qmm QNJ (Qtz ?_) (Qqm ?_) hg hm hv ha (by decide) (by decide) he hpl
 ·intro G H σ ς Q x v S r q
  cases x with
  | int i=>cases r;exact⟨i,rfl,q.2⟩
  | _=>exact q.elim
 ·intro x
  cases x<;>first | exact rfl | exact True.intro
end
mutual
def D.py:D->PyData
 | .non=>.none
 | .bl b=>.bool b
 | .int i=>.int i
 | .str x=>.str x
 | .lst xs=>.list (D.pys xs)
 | .tup xs=>.tuple (D.pys xs)
 | .dic _=>.dict []
 | .ins _ _=>.dict []
 | .err _=>.dict []
def D.pys:List D->List PyData
 | []=>[]
 | x::xs=>D.py x::D.pys xs
end
section
variable{X:Cx}{pins:List (Addr×Obj)}{σ:L2.St}{H:Hp}{s:Shared}{CT:CTab}
mutual
theorem Qm3(I:Inv X pins σ H s):∀(d:D)(v:V)(u:Value),Rep X.K CT H d v->RelV v u->d.py.canLay0=true->∃ as,Reads s.heap u d.py as
 | .non,_,_,h,r,_=>by cases h;cases r;exact⟨_,.none⟩
 | .bl b,_,_,h,r,_=>by cases h;cases r;exact⟨_,.bool b⟩
 | .int i,_,_,h,r,_=>by cases h;obtain⟨t,rfl⟩:=r;exact⟨_,.int i t⟩
 | .str x,_,_,h,r,_=>by cases h;obtain⟨t,rfl⟩:=r;exact⟨_,.str x t⟩
 | .lst ds,_,_,⟨a,vs,h1,h2,h3⟩,r,c=>by
  subst h1;cases r
  obtain⟨its,q,⟨o,n,ho,hc,_,hd⟩,_⟩:=I.list h2
  obtain⟨as,ra⟩:=Qto I ds vs its h3 q (by simpa [D.py,PyData.canLay0] using c)
  exact⟨_,.list ho hc hd (by simpa using ra)⟩
 | .tup ds,_,_,⟨a,vs,h1,h2,h3⟩,r,c=>by
  subst h1;cases r
  obtain⟨its,q,⟨o,ho,hc,n,hd⟩,_⟩:=I.tuple h2
  obtain⟨as,ra⟩:=Qto I ds vs its h3 q (by simpa [D.py,PyData.canLay0] using c)
  exact⟨_,.tuple ho hc hd (by simpa using ra)⟩
 | .dic _,_,_,_,_,c=>by simp[D.py,PyData.canLay0]at c
 | .ins _ _,_,_,_,_,c=>by simp[D.py,PyData.canLay0]at c
 | .err _,_,_,_,_,c=>by simp[D.py,PyData.canLay0]at c
theorem Qto(I:Inv X pins σ H s):∀(ds:List D)(vs:List V)(us:List Value),RepL X.K CT H ds vs->Vals vs us->PyData.canLayAll0 (D.pys ds)=true->∃ as,ReadsAll s.heap us (D.pys ds) as
 | [],_,_,h,r,_=>by cases h;cases r;exact⟨_,.nil⟩
 | d::ds,_,_,⟨v,w,h1,h2,h3⟩,r,c=>by
  subst h1
  cases r with
  | cons r1 r2=>
   have c':d.py.canLay0=true/\PyData.canLayAll0 (D.pys ds)=true:=by simpa [D.pys,PyData.canLayAll0] using c
   obtain⟨as,q1⟩:=Qm3 I d v _ h2 r1 c'.1
   obtain⟨bs,q2⟩:=Qto I ds w _ h3 r2 c'.2
   exact⟨_,.cons q1 q2⟩
end
end
def shp(d:D):Bool:=SeqAt.shaped d.py
def dEq(x y:D):Out D:=if (shp x&&shp y)=true then .ok (.bl (PyData.eqv x.py y.py)) else .stuck
def dNe(x y:D):Out D:=if (shp x&&shp y)=true then .ok (.bl (!PyData.eqv x.py y.py)) else .stuck
section
variable{C:Dc}{a b:Expr}{A B:SD->Out D}{pos:Pos}
def rEqD(C:Dc)(n:Bool):R2:=fun vx vy H Q=>∃ x y,Rep C.X.K C.CT H x vx/\Rep C.X.K C.CT H y vy/\shp x=true/\shp y=true/\Q (.bl (n != PyData.eqv x.py y.py)) H
theorem QLP(hu:C.X.A.units+64<cLine):OpR C.X (compareOp .Eq) (rEqD C false):=by
 intro pins s σ H vx vy u w Q I rx ry h
 obtain⟨x,y,h1,h2,h3,h4,q⟩:=h
 obtain⟨as,ra⟩:=Qm3 I x vx u h1 rx (SeqAt.canLay_of_shaped h3)
 obtain⟨bs,rb⟩:=Qm3 I y vy w h2 ry (SeqAt.canLay_of_shaped h4)
 exact eq_dataH ra rb h3 h4 hu ⟨.bl _,H,I,rfl,by simpa using q⟩
theorem QQK(hu:C.X.A.units+64<cLine):OpR C.X (compareOp .NotEq) (rEqD C true):=by
 intro pins s σ H vx vy u w Q I rx ry h
 obtain⟨x,y,h1,h2,h3,h4,q⟩:=h
 obtain⟨as,ra⟩:=Qm3 I x vx u h1 rx (SeqAt.canLay_of_shaped h3)
 obtain⟨bs,rb⟩:=Qm3 I y vy w h2 ry (SeqAt.canLay_of_shaped h4)
 exact ne_dataH ra rb h3 h4 hu ⟨.bl _,H,I,rfl,by simpa using q⟩
theorem QME:DRS C (rEqD C false) dEq:=by
 intro G H σ ς Q x y vx vy S hx hy q
 rcases Qaq q with⟨hc,q⟩ | ⟨_,q⟩
 ·rw[Bool.and_eq_true]at hc
  exact⟨x,y,hx,hy,hc.1,hc.2,by simpa [toV] using q.2⟩
 ·exact q.elim
theorem QQ3:DRS C (rEqD C true) dNe:=by
 intro G H σ ς Q x y vx vy S hx hy q
 rcases Qaq q with⟨hc,q⟩ | ⟨_,q⟩
 ·rw[Bool.and_eq_true]at hc
  exact⟨x,y,hx,hy,hc.1,hc.2,by simpa [toV] using q.2⟩
 ·exact q.elim
theorem QJA:scal2 dEq:=fun x y=>QmZ rfl
theorem QO5:scal2 dNe:=fun x y=>QmZ rfl
theorem dt_lt(ha:DB C a A)(hb:DB C b B):DT C (.Compare a [.Lt] [b] pos) (tVal (e2 dLt A B)):=Qqf op_lt Qdj (Qcx fun _ _=>rfl) ha hb (Qmv _)
theorem dt_le(ha:DB C a A)(hb:DB C b B):DT C (.Compare a [.LtE] [b] pos) (tVal (e2 dLe A B)):=Qqf op_le Qdj (Qcx fun _ _=>rfl) ha hb (Qmv _)
theorem dt_gt(ha:DB C a A)(hb:DB C b B):DT C (.Compare a [.Gt] [b] pos) (tVal (e2 dGt A B)):=Qqf op_gt Qdj (Qcx fun _ _=>rfl) ha hb (Qmv _)
theorem dt_ge(ha:DB C a A)(hb:DB C b B):DT C (.Compare a [.GtE] [b] pos) (tVal (e2 dGe A B)):=Qqf op_ge Qdj (Qcx fun _ _=>rfl) ha hb (Qmv _)
theorem de_eq(hu:C.X.A.units+64<cLine)(ha:DB C a A)(hb:DB C b B):DE C (.Compare a [.Eq] [b] pos) (e2 dEq A B):=QFQ (QLP hu) QME QJA ha hb (Qmv _)
theorem dt_eq(hu:C.X.A.units+64<cLine)(ha:DB C a A)(hb:DB C b B):DT C (.Compare a [.Eq] [b] pos) (tVal (e2 dEq A B)):=Qqf (QLP hu) QME QJA ha hb (Qmv _)
theorem dt_ne(hu:C.X.A.units+64<cLine)(ha:DB C a A)(hb:DB C b B):DT C (.Compare a [.NotEq] [b] pos) (tVal (e2 dNe A B)):=Qqf (QQK hu) QQ3 QO5 ha hb (Qmv _)
end
end DL
namespace DL
open PySem PySem.Spec PyProof.Rows L2
section
variable{C:Dc}{a b:Expr}{A B:SD->Out D}{pos:Pos}
end
def QaL:D->String
 | .non=>"NoneType"
 | .bl _=>"bool"
 | .int _=>"int"
 | .str _=>"str"
 | .lst _=>"list"
 | .tup _=>"tuple"
 | .dic _=>"dict"
 | .ins _ _=>"object"
 | .err _=>"object"
structure ClsD(K:PySem.W.Frag)(A:Addr):Prop where
 cl:Cls K A
 ha:PySem.W.findIn K (.ref A) "__class__"=some (some (.builtin "object.__class__"))
 hn:PySem.W.specialIn K (.builtin "object.__class__") "__get__"=some (some (.builtin "getset_descriptor.__get__"))
 htk:PySem.W.takesIn K (.builtin "object.__class__")=some true
 hm:PySem.W.mroIn K A (.type "object")=some true
def KitD(K:PySem.W.Frag)(CT:CTab)(d:D)(uc:Value)(b:Bool):Prop:=match d with
 | .ins c _=>∀ A,CT c=some A->ClsD K A/\PySem.W.kitOne K (.ref A) uc=some b
 | .err c=>∀ A,CT c=some A->ExCls K A/\PySem.W.kitOne K (.ref A) uc=some b
 | d=>PySem.W.kitOne K (.type (QaL d)) uc=some b
section
variable{C:Dc}{e cx:Expr}{E:SD->Out D}{p pos:Pos}{vc:V}{uc:Value}
theorem QPa{pins:List (Addr×Obj)}{σ:L2.St}{H:Hp}{s:Shared}{A:Around}{Ex:Value->Shared->Prop}{Q:Value->Shared->Prop}{d:D}{v:V}{u:Value}{b:Bool}(I:Inv C.X pins σ H s)(h:Rep C.X.K C.CT H d v)(r:RelV v u)(k:KitD C.X.K C.CT d uc b)
 (q:∀ tk,Q (.bool b) { s with toks:=tk }):wpAny (model C.X.prog C.X.w) A (call (.builtin "isinstance") [u,uc]) Q Ex s:=by
 cases d with
 | non=>cases h;cases r;exact PySem.W.kia_one PySem.W.kitx_none I.kIn True.intro k (fun z=>nomatch z) q
 | bl y=>cases h;cases r;exact PySem.W.kia_one PySem.W.kitx_bool I.kIn True.intro k (fun z=>nomatch z) q
 | int i=>cases h;obtain⟨t,rfl⟩:=r;exact PySem.W.kia_one PySem.W.kitx_int I.kIn True.intro k (fun z=>nomatch z) q
 | str i=>cases h;obtain⟨t,rfl⟩:=r;exact PySem.W.kia_one PySem.W.kitx_str I.kIn True.intro k (fun z=>nomatch z) q
 | lst ds=>
  obtain⟨a,vs,rfl,h2,_⟩:=h;cases r
  obtain⟨its,_,⟨o,n,ho,hc,_⟩,_⟩:=I.list h2
  exact PySem.W.kia_one PySem.W.kitx_list I.kIn ⟨o,ho,hc⟩ k (fun z=>nomatch z) q
 | tup ds=>
  obtain⟨a,vs,rfl,h2,_⟩:=h;cases r
  obtain⟨its,_,⟨o,ho,hc,_⟩,_⟩:=I.tuple h2
  exact PySem.W.kia_one PySem.W.kitx_tuple I.kIn ⟨o,ho,hc⟩ k (fun z=>nomatch z) q
 | dic ds=>
  obtain⟨a,kvs,rfl,h2,_⟩:=h;cases r
  obtain⟨_,_,vs,_,p⟩:=h2.ok I.hok
  obtain⟨o,es,ep,h1,h2,_⟩:=p
  exact PySem.W.kia_one PySem.W.kitx_dict I.kIn ⟨o,h1,h2.1⟩ k (fun z=>nomatch z) q
 | ins c fs=>
  obtain⟨a,A',dx,fs',rfl,h1,h2,_⟩:=h;cases r
  obtain⟨cd,kk⟩:=k A' h1
  obtain⟨mA,O,_⟩:=Qqp I.hok h2
  obtain⟨od,J,_⟩:=O.look
  exact PySem.W.kia_one (PySem.W.kitx_own (cd.cl.get _) cd.cl.hd cd.ha cd.hn cd.htk cd.hm) I.kIn J kk (fun z=>nomatch z) q
 | err c=>
  obtain⟨a,A',rfl,h1,h2⟩:=h;cases r
  obtain⟨cd,kk⟩:=k A' h1
  obtain⟨J,_⟩:=(show ObjOk C.X.prog C.X.w H s.heap a (exO a A') from I.hok a _ h2)
  exact PySem.W.kia_one (QOf cd) I.kIn J kk (fun z=>nomatch z) q
def clsV:V->Option Value
 | .ty n=>some (.type n)
 | .ref a=>some (.ref a)
 | _=>none
def eIsa(f:D->Out Bool)(a:SD->Out D):SD->Out D:=fun ς=>a ς>>=fun d=>f d>>=fun b=>.ok (.bl b)
theorem QQZ{f:D->Out Bool}(hc:PE C.X cx (tC vc))(rc:clsV vc=some uc)(hf:∀ d,match f d with | .ok b=>KitD C.X.K C.CT d uc b | .exc _=>False | .stuck=>True)(hg:Gl C.X "isinstance")(hm:C.X.mg "isinstance"=none)(h:DB C e E)
 (he:starEach (e::[cx]) C.X.env=(false,eval e C.X.env)::starEach [cx] C.X.env:=by rfl) (he2:starEach (cx::[]) C.X.env=(false,eval cx C.X.env)::starEach [] C.X.env:=by rfl)
 (hpl:(backTo pos (starEach [cx] C.X.env)).any (·.1)=false:=by rfl):DE C (.Call (.Name "isinstance" p) [e,cx] [] pos) (eIsa f E):=by
 obtain⟨t,p1,q1⟩:=h
 have hR:CallR C.X (.builtin "isinstance") (fun xs H Q=>∃ d x b,xs=[x,vc]/\Rep C.X.K C.CT H d x/\KitD C.X.K C.CT d uc b/\Q (.bl b) H):=by
  intro pins s σ H xs us Q I r h
  obtain⟨d,x,b,rfl,h1,h2,q⟩:=h
  obtain⟨u,w,rfl,r1,r2⟩:=vals2 r
  have:w=uc:=by
   cases vc<;>first
    | (cases rc;cases r2;rfl)
    | cases rc
  subst this
  exact QPa I h1 r1 h2 fun tk=>⟨.bl b,H,I.tok _,rfl,q⟩
 refine⟨_,Qwl hR hg hm PyProof.Rows.Boot.«isinstance» (QcY p1 (QcY hc Qge he2) he) (by decide) (by decide) he hpl,fun G H σ ς Q S q=>?_⟩
 unfold eIsa at q
 rw[Out.post_bind]at q
 refine q1 G H σ ς _ S (Out.post_mono q fun d k v1 H1 G1 S1 a1 b1 r1=>?_)
 rw[Out.post_bind]at k
 have hd:=hf d
 cases e:f d with
 | exc _=>rw[e]at hd;exact hd.elim
 | stuck=>rw[e]at k;exact k.elim
 | ok b=>
  rw[e]at k hd
  exact⟨d,v1,b,rfl,r1,hd,KD.now (KD.later (show KD C G H σ ς Q (.bl b) from k) a1 b1) S1 rfl⟩
end
end DL
namespace DL
open PySem PySem.Spec PyProof.Rows L2
section
variable{C:Dc}{G H:Hp}{σ:St}{ς:SD}
theorem QL{α:Type}{xs:List α}{i j:Nat}{x y:α}(h:(xs.set i x)[j]?=some y):(i=j/\y=x/\i<xs.length)∨(i≠j/\xs[j]?=some y):=by
 rw[List.getElem?_set]at h
 by_cases e:i=j
 ·rw[if_pos e]at h
  by_cases l:i<xs.length
  ·rw[if_pos l]at h;exact .inl ⟨e,(Option.some.inj h).symm,l⟩
  ·rw[if_neg l]at h;cases h
 ·rw[if_neg e]at h;exact .inr ⟨e,h⟩
theorem QjD{α:Type}{xs:List α}{i:Nat}{x:α}(h:i<xs.length):(xs.set i x)[i]?=some x:=by
 rw[List.getElem?_set,if_pos rfl,if_pos h]
theorem Qz{α:Type}{xs:List α}{i j:Nat}{x:α}(h:i≠j):(xs.set i x)[j]?=xs[j]?:=by
 rw[List.getElem?_set,if_neg h]
theorem StR.set(S:StR C G H σ ς){d:D}{v:V}(i:Nat)(r:Rep C.X.K C.CT G d v):StR C G H (σ.set i (some v)) (ς.set i (some (.k,d))) where
 toGH:=S.toGH
 len:=by rw[List.length_set,List.length_set];exact S.len
 fz:=fun j e h=>by
  rcases QL h with⟨rfl,h2,l⟩ | ⟨ne,h2⟩
  ·cases h2
   exact⟨v,QjD (by rw[S.len];exact l),r⟩
  ·rw[Qz ne];exact S.fz j e h2
 ow:=fun j e h=>by
  rcases QL h with⟨rfl,h2,l⟩ | ⟨ne,h2⟩
  ·cases h2
  ·rw[Qz ne];exact S.ow j e h2
 ln:=fun j e h=>by
  rcases QL h with⟨rfl,h2,l⟩ | ⟨ne,h2⟩
  ·cases h2
  ·rw[Qz ne];exact S.ln j e h2
 inj:=fun j k d1 d2 p hjk h1 h2 h3=>by
  rcases QL h1 with⟨rfl,q1,l⟩ | ⟨n1,q1⟩
  ·cases q1
  ·rcases QL h2 with⟨rfl,q2,l⟩ | ⟨n2,q2⟩
   ·cases q2
   ·rw[Qz n1]at h3
    rw[Qz n2];exact S.inj j k d1 d2 p hjk q1 q2 h3
 sf:=fun j e h=>by
  rcases QL h with⟨rfl,h2,l⟩ | ⟨ne,h2⟩
  ·cases h2
  ·rw[Qz ne];exact S.sf j e h2
 su:=fun j k d1 d2 h1 h2=>by
  rcases QL h1 with⟨rfl,q1,l⟩ | ⟨n1,q1⟩
  ·cases q1
  ·rcases QL h2 with⟨rfl,q2,l⟩ | ⟨n2,q2⟩
   ·cases q2
   ·exact S.su j k d1 d2 q1 q2
theorem StR.setO(S:StR C G H σ ς){d:D}{p:Addr}(i:Nat)(hg:G p=none)(h0:C.X.H₀ p=none)(ow:Own C.X.K C.CT G H p d)(hn:∀(j:Nat) e,j≠i->ς[j]?=some (some (.o,e))->σ[j]?≠some (some (.ref p))):
 StR C G H (σ.set i (some (.ref p))) (ς.set i (some (.o,d))) where
 toGH:=S.toGH
 len:=by rw[List.length_set,List.length_set];exact S.len
 fz:=fun j e h=>by
  rcases QL h with⟨rfl,h2,l⟩ | ⟨ne,h2⟩
  ·cases h2
  ·rw[Qz ne];exact S.fz j e h2
 ow:=fun j e h=>by
  rcases QL h with⟨rfl,h2,l⟩ | ⟨ne,h2⟩
  ·cases h2
   exact⟨p,QjD (by rw[S.len];exact l),hg,h0,ow⟩
  ·rw[Qz ne];exact S.ow j e h2
 ln:=fun j e h=>by
  rcases QL h with⟨rfl,h2,l⟩ | ⟨ne,h2⟩
  ·cases h2
  ·rw[Qz ne];exact S.ln j e h2
 inj:=fun j k d1 d2 q hjk h1 h2 h3=>by
  rcases QL h1 with⟨rfl,q1,l1⟩ | ⟨n1,q1⟩
  ·rcases QL h2 with⟨rfl,q2,l⟩ | ⟨n2,q2⟩
   ·exact absurd rfl hjk
   ·rw[QjD (by rw[S.len];exact l1)]at h3
    cases h3
    rw[Qz n2];exact hn k d2 (Ne.symm n2) q2
  ·rcases QL h2 with⟨rfl,q2,l⟩ | ⟨n2,q2⟩
   ·rw[Qz n1]at h3
    rw[QjD (by rw[S.len];exact l)]
    intro z;cases z
    exact hn j d1 (Ne.symm n1) q1 h3
   ·rw[Qz n1]at h3
    rw[Qz n2];exact S.inj j k d1 d2 q hjk q1 q2 h3
 sf:=fun j e h=>by
  rcases QL h with⟨rfl,h2,l⟩ | ⟨ne,h2⟩
  ·cases h2
  ·rw[Qz ne];exact S.sf j e h2
 su:=fun j k d1 d2 h1 h2=>by
  rcases QL h1 with⟨rfl,q1,l⟩ | ⟨n1,q1⟩
  ·cases q1
  ·rcases QL h2 with⟨rfl,q2,l⟩ | ⟨n2,q2⟩
   ·cases q2
   ·exact S.su j k d1 d2 q1 q2
end
def sNil:SD->Out Fl:=fun ς=>.ok (.nx ς)
def thenF(U:SD->Out Fl):Fl->Out Fl
 | .nx ς=>U ς
 | .rt b d=>.ok (.rt b d)
 | .bk ς=>.ok (.bk ς)
 | .ct ς=>.ok (.ct ς)
def sSeq(T U:SD->Out Fl):SD->Out Fl:=fun ς=>T ς>>=thenF U
section
variable{C:Dc}{e:Expr}{E:SD->Out D}{st:Stmt}{rest:List Stmt}{T U:SD->Out Fl}{pos:Pos}
theorem FlK.later{G G1:Hp}{W:Ends}{f:Fl}(h:FlK C G W f)(s:Same G G1):FlK C G1 W f:=by
 cases f with
 | nx ς=>exact fun σ' H' G' S q=>h σ' H' G' S (s.trans q)
 | bk ς=>exact fun σ' H' G' S q=>h σ' H' G' S (s.trans q)
 | ct ς=>exact fun σ' H' G' S q=>h σ' H' G' S (s.trans q)
 | rt b d=>exact fun σ' H' G' S q=>h σ' H' G' S (s.trans q)
theorem QY:DSs C [] sNil:=⟨_,QPX,fun G H σ ς W S q=>q σ H G S (Same.refl G)⟩
theorem Qf(h1:DS C st T)(h2:DSs C rest U):DSs C (st::rest) (sSeq T U):=by
 obtain⟨t1,p1,q1⟩:=h1
 obtain⟨t2,p2,q2⟩:=h2
 refine⟨_,QNX p1 p2,fun G H σ ς W S q=>?_⟩
 unfold sSeq at q
 rw[Out.post_bind]at q
 refine q1 G H σ ς _ S (Out.post_mono q fun f k=>?_)
 cases f with
 | nx ς'=>exact fun σ' H' G' S' s'=>q2 G' H' σ' ς' W S' (Out.post_mono (show(U ς').post _ _ from k) fun f k=>FlK.later k s')
 | bk ς'=>exact k
 | ct ς'=>exact k
 | rt b d=>exact k
theorem Qh(h1:DS C st T):DSs C [st] T:=let ⟨t,p,q⟩:=h1;⟨t,QO3 p,q⟩
def sSet(i:Nat)(E:SD->Out D):SD->Out Fl:=fun ς=>E ς>>=fun d=>.ok (.nx (ς.set i (some (.k,d))))
def sSetO(i:Nat)(E:SD->Out D):SD->Out Fl:=fun ς=>E ς>>=fun d=>.ok (.nx (ς.set i (some (.o,d))))
theorem Qy{i:Nat}{x:Str}{pos':Pos}(hN:C.X.N.Nodup)(hi:C.X.N[i]?=some x)(hx:Loc C.X.env.scope x)(he:DE C e E)(hs:swapsWith e (some (.Name x pos')) pos.line C.X.env=pure false:=by rfl)
 (hf:C.X.fn x=true∨C.X.env.scope.names.lookup x=some .local:=by first | exact .inl rfl | exact .inr rfl | assumption):DS C (.Assign [.Name x pos'] e pos) (sSet i E):=by
 obtain⟨t,p,q⟩:=he
 refine⟨_,QMG hN hi hx p hs hf,fun G H σ ς W S k=>?_⟩
 unfold sSet at k
 rw[Out.post_bind]at k
 exact q G H σ ς _ S (Out.post_mono k fun d k v H1 G1 S1 a1 b1 r1=>k _ H1 G1 (S1.set i r1) b1)
theorem QfB{i:Nat}{x:Str}{pos':Pos}(hN:C.X.N.Nodup)(hi:C.X.N[i]?=some x)(hx:Loc C.X.env.scope x)(he:DF C e E)(hs:swapsWith e (some (.Name x pos')) pos.line C.X.env=pure false:=by rfl)
 (hf:C.X.fn x=true∨C.X.env.scope.names.lookup x=some .local:=by first | exact .inl rfl | exact .inr rfl | assumption):DS C (.Assign [.Name x pos'] e pos) (sSetO i E):=by
 obtain⟨t,p,q⟩:=he
 refine⟨_,QMG hN hi hx p hs hf,fun G H σ ς W S k=>?_⟩
 unfold sSetO at k
 rw[Out.post_bind]at k
 exact q G H σ ς _ S (Out.post_mono k fun d k p H1 G1 S1 a1 b1 hp hg ow=>k _ H1 G1 (S1.setO i hg (S.h0none hp) ow fun j e _ z=>S.new_ne hp j e z) b1)
def sPar(i j:Nat)(A:SD->Out (List D)):SD->Out Fl:=fun ς=>A ς>>=fun ds=>match ds with
 | [x,y]=>.ok (.nx ((ς.set i (some (.k,x))).set j (some (.k,y))))
 | _=>.stuck
theorem QQ8{i j:Nat}{x y:Str}{a b:Expr}{A:SD->Out (List D)}{px py pt:Pos}{kt k2 pt2}(hc:C.X.calm=true)(hN:C.X.N.Nodup)(hi:C.X.N[i]?=some x)(hj:C.X.N[j]?=some y)(hij:i≠j)
 (hx:C.X.env.scope.names.lookup x=some .local) (hy:C.X.env.scope.names.lookup y=some .local) (ha:DA C [a,b] A)
 (hw:swappedStores [.Tuple [.Name x px,.Name y py] kt pt] (.Tuple [a,b] k2 pt2) C.X.env=pure (some [x,y]))
 (hs:swapsWithSole [.Tuple [.Name x px,.Name y py] kt pt] (.Tuple [a,b] k2 pt2) pos.line C.X.env=pure false:=by rfl):
 DS C (.Assign [.Tuple [.Name x px,.Name y py] kt pt] (.Tuple [a,b] k2 pt2) pos) (sPar i j A):=by
 obtain⟨t,p,q⟩:=ha
 refine⟨_,QRx hc hN hi hj hij hx hy p hw hs,fun G H σ ς W S k=>?_⟩
 unfold sPar at k
 rw[Out.post_bind]at k
 refine q G H σ ς _ S (Out.post_mono k fun ds k vs H1 G1 S1 a1 b1 r1=>?_)
 match ds,r1 with
 | [d1,d2],⟨v1,_,e1,rr1,v2,_,e2,rr2,e3⟩=>
  subst e3 e2 e1
  exact⟨v1,v2,rfl,k _ H1 G1 ((S1.set i rr1).set j rr2) b1⟩
 | [],_=>exact k.elim
 | [_],_=>exact k.elim
 | _::_::_::_,_=>exact k.elim
def Q3:List Nat->List D->SD->Out SD
 | [],[],ς=>.ok ς
 | i::is,d::ds,ς=>Q3 is ds (ς.set i (some (.k,d)))
 | _,_,_=>.stuck
def DGs(C:Dc)(es:List Expr)(is:List Nat):Prop:=∃ t,PGs C.X es t/\∀ G H σ ς ds vs ς' (Q:St->Hp->Prop),StR C G H σ ς->RepL C.X.K C.CT G ds vs->Q3 is ds ς=.ok ς'->
 (∀ σ',StR C G H σ' ς'->Q σ' H)->t vs σ H Q
theorem Qex:DGs C [] []:=by
 refine⟨_,QQd,fun G H σ ς ds vs ς' Q S r h q=>?_⟩
 cases ds with
 | nil=>
  cases h
  exact⟨r,q σ S⟩
 | cons d ds=>cases h
theorem Qae{i:Nat}{is:List Nat}{x:Str}{es:List Expr}(hN:C.X.N.Nodup)(hi:C.X.N[i]?=some x)(hx:Loc C.X.env.scope x)(h2:DGs C es is)
 (hf:C.X.fn x=true∨C.X.env.scope.names.lookup x=some .local:=by first | exact .inl rfl | exact .inr rfl | assumption)
 (hs:(assignEach (.Name x pos::es) C.X.env).map (·.2)=assign (.Name x pos) C.X.env::(assignEach es C.X.env).map (·.2):=by rfl):DGs C (.Name x pos::es) (i::is):=by
 obtain⟨t,p,q⟩:=h2
 refine⟨_,QOx (QJx hN hi hx hf) p hs,fun G H σ ς ds vs ς' Q S r h k=>?_⟩
 cases ds with
 | nil=>cases h
 | cons d ds=>
  obtain⟨v,w,rfl,r1,r2⟩:=r
  exact⟨v,w,rfl,q G H _ _ ds w ς' Q (S.set i r1) r2 h k⟩
def sUnp(is:List Nat)(E:SD->Out D):SD->Out Fl:=fun ς=>E ς>>=fun d=>match d with
 | .tup ds=>Q3 is ds ς>>=fun ς'=>.ok (.nx ς')
 | _=>.stuck
theorem QqR:∀{is:List Nat}{ds:List D}{ς ς':SD},Q3 is ds ς=.ok ς'->ds.length=is.length
 | [],[],_,_,_=>rfl
 | i::is,d::ds,ς,ς',h=>by
  have:=QqR (is:=is) (ds:=ds) h
  simp[this]
 | [],_::_,_,_,h=>by cases h
 | _::_,[],_,_,h=>by cases h
theorem QFF{es:List Expr}{is:List Nat}{k:Nat}{pt:Pos}(hc:C.X.calm=true)(he:DE C e E)(hg:DGs C es is)(hn:(assignEach es C.X.env).length=is.length:=by rfl)(hst:(assignEach es C.X.env).findIdx? (·.1)=none:=by rfl)
 (hs:swapsWithSole [.Tuple es k pt] e pos.line C.X.env=pure false:=by rfl) (hw:swappedStores [.Tuple es k pt] e C.X.env=pure none:=by rfl)
 (h1:(assignEach [.Tuple es k pt] C.X.env).map (·.2)=[assign (.Tuple es k pt) C.X.env]:=by rfl):DS C (.Assign [.Tuple es k pt] e pos) (sUnp is E):=by
 obtain⟨t,p,q⟩:=he
 obtain⟨t2,p2,q2⟩:=hg
 refine⟨_,QQ0 p (QM3 hc p2 hn hst) hs hw h1,fun G H σ ς W S k=>?_⟩
 unfold sUnp at k
 rw[Out.post_bind]at k
 refine q G H σ ς _ S (Out.post_mono k fun d k v H1 G1 S1 a1 b1 r1=>?_)
 cases d with
 | tup ds=>
  obtain⟨a,vs,rfl,h2,h3⟩:=r1
  have k':(Q3 is ds ς>>=fun ς'=>Out.ok (Fl.nx ς')).post (FlK C G W) C.XD:=k
  rw[Out.post_bind]at k'
  cases z:Q3 is ds ς with
  | exc _=>exact absurd z (by
   have:∀(is:List Nat) (ds:List D) (ς:SD) x,Q3 is ds ς≠.exc x:=by
    intro is
    induction is with
    | nil=>intro ds ς x h;cases ds<;>cases h
    | cons i is ih=>intro ds ς x h;cases ds with
     | nil=>cases h
     | cons d ds=>exact ih ds _ x h
   exact this is ds ς _)
  | stuck=>rw[z]at k';exact k'.elim
  | ok ς'=>
   rw[z]at k'
   refine⟨a,vs,rfl,Same.sqT S1.sub h2,by rw[← h3.length];exact QqR z,?_⟩
   exact q2 G1 H1 σ ς ds vs ς' _ S1 h3 z fun σ' S'=>k' σ' H1 G1 S' b1
 | _=>exact k.elim
def sRet(E:SD->Out D):SD->Out Fl:=fun ς=>E ς>>=fun d=>.ok (.rt false d)
def sRetF(E:SD->Out D):SD->Out Fl:=fun ς=>E ς>>=fun d=>.ok (.rt true d)
theorem QD(he:DE C e E):DS C (.Return (some e) pos) (sRet E):=by
 obtain⟨t,p,q⟩:=he
 refine⟨_,QFR p,fun G H σ ς W S k=>?_⟩
 unfold sRet at k
 rw[Out.post_bind]at k
 exact q G H σ ς _ S (Out.post_mono k fun d k v H1 G1 S1 a1 b1 r1=>k v H1 G1 S1.toGH b1 r1)
theorem QcX(he:DF C e E):DS C (.Return (some e) pos) (sRetF E):=by
 obtain⟨t,p,q⟩:=he
 refine⟨_,QFR p,fun G H σ ς W S k=>?_⟩
 unfold sRetF at k
 rw[Out.post_bind]at k
 exact q G H σ ς _ S (Out.post_mono k fun d k p H1 G1 S1 a1 b1 hp hg ow=>k _ H1 G1 S1.toGH b1 ⟨p,rfl,S.h0none hp,hg,ow⟩)
def sRetO(i:Nat):SD->Out Fl:=fun ς=>match ς[i]? with | some (some (.o,d))=>.ok (.rt true d) | _=>.stuck
theorem Qqa(i:Nat){x:Str}{px:Pos}(hN:C.X.N[i]?=some x:=by rfl)(hv:Vis C.X.env.scope x:=by first | exact Or.inl rfl | exact Or.inr (Or.inl rfl) | exact Or.inr (Or.inr rfl))
 (hd:(x == ("__debug__":Str))=false:=by decide) (hcd:(x == ("__classdict__":Str))=false:=by decide):DS C (.Return (some (.Name x px)) pos) (sRetO i):=by
 refine⟨_,QFR (Qm9 (i:=i) hN hv hd hcd),fun G H σ ς W S k=>?_⟩
 unfold sRetO at k
 split at k
 ·rename_i d z
  obtain⟨p,a,b,c,w⟩:=S.ow i d z
  exact⟨_,a,k _ H G S.toGH (Same.refl G) ⟨p,rfl,c,b,w⟩⟩
 ·exact k.elim
def sIf(c:SD->Out Bool)(T U:SD->Out Fl):SD->Out Fl:=fun ς=>c ς>>=fun b=>if b=true then T ς else U ς
theorem ds_if{c:Expr}{a b:List Stmt}{TC:SD->Out Bool}(hc:DT C c TC)(ha:DSs C a T)(hb:DSs C b U):DS C (.If c a b pos) (sIf TC T U):=by
 obtain⟨t0,p0,q0⟩:=hc
 obtain⟨t1,p1,q1⟩:=ha
 obtain⟨t2,p2,q2⟩:=hb
 refine⟨_,ps_if p0 p1 p2,fun G H σ ς W S k=>?_⟩
 unfold sIf at k
 rw[Out.post_bind]at k
 refine q0 G H σ ς _ S (Out.post_mono k fun b k H1 G1 S1 a1 b1=>?_)
 cases b with
 | true=>exact iteT (q1 G1 H1 σ ς W S1 (Out.post_mono (show(T ς).post _ _ from k) fun f k=>FlK.later k b1))
 | false=>exact iteF (q2 G1 H1 σ ς W S1 (Out.post_mono (show(U ς).post _ _ from k) fun f k=>FlK.later k b1))
def Qg9:SD->Out Fl:=fun _=>.stuck
theorem Qfn:DS C st Qg9:=⟨_,QOo,fun G H σ ς W S k=>k.elim⟩
end
def loopD(body:D->SD->Out Fl):List D->SD->Out Fl
 | [],ς=>.ok (.nx ς)
 | x::xs,ς=>body x ς>>=fun f=>match f with
  | .nx ς'=>loopD body xs ς'
  | .ct ς'=>loopD body xs ς'
  | .bk ς'=>.ok (.nx ς')
  | .rt b d=>.ok (.rt b d)
def DG(C:Dc)(tg:Expr)(g:D->SD->Out SD):Prop:=∃ t,PG C.X tg t/\∀ G H σ ς d v ς' (Q:St->Hp->Prop),StR C G H σ ς->Rep C.X.K C.CT G d v->g d ς=.ok ς'->(∀ σ',StR C G H σ' ς'->Q σ' H)->t v σ H Q
def gN(i:Nat):D->SD->Out SD:=fun d ς=>.ok (ς.set i (some (.k,d)))
def gT(is:List Nat):D->SD->Out SD:=fun d ς=>match d with | .tup ds=>Q3 is ds ς | _=>.stuck
def noExc{α β γ : Type}(g:α->β->Out γ):Prop:=∀ a b x,g a b≠.exc x
theorem Qu(i:Nat):noExc (gN i):=fun _ _ _ h=>by cases h
theorem QFj(is:List Nat):∀(ds:List D) (ς:SD) x,Q3 is ds ς≠.exc x:=by
 induction is with
 | nil=>intro ds ς x h;cases ds<;>cases h
 | cons i is ih=>intro ds ς x h;cases ds with
  | nil=>cases h
  | cons d ds=>exact ih ds _ x h
theorem Qf9(is:List Nat):noExc (gT is):=fun d ς x h=>by
 cases d with
 | tup ds=>exact QFj is ds ς x h
 | _=>cases h
section
variable{C:Dc}{e tg iter:Expr}{E:SD->Out D}{body:List Stmt}{T U:SD->Out Fl}{pos:Pos}{g:D->SD->Out SD}
theorem QB{i:Nat}{x:Str}(hN:C.X.N.Nodup)(hi:C.X.N[i]?=some x)(hx:Loc C.X.env.scope x)
 (hf:C.X.fn x=true∨C.X.env.scope.names.lookup x=some .local:=by first | exact .inl rfl | exact .inr rfl | assumption):DG C (.Name x pos) (gN i):=
 ⟨_,QJx hN hi hx hf,fun G H σ ς d v ς' Q S r h k=>by cases h;exact k _ (S.set i r)⟩
theorem Qku{es:List Expr}{is:List Nat}{k:Nat}(hc:C.X.calm=true)(hg:DGs C es is)(hn:(assignEach es C.X.env).length=is.length:=by rfl)(hst:(assignEach es C.X.env).findIdx? (·.1)=none:=by rfl):
 DG C (.Tuple es k pos) (gT is):=by
 obtain⟨t2,p2,q2⟩:=hg
 refine⟨_,QM3 hc p2 hn hst,fun G H σ ς d v ς' Q S r h k=>?_⟩
 cases d with
 | tup ds=>
  obtain⟨a,vs,rfl,h2,h3⟩:=r
  exact⟨a,vs,rfl,Same.sqT S.sub h2,by rw[← h3.length];exact QqR h,q2 G H σ ς ds vs ς' Q S h3 h k⟩
 | _=>cases h
def sFor(g:D->SD->Out SD)(its:SD->Out (List D))(T:SD->Out Fl):SD->Out Fl:=fun ς=>its ς>>=fun xs=>loopD (fun x ς=>g x ς>>=fun ς'=>T ς') xs ς
def itL(E:SD->Out D):SD->Out (List D):=fun ς=>E ς>>=fun d=>match d with | .lst xs=>.ok xs | _=>.stuck
theorem turnD{W:Ends}{x:D}{v:V}{xs:List D}{G H:Hp}{σ:St}{ς:SD}{tb:TS}{tt:TG}{N:L2.St->Hp->Prop}(hne:noExc g)
 (hg:∀ G H σ ς d v ς' (Q:St->Hp->Prop),StR C G H σ ς->Rep C.X.K C.CT G d v->g d ς=.ok ς'->(∀ σ',StR C G H σ' ς'->Q σ' H)->tt v σ H Q)
 (hb:∀ G H σ ς W,StR C G H σ ς->(T ς).post (FlK C G W) C.XD->tb W σ H)
 (S:StR C G H σ ς) (r:Rep C.X.K C.CT G x v) (q:(loopD (fun x ς=>g x ς>>=fun ς'=>T ς') (x::xs) ς).post (FlK C G W) C.XD)
 (hN:∀ σ' H' G' ς',StR C G' H' σ' ς'->Same G G'->(loopD (fun x ς=>g x ς>>=fun ς'=>T ς') xs ς').post (FlK C G' W) C.XD->N σ' H'):
 tt v σ H fun σ2 H2=>tb { W with nx:=N,ct:=N,bk:=W.nx } σ2 H2:=by
 have q':((g x ς>>=fun ς'=>T ς')>>=fun f=>match f with
  | .nx ς'=>loopD (fun x ς=>g x ς>>=fun ς'=>T ς') xs ς'
  | .ct ς'=>loopD (fun x ς=>g x ς>>=fun ς'=>T ς') xs ς'
  | .bk ς'=>.ok (.nx ς')
  | .rt b d=>.ok (.rt b d)).post (FlK C G W) C.XD:=q
 rw[Out.post_bind,Out.post_bind]at q'
 cases z:g x ς with
 | exc y=>exact absurd z (hne _ _ _)
 | stuck=>rw[z]at q';exact q'.elim
 | ok ς1=>
  rw[z]at q'
  refine hg G H σ ς x v ς1 _ S r z fun σ1 S1=>hb G H σ1 ς1 _ S1 (Out.post_mono q' fun f k=>?_)
  cases f with
  | nx ς'=>exact fun σ' H' G' S' s'=>hN σ' H' G' ς' S' s' (Out.post_mono (show(loopD _ xs ς').post _ _ from k) fun f k=>FlK.later k s')
  | ct ς'=>exact fun σ' H' G' S' s'=>hN σ' H' G' ς' S' s' (Out.post_mono (show(loopD _ xs ς').post _ _ from k) fun f k=>FlK.later k s')
  | bk ς'=>exact fun σ' H' G' S' s'=>(show FlK C G W (.nx ς') from k) σ' H' G' S' s'
  | rt b d=>exact k
theorem QA0{α:Type}{xs:List α}{i:Nat}{x:α}(h:xs[i]?=some x):xs.drop i=x::xs.drop (i+1):=by
 obtain⟨l,e⟩:=List.getElem?_eq_some_iff.mp h
 rw[List.drop_eq_getElem_cons l,e]
def QbB(lo:Int)(n:Nat):List D:=(List.range n).map fun(i:Nat)=>D.int (lo+i)
theorem QK4{lo:Int}{n i:Nat}(h:i<n):(QbB lo n)[i]?=some (D.int (lo+i)):=by
 unfold QbB
 rw[List.getElem?_map,List.getElem?_range h];rfl
theorem QyF{lo:Int}{n:Nat}:(QbB lo n).length=n:=by simp[QbB]
def Qp7(i:Int):Bool:=decide (-(2 ^ 62)<=i)&&decide (i<2 ^ 62)
def itR1(A:SD->Out D):SD->Out (List D):=fun ς=>A ς>>=fun d=>match d with
 | .int n=>if Qp7 n=true then .ok (QbB 0 n.toNat) else .stuck
 | _=>.stuck
theorem QKq{i:Int}(h:Qp7 i=true) : -(2 ^ 62)<=i/\i<2 ^ 62:=by
 unfold Qp7 at h
 rw[Bool.and_eq_true]at h
 exact⟨of_decide_eq_true h.1,of_decide_eq_true h.2⟩
def QH(c:SD->Out Bool)(b:SD->Out Fl):Nat->SD->Out Fl
 | 0,_=>.stuck
 | n+1,ς=>c ς>>=fun t=>if t=true then b ς>>=fun f=>match f with
  | .nx ς'=>QH c b n ς'
  | .ct ς'=>QH c b n ς'
  | .bk ς'=>.ok (.nx ς')
  | .rt b d=>.ok (.rt b d)
  else .ok (.nx ς)
def QGe(m:SD->Nat)(c:SD->Out Bool)(b:SD->Out Fl):SD->Out Fl:=fun ς=>QH c b (m ς) ς
theorem QN7(m:SD->Nat){c:Expr}{TC:SD->Out Bool}(hp:PassesOwn (model C.X.prog C.X.w) C.X.A C.X.env C.X.xe)(hc:DT C c TC)(hb:DSs C body T):DS C (.While c body [] pos) (QGe m TC T):=by
 obtain⟨t0,p0,q0⟩:=hc
 obtain⟨t1,p1,q1⟩:=hb
 refine⟨_,QOI hp p0 p1,fun G H σ ς W S k=>?_⟩
 refine⟨fun n σ' H'=>∃ G' ς',StR C G' H' σ' ς'/\(QH TC T n ς').post (FlK C G' W) C.XD,⟨m ς,G,ς,S,k⟩,?_⟩
 rintro n σ' H' ⟨G',ς',S',k'⟩
 cases n with
 | zero=>exact k'.elim
 | succ n=>
  rw[QH,Out.post_bind]at k'
  refine q0 G' H' σ' ς' _ S' (Out.post_mono k' fun b k H1 G1 S1 a1 b1=>?_)
  cases b with
  | false=>exact iteF ((show FlK C G' W (.nx ς') from k) σ' H1 G1 S1 b1)
  | true=>
   rw[if_pos rfl,Out.post_bind]at k
   refine iteT ⟨fun σ2 H2=>∃ G2 ς2,StR C G2 H2 σ2 ς2/\(QH TC T n ς2).post (FlK C G2 W) C.XD,fun σ2 H2 h=>⟨n,Nat.lt_succ_self n,h⟩,?_⟩
   refine q1 G1 H1 σ' ς' _ S1 (Out.post_mono k fun f k=>?_)
   cases f with
   | nx ς2=>exact fun σ2 H2 G2 S2 s2=>⟨G2,ς2,S2,Out.post_mono (show(QH TC T n ς2).post _ _ from k) fun f k=>FlK.later k (b1.trans s2)⟩
   | ct ς2=>exact fun σ2 H2 G2 S2 s2=>⟨G2,ς2,S2,Out.post_mono (show(QH TC T n ς2).post _ _ from k) fun f k=>FlK.later k (b1.trans s2)⟩
   | bk ς2=>exact fun σ2 H2 G2 S2 s2=>(show FlK C G' W (.nx ς2) from k) σ2 H2 G2 S2 (b1.trans s2)
   | rt b d=>exact FlK.later (show FlK C G' W (.rt b d) from k) b1
noncomputable def fuelC(c:SD->Out Bool)(b:SD->Out Fl)(ς:SD):Nat:=by
 classical exact if h:∃ n,QH c b n ς≠.stuck then Classical.choose h else 0
noncomputable def Qc2(c:SD->Out Bool)(b:SD->Out Fl):SD->Out Fl:=QGe (fuelC c b) c b
theorem QA6{c:Expr}{TC:SD->Out Bool}(hp:PassesOwn (model C.X.prog C.X.w) C.X.A C.X.env C.X.xe)(hc:DT C c TC)(hb:DSs C body T):DS C (.While c body [] pos) (Qc2 TC T):=QN7 (fuelC TC T) hp hc hb
theorem QoF{c:SD->Out Bool}{b:SD->Out Fl}:∀(n:Nat)(ς:SD),QH c b n ς≠.stuck->QH c b (n+1) ς=QH c b n ς
 | 0,ς,h=>absurd rfl h
 | n+1,ς,h=>by
  rw[QH,QH]
  rw[QH]at h
  cases hc:c ς with
  | stuck=>rfl
  | exc _=>rfl
  | ok t=>
   rw[hc]at h
   cases t with
   | false=>rfl
   | true=>
    have h':(b ς>>=fun f=>match f with
     | .nx ς'=>QH c b n ς'
     | .ct ς'=>QH c b n ς'
     | .bk ς'=>.ok (.nx ς')
     | .rt b d=>.ok (.rt b d))≠.stuck:=h
    show(b ς>>=fun f=>match f with
     | .nx ς'=>QH c b (n+1) ς'
     | .ct ς'=>QH c b (n+1) ς'
     | .bk ς'=>.ok (.nx ς')
     | .rt b d=>.ok (.rt b d))=(b ς>>=fun f=>match f with
     | .nx ς'=>QH c b n ς'
     | .ct ς'=>QH c b n ς'
     | .bk ς'=>.ok (.nx ς')
     | .rt b d=>.ok (.rt b d))
    cases hb:b ς with
    | stuck=>rfl
    | exc _=>rfl
    | ok f=>
     rw[hb]at h'
     cases f with
     | nx ς'=>exact QoF n ς' h'
     | ct ς'=>exact QoF n ς' h'
     | bk _=>rfl
     | rt _ _=>rfl
theorem QtY{c:SD->Out Bool}{b:SD->Out Fl}{ς:SD}{n:Nat}(h:QH c b n ς≠.stuck):∀ k,QH c b (n+k) ς=QH c b n ς
 | 0=>rfl
 | k+1=>by
  have ih:=QtY h k
  rw[← Nat.add_assoc,QoF (n+k) ς (by rw[ih];exact h),ih]
theorem QdT{c:SD->Out Bool}{b:SD->Out Fl}{ς:SD}(n:Nat)(h:QH c b n ς≠.stuck):Qc2 c b ς=QH c b n ς:=by
 have hx:∃ n,QH c b n ς≠.stuck:=⟨n,h⟩
 have e:fuelC c b ς=Classical.choose hx:=by unfold fuelC;rw[dif_pos hx]
 unfold Qc2 QGe
 rw[e]
 have h2:=Classical.choose_spec hx
 generalize Classical.choose hx=m at h2 ⊢
 rcases Nat.le_total n m with hl | hl
 ·obtain⟨k,rfl⟩:=Nat.exists_eq_add_of_le hl
  exact QtY h k
 ·obtain⟨k,rfl⟩:=Nat.exists_eq_add_of_le hl
  exact(QtY h2 k).symm
theorem Qhm{c:SD->Out Bool}{b:SD->Out Fl}{ς:SD}(h:∀ n,QH c b n ς=.stuck):Qc2 c b ς=.stuck:=h _
theorem Qdh(c:SD->Out Bool)(b:SD->Out Fl)(ς:SD):Qc2 c b ς=(c ς>>=fun t=>if t=true then b ς>>=fun f=>match f with
 | .nx ς'=>Qc2 c b ς'
 | .ct ς'=>Qc2 c b ς'
 | .bk ς'=>.ok (.nx ς')
 | .rt b d=>.ok (.rt b d)
 else .ok (.nx ς)):=by
 have key:∀ n,QH c b (n+1) ς≠.stuck->Qc2 c b ς=QH c b (n+1) ς:=fun n h=>QdT _ h
 cases hc:c ς with
 | stuck=>exact Qhm fun n=>by cases n with | zero=>rfl | succ n=>rw[QH,hc];rfl
 | exc x=>exact(QdT 1 (by rw[QH,hc];exact fun z=>nomatch z)).trans (by rw[QH,hc];rfl)
 | ok t=>
  cases t with
  | false=>exact(QdT 1 (by rw[QH,hc];exact fun z=>nomatch z)).trans (by rw[QH,hc];rfl)
  | true=>
   cases hb:b ς with
   | stuck=>exact(Qhm fun n=>by cases n with | zero=>rfl | succ n=>rw[QH,hc];show(b ς>>=_)=_;rw[hb];rfl).trans (by show _=Out.stuck;rfl)
   | exc x=>exact(QdT 1 (by rw[QH,hc];show(b ς>>=_)≠_;rw[hb];exact fun z=>nomatch z)).trans (by rw[QH,hc];show(b ς>>=_)=_;rw[hb];rfl)
   | ok f=>
    have go:∀ ς',(f=.nx ς'∨f=.ct ς')->(∀ n,QH c b (n+1) ς=QH c b n ς')->Qc2 c b ς=Qc2 c b ς':=fun ς' _ e=>by
     by_cases hx:∃ n,QH c b n ς'≠.stuck
     ·obtain⟨n,hn⟩:=hx
      rw[QdT n hn,QdT (n+1) (by rw[e];exact hn),e]
     ·have hs:∀ n,QH c b n ς'=.stuck:=fun n=>Classical.byContradiction fun z=>hx ⟨n,z⟩
      rw[Qhm hs]
      exact Qhm fun n=>by cases n with | zero=>rfl | succ n=>rw[e];exact hs n
    cases f with
    | nx ς'=>exact go ς' (.inl rfl) fun n=>by rw[QH,hc];show(b ς>>=_)=_;rw[hb];rfl
    | ct ς'=>exact go ς' (.inr rfl) fun n=>by rw[QH,hc];show(b ς>>=_)=_;rw[hb];rfl
    | bk ς'=>exact(QdT 1 (by rw[QH,hc];show(b ς>>=_)≠_;rw[hb];exact fun z=>nomatch z)).trans (by rw[QH,hc];show(b ς>>=_)=_;rw[hb];rfl)
    | rt r d=>exact(QdT 1 (by rw[QH,hc];show(b ς>>=_)≠_;rw[hb];exact fun z=>nomatch z)).trans (by rw[QH,hc];show(b ς>>=_)=_;rw[hb];rfl)
end
end DL
namespace DL
open PySem PySem.Spec PyProof.Rows L2
def RetG(K:PySem.W.Frag)(CT:CTab)(fr:Bool)(H0 G' H':Hp)(d:D)(v:V):Prop:=
 if (fr && !d.scal)=true then ∃ p,v=.ref p/\H0 p=none/\G' p=none/\Own K CT G' H' p d else Rep K CT G' d v
def retF(fr:Bool):Fl->Out D
 | .rt b d=>if (!fr||b||d.scal)=true then .ok d else .stuck
 | .nx _=>.ok .non
 | _=>.stuck
def bodyF(fr:Bool)(n len:Nat)(T:SD->Out Fl):List D->Out D:=fun ds=>
 if ds.length=n then T (ds.map (fun d=>some (.k,d))++List.replicate (len - n) none)>>=retF fr else .stuck
def SpD(K:PySem.W.Frag)(CT:CTab)(fr:Bool)(m:List D->Out D):Sp:=fun vs H Q _=>∃ ds G0,Same G0 H/\RepL K CT G0 ds vs/\
 (m ds).post (fun d=>∀ v H' G',Same G0 G'->Same H H'->Same G' H'->(∀ b,G0 b=none->G' b≠none->H b=none)->RetG K CT fr H G' H' d v->Q v H') (fun _=>False)
structure FunV(K:PySem.W.Frag)(x qual:Str)(st:Stmt)(f:Addr)(fd:FuncData)(dV:Value):Prop where
 ex:∃(oc:Value)(od:Option Addr)(kV doc pm:Value)(an:Option Addr)(cdv ct:Value)(osl:Array (Option Value)),
  fd=PySem.W.fnOf x qual (Qn st) (Qm st) (Qa st) dV kV doc pm an cdv ct/\K.lookup f=some ⟨oc,od,.func fd,osl⟩/\PySem.W.codeIn K cdv qual=true
 kp:PySem.W.keepIn K (.ref f)=true
theorem Qp{K:PySem.W.Frag}{x qual:Str}{st:Stmt}{f:Addr}{oc:Value}{od an:Option Addr}{osl:Array (Option Value)}{dV kV doc pm cdv ct:Value}(l:K.lookup f=some ⟨oc,od,.func (PySem.W.fnOf x qual (Qn st) (Qm st) (Qa st) dV kV doc pm an cdv ct),osl⟩)
 (c:PySem.W.codeIn K cdv qual=true) (k:PySem.W.keepIn K (.ref f)=true):FunV K x qual st f (PySem.W.fnOf x qual (Qn st) (Qm st) (Qa st) dV kV doc pm an cdv ct) dV:=⟨⟨oc,od,kV,doc,pm,an,cdv,ct,osl,rfl,l,c⟩,k⟩
theorem FunV.binds{K:PySem.W.Frag}{x qual:Str}{st:Stmt}{f:Addr}{fd:FuncData}{ps:List Str}(F:FunV K x qual st f fd .none)
 (h:∀(kV doc pm:Value)(an:Option Addr)(cdv ct:Value)(us:List Value),us.length=ps.length->bindArgs (PySem.W.fnOf x qual (Qn st) (Qm st) (Qa st) .none kV doc pm an cdv ct) ⟨us,[]⟩=pure (ps.zip us)):Binds K fd ps []:=by
 obtain⟨oc,od,kV,doc,pm,an,cdv,ct,osl,rfl,lk,hcd⟩:=F.ex
 exact .all (h kV doc pm an cdv ct)
abbrev dcOf(P:Program)(w:World)(K:PySem.W.Frag)(mg:Str->Option Value)(base:Heap)(CT:CTab)(N:List Str)(qual:Str)(sc:Scope)(f:Addr)(cdv:Value)(A:Around)(outer:List Env)(s:Shared)(H:Hp)(E:XK)(G:Hp):Dc:=
 { X:=(cxOf CX0 P w K mg base N qual sc f cdv A outer s H E).nox,CT:=CT,G0:=G,XD:=fun _=>False,B:=H,M:=fun _=>False }
theorem Qt0{N:List Str}{vs:List V}{i:Nat}{v:V}(h:vs[i]?=some v):(L2.start N vs)[i]?=some (some v):=by
 unfold L2.start
 have hi:i<vs.length:=(List.getElem?_eq_some_iff.mp h).1
 rw[List.getElem?_append_left (by simpa using hi),List.getElem?_map,h];rfl
theorem Qgj{ds:List D}{k:Nat}{i:Nat}{x:SM×D}(h:(ds.map (fun d=>some (SM.k,d))++List.replicate k (none:Option (SM×D)))[i]?=some (some x)):∃ d,ds[i]?=some d/\x=(.k,d):=by
 by_cases hi:i<ds.length
 ·rw[List.getElem?_append_left (by simpa using hi),List.getElem?_map]at h
  cases e:ds[i]? with
  | none=>rw[e]at h;cases h
  | some d=>rw[e]at h;cases h;exact⟨d,rfl,rfl⟩
 ·rw[List.getElem?_append_right (by simpa using hi),List.getElem?_replicate]at h
  split at h<;>cases h
theorem GH.freezeR{C:Dc}{G' H':Hp}(S:GH C G' H'){p:Addr}{o:HO}(hp:H' p=some o)(hg:G' p=none)(h0:C.X.H₀ p=none):GH C (upd G' p o) H' where
 sub:=fun b u q=>by
  by_cases hb:b=p
  ·subst hb;rw[QS]at q;cases q;exact hp
  ·rw[Qk hb]at q;exact S.sub b u q
 g0:=S.g0.trans (QE hg)
 new:=fun b h1 h2=>by
  by_cases hb:b=p
  ·subst hb;exact h0
  ·rw[Qk hb]at h2;exact S.new b h1 h2
 fr:=S.fr
 dom:=S.dom
 bs:=S.bs
 bh:=S.bh
theorem fnV{P:Program}{w:World}{K:PySem.W.Frag}{mg:Str->Option Value}{base:Heap}{CT:CTab}{fr:Bool}{x qual:Str}{st:Stmt}{f:Addr}{fd:FuncData}{dV:Value}{N ps:List Str}{k:Nat}{T:SD->Out Fl}
 (F:FunV K x qual st f fd dV) (S:Qo N ps (Qa st))
 (hb:∀(cdv:Value)(A:Around)(outer:List Env)(s:Shared)(H:Hp)(E:XK)(G:Hp),Room k (A.deeper (envOfC qual (Qa st) s.heap.objs.size f cdv))->DSs (dcOf P w K mg base CT N qual (Qa st) f cdv A outer s H E G) (Qm st) T):
 FnOk P w K mg base CX0 (k+1) f fd ps (SpD K CT fr (bodyF fr ps.length N.length T)):=by
 obtain⟨oc,od,kV,doc,pm,an,cdv,ct,osl,rfl,lk,hcd⟩:=F.ex
 have hpl:ps.length<=N.length:=by have:=congrArg List.length S.pre;rw[List.length_take]at this;omega
 have len:∀ vs H Q E,SpD K CT fr (bodyF fr ps.length N.length T) vs H Q E->vs.length=ps.length:=by
  intro vs H Q E ⟨ds,G0,sub,r,q⟩
  unfold bodyF at q
  by_cases hl:ds.length=ps.length
  ·rw[← r.length];exact hl
  ·rw[if_neg hl]at q;exact q.elim
 refine fn_of lk hcd S len fun A outer s H vs Q E hr hsp=>?_
 have hlen:=len vs H Q E hsp
 obtain⟨ds,G0,sub,r,q⟩:=hsp
 obtain⟨t,p1,q1⟩:=hb cdv A outer s H E G0 hr
 have hl:ds.length=ps.length:=by rw[r.length];exact hlen
 refine⟨t,p1.nox,?_⟩
 unfold bodyF at q
 rw[if_pos hl,Out.post_bind]at q
 have S0:StR (dcOf P w K mg base CT N qual (Qa st) f cdv A outer s H E G0) G0 H (L2.start N vs) (ds.map (fun d=>some (.k,d))++List.replicate (N.length - ps.length) none):={
  sub:=sub
  g0:=Same.refl _
  new:=fun b h1 h2=>absurd h1 h2
  fr:=fun b o e _=>e
  dom:=fun b e=>e
  bs:=Same.refl _
  bh:=fun b e=>e
  len:=by unfold L2.start;simp;omega
  fz:=fun i d e=>by
   obtain⟨d',e1,e2⟩:=Qgj e
   cases e2
   obtain⟨v,e3,rv⟩:=r.get e1
   exact⟨v,Qt0 e3,rv⟩
  ow:=fun i d e=>by
   obtain⟨d',e1,e2⟩:=Qgj e
   cases e2
  ln:=fun i d e=>by
   obtain⟨d',e1,e2⟩:=Qgj e
   cases e2
  inj:=fun i j d e p _ h=>by
   obtain⟨d',e1,e2⟩:=Qgj h
   cases e2
  sf:=fun i d e=>by
   obtain⟨d',e1,e2⟩:=Qgj e
   cases e2
  su:=fun i j d e h=>by
   obtain⟨d',e1,e2⟩:=Qgj h
   cases e2 }
 refine q1 G0 H (L2.start N vs) _ _ S0 (Out.post_mono q fun fl kk=>?_)
 cases fl with
 | nx ς'=>exact fun σ' H' G' S' s'=>kk .non H' G' s' (fun b o e=>S'.fr b o e id) S'.sub S'.new (by unfold RetG;rw[if_neg (by cases fr<;>decide)];rfl)
 | bk ς'=>exact fun σ' H' G' S' s'=>kk.elim
 | ct ς'=>exact fun σ' H' G' S' s'=>kk.elim
 | rt b d=>
  intro v H' G' S' s' ret
  have kk':(if (!fr||b||d.scal)=true then Out.ok d else Out.stuck).post (fun d=>∀ v H' G',Same G0 G'->Same H H'->Same G' H'->(∀ b,G0 b=none->G' b≠none->H b=none)->RetG K CT fr H G' H' d v->Q v H') (fun _=>False):=kk
  rcases Qaq kk' with⟨hc,k2⟩ | ⟨_,k2⟩
  ·have k3:∀ v H' G',Same G0 G'->Same H H'->Same G' H'->(∀ b,G0 b=none->G' b≠none->H b=none)->RetG K CT fr H G' H' d v->Q v H':=k2
   cases b with
   | false=>
    refine k3 v H' G' s' (fun b o e=>S'.fr b o e id) S'.sub S'.new ?_
    unfold RetG
    have hn:¬ (fr && !d.scal)=true:=by revert hc;cases fr<;>cases d.scal<;>simp
    rw[if_neg hn]
    exact ret
   | true=>
    obtain⟨p,rfl,h0,hg,ow⟩:=(show ∃ p,v=.ref p/\H p=none/\G' p=none/\Own K CT G' H' p d from ret)
    cases fr with
    | true=>
     refine k3 _ H' G' s' (fun b o e=>S'.fr b o e id) S'.sub S'.new ?_
     have hs:d.scal=false:=by cases d<;>first | rfl | exact ow.elim
     unfold RetG
     rw[if_pos (by rw[hs];rfl)]
     exact⟨p,rfl,h0,hg,ow⟩
    | false=>
     obtain⟨o,ho⟩:=ow.there
     have S2:=GH.freezeR S' ho hg h0
     refine k3 _ H' _ (s'.trans (QE hg)) (fun b o e=>S2.fr b o e id) S2.sub S2.new ?_
     unfold RetG
     rw[if_neg (by simp)]
     exact ow.known hg ho
  ·exact k2.elim
def DefOk(P:Program)(w:World)(K:PySem.W.Frag)(mg:Str->Option Value)(base:Heap)(CT:CTab)(x:Str)(k:Nat)(fr:Bool)(dd:List D)(m:List D->Out D):Prop:=
 ∃ f fd ps ds,FnOk P w K mg base CX0 k f fd ps (SpD K CT fr m)/\mg x=some (.ref f)/\PySem.W.keepIn K (.ref f)=true/\Binds K fd ps ds/\Vals (dd.map toV) ds
theorem QFH{K:PySem.W.Frag}{CT:CTab}{H:Hp}:∀{dd:List D},dd.all D.scal=true->RepL K CT H dd (dd.map toV)
 | [],_=>rfl
 | d::ds,h=>by
  rw[List.all_cons,Bool.and_eq_true]at h
  exact⟨_,_,rfl,Qz9 h.1,QFH h.2⟩
section
variable{C:Dc}{x:Str}{k:Nat}{fr:Bool}{dd:List D}{m:List D->Out D}{e:Expr}{es:List Expr}{A:SD->Out (List D)}{p pos:Pos}
theorem de_f(h:DefOk C.X.prog C.X.w C.X.K C.X.mg C.X.base C.CT x k fr dd m)(hr:Room k C.X.A)(ha:DA C (e::es) A)(hg:Gl C.X x)(hs:dd.all D.scal=true:=by rfl)(hx:∀ x,¬ C.XD x:=by exact fun _ h=>h)
 (hdb:(x == ("__debug__":Str))=false:=by decide) (he:starEach (e::es) C.X.env=(false,eval e C.X.env)::starEach es C.X.env:=by rfl) (hpl:(backTo pos (starEach es C.X.env)).any (·.1)=false:=by rfl):
 DE C (.Call (.Name x p) (e::es) [] pos) (eA (fun xs=>m (xs++dd)) A):=by
 obtain⟨f,fd,ps,ds,F,hm,hk,hb,hd⟩:=h
 obtain⟨t,p1,q1⟩:=ha
 refine⟨_,QOM F hr hg hm hk hb hd pass0 p1 hdb he hpl,fun G H σ ς Q S q=>?_⟩
 unfold eA at q
 rw[Out.post_bind]at q
 refine q1 G H σ ς _ S (Out.post_mono q fun xs kk vs H1 G1 S1 a1 b1 r1=>⟨xs++dd,G1,S1.sub,r1.append (QFH hs),?_⟩)
 cases z:m (xs++dd) with
 | stuck=>rw[z]at kk;exact kk.elim
 | exc y=>rw[z]at kk;exact absurd kk (hx y)
 | ok d=>
  rw[z]at kk
  intro v H' G' g1 h1 s1 n1 ret
  unfold RetG at ret
  by_cases hc:(fr && !d.scal)=true
  ·rw[if_pos hc]at ret
   obtain⟨pp,rfl,h0,hg',ow⟩:=ret
   obtain⟨o,ho⟩:=ow.there
   have S2:=(S1.grow h1 g1 s1 n1).freeze ho hg' (S1.h0none h0) (fun i d' z1 z2=>by
    obtain⟨o',ho'⟩:=S1.own_ne z1 z2
    rw[h0]at ho';cases ho')
   exact(show KD C G H σ ς Q d from kk) _ _ _ S2 (a1.trans h1) ((b1.trans g1).trans (QE hg')) (ow.known hg' ho)
  ·rw[if_neg hc]at ret
   exact(show KD C G H σ ς Q d from kk) v H' G' (S1.grow h1 g1 s1 n1) (a1.trans h1) (b1.trans g1) ret
end
abbrev bitsI(i:Int):Nat:=Builtin.Int.intBits i
theorem Qxa:∀{xs:List PySem.W.WData}{x:PySem.W.WData},x∈xs->x.weight<=PySem.W.WData.weightAll xs
 | y::r,x,hx=>by
  rcases List.mem_cons.mp hx with rfl | hx'
  ·simp only[PySem.W.WData.weightAll];omega
  ·have:=Qxa hx'
   simp only[PySem.W.WData.weightAll];omega
theorem QIU{ns:List Int}(h:PySem.W.WData.layableAll [PySem.W.WData.list (ns.map PySem.W.WData.int)]=true):∀ z∈ns,bitsI z<=1048576:=fun z hz=>by
 have h1:(PySem.W.WData.list (ns.map PySem.W.WData.int)).layable=true:=by simpa [PySem.W.WData.layableAll] using h
 have h2:(PySem.W.WData.list (ns.map PySem.W.WData.int)).weight<=2 ^ 20:=of_decide_eq_true (Bool.and_eq_true_iff.mp h1).2
 have h3:(PySem.W.WData.int z).weight<=PySem.W.WData.weightAll (ns.map PySem.W.WData.int):=Qxa (List.mem_map.mpr ⟨z,hz,rfl⟩)
 have h4:(PySem.W.WData.int z).weight<=1048576:=by
  have e:(2:Nat) ^ 20=1048576:=by decide
  simp only[PySem.W.WData.weight]at h2
  omega
 simpa only[PySem.W.WData.weight,Builtin.Int.intBits] using h4
theorem walk_of{l:PySem.W.OpenLaw}{n k:Nat}{q:Program}{loose:List Str}{XP:(Str->Option Value)->Heap->Prop}{YP:World->Heap->Prop}{d:DefRec}{K:Params->PySem.W.Frag}{CX:World->CXT}{sp:World->Sp}{x:Str}
 (hn:l.most=some n) (hn2:n<=sizeLine) (hdf:d.params.defaults=[]) (hr:Room k callerA)
 (hY:∀(w:World)(h:Heap),YP w h->(K w.params).In h)
 (F:∀(w:World)(mg:Str->Option Value)(fa:Addr)(h:Heap),(K w.params).In h->h.Ns mainGlobals mg->mg d.name=some (.ref fa)->
  ∃ fd:FuncData,(∀(s:Shared)(u:Value),BindsTo s fd ⟨[u],[]⟩ [(x,u)])/\
   ∀ base:Heap,(K w.params).In base->base.Ns mainGlobals mg->FnOk l.prog w (K w.params) mg base (CX w) k fa fd [x] (sp w))
 (hsp:∀(w:World)(H:Hp)(a:Addr)(ns:List Int),ns.length<=n->(∀ z∈ns,bitsI z<=1048576)->Only H->SqL (K w.params) H a (ns.map V.int)->sp w [.ref a] H (fun v _=>v=.bl true) fun _ _ _=>False)
 (hCX:∀(w:World)(H:Hp)(s:Shared)(e:Value)(s':Shared),CX w [] H s (fun _ _ _=>False) e s'->False):
 PySem.W.WalkO q loose XP YP l.row.toRowW d [] (fun f vs=>PySem.call f vs):=by
 intro w s₀ s₁ mg mb G Y fa o pm cd doc dV kV ho hd hcd hD hmg hg args vals as hpre hlay hrd hwl hlo
 obtain rfl:dV=.none:=PySem.W.Dflts.none hD hdf
 obtain rfl:kV=.none:=PySem.W.Dflts.noKw hD
 obtain⟨a,vs,ns,rfl,rfl,hobj,hints,hlen⟩:=Att.script_of hn hpre hwl
 have KX:=hY w _ Y
 obtain⟨fd,hb,hF⟩:=F w mg fa _ KX G.T.g hmg
 refine PySem.W.enter_call (codeAny_mono (QNz KX G.T.g G.T.b G.T.builtins G.T.nolimit hg hobj hints (Nat.le_trans hlen hn2) hr hF hb (fun H hO hS=>hsp w H a ns hlen (QIU hlay) hO hS) fun H e s'=>hCX w H s₁ e s') fun r s' hq=>?_)
 obtain⟨rfl,h2,h3,h4⟩:=hq
 exact⟨.inl ⟨.bool true,.bool true,[],rfl,fun _=>rfl,.bool true,Att.post_true l _,fun _=>⟨List.Pairwise.nil,fun _ hm=>(nomatch hm)⟩⟩,h2,h3,h4⟩
end DL
namespace DL
open PySem PySem.Spec PyProof.Rows L2
def rCatS(K:PySem.W.Frag):R2:=fun x y H Q=>∃ l b xs zs,x=.ref l/\y=.ref b/\SqL K H l xs/\SqL K H b zs/\xs.length+zs.length<=sizeLine/\∀ p,H p=none->Q (.ref p) (upd H p (.lst (xs++zs)))
theorem QQh{X:Cx}:OpR X (binaryOp .Add) (rCatS X.K):=by
 intro pins s σ H x y v u Q I rx ry h
 obtain⟨l,b,xs,zs,rfl,rfl,hH,hB,hz,q⟩:=h
 cases rx
 cases ry
 obtain⟨its,r,pl,hz1⟩:=I.list hH
 obtain⟨its2,r2,pl2,hz2⟩:=I.list hB
 obtain⟨⟨cls,dd,data,sl⟩,n,ho,hc,hdd,hd⟩:=pl
 obtain⟨⟨cls2,dd2,data2,sl2⟩,n2,ho2,hc2,hdd2,hd2⟩:=pl2
 simp only at hc hd hc2 hd2
 subst hc hd hc2 hd2
 have e:its.toArray++its2.toArray=(its++its2).toArray:=by simp
 have h1:=r.length
 have h2:=r2.length
 refine concat_meets ⟨_,ho,rfl⟩ ⟨_,ho2,rfl⟩ noFill_list_add seq_list_add PySem.F.slot_list_add PySem.F.entry_list_add (PySem.F.args_list_add_2 _ _) (list_addW l b its.toArray its2.toArray n n2 dd dd2 sl sl2 (by rw[List.size_toArray,List.size_toArray];omega)) ⟨ho,ho2,?_⟩
 rw[e]
 exact⟨.ref _,_,I.lnew (t':=s.toks) (r.append r2) (by rw[List.length_append];omega),rfl,q _ I.fresh⟩
def dCat:D->D->Out D
 | .lst xs,.lst ys=>if fits (xs.length+ys.length)=true then .ok (.lst (xs++ys)) else .stuck
 | _,_=>.stuck
section
variable{C:Dc}{a b:Expr}{A B:SD->Out D}{pos:Pos}
theorem QM7(ha:DE C a A)(hb:DE C b B):DF C (.BinOp a .Add b pos) (e2 dCat A B):=by
 obtain⟨ta,p1,q1⟩:=ha
 obtain⟨tb,p2,q2⟩:=hb
 refine⟨_,pe_op QQh p1 p2,fun G H σ ς Q S q=>?_⟩
 unfold e2 at q
 rw[Out.post_bind]at q
 refine q1 G H σ ς _ S (Out.post_mono q fun x k v1 H1 G1 S1 a1 b1 r1=>?_)
 rw[Out.post_bind]at k
 refine q2 G1 H1 σ ς _ S1 (Out.post_mono k fun y k2 v2 H2 G2 S2 a2 b2 r2=>?_)
 have r1':=Rep.mono b2 x v1 r1
 cases x with
 | lst xs=>
  cases y with
  | lst ys=>
   obtain⟨p,vs,rfl,h2,h3⟩:=r1'
   obtain⟨p',vs',rfl,h2',h3'⟩:=r2
   rcases Qaq (show(if fits (xs.length+ys.length)=true then Out.ok (D.lst (xs++ys)) else .stuck).post _ _ from k2) with⟨hc,k3⟩ | ⟨_,k3⟩
   ·exact⟨p,p',vs,vs',rfl,rfl,S2.sub.seq h2,S2.sub.seq h2',by rw[← h3.length, ← h3'.length];exact of_decide_eq_true hc,
     KF.lst (KF.later (show KF C G H σ ς Q (.lst (xs++ys)) from k3) (a1.trans a2) (b1.trans b2)) S2 (h3.append h3')⟩
   ·exact k3.elim
  | _=>exact k2.elim
 | _=>cases y<;>exact k2.elim
def dList:D->Out D
 | .lst xs=>.ok (.lst xs)
 | .tup xs=>.ok (.lst xs)
 | _=>.stuck
theorem QhY{p:Pos}(hg:Gl C.X "list")(hm:C.X.mg "list"=none)(ha:DE C a A)
 (he:starEach (a::[]) C.X.env=(false,eval a C.X.env)::starEach [] C.X.env:=by rfl):DF C (.Call (.Name "list" p) [a] [] pos) (e1 dList A):=by
 obtain⟨ta,p1,q1⟩:=ha
 refine⟨_,QA7 QGb hg hm PyProof.Rows.Boot.«list» (QcY p1 Qge he) (by decide) (by decide) he rfl,fun G H σ ς Q S q=>?_⟩
 unfold e1 at q
 rw[Out.post_bind]at q
 refine q1 G H σ ς _ S (Out.post_mono q fun x k v1 H1 G1 S1 a1 b1 r1=>?_)
 cases x with
 | lst xs=>
  obtain⟨p,vs,rfl,h2,h3⟩:=r1
  exact⟨p,vs,rfl,.inl (S1.sub.seq h2),KF.lst (KF.later (show KF C G H σ ς Q (.lst xs) from k) a1 b1) S1 h3⟩
 | tup xs=>
  obtain⟨p,vs,rfl,h2,h3⟩:=r1
  exact⟨p,vs,rfl,.inr (Same.sqT S1.sub h2),KF.lst (KF.later (show KF C G H σ ς Q (.lst xs) from k) a1 b1) S1 h3⟩
 | _=>exact k.elim
end
section
variable{C:Dc}{e:Expr}{es:List Expr}{A:SD->Out (List D)}{p pos:Pos}
def dInt:D->Out D
 | .int i=>.ok (.int i)
 | .bl b=>.ok (.int (if b then 1 else 0))
 | _=>.stuck
theorem QJH(hg:Gl C.X "int")(hm:C.X.mg "int"=none)(ha:DAB C (e::es) A)
 (he:starEach (e::es) C.X.env=(false,eval e C.X.env)::starEach es C.X.env:=by rfl) (hpl:(backTo pos (starEach es C.X.env)).any (·.1)=false:=by rfl):DE C (.Call (.Name "int" p) (e::es) [] pos) (eA (f1 dInt) A):=by
 refine QML QMo (Qtz ?_) (Qqm ?_) hg hm PyProof.Rows.Boot.«int» ha (by decide) (by decide) he hpl
 ·intro G H σ ς Q x v S r q
  cases x with
  | int i=>cases r;exact .inl ⟨i,rfl,q.2⟩
  | bl b=>cases r;exact .inr ⟨b,rfl,q.2⟩
  | _=>exact q.elim
 ·intro x
  cases x<;>first | exact rfl | exact True.intro
end
def isaT(T:String):D->Out Bool
 | .ins _ _=>.stuck
 | .err _=>.stuck
 | .bl _=>.ok (T == "bool"||T == "int")
 | d=>.ok (QaL d == T)
structure Kit(K:PySem.W.Frag)(T:String):Prop where
 h:∀ d:D,(match d with | .ins _ _=>True | .err _=>True | .bl _=>PySem.W.kitOne K (.type "bool") (.type T)=some (T == "bool"||T == "int") | d=>PySem.W.kitOne K (.type (QaL d)) (.type T)=some (QaL d == T))
section
variable{C:Dc}{e:Expr}{E:SD->Out D}{p pc pos:Pos}
theorem QcZ(T:Str){T':String}(k:Kit C.X.K T')(hgT:Gl C.X T)(hmT:C.X.mg T=none)(hb:bootBuiltins T=some (.type T'))(hg:Gl C.X "isinstance")(hm:C.X.mg "isinstance"=none)(h:DB C e E)
 (hn:T≠"__name__":=by decide) (hdb:(T == ("__debug__":Str))=false:=by decide)
 (he:starEach (e::[.Name T pc]) C.X.env=(false,eval e C.X.env)::starEach [.Name T pc] C.X.env:=by rfl) (he2:starEach (.Name T pc::[]) C.X.env=(false,eval (.Name T pc) C.X.env)::starEach [] C.X.env:=by rfl)
 (hpl:(backTo pos (starEach [.Name T pc] C.X.env)).any (·.1)=false:=by rfl):DE C (.Call (.Name "isinstance" p) [e,.Name T pc] [] pos) (eIsa (isaT T') E):=by
 refine QQZ (vc:=.ty T') (uc:=.type T') (QPS hgT hmT hb rfl hn hdb) rfl (fun d=>?_) hg hm h he he2 hpl
 have:=k.h d
 cases d<;>first | exact True.intro | exact this
end
theorem QsL{K:PySem.W.Frag}{T:String}(h1:PySem.W.kitOne K (.type "NoneType") (.type T)=some ("NoneType" == T))(h2:PySem.W.kitOne K (.type "bool") (.type T)=some (T == "bool"||T == "int"))
 (h3:PySem.W.kitOne K (.type "int") (.type T)=some ("int" == T)) (h4:PySem.W.kitOne K (.type "str") (.type T)=some ("str" == T)) (h5:PySem.W.kitOne K (.type "list") (.type T)=some ("list" == T))
 (h6:PySem.W.kitOne K (.type "tuple") (.type T)=some ("tuple" == T)) (h7:PySem.W.kitOne K (.type "dict") (.type T)=some ("dict" == T)):Kit K T:=⟨fun d=>by
 cases d with
 | non=>exact h1
 | bl _=>exact h2
 | int _=>exact h3
 | str _=>exact h4
 | lst _=>exact h5
 | tup _=>exact h6
 | dic _=>exact h7
 | ins _ _=>exact True.intro
 | err _=>exact True.intro⟩
theorem QJf{K:PySem.W.Frag}:Kit K "int":=QsL (by rfl) (by rfl) (by rfl) (by rfl) (by rfl) (by rfl) (by rfl)
theorem QE5{K:PySem.W.Frag}:Kit K "bool":=QsL (by rfl) (by rfl) (by rfl) (by rfl) (by rfl) (by rfl) (by rfl)
theorem QJG{K:PySem.W.Frag}:Kit K "str":=QsL (by rfl) (by rfl) (by rfl) (by rfl) (by rfl) (by rfl) (by rfl)
theorem QmR{K:PySem.W.Frag}:Kit K "list":=QsL (by rfl) (by rfl) (by rfl) (by rfl) (by rfl) (by rfl) (by rfl)
theorem Qul{K:PySem.W.Frag}:Kit K "tuple":=QsL (by rfl) (by rfl) (by rfl) (by rfl) (by rfl) (by rfl) (by rfl)
def QbN(i:Nat)(E:SD->Out D):SD->Out Fl:=fun ς=>match ς[i]? with
 | some (some (.o,.lst xs))=>E ς>>=fun d=>if decide (xs.length<sizeLine)=true then .ok (.nx (ς.set i (some (.o,.lst (xs++[d]))))) else .stuck
 | _=>.stuck
section
variable{C:Dc}{G H:Hp}{σ:St}{ς:SD}
theorem Qnc{α:Type}{xs:List α}{i:Nat}{x:α}(h:xs[i]?=some x):xs.set i x=xs:=by
 obtain⟨hi,e⟩:=List.getElem?_eq_some_iff.mp h
 rw[← e];exact List.set_getElem_self hi
theorem StR.write(S:StR C G H σ ς){i:Nat}{p:Addr}{xs ys:List D}{vs ws:List V}(hi:ς[i]?=some (some (.o,.lst xs)))(hp:σ[i]?=some (some (.ref p)))(hH:H p=some (.lst vs))(r:RepL C.X.K C.CT G ys ws):
 StR C G (upd H p (.lst ws)) σ (ς.set i (some (.o,.lst ys))):=by
 obtain⟨p',e1,hg,h0,ow⟩:=S.ow i _ hi
 rw[hp]at e1;cases e1
 have hil:i<ς.length:=(List.getElem?_eq_some_iff.mp hi).1
 have ne:∀ b o,G b=some o->b≠p:=fun b o e z=>by subst z;rw[hg]at e;cases e
 have S':StR C G (upd H p (.lst ws)) (σ.set i (some (.ref p))) (ς.set i (some (.o,.lst ys))):={
  sub:=fun b o e=>by rw[Qk (ne b o e)];exact S.sub b o e
  g0:=S.g0
  new:=S.new
  fr:=fun b o e m=>by
   rw[Qk (by rintro rfl;rw[h0]at e;cases e)];exact S.fr b o e m
  dom:=fun b e=>by
   by_cases hb:b=p
   ·subst hb;exact h0
   ·rw[Qk hb]at e;exact S.dom b e
  bs:=fun b o e=>by
   rw[Qk (by rintro rfl;rw[S.bh _ h0]at e;cases e)];exact S.bs b o e
  bh:=S.bh
  len:=by rw[List.length_set,List.length_set];exact S.len
  fz:=fun j d h=>by
   rcases QL h with⟨rfl,h2,l⟩ | ⟨hne,h2⟩
   ·cases h2
   ·rw[Qz hne];exact S.fz j d h2
  ow:=fun j d h=>by
   rcases QL h with⟨rfl,h2,l⟩ | ⟨hne,h2⟩
   ·cases h2
    exact⟨p,QjD (by rw[S.len];exact l),hg,h0,⟨ws,QS,r⟩⟩
   ·rw[Qz hne]
    obtain⟨q,a,b,c,w⟩:=S.ow j d h2
    have qp:q≠p:=by
     rintro rfl
     exact S.inj i j _ _ q hne hi h2 hp a
    exact⟨q,a,b,c,w.mono (Same.refl G) fun o z=>by rw[Qk qp];exact z⟩
  ln:=fun j d h=>by
   rcases QL h with⟨rfl,h2,l⟩ | ⟨hne,h2⟩
   ·cases h2
   ·rw[Qz hne];exact S.ln j d h2
  inj:=fun j k d1 d2 q hjk h1 h2 h3=>by
   have get:∀(j:Nat) d,(ς.set i (some (.o,D.lst ys)))[j]?=some (some (.o,d))->∃ d',ς[j]?=some (some (.o,d')):=fun j d h=>by
    rcases QL h with⟨rfl,h2,l⟩ | ⟨hne,h2⟩
    ·exact⟨_,hi⟩
    ·exact⟨_,h2⟩
   obtain⟨d1',g1⟩:=get j d1 h1
   obtain⟨d2',g2⟩:=get k d2 h2
   rw[Qnc hp]at h3 ⊢
   exact S.inj j k d1' d2' q hjk g1 g2 h3
  sf:=fun j d h=>by
   rcases QL h with⟨rfl,h2,l⟩ | ⟨hne,h2⟩
   ·cases h2
   ·rw[Qz hne]
    obtain⟨q,a,b,c,m,z,w⟩:=S.sf j d h2
    have qp:q≠p:=by
     rintro rfl
     exact c h0
    exact⟨q,a,b,c,m,z,w.mono (Same.refl G) fun o z=>by rw[Qk qp];exact z⟩
  su:=fun j k d1 d2 h1 h2=>by
   rcases QL h1 with⟨rfl,q1,l⟩ | ⟨n1,q1⟩
   ·cases q1
   ·rcases QL h2 with⟨rfl,q2,l⟩ | ⟨n2,q2⟩
    ·cases q2
    ·exact S.su j k d1 d2 q1 q2 }
 rw[Qnc hp]at S'
 exact S'
variable{a e:Expr}{A E:SD->Out D}{pos p1 p2 p3:Pos}{x:Str}
theorem Qdf(i:Nat)(he:DE C e E)(hN:C.X.N[i]?=some x:=by rfl)(hv:Vis C.X.env.scope x:=by first | exact Or.inl rfl | exact Or.inr (Or.inl rfl) | exact Or.inr (Or.inr rfl))
 (hd:(x == ("__debug__":Str))=false:=by decide) (hcd:(x == ("__classdict__":Str))=false:=by decide)
 (hbase:attributeBase (.Name x p1) "append" C.X.env (eval (.Name x p1) C.X.env)=eval (.Name x p1) C.X.env:=by rfl)
 (hfew:((backTo p3 (starEach (e::[]) C.X.env)).all (fun x => !x.1)&&(backToKw p3 (keywordEach [] C.X.env)).all (fun x=>x.1.isSome)
  && decide ((e::[]).length+([]:List Keyword).length+(if ([]:List Keyword).isEmpty then 0 else 1)<30))=true:=by rfl)
 (hline:(p2.endLine == p3.line)=true:=by rfl) (hs:starEach (e::[]) C.X.env=(false,eval e C.X.env)::starEach [] C.X.env:=by rfl)
 (hsw:swapsWith (.Call (.Attribute (.Name x p1) "append" p2) [e] [] p3) none pos.line C.X.env=pure false:=by rfl):
 DS C (.Expr (.Call (.Attribute (.Name x p1) "append" p2) [e] [] p3) pos) (QbN i E):=by
 obtain⟨t,p,q⟩:=he
 refine⟨_,QJt (pe_bm PySem.F.plainAttrs_list PySem.F.slot_list_append PySem.F.type_list_append QBn (Qm9 (i:=i) hN hv hd hcd) (QcY p Qge hs) hbase hfew hline hs rfl) hsw,fun G H σ ς W S k=>?_⟩
 unfold QbN at k
 split at k
 ·rename_i xs z
  obtain⟨pp,e1,hg,h0,ow⟩:=S.ow i _ z
  obtain⟨vs,hv1,hv2⟩:=ow
  rw[Out.post_bind]at k
  refine⟨_,e1,.inl ⟨rfl,vs,SqL.of hv1⟩,q G H σ ς _ S (Out.post_mono k fun d k2 v H1 G1 S1 a1 b1 r1=>?_)⟩
  rcases Qaq k2 with⟨hc,k3⟩ | ⟨_,k3⟩
  ·have hl:=hv2.length
   refine⟨pp,vs,v,rfl,rfl,a1 _ _ hv1,by rw[← hl];exact of_decide_eq_true hc,?_⟩
   exact k3 σ _ G1 (S1.write z e1 (a1 _ _ hv1) ((RepL.mono b1 xs vs hv2).append (RepL.one r1))) b1
  ·exact k3.elim
 ·exact k.elim
end
end DL
namespace DL
open PySem PySem.Spec PyProof.Rows L2
structure DIt(K:PySem.W.Frag)(CT:CTab)(G1:Hp)(J:It)(ds:List D):Prop where
 go:∀ G H (i:Nat) d,Same G1 G->Same G H->ds[i]?=some d->J.go i H/\∀ x H',J.yld i H x H'->∃ G',Same G G'/\Same H H'/\Same G' H'/\(∀ b,G b=none->G' b≠none->H b=none)/\Rep K CT G' d x
 stop:∀ G H,Same G1 G->Same G H->J.stop ds.length H
structure DItB(K:PySem.W.Frag)(CT:CTab)(B1 G1:Hp)(J:It)(ds:List D):Prop where
 go:∀ G H (i:Nat) d,Same G1 G->Same G H->Same B1 H->ds[i]?=some d->J.go i H/\∀ x H',J.yld i H x H'->∃ G',Same G G'/\Same H H'/\Same G' H'/\(∀ b,G b=none->G' b≠none->H b=none)/\Rep K CT G' d x
 stop:∀ G H,Same G1 G->Same G H->Same B1 H->J.stop ds.length H
theorem DIt.b{K:PySem.W.Frag}{CT:CTab}{B1 G1:Hp}{J:It}{ds:List D}(h:DIt K CT G1 J ds):DItB K CT B1 G1 J ds:=⟨fun G H i d a b _ e=>h.go G H i d a b e,fun G H a b _=>h.stop G H a b⟩
def DIB(C:Dc)(tg iter:Expr)(its:SD->Out (List D)):Prop:=∃ wi,PI C.X tg iter wi/\∀ G H σ ς (R:It->Hp->Prop),StR C G H σ ς->
 (its ς).post (fun ds=>∀ J H1 G1,StR C G1 H1 σ ς->Same H H1->Same G G1->DItB C.X.K C.CT H1 G1 J ds->R J H1) C.XD->wi σ H R
def DI(C:Dc)(tg iter:Expr)(its:SD->Out (List D)):Prop:=∃ wi,PI C.X tg iter wi/\∀ G H σ ς (R:It->Hp->Prop),StR C G H σ ς->
 (its ς).post (fun ds=>∀ J H1 G1,StR C G1 H1 σ ς->Same H H1->Same G G1->DIt C.X.K C.CT G1 J ds->R J H1) C.XD->wi σ H R
section
variable{C:Dc}{e tg iter:Expr}{E:SD->Out D}{body:List Stmt}{T U:SD->Out Fl}{pos:Pos}{g:D->SD->Out SD}{its:SD->Out (List D)}
theorem DI.b(h:DI C tg iter its):DIB C tg iter its:=by
 obtain⟨wi,p,q⟩:=h
 exact⟨wi,p,fun G H σ ς R S k=>q G H σ ς R S (Out.post_mono k fun ds kd J H1 G1 S1 a b dit=>kd J H1 G1 S1 a b dit.b)⟩
theorem QOk{K:PySem.W.Frag}{CT:CTab}{G1:Hp}{a:Addr}{ds:List D}{vs:List V}(h:SqL K G1 a vs)(r:RepL K CT G1 ds vs):DIt K CT G1 (Itl K a) ds where
 go:=fun G H i d s1 sH hd=>by
  obtain⟨v,hv,rv⟩:=r.get hd
  have hq:SqL K H a vs:=sH.seq (s1.seq h)
  refine⟨⟨vs,v,hq,hv⟩,fun x H' ⟨e,y⟩=>?_⟩
  have ex:vs[i]?=some x:=y vs hq
  rw[hv]at ex;cases ex
  subst e
  exact⟨G,Same.refl _,Same.refl _,sH,fun b g n=>absurd g n,Rep.mono s1 d v rv⟩
 stop:=fun G H s1 sH=>⟨vs,sH.seq (s1.seq h),by rw[r.length];exact Nat.le_refl _⟩
theorem QNg{K:PySem.W.Frag}{CT:CTab}{G1:Hp}{lo:Int}{n:Nat}:DIt K CT G1 (Itr lo n) (QbB lo n) where
 go:=fun G H i d s1 sH hd=>by
  have hi:i<n:=by
   have:=(List.getElem?_eq_some_iff.mp hd).1
   rw[QyF]at this;exact this
  rw[QK4 hi]at hd;cases hd
  exact⟨hi,fun x H' ⟨e,y⟩=>by
   subst e y
   exact⟨G,Same.refl _,Same.refl _,sH,fun b g n=>absurd g n,rfl⟩⟩
 stop:=fun G H s1 sH=>by rw[QyF];exact Nat.le_refl _
theorem Qat(h:DE C iter E):DI C tg iter (itL E):=by
 obtain⟨t,p,q⟩:=h
 refine⟨_,QPu p,fun G H σ ς R S k=>?_⟩
 unfold itL at k
 rw[Out.post_bind]at k
 refine q G H σ ς _ S (Out.post_mono k fun d k v H1 G1 S1 a1 b1 r1=>?_)
 cases d with
 | lst xs=>
  obtain⟨a,vs,rfl,h2,h3⟩:=r1
  exact⟨a,rfl,⟨vs,S1.sub.seq h2⟩,k _ H1 G1 S1 a1 b1 (QOk h2 h3)⟩
 | _=>exact k.elim
theorem QaX{a:Expr}{A:SD->Out D}{p1 p2:Pos}(hgl:Gl C.X "range")(hm:C.X.mg "range"=none)(ha:DB C a A)
 (hst:starEach [a] C.X.env=(false,eval a C.X.env)::starEach [] C.X.env:=by rfl):DI C tg (.Call (.Name "range" p1) [a] [] p2) (itR1 A):=by
 obtain⟨t,p,q⟩:=ha
 refine⟨_,QMS hgl hm (QcY p Qge hst) hst,fun G H σ ς R S k=>?_⟩
 unfold itR1 at k
 rw[Out.post_bind]at k
 refine q G H σ ς _ S (Out.post_mono k fun d k v H1 G1 S1 a1 b1 r=>?_)
 cases d with
 | int n=>
  cases r
  rcases Qaq k with⟨hc,k⟩ | ⟨_,k⟩
  ·obtain⟨c1,c2⟩:=QKq hc
   exact⟨n,rfl,c1,c2,k _ H1 G1 S1 a1 b1 QNg⟩
  ·exact k.elim
 | _=>exact k.elim
theorem Qcl(hp:PassesOwn (model C.X.prog C.X.w) C.X.A C.X.env C.X.xe)(hc:C.X.calm=true)(hi:DI C tg iter its)(hg:DG C tg g)(hne:noExc g)(hb:DSs C body T)
 (hs:∀ x,foldedSetIterable iter C.X.env x=pure x:=by intro _;rfl):DS C (.For tg iter body [] pos) (sFor g its T):=by
 obtain⟨t0,p0,q0⟩:=hi
 obtain⟨t1,p1,q1⟩:=hg
 obtain⟨t2,p2,q2⟩:=hb
 refine⟨_,QQ7 hp hc p0 p1 p2 hs,fun G H σ ς W S k=>?_⟩
 unfold sFor at k
 rw[Out.post_bind]at k
 refine q0 G H σ ς _ S (Out.post_mono k fun xs k J H1 G1 S1 a1 b1 dit=>?_)
 refine⟨fun i m σ' H'=>m=xs.length - i/\i<=xs.length/\∃ G' ς',StR C G' H' σ' ς'/\Same G1 G'/\(loopD (fun x ς=>g x ς>>=fun ς'=>T ς') (xs.drop i) ς').post (FlK C G' W) C.XD,
  ⟨xs.length,by simp,Nat.zero_le _,G1,ς,S1,Same.refl _,Out.post_mono (by simpa using k) fun f k=>FlK.later k b1⟩,?_⟩
 rintro i m σ' H' ⟨rfl,hle,G',ς',S',s',q'⟩
 by_cases hlt:i<xs.length
 ·have hd:xs[i]?=some xs[i]:=by simp[hlt]
  obtain⟨hgo,hy⟩:=dit.go G' H' i _ s' S'.sub hd
  refine .inr ⟨hgo,fun σ2 H2=>∃ G2 ς2,StR C G2 H2 σ2 ς2/\Same G1 G2/\(loopD (fun x ς=>g x ς>>=fun ς'=>T ς') (xs.drop (i+1)) ς2).post (FlK C G2 W) C.XD,
   fun σ2 H2 h2=>⟨xs.length - (i+1),by omega,rfl,hlt,h2⟩,fun x H'' y=>?_⟩
  obtain⟨G'',g1,h1,s1,n1,r⟩:=hy x H'' y
  rw[QA0 hd]at q'
  exact turnD hne q1 q2 (S'.grow h1 g1 s1 n1) r (Out.post_mono q' fun f k=>FlK.later k g1) fun σ2 H2 G2 ς2 S2 s2 q2=>⟨G2,ς2,S2,(s'.trans g1).trans s2,q2⟩
 ·have e:i=xs.length:=by omega
  subst e
  rw[List.drop_length]at q'
  exact .inl ⟨dit.stop G' H' s' S'.sub,q' σ' H' G' S' (Same.refl _)⟩
end
def compM(f:D->Out (Option D)):List D->Out (List D)
 | []=>.ok []
 | x::xs=>f x>>=fun o=>compM f xs>>=fun ys=>.ok (o.toList++ys)
def captS(ς:SD)(j:Nat):Option (SM×D):=match ς[j]? with
 | some (some (.k,d))=>some (.k,d)
 | some (some (_,d))=>some (.l,d)
 | _=>none
def captD(js:List (Option Nat))(ς:SD):SD:=js.map fun j=>j.bind (captS ς)
def turnC(js:List (Option Nat))(g:D->SD->Out SD)(c:SD->Out Bool)(e:SD->Out D)(ς:SD)(x:D):Out (Option D):=
 g x (captD js ς)>>=fun τ=>c τ>>=fun b=>if b=true then e τ>>=fun y=>.ok (some y) else .ok none
def eComp(js:List (Option Nat))(its:SD->Out (List D))(g:D->SD->Out SD)(c:SD->Out Bool)(e:SD->Out D):SD->Out D:=fun ς=>
 its ς>>=fun xs=>compM (turnC js g c e ς) xs>>=fun ys=>if fits ys.length=true then .ok (.lst ys) else .stuck
def DIf(C:Dc)(ifs:List Expr)(T:SD->Out Bool):Prop:=∃ t,PIf C.X ifs t/\∀ G H σ ς Q,StR C G H σ ς->(T ς).post (KT C G H σ ς Q) C.XD->t σ H Q
def cTrue:SD->Out Bool:=fun _=>.ok true
theorem QV{C:Dc}:DIf C [] cTrue:=⟨_,QPp,fun G H σ ς Q S q=>KT.now q S⟩
theorem QPq{C:Dc}{c:Expr}{T:SD->Out Bool}(h:DT C c T):DIf C [c] T:=let ⟨t,p,q⟩:=h;⟨t,QP7 p,q⟩
def gKeep(g:D->SD->Out SD)(τ0:SD):Prop:=∀ x τ,g x τ0=.ok τ->τ.length=τ0.length/\∀(i:Nat) md,τ0[i]?=some (some md)->τ[i]?=some (some md)
theorem QU{i:Nat}{τ0:SD}(h:τ0[i]?=some none):gKeep (gN i) τ0:=by
 intro x τ e
 cases e
 refine⟨List.length_set ..,fun j md hj=>?_⟩
 rw[Qz (by rintro rfl;rw[h]at hj;cases hj)];exact hj
theorem QHS:∀(is:List Nat)(ds:List D)(τ0 τ:SD),(∀ i∈is,∀ md,τ0[i]?=some (some md)->False)->Q3 is ds τ0=.ok τ->τ.length=τ0.length/\∀(i:Nat) md,τ0[i]?=some (some md)->τ[i]?=some (some md)
 | [],[],τ0,τ,_,e=>by cases e;exact⟨rfl,fun _ _ h=>h⟩
 | i::is,d::ds,τ0,τ,h,e=>by
  have e':Q3 is ds (τ0.set i (some (.k,d)))=.ok τ:=e
  -- the later targets may meet the stored one again: only what was there ahead is kept
  have go:∀(is:List Nat)(ds:List D)(τ1 τ:SD),τ1.length=τ0.length->(∀ i∈is,∀ md,τ0[i]?=some (some md)->False)->(∀(i:Nat) md,τ0[i]?=some (some md)->τ1[i]?=some (some md))->Q3 is ds τ1=.ok τ->
   τ.length=τ0.length/\∀(i:Nat) md,τ0[i]?=some (some md)->τ[i]?=some (some md):=by
   intro is
   induction is with
   | nil=>intro ds τ1 τ hl _ hk e;cases ds with
    | nil=>cases e;exact⟨hl,hk⟩
    | cons _ _=>cases e
   | cons i is ih=>intro ds τ1 τ hl hn hk e;cases ds with
    | nil=>cases e
    | cons d ds=>
     refine ih ds _ τ (by rw[List.length_set];exact hl) (fun j hj=>hn j (List.mem_cons_of_mem _ hj)) (fun j md hj=>?_) e
     rw[Qz (by rintro rfl;exact hn _ List.mem_cons_self md hj)];exact hk j md hj
  refine go is ds _ τ (List.length_set ..) (fun j hj=>h j (List.mem_cons_of_mem _ hj)) (fun j md hj=>?_) e'
  rw[Qz (by rintro rfl;exact h _ List.mem_cons_self md hj)];exact hj
 | [],_::_,_,_,_,e=>by cases e
 | _::_,[],_,_,_,e=>by cases e
theorem QmK{is:List Nat}{τ0:SD}(h:∀ i∈is,τ0[i]?=some none):gKeep (gT is) τ0:=by
 intro x τ e
 cases x with
 | tup ds=>exact QHS is ds τ0 τ (fun i hi md z=>by rw[h i hi]at z;cases z) e
 | _=>cases e
theorem Qt{js:List (Option Nat)}{i:Nat}(h:js[i]?=some none)(ς:SD):(captD js ς)[i]?=some none:=by
 unfold captD
 rw[List.getElem?_map,h];rfl
section
variable{C:Dc}{G H:Hp}{σ:St}{ς:SD}
theorem StR.weak{ς':SD}(S:StR C G H σ ς')(hl:ς'.length=ς.length)(h:∀(i:Nat) md,ς[i]?=some (some md)->ς'[i]?=some (some md)):StR C G H σ ς:=
 { S with len:=by rw[S.len,hl],fz:=fun i d e=>S.fz i d (h i _ e),ow:=fun i d e=>S.ow i d (h i _ e),ln:=fun i d e=>S.ln i d (h i _ e),inj:=fun i j d e p n h1 h2=>S.inj i j d e p n (h i _ h1) (h j _ h2),sf:=fun i d e=>S.sf i d (h i _ e),su:=fun i j d e h1 h2=>S.su i j d e (h i _ h1) (h j _ h2) }
theorem StR.updM(S:StR C G H σ ς){p:Addr}{o:HO}(hM:C.M p)(h0:C.X.H₀ p≠none)(hno:∀(i:Nat) d,ς[i]?≠some (some (.s,d)))(hB:C.B p=none)(hg:G p=none):StR C G (upd H p o) σ ς where
 sub:=fun b u e=>by rw[Qk (by rintro rfl;rw[hg]at e;cases e)];exact S.sub b u e
 g0:=S.g0
 new:=S.new
 fr:=fun b u e m=>by rw[Qk (by rintro rfl;exact m hM)];exact S.fr b u e m
 dom:=fun b e=>by
  by_cases hb:b=p
  ·subst hb;rw[QS]at e;cases e
  ·rw[Qk hb]at e;exact S.dom b e
 bs:=fun b u e=>by rw[Qk (by rintro rfl;rw[hB]at e;cases e)];exact S.bs b u e
 bh:=S.bh
 len:=S.len
 fz:=S.fz
 ow:=fun i d e=>by
  obtain⟨q,a,b,c,w⟩:=S.ow i d e
  exact⟨q,a,b,c,w.mono (Same.refl G) fun u z=>by rw[Qk (by rintro rfl;exact h0 c)];exact z⟩
 ln:=S.ln
 inj:=S.inj
 sf:=fun i d e=>absurd e (hno i d)
 su:=S.su
abbrev ccOf(C:Dc)(N':List Str)(scope:Scope)(fp:List Addr)(s:Shared)(H1 G1:Hp)(p:Addr):Dc:=
 { X:=cxC C.X N' scope fp s (upd H1 p (.lst [])),CT:=C.CT,G0:=G1,XD:=fun _=>False,B:=H1,M:=fun b=>b=p }
theorem Qkr{js:List (Option Nat)}{i:Nat}{md:SM×D}(h:(captD js ς)[i]?=some (some md)):∃ j,js[i]?=some (some j)/\captS ς j=some md:=by
 unfold captD at h
 rw[List.getElem?_map]at h
 cases e:js[i]? with
 | none=>rw[e]at h;cases h
 | some o=>
  rw[e]at h
  cases o with
  | none=>cases h
  | some j=>exact⟨j,rfl,Option.some.inj h⟩
theorem QrP{js:List (Option Nat)}{i j:Nat}{v:V}(h:js[i]?=some (some j))(hv:σ[j]?=some (some v)):(capt js σ)[i]?=some (some v):=by
 unfold capt
 rw[List.getElem?_map,h]
 show some ((σ[j]?).join)=_
 rw[hv];rfl
theorem Qhh{j:Nat}{m:SM}{d:D}(h:captS ς j=some (m,d)):(m=.k/\ς[j]?=some (some (.k,d)))∨(m=.l/\(ς[j]?=some (some (.o,d))∨ς[j]?=some (some (.l,d))∨ς[j]?=some (some (.s,d)))):=by
 unfold captS at h
 split at h
 ·rename_i d' e;cases h;exact .inl ⟨rfl,e⟩
 ·rename_i m' d' hne e
  cases h
  cases m' with
  | k=>exact(hne rfl).elim
  | o=>exact .inr ⟨rfl,.inl e⟩
  | l=>exact .inr ⟨rfl,.inr (.inl e)⟩
  | s=>exact .inr ⟨rfl,.inr (.inr e)⟩
 ·cases h
theorem Qwu{js:List (Option Nat)}{i:Nat}{d:D}(h:(captD js ς)[i]?=some (some (.s,d))):False:=by
 obtain⟨j,h1,h2⟩:=Qkr h
 rcases Qhh h2 with⟨h3,_⟩ | ⟨h3,_⟩<;>cases h3
theorem StR.comp{N':List Str}{scope:Scope}{fp:List Addr}{s:Shared}{js:List (Option Nat)}{p:Addr}(S:StR C G H σ ς)(hp:H p=none):StR (ccOf C N' scope fp s H G p) G (upd H p (.lst [])) (capt js σ) (captD js ς) where
 sub:=S.sub.trans (QE hp)
 g0:=Same.refl _
 new:=fun b h1 h2=>absurd h1 h2
 fr:=fun b o e _=>e
 dom:=fun b e=>e
 bs:=QE hp
 bh:=fun b e=>by
  have e':upd H p (.lst []) b=none:=e
  by_cases hb:b=p
  ·subst hb;exact hp
  ·rw[Qk hb]at e';exact e'
 len:=by unfold capt captD;rw[List.length_map,List.length_map]
 fz:=fun i d e=>by
  obtain⟨j,h1,h2⟩:=Qkr e
  rcases Qhh h2 with⟨_,h3⟩ | ⟨h3,_⟩
  ·obtain⟨v,a,b⟩:=S.fz j d h3
   exact⟨v,QrP h1 a,b⟩
  ·cases h3
 ow:=fun i d e=>by
  obtain⟨j,h1,h2⟩:=Qkr e
  rcases Qhh h2 with⟨h3,_⟩ | ⟨h3,_⟩<;>cases h3
 ln:=fun i d e=>by
  obtain⟨j,h1,h2⟩:=Qkr e
  rcases Qhh h2 with⟨h3,_⟩ | ⟨_,h3 | h3 | h3⟩
  ·cases h3
  ·obtain⟨q,a,_,_,w⟩:=S.ow j d h3
   exact⟨_,QrP h1 a,w.rep S.sub⟩
  ·obtain⟨v,a,b⟩:=S.ln j d h3
   exact⟨v,QrP h1 a,Rep.mono S.bs d v b⟩
  ·obtain⟨q,a,_,_,_,_,w⟩:=S.sf j d h3
   exact⟨_,QrP h1 a,w.rep S.sub⟩
 inj:=fun i j d e q _ h=>by
  obtain⟨j,h1,h2⟩:=Qkr h
  rcases Qhh h2 with⟨h3,_⟩ | ⟨h3,_⟩<;>cases h3
 sf:=fun i d e=>(Qwu e).elim
 su:=fun i j d e h=>(Qwu h).elim
variable{N':List Str}{js:List (Option Nat)}{scope:Scope}{tg iter elt:Expr}{ifs:List Expr}{its:SD->Out (List D)}{g:D->SD->Out SD}{c:SD->Out Bool}{e:SD->Out D}{pos:Pos}
theorem QOm{J:It}{xs:List D}{p:Addr}{fp:List Addr}{s:Shared}{Q:VK}(S:StR C G H σ ς)(hp:H p=none)(dit:DItB C.X.K C.CT H G J xs)(hx:∀ x,¬ C.XD x)(hk:gKeep g (captD js ς))(hne:noExc g)
 (hin:DG (ccOf C N' scope fp s H G p) tg g/\DIf (ccOf C N' scope fp s H G p) ifs c/\DE (ccOf C N' scope fp s H G p) elt e)
 (q:(compM (turnC js g c e ς) xs>>=fun ys=>if fits ys.length=true then Out.ok (D.lst ys) else .stuck).post (fun d=>∀ H' G',StR C G' H' σ ς->Same H H'->Same G G'->G' p=none->Own C.X.K C.CT G' H' p d->Q (.ref p) H') C.XD):
 CompW (cxC C.X N' scope fp s (upd H p (.lst []))) js tg elt ifs σ H J p Q:=by
 obtain⟨⟨tt,pg,hg⟩,⟨tcc,pif,hcI⟩,⟨te,pe,he⟩⟩:=hin
 generalize hτ:captD js ς=τ0 at hk
 have S0:StR (ccOf C N' scope fp s H G p) G (upd H p (.lst [])) (capt js σ) τ0:=by rw[← hτ];exact S.comp hp
 refine⟨fun i m τ H'=>m=xs.length - i/\i<=xs.length/\∃ G' acc vs,StR (ccOf C N' scope fp s H G p) G' H' τ τ0/\H' p=some (.lst vs)/\RepL C.X.K C.CT G' acc vs/\G' p=none/\
  (compM (turnC js g c e ς) (xs.drop i)).post (fun ys=>(if fits (acc++ys).length=true then Out.ok (D.lst (acc++ys)) else .stuck).post (fun d=>∀ H' G',StR C G' H' σ ς->Same H H'->Same G G'->G' p=none->Own C.X.K C.CT G' H' p d->Q (.ref p) H') C.XD) C.XD,
  ⟨xs.length,by simp,Nat.zero_le _,G,[],[],S0,QS,rfl,S.sub.free hp,by rw[Out.post_bind]at q;simpa using q⟩,?_⟩
 rintro i m τ H' ⟨rfl,hle,G',acc,vs,S',hp',r',hg',q'⟩
 have hH0:(ccOf C N' scope fp s H G p).X.H₀ p≠none:=by
  show upd H p (.lst []) p≠none
  rw[QS];simp
 by_cases hlt:i<xs.length
 ·have hd:xs[i]?=some xs[i]:=by simp[hlt]
  obtain⟨hgo,hy⟩:=dit.go G' H' i _ S'.g0 S'.sub S'.bs hd
  refine .inr ⟨hgo,fun τ2 H2=>i+1<=xs.length/\∃ G' acc vs,StR (ccOf C N' scope fp s H G p) G' H2 τ2 τ0/\H2 p=some (.lst vs)/\RepL C.X.K C.CT G' acc vs/\G' p=none/\
   (compM (turnC js g c e ς) (xs.drop (i+1))).post (fun ys=>(if fits (acc++ys).length=true then Out.ok (D.lst (acc++ys)) else .stuck).post (fun d=>∀ H' G',StR C G' H' σ ς->Same H H'->Same G G'->G' p=none->Own C.X.K C.CT G' H' p d->Q (.ref p) H') C.XD) C.XD,
   fun τ2 H2 h2=>⟨xs.length - (i+1),by omega,rfl,h2⟩,fun x H'' y=>?_⟩
  obtain⟨G'',g1,h1,s1,n1,r⟩:=hy x H'' y
  have S'':=S'.grow h1 g1 s1 n1
  have hgp:G'' p=none:=by
   cases z:G'' p with
   | none=>rfl
   | some o=>
    have:=n1 p hg' (by rw[z];simp)
    rw[hp']at this;cases this
  rw[QA0 hd,compM,Out.post_bind]at q'
  have tu:turnC js g c e ς xs[i]=(g xs[i] τ0>>=fun τ=>c τ>>=fun b=>if b=true then e τ>>=fun y=>Out.ok (some y) else Out.ok none):=by unfold turnC;rw[hτ]
  rw[tu,Out.post_bind]at q'
  cases z:g xs[i] τ0 with
  | exc w=>exact absurd z (hne _ _ _)
  | stuck=>rw[z]at q';exact q'.elim
  | ok τ1=>
   rw[z]at q'
   obtain⟨hl1,hk1⟩:=hk _ _ z
   refine⟨tt,pg,hg G'' H'' τ τ0 xs[i] x τ1 _ S'' r z fun τ2 S2=>?_⟩
   have q2:(c τ1>>=fun b=>if b=true then e τ1>>=fun y=>Out.ok (some y) else Out.ok none).post _ _:=q'
   rw[Out.post_bind]at q2
   -- no refusal leaves the block
   have q3:(c τ1).post (fun b=>(if b=true then e τ1>>=fun y=>Out.ok (some y) else Out.ok none).post (fun o=>(compM (turnC js g c e ς) (xs.drop (i+1))>>=fun ys=>Out.ok (o.toList++ys)).post (fun ys=>(if fits (acc++ys).length=true then Out.ok (D.lst (acc++ys)) else .stuck).post (fun d=>∀ H' G',StR C G' H' σ ς->Same H H'->Same G G'->G' p=none->Own C.X.K C.CT G' H' p d->Q (.ref p) H') C.XD) C.XD) C.XD) (fun _=>False):=by
    cases w:c τ1 with
    | ok b=>rw[w]at q2;exact q2
    | exc w'=>rw[w]at q2;exact absurd q2 (hx _)
    | stuck=>rw[w]at q2;exact q2.elim
   refine⟨tcc,pif,hcI G'' H'' τ2 τ1 _ S2 (Out.post_mono q3 fun b kb H3 G3 S3 a3 b3=>?_)⟩
   have hp3:H3 p=some (.lst vs):=a3 _ _ (h1 _ _ hp')
   have hg3:G3 p=none:=by
    cases z3:G3 p with
    | none=>rfl
    | some o=>
     have e3:(ccOf C N' scope fp s H G p).G0 p=none:=S.sub.free hp
     exact absurd (S3.new p e3 (by rw[z3];simp)) hH0
   cases b with
   | false=>
    refine iteF ⟨hlt,G3,acc,vs,S3.weak (by rw[hl1]) hk1,hp3,RepL.mono (g1.trans b3) acc vs r',hg3,?_⟩
    have kb':(compM (turnC js g c e ς) (xs.drop (i+1))>>=fun ys=>Out.ok ((none:Option D).toList++ys)).post (fun ys=>(if fits (acc++ys).length=true then Out.ok (D.lst (acc++ys)) else .stuck).post (fun d=>∀ H' G',StR C G' H' σ ς->Same H H'->Same G G'->G' p=none->Own C.X.K C.CT G' H' p d->Q (.ref p) H') C.XD) C.XD:=kb
    rw[Out.post_bind]at kb'
    exact Out.post_mono kb' fun ys k=>k
   | true=>
    have kb:(e τ1>>=fun y=>Out.ok (some y)).post (fun o=>(compM (turnC js g c e ς) (xs.drop (i+1))>>=fun ys=>Out.ok (o.toList++ys)).post (fun ys=>(if fits (acc++ys).length=true then Out.ok (D.lst (acc++ys)) else .stuck).post (fun d=>∀ H' G',StR C G' H' σ ς->Same H H'->Same G G'->G' p=none->Own C.X.K C.CT G' H' p d->Q (.ref p) H') C.XD) C.XD) C.XD:=kb
    rw[Out.post_bind]at kb
    have kb2:(e τ1).post (fun y=>(compM (turnC js g c e ς) (xs.drop (i+1))>>=fun ys=>Out.ok ((some y:Option D).toList++ys)).post (fun ys=>(if fits (acc++ys).length=true then Out.ok (D.lst (acc++ys)) else .stuck).post (fun d=>∀ H' G',StR C G' H' σ ς->Same H H'->Same G G'->G' p=none->Own C.X.K C.CT G' H' p d->Q (.ref p) H') C.XD) C.XD) (fun _=>False):=by
     cases w:e τ1 with
     | ok b=>rw[w]at kb;exact kb
     | exc w'=>rw[w]at kb;exact absurd kb (hx _)
     | stuck=>rw[w]at kb;exact kb.elim
    refine iteT ⟨te,pe,he G3 H3 τ2 τ1 _ S3 (Out.post_mono kb2 fun y ky v4 H4 G4 S4 a4 b4 r4=>?_)⟩
    rw[Out.post_bind]at ky
    have hp4:H4 p=some (.lst vs):=a4 _ _ hp3
    have hg4:G4 p=none:=by
     cases z3:G4 p with
     | none=>rfl
     | some o=>
      have e3:(ccOf C N' scope fp s H G p).G0 p=none:=S.sub.free hp
      exact absurd (S4.new p e3 (by rw[z3];simp)) hH0
    have rr:=RepL.mono ((g1.trans b3).trans b4) acc vs r'
    refine⟨vs,hp4,?_,hlt,G4,acc++[y],vs++[v4],?_,QS,rr.append (RepL.one r4),hg4,?_⟩
    ·cases w:compM (turnC js g c e ς) (xs.drop (i+1)) with
     | stuck=>rw[w]at ky;exact ky.elim
     | exc w'=>rw[w]at ky;exact absurd ky (hx _)
     | ok ys=>
      rw[w]at ky
      rcases Qaq (show(if fits (acc++((some y:Option D).toList++ys)).length=true then Out.ok (D.lst (acc++((some y:Option D).toList++ys))) else .stuck).post _ _ from ky) with⟨hc,_⟩ | ⟨_,k⟩
      ·have hc':=of_decide_eq_true hc
       rw[List.length_append,List.length_append]at hc'
       have:(some y:Option D).toList.length=1:=rfl
       have hl:=r'.length
       omega
      ·exact k.elim
    ·exact(S4.weak (by rw[hl1]) hk1).updM rfl hH0 (fun i d z=>by rw[← hτ]at z;exact Qwu z) hp hg4
    ·exact Out.post_mono ky fun ys k=>by
      have e5:acc++[y]++ys=acc++((some y:Option D).toList++ys):=by simp
      rw[e5];exact k
 ·have ei:i=xs.length:=by omega
  subst ei
  rw[List.drop_length]at q'
  refine .inl ⟨dit.stop G' H' S'.g0 S'.sub S'.bs,?_⟩
  have q2:(if fits (acc++[]).length=true then Out.ok (D.lst (acc++[])) else .stuck).post _ C.XD:=q'
  rcases Qaq q2 with⟨_,k⟩ | ⟨_,k⟩
  ·rw[List.append_nil]at k
   have hHH:Same H H':=fun b o eb=>S'.fr b o (by
    show upd H p (.lst []) b=some o
    rw[Qk (QZ eb hp)];exact eb) (QZ eb hp)
   have SG:StR C G' H' σ ς:=S.grow hHH S'.g0 S'.sub fun b h1 h2=>by
    have:=S'.new b h1 h2
    have this:upd H p (.lst []) b=none:=this
    by_cases hb:b=p
    ·subst hb;exact hp
    ·rw[Qk hb]at this;exact this
   exact k H' G' SG hHH S'.g0 hg' ⟨vs,hp',r'⟩
  ·exact k.elim
theorem compT(hi:∃ wi,PI C.X tg iter wi/\∀ G H σ ς (R:It->Hp->Prop),StR C G H σ ς->(its ς).post (fun ds=>∀ J H1 G1,StR C G1 H1 σ ς->Same H H1->Same G G1->DItB C.X.K C.CT H1 G1 J ds->R J H1) C.XD->wi σ H R)
 (hx:∀ x,¬ C.XD x) (hk:∀ ς,gKeep g (captD js ς)) (hne:noExc g)
 (hin:∀ fp s H G p,DG (ccOf C N' scope fp s H G p) tg g/\DIf (ccOf C N' scope fp s H G p) ifs c/\DE (ccOf C N' scope fp s H G p) elt e):
 ∃ wi,PI C.X tg iter wi/\∀ G H σ ς Q,StR C G H σ ς->(eComp js its g c e ς).post (KF C G H σ ς Q) C.XD->tComp C.X N' js scope tg elt ifs wi σ H Q:=by
 obtain⟨wi,pi,hq⟩:=hi
 refine⟨wi,pi,fun G H σ ς Q S k=>?_⟩
 unfold eComp at k
 rw[Out.post_bind]at k
 refine hq G H σ ς _ S (Out.post_mono k fun xs k J H1 G1 S1 a1 b1 dit p hp fp s=>?_)
 refine QOm S1 hp dit hx (hk ς) hne (hin fp s H1 G1 p) (Out.post_mono k fun d kd H' G' S' h1 g1 hg ow=>?_)
 exact kd p H' G' S' (a1.trans h1) (b1.trans g1) (a1.free hp) hg ow
theorem Q7(hc:C.X.calm=true)(S:QM N' js scope C.X.env.scope C.X.N)(hi:DIB C tg iter its)(hk:∀ ς,gKeep g (captD js ς))(hne:noExc g)
 (hin:∀ fp s H G p,DG (ccOf C N' scope fp s H G p) tg g/\DIf (ccOf C N' scope fp s H G p) ifs c/\DE (ccOf C N' scope fp s H G p) elt e)
 (hx:∀ x,¬ C.XD x:=by exact fun _ h=>h) (hs:∀ x,foldedSetIterable iter C.X.env x=pure x:=by intro _;rfl):DF C (.ListComp elt [⟨tg,iter,ifs,0⟩] scope pos) (eComp js its g c e):=by
 obtain⟨wi,pi,h⟩:=compT hi hx hk hne hin
 exact⟨_,QPP hc S pi hs,h⟩
variable{i:Nat}{x:Str}{px spos:Pos}
theorem Qp1(hc:C.X.calm=true)(S:QM N' js scope C.X.env.scope C.X.N)(hi:DIB C tg iter its)(hk:∀ ς,gKeep g (captD js ς))(hne:noExc g)
 (hin:∀ fp s H G p,DG (ccOf C N' scope fp s H G p) tg g/\DIf (ccOf C N' scope fp s H G p) ifs c/\DE (ccOf C N' scope fp s H G p) elt e)
 (hN:C.X.N.Nodup) (hxN:C.X.N[i]?=some x) (hl:Loc C.X.env.scope x)
 (hsw:swapsWith (.ListComp elt [⟨tg,iter,ifs,0⟩] scope pos) (some (.Name x px)) spos.line C.X.env=pure true:=by rfl)
 (hf:C.X.fn x=true∨C.X.env.scope.names.lookup x=some .local:=by first | exact .inl rfl | exact .inr rfl | assumption)
 (hx:∀ x,¬ C.XD x:=by exact fun _ h=>h) (hs:∀ x,foldedSetIterable iter C.X.env x=pure x:=by intro _;rfl):DS C (.Assign [.Name x px] (.ListComp elt [⟨tg,iter,ifs,0⟩] scope pos) spos) (sSet i (eComp js its g c e)):=by
 obtain⟨wi,pi,h⟩:=compT hi hx hk hne hin
 refine⟨_,QP4 hc S pi hN hxN hl hsw hf hs,fun G H σ ς W S k=>?_⟩
 unfold sSet at k
 rw[Out.post_bind]at k
 exact h G H σ ς _ S (Out.post_mono k fun d k=>KD.ofF (Q:=fun v H1=>W.nx (σ.set i (some v)) H1) S fun v H1 G1 S1 a1 b1 r1=>k _ H1 G1 (S1.set i r1) b1)
end
end DL
namespace L2
open PySem PySem.Spec PyProof.Rows
def Its(x:Str):It:=⟨fun i _=>i<x.cps.size,fun i H v H'=>H'=H/\∃ c,x.cps[i]?=some c/\v=.str ⟨#[c]⟩,fun i _=>x.cps.size<=i⟩
section
variable{X:Cx}{tg:Expr}
theorem QBk{P:Program}{w:World}{K:PySem.W.Frag}{tg:Expr}{x:Str}{ty:String}{t:Tok}(it:Addr)(hn:["enumerate","zip","dict_itemiterator","dict_reverseitemiterator","odict_iterator","itertools.zip_longest","itertools.pairwise"].contains ty=false)
 (hs:∀(A:Around)(i:Nat)(s:Shared)(Q:Value->Shared->Prop)(E:Value->Shared->Prop),s.heap.IsStrIter it ty x t i->Q (.ref it) s->wpAny (model P w) A (pyIter (.ref it)) Q E s)
 (W:∀ A':Around,A'.handled=none->Walks P w A' it [it] [it] x.cps.size (SignAt x) (fun i h=>h.IsStrIter it ty x t i)):Turn P w K tg (Its x) [it] it (fun i h=>h.IsStrIter it ty x t i/\i<=x.cps.size) where
 mem:=by simp
 obj:=fun i h st b hb=>by
  have e:b=it:=by simpa using hb
  subst e
  obtain⟨⟨o,e,c,d⟩,_⟩:=st
  exact⟨o,e,fun v z=>by rw[d]at z;cases z⟩
 keep:=fun i h h' st k=>⟨by obtain⟨⟨o,e,c,d⟩,_⟩:=st;exact⟨o,k it (by simp) o e,c,d⟩,st.2⟩
 item:=by
  intro X hP hw hK hc i pins s σ H E I hf st hg
  subst hP hw hK
  obtain⟨f0,f1,f2,f3,f4,f5⟩:=hf it (by simp)
  refine(W X.A (I.ok.hd hc)).item i s _ _ hg st.1 fun v h' tk hv st' kk=>?_
  obtain⟨c,u,hcx,rfl⟩:=hv
  have I1:Inv X pins σ H { s with heap:=h',toks:=tk }:=I.turned (fun b o hb e=>kk b o (by simpa using hb) e) f0 f1 f3 f4 f5
  obtain⟨o,e,c',d⟩:=id st'
  exact⟨_,rfl,go_of (s:={ s with heap:=h',toks:=tk }) e c' d hn ⟨.str ⟨#[c]⟩,H,I1,⟨u,rfl⟩,⟨rfl,c,hcx,rfl⟩,⟨st',hg⟩,fun b hb=>(hf b hb).1⟩⟩
 done:=by
  intro X hP hw hK hc i pins s σ H E I hf st hg
  subst hP hw hK
  obtain⟨f0,f1,f2,f3,f4,f5⟩:=hf it (by simp)
  have hg':x.cps.size<=i:=hg
  have e:i=x.cps.size:=Nat.le_antisymm st.2 hg'
  subst e
  exact(W X.A (I.ok.hd hc)).done s _ _ st.1 fun h' tk kk=>⟨rfl,I.turned (fun b o hb e=>kk b o (by simpa using hb) e) f0 f1 f3 f4 f5⟩
 self:=fun A i s Q E st h=>hs A i s Q E st.1 h
def iStr(tl:TE):TI:=fun σ H R=>tl σ H fun x H1=>∃ z,x=.str z/\R (Its z) H1
theorem QQC{l:Expr}{tl:TE}(hl:PE X l tl):PI X tg l (iStr tl):=by
 intro pins s σ H R I h
 refine thn (hl pins s σ H _ I h) fun v s1 ⟨x,H1,I1,r1,q1⟩=>?_
 obtain⟨z,e,q⟩:=q1
 subst e
 obtain⟨t,rfl⟩:=r1
 cases ha:z.cps.all (· < 128)
 ·refine wpAny_pyIter_wide ha ⟨s1.heap.objs.size,[s1.heap.objs.size],_,_,H1,rfl,I1.kept (t':=s1.toks) fun b o e=>Heap.get?_push_of_some _ e,QBk (x:=z) (ty:="str_iterator") (t:=t) _ (by decide) (fun _ _ _ _ _ st h=>wpAny_pyIter_striter_wide st h) (fun A' hA=>Walks.strWide hA _ z t),⟨⟨_,Heap.get?_push_size _ rfl,rfl,rfl⟩,Nat.zero_le _⟩,fun b hb=>?_,q⟩
  have e:b=s1.heap.objs.size:=by simpa using hb
  subst e
  exact I1.fpOk (Nat.le_refl _) (I1.hok.fresh (Nat.le_refl _))
 ·refine wpAny_pyIter_ascii ha ⟨s1.heap.objs.size,[s1.heap.objs.size],_,_,H1,rfl,I1.kept (t':=s1.toks) fun b o e=>Heap.get?_push_of_some _ e,QBk (x:=z) (ty:="str_ascii_iterator") (t:=t) _ (by decide) (fun _ _ _ _ _ st h=>wpAny_pyIter_striter_ascii st h) (fun A' hA=>Walks.strAscii hA _ z t),⟨⟨_,Heap.get?_push_size _ rfl,rfl,rfl⟩,Nat.zero_le _⟩,fun b hb=>?_,q⟩
  have e:b=s1.heap.objs.size:=by simpa using hb
  subst e
  exact I1.fpOk (Nat.le_refl _) (I1.hok.fresh (Nat.le_refl _))
theorem QL4(bs:List Bool):(List.range bs.length).all (fun i=>(bs[i]?).getD false)=bs.all id:=by
 rw[Bool.eq_iff_iff,List.all_eq_true,List.all_eq_true]
 constructor
 ·intro h b hb
  obtain⟨i,hi,e⟩:=List.mem_iff_getElem.mp hb
  have:=h i (List.mem_range.mpr hi)
  rw[List.getElem?_eq_getElem hi,Option.getD_some,e]at this
  exact this
 ·intro h i hi
  have hi':=List.mem_range.mp hi
  rw[List.getElem?_eq_getElem hi',Option.getD_some]
  exact h _ (List.getElem_mem hi')
theorem QM9(bs:List Bool):(List.range bs.length).any (fun i=>(bs[i]?).getD false)=bs.any id:=by
 rw[Bool.eq_iff_iff,List.any_eq_true,List.any_eq_true]
 constructor
 ·rintro ⟨i,hi,h⟩
  have hi':=List.mem_range.mp hi
  rw[List.getElem?_eq_getElem hi',Option.getD_some]at h
  exact⟨_,List.getElem_mem hi',h⟩
 ·rintro ⟨b,hb,h⟩
  obtain⟨i,hi,e⟩:=List.mem_iff_getElem.mp hb
  exact⟨i,List.mem_range.mpr hi,by rw[List.getElem?_eq_getElem hi,Option.getD_some,e];exact h⟩
theorem QLY(hc:X.calm=true):CallR X (.builtin "all") (fun xs H Q=>∃(p:Addr)(bs:List Bool),xs=[.ref p]/\SqL X.K H p (bs.map V.bl)/\Q (.bl (bs.all id)) H):=by
 intro pins s σ H xs us Q I r h
 obtain⟨p,bs,rfl,hq,q⟩:=h
 obtain⟨u,rfl,rx⟩:=vals1 r
 cases rx
 obtain⟨its,rv,pl,hz⟩:=I.list hq
 have hlen:=rv.length
 refine call_all_walk ?_
 refine wpAny_pyIter_list pl.isList ?_
 have hp:p<s.heap.objs.size:=by obtain⟨o,n,ho,_⟩:=pl;exact Heap.lt_size ho
 have hne:p≠s.heap.objs.size:=Nat.ne_of_lt hp
 refine⟨_,_,_,_,_,_,fun i=>(bs[i]?).getD false,rfl,Walks.list (A:=X.A.in1) (I.ok.hd hc) _ p hne its.toArray,⟨⟨_,Heap.get?_push_size _ rfl,rfl,rfl⟩,pl.isList.at fun o e=>Heap.get?_push_of_some _ e⟩,?_,fun h' tk kk=>⟨.bl (bs.all id),H,?_,?_,q⟩⟩
 ·intro i v s2 Q2 E2 hv hQ2
  have hv':its[i]?=some v:=by simpa using hv
  have hi:i<bs.length:=by
   have:=(List.getElem?_eq_some_iff.mp hv').1
   rw[List.length_map]at hlen
   omega
  obtain⟨y,hy,ry⟩:=rv.get (i:=i) (x:=.bl bs[i]) (by rw[List.getElem?_map,List.getElem?_eq_getElem hi];rfl)
  rw[hv']at hy
  cases hy
  cases ry
  have hQ2:Q2 ((bs[i]?).getD false) s2:=hQ2
  rw[List.getElem?_eq_getElem hi,Option.getD_some]at hQ2
  exact wpAny_pure hQ2
 ·exact I.kept fun b o e=>kk b o (by
   intro hb
   have e2:b=s.heap.objs.size:=by simpa using hb
   subst e2
   exact absurd (Heap.lt_size e) (Nat.lt_irrefl _)) (Heap.get?_push_of_some _ e)
 ·rw[List.size_toArray, ← hlen,List.length_map,QL4];exact rfl
theorem QMH(hc:X.calm=true):CallR X (.builtin "any") (fun xs H Q=>∃(p:Addr)(bs:List Bool),xs=[.ref p]/\SqL X.K H p (bs.map V.bl)/\Q (.bl (bs.any id)) H):=by
 intro pins s σ H xs us Q I r h
 obtain⟨p,bs,rfl,hq,q⟩:=h
 obtain⟨u,rfl,rx⟩:=vals1 r
 cases rx
 obtain⟨its,rv,pl,hz⟩:=I.list hq
 have hlen:=rv.length
 refine call_any_walk ?_
 refine wpAny_pyIter_list pl.isList ?_
 have hp:p<s.heap.objs.size:=by obtain⟨o,n,ho,_⟩:=pl;exact Heap.lt_size ho
 have hne:p≠s.heap.objs.size:=Nat.ne_of_lt hp
 refine⟨_,_,_,_,_,_,fun i=>(bs[i]?).getD false,rfl,Walks.list (A:=X.A.in1) (I.ok.hd hc) _ p hne its.toArray,⟨⟨_,Heap.get?_push_size _ rfl,rfl,rfl⟩,pl.isList.at fun o e=>Heap.get?_push_of_some _ e⟩,?_,fun h' tk kk=>⟨.bl (bs.any id),H,?_,?_,q⟩⟩
 ·intro i v s2 Q2 E2 hv hQ2
  have hv':its[i]?=some v:=by simpa using hv
  have hi:i<bs.length:=by
   have:=(List.getElem?_eq_some_iff.mp hv').1
   rw[List.length_map]at hlen
   omega
  obtain⟨y,hy,ry⟩:=rv.get (i:=i) (x:=.bl bs[i]) (by rw[List.getElem?_map,List.getElem?_eq_getElem hi];rfl)
  rw[hv']at hy
  cases hy
  cases ry
  have hQ2:Q2 ((bs[i]?).getD false) s2:=hQ2
  rw[List.getElem?_eq_getElem hi,Option.getD_some]at hQ2
  exact wpAny_pure hQ2
 ·exact I.kept fun b o e=>kk b o (by
   intro hb
   have e2:b=s.heap.objs.size:=by simpa using hb
   subst e2
   exact absurd (Heap.lt_size e) (Nat.lt_irrefl _)) (Heap.get?_push_of_some _ e)
 ·rw[List.size_toArray, ← hlen,List.length_map,QM9];exact rfl
end
end L2
namespace DL
open PySem PySem.Spec PyProof.Rows L2
def signs(z:Str):List D:=z.cps.toList.map fun c=>D.str ⟨#[c]⟩
def itS(E:SD->Out D):SD->Out (List D):=fun ς=>E ς>>=fun d=>match d with | .str z=>.ok (signs z) | _=>.stuck
section
variable{C:Dc}{e tg iter a b:Expr}{E A B:SD->Out D}{pos p:Pos}{es:List Expr}{AA:SD->Out (List D)}
theorem QPe{K:PySem.W.Frag}{CT:CTab}{G1:Hp}{z:Str}:DIt K CT G1 (Its z) (signs z) where
 go:=fun G H i d s1 sH hd=>by
  unfold signs at hd
  rw[List.getElem?_map]at hd
  cases hc:z.cps.toList[i]? with
  | none=>rw[hc]at hd;cases hd
  | some c=>
   rw[hc]at hd
   cases hd
   have hi:i<z.cps.size:=by
    have:=(List.getElem?_eq_some_iff.mp hc).1
    simpa using this
   refine⟨hi,fun x H' ⟨e,c',h1,h2⟩=>?_⟩
   subst e h2
   have h1':z.cps.toList[i]?=some c':=by simpa using h1
   rw[hc]at h1'
   cases h1'
   exact⟨G,Same.refl _,Same.refl _,sH,fun b g n=>absurd g n,rfl⟩
 stop:=fun G H s1 sH=>by
  unfold signs
  show z.cps.size<=_
  rw[List.length_map];simp
theorem QRl(h:DB C iter E):DI C tg iter (itS E):=by
 obtain⟨t,p,q⟩:=h
 refine⟨_,QQC p,fun G H σ ς R S k=>?_⟩
 unfold itS at k
 rw[Out.post_bind]at k
 refine q G H σ ς _ S (Out.post_mono k fun d k v H1 G1 S1 a1 b1 r1=>?_)
 cases d with
 | str z=>cases r1;exact⟨z,rfl,k _ H1 G1 S1 a1 b1 QPe⟩
 | _=>exact k.elim
def dIn:D->D->Out D
 | .str x,.str y=>.ok (.bl (!(Builtin.Str.occurrences y x 0 y.length 1).isEmpty))
 | _,_=>.stuck
theorem QRI:DRS C (fun x y H Q=>∃ i j,x=.str i/\y=.str j/\Q (.bl (!(Builtin.Str.occurrences j i 0 j.length 1).isEmpty)) H) dIn:=by
 intro G H σ ς Q x y vx vy S hx hy q
 cases x with
 | str x=>
  cases y with
  | str y=>cases hx;cases hy;exact⟨x,y,rfl,rfl,q.2⟩
  | _=>exact q.elim
 | _=>cases y<;>exact q.elim
theorem QPr:scal2 dIn:=fun x y=>by cases x<;>cases y<;>first | exact rfl | exact True.intro
theorem de_in(ha:DB C a A)(hb:DB C b B)(hm:behindInMarks .In b=false:=by rfl):DE C (.Compare a [.In] [b] pos) (e2 dIn A B):=QFQ QNf QRI QPr ha hb hm
def blsOf:List D->Option (List Bool)
 | []=>some []
 | .bl b::r=>(blsOf r).map (b :: ·)
 | _::_=>none
theorem QtT{K:PySem.W.Frag}{CT:CTab}{H:Hp}:∀{ds:List D}{bs:List Bool}{vs:List V},blsOf ds=some bs->RepL K CT H ds vs->vs=bs.map V.bl
 | [],bs,vs,h,r=>by cases h;exact r
 | d::ds,bs,vs,h,⟨v,w,h1,h2,h3⟩=>by
  cases d with
  | bl b=>
   cases e:blsOf ds with
   | none=>rw[blsOf,e]at h;cases h
   | some cs=>
    rw[blsOf,e]at h
    cases h
    cases h2
    rw[h1,QtT e h3];rfl
  | _=>cases h
def fAll:D->Out D
 | .lst xs=>match blsOf xs with | some bs=>.ok (.bl (bs.all id)) | none=>.stuck
 | _=>.stuck
def fAny:D->Out D
 | .lst xs=>match blsOf xs with | some bs=>.ok (.bl (bs.any id)) | none=>.stuck
 | _=>.stuck
theorem Qke(hc:C.X.calm=true)(hg:Gl C.X "all")(hm:C.X.mg "all"=none)(ha:DAB C (e::es) AA)
 (he:starEach (e::es) C.X.env=(false,eval e C.X.env)::starEach es C.X.env:=by rfl) (hpl:(backTo pos (starEach es C.X.env)).any (·.1)=false:=by rfl):DE C (.Call (.Name "all" p) (e::es) [] pos) (eA (f1 fAll) AA):=by
 refine Qmm (QLY hc) (Qtz ?_) (Qqm ?_) hg hm PyProof.Rows.Boot.«all» ha (by decide) (by decide) he hpl
 ·intro G H σ ς Q x v S r q
  cases x with
  | lst xs=>
   cases eb:blsOf xs with
   | none=>rw[fAll,eb]at q;exact q.elim
   | some bs=>
    rw[fAll,eb]at q
    obtain⟨a,vs,rfl,h2,h3⟩:=r
    rw[QtT eb h3]at h2
    exact⟨a,bs,rfl,h2,q.2⟩
  | _=>exact q.elim
 ·intro x
  cases x with
  | lst xs=>
   rw[fAll]
   cases blsOf xs with
   | none=>exact True.intro
   | some bs=>exact rfl
  | _=>exact True.intro
theorem QRT(hc:C.X.calm=true)(hg:Gl C.X "any")(hm:C.X.mg "any"=none)(ha:DAB C (e::es) AA)
 (he:starEach (e::es) C.X.env=(false,eval e C.X.env)::starEach es C.X.env:=by rfl) (hpl:(backTo pos (starEach es C.X.env)).any (·.1)=false:=by rfl):DE C (.Call (.Name "any" p) (e::es) [] pos) (eA (f1 fAny) AA):=by
 refine Qmm (QMH hc) (Qtz ?_) (Qqm ?_) hg hm PyProof.Rows.Boot.«any» ha (by decide) (by decide) he hpl
 ·intro G H σ ς Q x v S r q
  cases x with
  | lst xs=>
   cases eb:blsOf xs with
   | none=>rw[fAny,eb]at q;exact q.elim
   | some bs=>
    rw[fAny,eb]at q
    obtain⟨a,vs,rfl,h2,h3⟩:=r
    rw[QtT eb h3]at h2
    exact⟨a,bs,rfl,h2,q.2⟩
  | _=>exact q.elim
 ·intro x
  cases x with
  | lst xs=>
   rw[fAny]
   cases blsOf xs with
   | none=>exact True.intro
   | some bs=>exact rfl
  | _=>exact True.intro
theorem QN8{X:Cx}:PE X (.Dict [] [] pos) (fun _ H Q=>∀ p,H p=none->Q (.ref p) (upd H p (.dK []))):=fun pins s σ H Q I h=>by
 have hb:sysModules<s.heap.objs.size:=Nat.lt_trans (by decide) (show mainGlobals<s.heap.objs.size from(I.mod.glob.keeps I.bk).lt)
 exact wpAny_Dict_empty ⟨.ref s.heap.objs.size,_,I.laid (a:=s.heap.objs.size) (o:=.dK []) (t':=s.toks) (fun _ _ q=>Heap.get?_push_of_some _ q) (Nat.le_refl _)
  ⟨Nat.zero_le _,beq_eq_false_iff_ne.mpr (Ne.symm (Nat.ne_of_lt hb)),[],.nil,Heap.DictOf.new s.heap⟩,rfl,h _ (I.hok.fresh (Nat.le_refl _))⟩
def eDic0:SD->Out D:=fun _=>.ok (.dic [])
theorem QP6:DF C (.Dict [] [] pos) eDic0:=⟨_,QN8,fun G H σ ς Q S q p hp=>by
 have q:KF C G H σ ς Q (.dic []):=q
 exact q p _ G (S.allocO hp) (QE hp) (Same.refl _) hp (S.gnone hp) ⟨[],QS,rfl⟩⟩
end
end DL
namespace DL
open PySem PySem.Spec PyProof.Rows L2
def ctOf(K:PySem.W.Frag):CTab:=fun c=>match PySem.W.nsIn K mainGlobals c with | some (some (.ref a))=>some a | _=>none
theorem ct_of{K:PySem.W.Frag}{c:Str}{a:Addr}(h:PySem.W.nsIn K mainGlobals c=some (some (.ref a))):ctOf K c=some a:=by unfold ctOf;rw[h]
structure Rz(C:Dc)(E:XK):Prop where
 pass:Qiq (CXR C.X.prog C.X.w) C.X E
 xd:∀ d,C.XD d->∃ c Cc,d=.err c/\C.CT c=some Cc/\∀ H',(∀ b o,C.X.H₀ b=some o->¬ C.M b->H' b=some o)->E (.ref Cc) none H'
 made:∀(Cc:Addr) pins σ H1 s1 ea h' vs,Inv C.X pins σ H1 s1->Heap.MadeExcOf s1.heap h' ea (.ref Cc) vs->E (.ref Cc) none H1->C.X.xe (.ref ea) { s1 with heap:=h' }
 calm:C.X.calm=true
theorem rz0{C:Dc}(hx:∀ d,¬ C.XD d:=by exact fun _ h=>h)(hc:C.X.calm=true:=by rfl):Rz C E0 where
 pass:=fun pins σ H s e s' I h=>by obtain⟨_,_,_,_,_,_,_,z⟩:=h;exact z.elim
 xd:=fun d h=>absurd h (hx d)
 made:=fun Cc pins σ H1 s1 ea h' vs I hx hE=>hE.elim
 calm:=hc
abbrev Dc.nox(C:Dc):Dc:={ C with X:=C.X.nox,XD:=fun _=>False }
def noX{α:Type}:Out α->Out α
 | .exc _=>.stuck
 | o=>o
theorem QRX{α:Type}(a:α):noX (.ok a)=.ok a:=rfl
theorem QEB{α:Type}{o:Out α}{k:α->Prop}{x:D->Prop}(h:(noX o).post k x):o.post k (fun _=>False):=by cases o<;>exact h
section
variable{C:Dc}{G H:Hp}{σ:St}{ς:SD}{e:Expr}{es:List Expr}{st:Stmt}{sts:List Stmt}
theorem GH.nox(S:GH C G H):GH C.nox G H:=⟨S.sub,S.g0,S.new,S.fr,S.dom,S.bs,S.bh⟩
theorem GH.unnox(S:GH C.nox G H):GH C G H:=⟨S.sub,S.g0,S.new,S.fr,S.dom,S.bs,S.bh⟩
theorem StR.nox(S:StR C G H σ ς):StR C.nox G H σ ς:=⟨S.toGH.nox,S.len,S.fz,S.ow,S.ln,S.inj,S.sf,S.su⟩
theorem StR.unnox(S:StR C.nox G H σ ς):StR C G H σ ς:=⟨S.toGH.unnox,S.len,S.fz,S.ow,S.ln,S.inj,S.sf,S.su⟩
theorem PA.nox'{X:Cx}{t:TA}(h:PA X.nox es t):PA X es t:=fun pos pins s σ H Q I q=>PA.nox h I q
theorem DA.lift{A:SD->Out (List D)}(h:DA C.nox es A):DA C es (fun ς=>noX (A ς)):=by
 obtain⟨t,p,q⟩:=h
 exact⟨t,PA.nox' p,fun G H σ ς Q S k=>q G H σ ς Q S.nox (Out.post_mono (QEB k) fun d kd v H' G' S' a b r=>kd v H' G' S'.unnox a b r)⟩
theorem FlK.nox{W:Ends}{f:Fl}(h:FlK C G W f):FlK C.nox G W f:=by
 cases f with
 | nx ς=>exact fun σ' H' G' S q=>h σ' H' G' S.unnox q
 | bk ς=>exact fun σ' H' G' S q=>h σ' H' G' S.unnox q
 | ct ς=>exact fun σ' H' G' S q=>h σ' H' G' S.unnox q
 | rt b d=>exact fun v H' G' S q r=>h v H' G' S.unnox q r
theorem PS.nox'{X:Cx}{t:TS}(h:PS X.nox st t):PS X st t:=fun pins s σ H D I hw=>
 wpAny_mono (h pins s σ H D (I.wish _) hw) (fun _ _ q=>q.unwish) fun _ _ z=>False.elim z
theorem DS.lift{T:SD->Out Fl}(h:DS C.nox st T):DS C st (fun ς=>noX (T ς)):=by
 obtain⟨t,p,q⟩:=h
 exact⟨t,PS.nox' p,fun G H σ ς W S k=>q G H σ ς W S.nox (Out.post_mono (QEB k) fun f kf=>kf.nox)⟩
variable{x:Str}{k:Nat}{fr:Bool}{dd:List D}{m:List D->Out D}{A:SD->Out (List D)}{p pos:Pos}{E:XK}
end
end DL
namespace DL
open PySem PySem.Spec PyProof.Rows L2
inductive FX where
 | fl (f:Fl) | ex (c:Str) (ς:SD)
inductive EX where
 | v (d:D) | ex (c:Str)
section
variable{C:Dc}{x:Str}{k:Nat}{fr:Bool}{dd:List D}{m:List D->Out D}{e:Expr}{es:List Expr}{A:SD->Out (List D)}{p pos:Pos}
variable{T U:SD->Out FX}{TE:SD->Out EX}{st:Stmt}{sts rest:List Stmt}{i:Nat}{px:Pos}
section
variable{G H:Hp}{σ:St}{ς:SD}{ea:Addr}
end
end
end DL
namespace L2
open PySem PySem.Spec PyProof.Rows
end L2
namespace DL
open PySem PySem.Spec PyProof.Rows L2
section
variable{C:Dc}{pos p:Pos}{e cx:Expr}{E:SD->Out D}
end
end DL
namespace L2
open PySem PySem.Spec PyProof.Rows
def Itz(K:PySem.W.Frag)(a b:Addr):It:=
 ⟨fun i H=>∃ xs ys x y,SqL K H a xs/\SqL K H b ys/\xs[i]?=some x/\ys[i]?=some y,
  fun i H v H'=>∃ p x y,H p=none/\v=.ref p/\H'=upd H p (.tup [x,y])/\(∀ xs,SqL K H a xs->xs[i]?=some x)/\∀ ys,SqL K H b ys->ys[i]?=some y,
  fun i H=>∃ xs ys,SqL K H a xs/\SqL K H b ys/\(xs.length<=i∨ys.length<=i)⟩
theorem QNC{P:Program}{w:World}{K:PySem.W.Frag}{elts:List Expr}{k1:Nat}{pos:Pos}{z TI TO i1 i2 l1 l2:Addr}(D:ZipApart z TI TO i1 i2 l1 l2):
 Turn P w K (.Tuple elts k1 pos) (Itz K l1 l2) [z,TI,TO,i1,i2] z (fun i h=>IsZip h z TI TO .none/\IsPair h TI (.ref i1) (.ref i2)/\(∃ a b,IsPair h TO a b)/\h.IsListIter i1 l1 i/\h.IsListIter i2 l2 i) where
 mem:=by simp
 obj:=fun i h st b hb=>by
  obtain⟨s1,s2,⟨_,_,s3⟩,⟨o4,e4,c4,d4⟩,⟨o5,e5,c5,d5⟩⟩:=st
  simp only[List.mem_cons,List.not_mem_nil,or_false]at hb
  rcases hb with rfl | rfl | rfl | rfl | rfl
  ·exact⟨_,s1,fun v q=>by cases q⟩
  ·exact⟨_,s2,fun v q=>by cases q⟩
  ·exact⟨_,s3,fun v q=>by cases q⟩
  ·exact⟨_,e4,fun v q=>by rw[d4]at q;cases q⟩
  ·exact⟨_,e5,fun v q=>by rw[d5]at q;cases q⟩
 keep:=fun i h h' st k=>by
  obtain⟨s1,s2,⟨a,b,s3⟩,s4,s5⟩:=st
  exact⟨k z (by simp) _ s1,k TI (by simp) _ s2,⟨a,b,k TO (by simp) _ s3⟩,s4.at fun o e=>k i1 (by simp) o e,s5.at fun o e=>k i2 (by simp) o e⟩
 item:=by
  intro X hP hw hK hc i pins s σ H E I hf st hg
  subst hP hw hK
  obtain⟨xs,ys,x,y,q1,q2,hx,hy⟩:=hg
  obtain⟨its1,rv1,p1,hz1⟩:=I.list q1
  obtain⟨its2,rv2,p2,hz2⟩:=I.list q2
  obtain⟨u1,hu1,ru1⟩:=rv1.get hx
  obtain⟨u2,hu2,ru2⟩:=rv2.get hy
  obtain⟨s1,s2,⟨a,b,s3⟩,s4,s5⟩:=st
  refine wpAny_pyNext_zip_item D s1 s2 s3 s4 s5 p1.isList p2.isList (x:=u1) (y:=u2) (by simpa using hu1) (by simpa using hu2) fun h' a1 a2 a3 a4 a5 a6 hk=>?_
  have hT:H s.heap.objs.size=none:=I.hok.fresh (Nat.le_refl _)
  have fp:∀ c∈[z,TO,i1,i2],FpOk X pins H c:=fun c hc=>hf c (by
   simp only[List.mem_cons,List.not_mem_nil,or_false]at hc ⊢
   rcases hc with rfl | rfl | rfl | rfl<;>simp)
  have out:∀ c,c∉[z,TO,i1,i2]->∀ o,s.heap.get? c=some o->h'.get? c=some o:=fun c hc o e=>hk c o (fun q=>hc (by simp[q])) (fun q=>hc (by simp[q])) (fun q=>hc (by simp[q])) (fun q=>hc (by simp[q])) e
  have trk:∀ c o,H c=some o->c∉[z,TO,i1,i2]:=fun c o e hc=>by rw[(fp c hc).1]at e;cases e
  have hok:HOk X.prog X.w (upd H s.heap.objs.size (.tup [x,y])) h':=fun c o e=>by
   by_cases hcT:c=s.heap.objs.size
   ·subst hcT
    rw[QS]at e
    cases e
    exact⟨by show 2<=sizeLine;decide,[u1,u2],.cons ru1 (.cons ru2 .nil),⟨_,a5,rfl,_,rfl⟩⟩
   ·rw[Qk hcT]at e
    refine(I.hok c o e).stay (fun b u hb q=>out b ?_ u q) (fun b q=>?_) fun b ts q=>?_
    ·rcases hb with rfl | hb
     ·exact trk b _ e
     ·exact trk b _ hb
    ·rw[Qk (QZ q hT)];exact q
    ·rw[Qk (QZ q hT)];exact q
  have I1:Inv X pins σ (upd H s.heap.objs.size (.tup [x,y])) { s with heap:=h',gens:=s.gens,drawn:=s.drawn,toks:=s.toks }:=I.step (ch:=[z,TO,i1,i2])
   (fun c hc=>⟨(fp c hc).2.2.2.1,(fp c hc).2.1,(fp c hc).2.2.2.2.1,(fp c hc).2.2.2.2.2⟩) (fun c o _ _ hc e _=>out c hc o e) (fun c o _ _ hc e _=>⟨o.slots,out c hc o e⟩)
   (fun c o hc e n=>by rw[Qk (Nat.ne_of_lt (Heap.lt_size e))];exact n) (fun c o hc e=>⟨o,out c hc o e⟩)
   (fun c ts e=>by rw[Qk (QZ e hT)];exact e) (fun c o u e=>by rw[Qk (QZ e hT)];exact e) (fun c ts e=>⟨#[],by rw[Qk (QZ e hT),e];simp⟩)
   (fun m hm=>by
    obtain⟨o,es,ep,ho,r⟩:=hm
    exact⟨o,es,ep,out _ (fun hc=>(fp _ hc).2.1 rfl) o ho,r⟩) hok I.bare
  have lt:∀{c o},s.heap.get? c=some o->s.heap.objs.size≠c:=fun e=>Nat.ne_of_gt (Heap.lt_size e)
  refine⟨_,rfl,wpAny_letOwnedTupleGo_zip a1 fun h2 hz2 hs2=>?_⟩
  obtain⟨z0,z1,z2,z3,z4,z5⟩:=hf z (by simp)
  have I2:Inv X pins σ (upd H s.heap.objs.size (.tup [x,y])) { s with heap:=h2 }:=Inv.turned (s:={ s with heap:=h',gens:=s.gens,drawn:=s.drawn,toks:=s.toks }) (t':=s.toks) (it:=z) I1 (fun b o hb e=>(hs2.2 b hb).trans e) (by rw[Qk (lt s1).symm];exact z0) z1 z3 z4 z5
  refine⟨.ref s.heap.objs.size,_,I2,rfl,⟨_,x,y,hT,rfl,rfl,fun xs' q'=>by rw[I.list_inj q' q1];exact hx,fun ys' q'=>by rw[I.list_inj q' q2];exact hy⟩,
   ⟨hz2,hs2.extBut _ _ D.TIz (out TI (by simp[D.TIz,D.TITO,D.TIi1,D.TIi2]) _ s2),⟨_,_,hs2.extBut _ _ D.TOz a2⟩,a3.extBut hs2.extBut D.i1z,a4.extBut hs2.extBut D.i2z⟩,fun c hc=>?_⟩
  have:H c=none:=(hf c hc).1
  obtain⟨oc,hoc⟩:∃ o,s.heap.get? c=some o:=by
   simp only[List.mem_cons,List.not_mem_nil,or_false]at hc
   rcases hc with rfl | rfl | rfl | rfl | rfl
   ·exact⟨_,s1⟩
   ·exact⟨_,s2⟩
   ·exact⟨_,s3⟩
   ·obtain⟨o,e,_⟩:=s4;exact⟨o,e⟩
   ·obtain⟨o,e,_⟩:=s5;exact⟨o,e⟩
  rw[Qk (lt hoc).symm];exact this
 done:=by
  intro X hP hw hK hc i pins s σ H E I hf st hg
  subst hP hw hK
  obtain⟨xs,ys,q1,q2,hend⟩:=hg
  obtain⟨its1,rv1,p1,hz1⟩:=I.list q1
  obtain⟨its2,rv2,p2,hz2⟩:=I.list q2
  have l1:=rv1.length
  have l2:=rv2.length
  obtain⟨s1,s2,⟨a,b,s3⟩,s4,s5⟩:=st
  have fp:∀ c∈[z,TO,i1,i2],FpOk X pins H c:=fun c hc=>hf c (by
   simp only[List.mem_cons,List.not_mem_nil,or_false]at hc ⊢
   rcases hc with rfl | rfl | rfl | rfl<;>simp)
  refine wpAny_pyNext_zip_end (I.ok.hd hc) D s1 s2 s3 s4 s5 p1.isList p2.isList (by simp;omega) fun h' hk=>⟨rfl,?_⟩
  have out:∀ c,c∉[z,TO,i1,i2]->∀ o,s.heap.get? c=some o->h'.get? c=some o:=fun c hc o e=>hk c o (fun q=>hc (by simp[q])) (fun q=>hc (by simp[q])) (fun q=>hc (by simp[q])) (fun q=>hc (by simp[q])) e
  have trk:∀ c o,H c=some o->c∉[z,TO,i1,i2]:=fun c o e hc=>by rw[(fp c hc).1]at e;cases e
  exact I.step (g':=s.gens) (d':=s.drawn) (t':=s.toks) (ch:=[z,TO,i1,i2]) (fun c hc=>⟨(fp c hc).2.2.2.1,(fp c hc).2.1,(fp c hc).2.2.2.2.1,(fp c hc).2.2.2.2.2⟩) (fun c o _ _ hc e _=>out c hc o e) (fun c o _ _ hc e _=>⟨o.slots,out c hc o e⟩)
   (fun c o hc e n=>n) (fun c o hc e=>⟨o,out c hc o e⟩) (fun c ts e=>e) (fun c o u e=>e) (fun c ts e=>⟨#[],by rw[e];simp⟩)
   (fun m hm=>by
    obtain⟨o,es,ep,ho,r⟩:=hm
    exact⟨o,es,ep,out _ (fun hc=>(fp _ hc).2.1 rfl) o ho,r⟩)
   (fun c o e=>(I.hok c o e).stay (fun b u hb q=>out b (by
    rcases hb with rfl | hb
    ·exact trk b _ e
    ·exact trk b _ hb) u q) (fun b q=>q) fun b ts q=>q) I.bare
 self:=fun _ _ _ _ _ st h=>wpAny_pyIter_zip st.1 h
section
variable{X:Cx}
theorem QLU(n l1 l2:Nat)(h1:l1<n)(h2:l2<n):ZipApart (n+4) (n+2) (n+3) n (n+1) l1 l2:=⟨(show ¬ ((n+2:Nat)=n+4) by omega),(show ¬ ((n+3:Nat)=n+4) by omega),(show ¬ ((n:Nat)=n+4) by omega),(show ¬ ((n+1:Nat)=n+4) by omega),(show ¬ ((n+2:Nat)=n+3) by omega),(show ¬ ((n+2:Nat)=n) by omega),(show ¬ ((n+2:Nat)=n+1) by omega),(show ¬ ((n+3:Nat)=n) by omega),(show ¬ ((n+3:Nat)=n+1) by omega),(show ¬ ((n:Nat)=n+1) by omega),(show ¬ ((l1:Nat)=n+4) by omega),(show ¬ ((l1:Nat)=n+3) by omega),(show ¬ ((l1:Nat)=n) by omega),(show ¬ ((l1:Nat)=n+1) by omega),(show ¬ ((l2:Nat)=n+4) by omega),(show ¬ ((l2:Nat)=n+3) by omega),(show ¬ ((l2:Nat)=n) by omega),(show ¬ ((l2:Nat)=n+1) by omega)⟩
def iZip(K:PySem.W.Frag)(ta:TA):TI:=fun σ H R=>ta σ H fun vs H1=>∃ a b,vs=[.ref a,.ref b]/\(∃ xs,SqL K H1 a xs)/\(∃ ys,SqL K H1 b ys)/\R (Itz K a b) H1
theorem QQx{elts:List Expr}{k1:Nat}{tpos:Pos}{a b:Expr}{ta:TA}{p pos:Pos}(hg:Gl X "zip")(hm:X.mg "zip"=none)(ha:PA X [a,b] ta)(hs:starEach [a,b] X.env=[(false,eval a X.env),(false,eval b X.env)]:=by rfl)(hs2:starEach [b] X.env=[(false,eval b X.env)]:=by rfl):
 PI X (.Tuple elts k1 tpos) (.Call (.Name "zip" p) [a,b] [] pos) (iZip X.K ta):=by
 intro pins s σ H R I h
 refine Call_ (Qks I hg hm PyProof.Rows.Boot.«zip» (PyProof.Rows.callWith_type1 (thn (ha pos pins s σ H _ I h) fun us s1 ⟨vs,H1,I1,r1,q1⟩=>?_) (by rw[hs,hs2]) (by rw[hs2];rfl)))
 obtain⟨l1,l2,e,⟨xs,hx⟩,⟨ys,hy⟩,q⟩:=q1
 subst e
 cases r1 with
 | cons r rr=>
  cases rr with
  | cons r' rr=>
   cases rr
   cases r
   cases r'
   obtain⟨its1,rv1,p1,hz1⟩:=I1.list hx
   obtain⟨its2,rv2,p2,hz2⟩:=I1.list hy
   have n1:l1<s1.heap.objs.size:=by obtain⟨o,n,ho,_⟩:=p1;exact Heap.lt_size ho
   have n2:l2<s1.heap.objs.size:=by obtain⟨o,n,ho,_⟩:=p2;exact Heap.lt_size ho
   refine call_zip_2 p1.isList p2.isList fun h' c1 c2 c3 c4 c5 c6 hk=>?_
   refine wpAny_pyIter_zip c1 ?_
   refine⟨_,_,_,Itz X.K l1 l2,H1,rfl,I1.kept (t':=s1.toks) fun b o e=>hk b o e,QNC (i1:=s1.heap.objs.size) (i2:=s1.heap.objs.size+1) (TI:=s1.heap.objs.size+2) (TO:=s1.heap.objs.size+3) (z:=s1.heap.objs.size+4) (l1:=l1) (l2:=l2)
    (QLU s1.heap.objs.size l1 l2 n1 n2),⟨c1,c2,⟨_,_,c3⟩,c4,c5⟩,fun b hb=>?_,q⟩
   have hb':s1.heap.objs.size<=b:=by
    simp only[List.mem_cons,List.not_mem_nil,or_false]at hb
    rcases hb with rfl | rfl | rfl | rfl | rfl<;>omega
   exact I1.fpOk hb' (I1.hok.fresh hb')
end
end L2
namespace DL
open PySem PySem.Spec PyProof.Rows L2
def itZ(A B:SD->Out D):SD->Out (List D):=fun ς=>A ς>>=fun x=>B ς>>=fun y=>match x,y with
 | .lst xs,.lst ys=>.ok (List.zipWith (fun a b=>.tup [a,b]) xs ys)
 | _,_=>.stuck
section
variable{C:Dc}{a b:Expr}{A B:SD->Out D}
theorem QPD{K:PySem.W.Frag}{CT:CTab}{G1:Hp}{p q:Addr}{xs ys:List D}{us vs:List V}(h1:SqL K G1 p us)(r1:RepL K CT G1 xs us)(h2:SqL K G1 q vs)(r2:RepL K CT G1 ys vs):DIt K CT G1 (Itz K p q) (List.zipWith (fun a b=>D.tup [a,b]) xs ys) where
 go:=fun G H i d s1 sH hd=>by
  rw[List.getElem?_zipWith]at hd
  cases e1:xs[i]? with
  | none=>rw[e1]at hd;cases hd
  | some x=>
   cases e2:ys[i]? with
   | none=>rw[e1,e2]at hd;cases hd
   | some y=>
    rw[e1,e2]at hd
    cases hd
    obtain⟨u,hu,ru⟩:=r1.get e1
    obtain⟨v,hv,rv⟩:=r2.get e2
    have q1:SqL K H p us:=sH.seq (s1.seq h1)
    have q2:SqL K H q vs:=sH.seq (s1.seq h2)
    refine⟨⟨us,vs,u,v,q1,q2,hu,hv⟩,fun w H' ⟨t,x',y',n,e,e',k1,k2⟩=>?_⟩
    have z1:=k1 us q1
    have z2:=k2 vs q2
    rw[hu]at z1;cases z1
    rw[hv]at z2;cases z2
    subst e e'
    have gn:G t=none:=sH.free n
    refine⟨upd G t (.tup [u,v]),QE gn,QE n,Qum sH,fun b g g'=>?_,t,[u,v],rfl,SqT.of QS,⟨u,_,rfl,Rep.mono (s1.trans (QE gn)) x u ru,v,_,rfl,Rep.mono (s1.trans (QE gn)) y v rv,rfl⟩⟩
    by_cases hb:b=t
    ·subst hb;exact n
    ·rw[Qk hb]at g';exact absurd g g'
 stop:=fun G H s1 sH=>by
  refine⟨us,vs,sH.seq (s1.seq h1),sH.seq (s1.seq h2),?_⟩
  have l1:=r1.length
  have l2:=r2.length
  rw[List.length_zipWith]
  omega
theorem QpX{elts:List Expr}{k1:Nat}{tpos p pos:Pos}(hgl:Gl C.X "zip")(hm:C.X.mg "zip"=none)(ha:DE C a A)(hb:DE C b B)
 (hst:starEach [a,b] C.X.env=(false,eval a C.X.env)::starEach [b] C.X.env:=by rfl) (hst2:starEach [b] C.X.env=(false,eval b C.X.env)::starEach [] C.X.env:=by rfl):DI C (.Tuple elts k1 tpos) (.Call (.Name "zip" p) [a,b] [] pos) (itZ A B):=by
 obtain⟨t0,p0,q0⟩:=ha
 obtain⟨t3,p3,q3⟩:=hb
 refine⟨_,QQx hgl hm (QcY p0 (QcY p3 Qge hst2) hst) (by rw[hst,hst2];rfl) (by rw[hst2];rfl),fun G H σ ς R S k=>?_⟩
 unfold itZ at k
 rw[Out.post_bind]at k
 refine q0 G H σ ς _ S (Out.post_mono k fun d k v H1 G1 S1 a1 b1 r=>?_)
 rw[Out.post_bind]at k
 refine q3 G1 H1 σ ς _ S1 (Out.post_mono k fun d2 k v2 H2 G2 S2 a2 b2 r'=>?_)
 cases d with
 | lst xs=>
  cases d2 with
  | lst ys=>
   obtain⟨p1,us,rfl,h1,r1⟩:=Rep.mono b2 _ v r
   obtain⟨p2,vs,rfl,h2,r2⟩:=r'
   exact⟨p1,p2,rfl,⟨us,S2.sub.seq h1⟩,⟨vs,S2.sub.seq h2⟩,k _ H2 G2 S2 (a1.trans a2) (b1.trans b2) (QPD h1 r1 h2 r2)⟩
  | _=>exact k.elim
 | _=>exact k.elim
end
end DL
namespace DL
open PySem PySem.Spec PyProof.Rows L2
def putD(f:Str)(d:D):List (Str×D)->List (Str×D)
 | []=>[(f,d)]
 | (g,x)::r=>if g=f then(g,d)::r else(g,x)::putD f d r
section
variable{K:PySem.W.Frag}{CT:CTab}{H H':Hp}
theorem RepF.look:∀{fds:List (Str×D)}{fs:List (Str×V)}{f:Str},RepF K CT H fds fs->(∀ d,fds.lookup f=some d->∃ v,fs.lookup f=some v/\Rep K CT H d v)/\(fds.lookup f=none->fs.lookup f=none)
 | [],_,f,h=>by cases h;exact⟨fun d z=>(by cases z),fun _=>rfl⟩
 | (k,d)::fds,_,f,⟨v,r,h1,h2,h3⟩=>by
  subst h1
  have ih:=RepF.look (f:=f) h3
  rw[List.lookup_cons,List.lookup_cons]
  cases f == k with
  | true=>exact⟨fun d' z=>by cases z;exact⟨v,rfl,h2⟩,fun z=>by cases z⟩
  | false=>exact ih
theorem RepF.len:∀{fds:List (Str×D)}{fs:List (Str×V)},RepF K CT H fds fs->fds.length=fs.length
 | [],_,h=>by cases h;rfl
 | (k,d)::fds,_,⟨v,r,h1,h2,h3⟩=>by subst h1;rw[List.length_cons,List.length_cons,RepF.len h3]
theorem RepF.put{f:Str}{d:D}{v:V}(q:Rep K CT H d v):∀{fds:List (Str×D)}{fs:List (Str×V)},RepF K CT H fds fs->RepF K CT H (putD f d fds) (putF f v fs)
 | [],_,h=>by cases h;exact⟨v,[],rfl,q,rfl⟩
 | (k,x)::fds,_,⟨u,r,h1,h2,h3⟩=>by
  subst h1
  unfold putD putF
  by_cases hk:k=f
  ·rw[if_pos hk,if_pos hk];exact⟨v,r,rfl,q,h3⟩
  ·rw[if_neg hk,if_neg hk];exact⟨u,_,rfl,h2,RepF.put q h3⟩
end
def FldOk(K:PySem.W.Frag)(CT:CTab)(cs:List Str)(f:Str):Prop:=∀ c,cs.contains c=true->∀ A,CT c=some A->Cls K A/\Qmu K A f
def dFld(cs:List Str)(f:Str):D->Out D
 | .ins c fs=>if cs.contains c=true then optO (fs.lookup f) else .stuck
 | _=>.stuck
section
variable{C:Dc}{e:Expr}{E:SD->Out D}{f:Str}{cs:List Str}{pos:Pos}
theorem Qp0(hF:FldOk C.X.K C.CT cs f)(h:DE C e E)(hb:attributeBase e f C.X.env (eval e C.X.env)=eval e C.X.env:=by rfl):DE C (.Attribute e f pos) (e1 (dFld cs f) E):=by
 obtain⟨t,p,q⟩:=h
 refine⟨_,QRR p hb,fun G H σ ς Q S k=>?_⟩
 unfold e1 at k
 rw[Out.post_bind]at k
 refine q G H σ ς _ S (Out.post_mono k fun d k v H1 G1 S1 a1 b1 r=>?_)
 cases d with
 | ins c fds=>
  rcases Qaq k with⟨hc,k⟩ | ⟨_,k⟩
  ·obtain⟨d,e1',kd⟩:=QjE k
   obtain⟨a,A,dx,fs,rfl,h1,h2,h3⟩:=r
   obtain⟨v,e2',rv⟩:=(RepF.look h3).1 d e1'
   obtain⟨cl,na⟩:=hF c hc A h1
   exact⟨a,A,dx,fs,v,rfl,S1.sub _ _ h2,cl,na,e2',KD.now (KD.later kd a1 b1) S1 rv⟩
  ·exact k.elim
 | _=>exact k.elim
theorem StR.writeS{G H:Hp}{σ:St}{ς:SD}(S:StR C G H σ ς){i:Nat}{p A dx:Addr}{c:Str}{fds fds':List (Str×D)}{fs':List (Str×V)}(hi:ς[i]?=some (some (.s,.ins c fds)))(hp:σ[i]?=some (some (.ref p)))(hc:C.CT c=some A)(r:RepF C.X.K C.CT G fds' fs'):
 StR C G (upd H p (.ins A dx fs')) σ (ς.set i (some (.s,.ins c fds'))):=by
 obtain⟨p',e1,hg,h0,hM,hB,ow⟩:=S.sf i _ hi
 rw[hp]at e1;cases e1
 have ne:∀ b o,G b=some o->b≠p:=fun b o e z=>by subst z;rw[hg]at e;cases e
 have S':StR C G (upd H p (.ins A dx fs')) (σ.set i (some (.ref p))) (ς.set i (some (.s,.ins c fds'))):={
  sub:=fun b o e=>by rw[Qk (ne b o e)];exact S.sub b o e
  g0:=S.g0
  new:=S.new
  fr:=fun b o e m=>by
   rw[Qk (by rintro rfl;exact m hM)];exact S.fr b o e m
  dom:=fun b e=>by
   by_cases hb:b=p
   ·subst hb;rw[QS]at e;cases e
   ·rw[Qk hb]at e;exact S.dom b e
  bs:=fun b o e=>by
   rw[Qk (by rintro rfl;rw[hB]at e;cases e)];exact S.bs b o e
  bh:=S.bh
  len:=by rw[List.length_set,List.length_set];exact S.len
  fz:=fun j d h=>by
   rcases QL h with⟨rfl,h2,l⟩ | ⟨hne,h2⟩
   ·cases h2
   ·rw[Qz hne];exact S.fz j d h2
  ow:=fun j d h=>by
   rcases QL h with⟨rfl,h2,l⟩ | ⟨hne,h2⟩
   ·cases h2
   ·rw[Qz hne]
    obtain⟨q,a,b,c',w⟩:=S.ow j d h2
    have qp:q≠p:=by
     rintro rfl
     exact h0 c'
    exact⟨q,a,b,c',w.mono (Same.refl G) fun o z=>by rw[Qk qp];exact z⟩
  ln:=fun j d h=>by
   rcases QL h with⟨rfl,h2,l⟩ | ⟨hne,h2⟩
   ·cases h2
   ·rw[Qz hne];exact S.ln j d h2
  inj:=fun j k d1 d2 q hjk h1 h2 h3=>by
   rcases QL h1 with⟨rfl,q1,l⟩ | ⟨n1,q1⟩
   ·cases q1
   ·rcases QL h2 with⟨rfl,q2,l⟩ | ⟨n2,q2⟩
    ·cases q2
    ·rw[Qz n1]at h3
     rw[Qz n2]
     exact S.inj j k d1 d2 q hjk q1 q2 h3
  sf:=fun j d h=>by
   rcases QL h with⟨rfl,h2,l⟩ | ⟨hne,h2⟩
   ·cases h2
    exact⟨p,QjD (by rw[S.len];exact l),hg,h0,hM,hB,⟨A,dx,fs',hc,QS,r⟩⟩
   ·exact absurd (S.su i j _ _ hi h2) hne
  su:=fun j k d1 d2 h1 h2=>by
   have get:∀(j:Nat) d,(ς.set i (some (.s,D.ins c fds')))[j]?=some (some (.s,d))->∃ d',ς[j]?=some (some (.s,d')):=fun j d h=>by
    rcases QL h with⟨rfl,h2,l⟩ | ⟨hne,h2⟩
    ·exact⟨_,hi⟩
    ·exact⟨_,h2⟩
   obtain⟨d1',g1⟩:=get j d1 h1
   obtain⟨d2',g2⟩:=get k d2 h2
   exact S.su j k d1' d2' g1 g2 }
 rw[Qnc hp]at S'
 exact S'
def sFldS(cs:List Str)(f:Str)(i:Nat)(E:SD->Out D):SD->Out Fl:=fun ς=>E ς>>=fun d=>match ς[i]? with
 | some (some (.s,.ins c fds))=>if (cs.contains c&&decide (fds.length<1000))=true then .ok (.nx (ς.set i (some (.s,.ins c (putD f d fds))))) else .stuck
 | _=>.stuck
theorem QhR(i:Nat){x:Str}{px pa:Pos}(hF:FldOk C.X.K C.CT cs f)(h:DE C e E)(hN:C.X.N[i]?=some x:=by rfl)(hv:Vis C.X.env.scope x:=by first | exact Or.inl rfl | exact Or.inr (Or.inl rfl) | exact Or.inr (Or.inr rfl))
 (hd:(x == ("__debug__":Str))=false:=by decide) (hcd:(x == ("__classdict__":Str))=false:=by decide)
 (hs:swapsWith e (some (.Attribute (.Name x px) f pa)) pos.line C.X.env=pure false:=by rfl):DS C (.Assign [.Attribute (.Name x px) f pa] e pos) (sFldS cs f i E):=by
 obtain⟨t,p,q⟩:=h
 refine⟨_,QR6 (Qm9 (i:=i) hN hv hd hcd) p hs,fun G H σ ς W S k=>?_⟩
 unfold sFldS at k
 rw[Out.post_bind]at k
 refine q G H σ ς _ S (Out.post_mono k fun d k v H1 G1 S1 a1 b1 r=>?_)
 split at k
 ·rename_i c fds z
  rcases Qaq k with⟨hc,k⟩ | ⟨_,k⟩
  ·rw[Bool.and_eq_true]at hc
   obtain⟨pp,e1',hg,h0,hM,hB,A,dx,fs,hA,hH,rf⟩:=S1.sf i _ z
   obtain⟨cl,na⟩:=hF c hc.1 A hA
   refine⟨_,e1',pp,A,dx,fs,rfl,hH,cl,na,by rw[← rf.len];exact of_decide_eq_true hc.2,?_⟩
   exact(show FlK C G W (.nx (ς.set i (some (.s,.ins c (putD f d fds))))) from k) σ _ G1 (S1.writeS z e1' hA (rf.put r)) b1
  ·exact k.elim
 ·exact k.elim
end
end DL
namespace L2
open PySem PySem.Spec PyProof.Rows
section
variable{X:Cx}{CX:CXT}{k:Nat}{m:Str}{dvs:List V}{E:XK}{o e:Expr}{es:List Expr}{ta:TE}{t:TA}{apos pos:Pos}{cs:Addr->Sp->Prop}
def MTab(X:Cx)(CX:CXT)(k:Nat)(m:Str)(dvs:List V)(cs:Addr->Sp->Prop):Prop:=
 ∀ C sp,cs C sp->Cls X.K C/\∃ f fd ps ds,Meth X.K C m f/\FnOk X.prog X.w X.K X.mg X.base CX k f fd ps sp/\Binds X.K fd ps ds/\Vals dvs ds
def QMy(m:Str)(dvs:List V)(cs:Addr->Sp->Prop)(E:XK)(ta:TE)(t:TA):TE:=fun σ H Q=>ta σ H fun x H1=>∃ a C dx fs sp,x=.ref a/\H1 a=some (.ins C dx fs)/\cs C sp/\fs.lookup m=none/\t σ H1 fun vs H2=>sp (x::(vs++dvs)) H2 Q E
theorem QF4{pl:Sem Bool}(he:PE X o ta)(tab:MTab X CX k m dvs cs)(hr:Room k X.A)(hx:Qiq CX X E)(ha:PA X (e::es) t)
 (hst:starEach (e::es) X.env=(false,eval e X.env)::starEach es X.env:=by rfl) (hpl:(backTo pos (starEach es X.env)).any (·.1)=false:=by rfl)
 (ht:eval (.Call (.Attribute o m apos) (e::es) [] pos) X.env=(do
  let ov ← eval o X.env
  standAt apos.atName
  let (f,first) ← holding [ov] (getMethod ov m pl)
  callWith pos f first (backTo pos (starEach (e::es) X.env)) (backToKw pos (keywordEach [] X.env))):=by rfl):
 PE X (.Call (.Attribute o m apos) (e::es) [] pos) (QMy m dvs cs E ta t):=by
 intro pins s σ H Q I h
 refine PySem.W.methodCall_KW (pl:=pl) (thn (he pins s σ H _ I h) fun u s1 ⟨x,H1,I1,rx,a,C,dx,fs,sp,ex,ea,hc,l,q⟩=>?_) ht
 subst ex
 obtain rfl:u=Value.ref a:=rx
 obtain⟨c,f,fd,ps,ds,hm,F,hb,hd⟩:=tab C sp hc
 refine Qyb I1 ea c hm l ?_
 refine PySem.W.callWith_K (first:=[.ref a]) (h₀:=X.base) I.ok.mod.kin hm.kp (thn (ha pos pins s1 σ H1 _ I1 q) fun us s2 ⟨vs,H2,I2,r,q2⟩=>⟨I2.kIn,?_⟩) hst hpl
 exact QFb (us:=.ref a::us) (vs:=.ref a::vs) F hr hb hd hx I2 (.cons rfl r) q2
theorem QNm{pl:Sem Bool}(he:PE X o ta)(tab:MTab X CX k m dvs cs)(hr:Room k X.A)(hx:Qiq CX X E)
 (ht:eval (.Call (.Attribute o m apos) [] [] pos) X.env=(do
  let ov ← eval o X.env
  standAt apos.atName
  let (f,first) ← holding [ov] (getMethod ov m pl)
  callWith pos f first (backTo pos (starEach [] X.env)) (backToKw pos (keywordEach [] X.env))):=by rfl):
 PE X (.Call (.Attribute o m apos) [] [] pos) (QMy m dvs cs E ta tNil):=by
 intro pins s σ H Q I h
 refine PySem.W.methodCall_KW (pl:=pl) (thn (he pins s σ H _ I h) fun u s1 ⟨x,H1,I1,rx,a,C,dx,fs,sp,ex,ea,hc,l,q⟩=>?_) ht
 subst ex
 obtain rfl:u=Value.ref a:=rx
 obtain⟨c,f,fd,ps,ds,hm,F,hb,hd⟩:=tab C sp hc
 refine Qyb I1 ea c hm l ?_
 exact PySem.W.callWith_K0 (first:=[.ref a]) I1.kIn hm.kp (QFb (us:=[.ref a]) (vs:=[.ref a]) F hr hb hd hx I1 (.cons rfl .nil) q)
end
end L2
namespace DL
open PySem PySem.Spec PyProof.Rows L2
def XDofI(CT:CTab)(E:XK)(H:Hp)(p:Addr):D->Prop:=fun d=>∃ c C,d=.err c/\CT c=some C/\∀ H',(∀ b o,H b=some o->b≠p->H' b=some o)->E (.ref C) none H'
def SpI(K:PySem.W.Frag)(CT:CTab)(m:Str->List (Str×D)->List D->Out (List (Str×D))):Sp:=fun vs H Q E=>∃ p c A dx fs fds vs' ds G0,vs=.ref p::vs'/\CT c=some A/\H p=some (.ins A dx fs)/\G0 p=none/\Same G0 H/\RepF K CT G0 fds fs/\RepL K CT G0 ds vs'/\
 (m c fds ds).post (fun fds'=>∀ H' G' fs' dx',Same G0 G'->(∀ b o,H b=some o->b≠p->H' b=some o)->Same G' H'->(∀ b,G0 b=none->G' b≠none->H b=none)->H' p=some (.ins A dx' fs')->RepF K CT G' fds' fs'->Q .non H') (XDofI CT E H p)
def QuA(c:Str)(ς:SD):Out (List (Str×D)):=match (ς[0]?:Option (Option (SM×D))) with
 | some (some (SM.s,D.ins c' fds))=>if c'=c then .ok fds else .stuck
 | _=>.stuck
def Qgf(c:Str):Fl->Out (List (Str×D))
 | .nx ς=>QuA c ς
 | _=>.stuck
def bodyI(n len:Nat)(T:SD->Out Fl):Str->List (Str×D)->List D->Out (List (Str×D)):=fun c fds ds=>
 if ds.length+1=n then T (some (.s,.ins c fds)::(ds.map (fun d=>some (.k,d))++List.replicate (len - n) none))>>=Qgf c else .stuck
abbrev dcI(P:Program)(w:World)(K:PySem.W.Frag)(mg:Str->Option Value)(base:Heap)(CT:CTab)(N:List Str)(qual:Str)(sc:Scope)(f:Addr)(cdv:Value)(A:Around)(outer:List Env)(s:Shared)(H:Hp)(E:XK)(G:Hp)(p:Addr):Dc:=
 { X:=cxOf (CXR P w) P w K mg base N qual sc f cdv A outer s H E,CT:=CT,G0:=G,XD:=XDofI CT E H p,B:=fun b=>if b=p then none else H b,M:=fun b=>b=p }
theorem fnI{P:Program}{w:World}{K:PySem.W.Frag}{mg:Str->Option Value}{base:Heap}{CT:CTab}{x qual:Str}{st:Stmt}{f:Addr}{fd:FuncData}{dV:Value}{N ps:List Str}{k:Nat}{T:SD->Out Fl}
 (F:FunV K x qual st f fd dV) (S:Qo N ps (Qa st))
 (hb:∀(cdv:Value)(A:Around)(outer:List Env)(s:Shared)(H:Hp)(E:XK)(G:Hp)(p:Addr),Room k (A.deeper (envOfC qual (Qa st) s.heap.objs.size f cdv))->DSs (dcI P w K mg base CT N qual (Qa st) f cdv A outer s H E G p) (Qm st) T):
 FnOk P w K mg base (CXR P w) (k+1) f fd ps (SpI K CT (bodyI ps.length N.length T)):=by
 obtain⟨oc,od,kV,doc,pm,an,cdv,ct,osl,rfl,lk,hcd⟩:=F.ex
 have hpl:ps.length<=N.length:=by have:=congrArg List.length S.pre;rw[List.length_take]at this;omega
 have len:∀ vs H Q E,SpI K CT (bodyI ps.length N.length T) vs H Q E->vs.length=ps.length:=by
  intro vs H Q E ⟨p,c,A,dx,fs,fds,vs',ds,G0,e,_,_,_,_,_,r,q⟩
  unfold bodyI at q
  by_cases hl:ds.length+1=ps.length
  ·rw[e,List.length_cons, ← r.length];exact hl
  ·rw[if_neg hl]at q;exact q.elim
 refine fn_of lk hcd S len fun A outer s H vs Q E hr hsp=>?_
 have hlen:=len vs H Q E hsp
 obtain⟨p,c,Ac,dx,fs,fds,vs',ds,G0,rfl,hct,hp,hg,sub,rf,r,q⟩:=hsp
 obtain⟨t,p1,q1⟩:=hb cdv A outer s H E G0 p hr
 have hl:ds.length+1=ps.length:=by rw[r.length];exact hlen
 refine⟨t,p1,?_⟩
 unfold bodyI at q
 rw[if_pos hl,Out.post_bind]at q
 have get:∀(i:Nat) x,(some (SM.s,D.ins c fds)::(ds.map (fun d=>some (SM.k,d))++List.replicate (N.length - ps.length) none))[i]?=some (some x)->(i=0/\x=(.s,.ins c fds))∨∃ j d,i=j+1/\ds[j]?=some d/\x=(.k,d):=fun i x h=>by
  cases i with
  | zero=>exact .inl ⟨rfl,by simpa using h.symm⟩
  | succ j=>
   rw[List.getElem?_cons_succ]at h
   obtain⟨d,e1,e2⟩:=Qgj h
   exact .inr ⟨j,d,rfl,e1,e2⟩
 have S0:StR (dcI P w K mg base CT N qual (Qa st) f cdv A outer s H E G0 p) G0 H (L2.start N (.ref p::vs')) (some (.s,.ins c fds)::(ds.map (fun d=>some (.k,d))++List.replicate (N.length - ps.length) none)):={
  sub:=sub
  g0:=Same.refl _
  new:=fun b h1 h2=>absurd h1 h2
  fr:=fun b o e _=>e
  dom:=fun b e=>e
  bs:=fun b o e=>by
   have e':(if b=p then none else H b)=some o:=e
   by_cases hb:b=p
   ·rw[if_pos hb]at e';cases e'
   ·rw[if_neg hb]at e';exact e'
  bh:=fun b e=>by
   show(if b=p then none else H b)=none
   by_cases hb:b=p
   ·rw[if_pos hb]
   ·rw[if_neg hb];exact e
  len:=by unfold L2.start;simp;have:=r.length;simp at hlen;omega
  fz:=fun i d e=>by
   rcases get i _ e with⟨_,z⟩ | ⟨j,d',rfl,e1,z⟩
   ·cases z
   ·cases z
    obtain⟨v,e3,rv⟩:=r.get e1
    exact⟨v,Qt0 (by simpa using e3),rv⟩
  ow:=fun i d e=>by
   rcases get i _ e with⟨_,z⟩ | ⟨j,d',rfl,e1,z⟩<;>cases z
  ln:=fun i d e=>by
   rcases get i _ e with⟨_,z⟩ | ⟨j,d',rfl,e1,z⟩<;>cases z
  inj:=fun i j d e p _ h=>by
   rcases get i _ h with⟨_,z⟩ | ⟨j,d',rfl,e1,z⟩<;>cases z
  sf:=fun i d e=>by
   rcases get i _ e with⟨rfl,z⟩ | ⟨j,d',rfl,e1,z⟩
   ·cases z
    exact⟨p,Qt0 rfl,hg,(by show H p≠none;rw[hp];simp),rfl,if_pos rfl,⟨Ac,dx,fs,hct,hp,rf⟩⟩
   ·cases z
  su:=fun i j d e h1 h2=>by
   rcases get i _ h1 with⟨rfl,z⟩ | ⟨j,d',rfl,e1,z⟩
   ·rcases get j _ h2 with⟨rfl,z⟩ | ⟨j,d',rfl,e1,z⟩
    ·rfl
    ·cases z
   ·cases z }
 refine q1 G0 H (L2.start N (.ref p::vs')) _ _ S0 (Out.post_mono q fun fl kk=>?_)
 cases fl with
 | nx ς'=>
  intro σ' H' G' S' s'
  have kk:(QuA c ς').post _ _:=kk
  unfold QuA at kk
  split at kk
  ·rename_i c' fds' z
   rcases Qaq kk with⟨rfl,k2⟩ | ⟨_,k2⟩
   ·obtain⟨p',e1,hg',h0,hM,hB,A',dx',fs',hA',hH',rf'⟩:=S'.sf 0 _ z
    have hM:p'=p:=hM
    subst hM
    have hA':CT c'=some A':=hA'
    rw[hct]at hA'
    cases hA'
    exact k2 H' G' fs' dx' s' (fun b o e hb=>S'.fr b o e hb) S'.sub S'.new hH' rf'
   ·exact k2.elim
  ·exact kk.elim
 | bk ς'=>exact kk.elim
 | ct ς'=>exact kk.elim
 | rt b d=>exact kk.elim
end DL
namespace DL
open PySem PySem.Spec PyProof.Rows L2
theorem QyD{P:Program}{w:World}{K:PySem.W.Frag}{mg:Str->Option Value}{base:Heap}{CT:CTab}{N:List Str}{qual:Str}{sc:Scope}{f:Addr}{cdv:Value}{A:Around}{outer:List Env}{s:Shared}{H:Hp}{E:XK}{G:Hp}{p:Addr}:
 Rz (dcI P w K mg base CT N qual sc f cdv A outer s H E G p) E where
 pass:=passR
 xd:=fun d ⟨c,Cc,h1,h2,h3⟩=>⟨c,Cc,h1,h2,fun H' k=>h3 H' fun b o e hb=>k b o e hb⟩
 made:=fun Cc pins σ H1 s1 ea h' vs I hx hE=>QLx I rfl rfl rfl hx hE
 calm:=rfl
section
variable{C:Dc}{E:XK}{c:Str}{A f:Addr}{fd:FuncData}{ps:List Str}{ds:List Value}{dd:List D}{k:Nat}{m:Str->List (Str×D)->List D->Out (List (Str×D))}{e:Expr}{es:List Expr}{AA:SD->Out (List D)}{p pos:Pos}
def eMake(c:Str)(m:Str->List (Str×D)->List D->Out (List (Str×D)))(a:SD->Out (List D)):SD->Out D:=fun ς=>a ς>>=fun xs=>m c [] xs>>=fun fds=>.ok (.ins c fds)
def MkOk(P:Program)(w:World)(K:PySem.W.Frag)(mg:Str->Option Value)(base:Heap)(CT:CTab)(c:Str)(k:Nat)(m:Str->List (Str×D)->List D->Out (List (Str×D))):Prop:=
 ∃ A f fd ps,CT c=some A/\mg c=some (.ref A)/\Mk K A f/\FnOk P w K mg base (CXR P w) k f fd ps (SpI K CT m)/\Binds K fd ps []
theorem Qqr(rz:Rz C E)(h:MkOk C.X.prog C.X.w C.X.K C.X.mg C.X.base C.CT c k m)(hr:Room (k+1) C.X.A)(ha:DA C (e::es) AA)(hg:Gl C.X c)
 (hdb:(c == ("__debug__":Str))=false:=by decide) (he:starEach (e::es) C.X.env=(false,eval e C.X.env)::starEach es C.X.env:=by rfl) (hpl:(backTo pos (starEach es C.X.env)).any (·.1)=false:=by rfl):
 DF C (.Call (.Name c p) (e::es) [] pos) (eMake c m AA):=by
 obtain⟨A,f,fd,ps,hct,hm,M,F,hb⟩:=h
 obtain⟨t,p1,q1⟩:=ha
 refine⟨_,QPJ M F hr hg hm hb .nil rz.pass p1 hdb he hpl,fun G H σ ς Q S q=>?_⟩
 unfold eMake at q
 rw[Out.post_bind]at q
 refine q1 G H σ ς _ S (Out.post_mono q fun xs kk vs H1 G1 S1 a1 b1 r1=>?_)
 intro x dx nx ndx ne
 rw[Out.post_bind]at kk
 have keep:∀ b o,H1 b=some o->upd (upd H1 dx (.own x)) x (.ins A dx []) b=some o:=fun b o e=>by
  rw[Qk (QZ e nx),Qk (QZ e ndx)];exact e
 have back:∀ b,upd (upd H1 dx (.own x)) x (.ins A dx []) b=none->H1 b=none:=fun b e=>by
  by_cases hx:b=x
  ·subst hx;exact nx
  ·rw[Qk hx]at e
   by_cases hd:b=dx
   ·subst hd;exact ndx
   ·rw[Qk hd]at e;exact e
 refine⟨x,c,A,dx,[],[],vs++[],xs,G1,rfl,hct,QS,S1.sub.free nx,fun b o e=>keep b o (S1.sub b o e),rfl,by rw[List.append_nil];exact r1,?_⟩
 cases z:m c [] xs with
 | stuck=>rw[z]at kk;exact kk.elim
 | exc y=>
  rw[z]at kk
  obtain⟨c',Cc,e1',e2',e3'⟩:=rz.xd y kk
  exact⟨c',Cc,e1',e2',fun H' s'=>e3' H' fun b o q m'=>s' b o (keep b o (S1.fr b o q m')) (QZ (S1.fr b o q m') nx)⟩
 | ok fds=>
  rw[z]at kk
  intro H' G' fs' dx' g1 h1 s1 n1 hp rf
  have hh:Same H1 H':=fun b o e=>h1 b o (keep b o e) (QZ e nx)
  have hgp:G' x=none:=by
   cases zz:G' x with
   | none=>rfl
   | some o=>have:=n1 x (S1.sub.free nx) (by rw[zz];simp);rw[QS]at this;cases this
  exact⟨rfl,(show KF C G H σ ς Q (.ins c fds) from kk) x H' G' (S1.grow hh g1 s1 fun b g g'=>back b (n1 b g g')) (a1.trans hh) (b1.trans g1) (a1.free nx) hgp ⟨A,dx',fs',hct,hp,rf⟩⟩
end
def MtOk(P:Program)(w:World)(K:PySem.W.Frag)(mg:Str->Option Value)(base:Heap)(CT:CTab)(CX:CXT)(name:Str)(k:Nat)(cs:List Str)(sp:Str->Sp):Prop:=
 ∀ c,cs.contains c=true->∃ A f fd ps,CT c=some A/\Cls K A/\Meth K A name f/\FnOk P w K mg base CX k f fd ps (sp c)/\Binds K fd ps []
def csOf(CT:CTab)(cs:List Str)(sp:Str->Sp):Addr->Sp->Prop:=fun A s=>∃ c,cs.contains c=true/\CT c=some A/\s=sp c
theorem mtab{X:Cx}{CT:CTab}{CX:CXT}{name:Str}{k:Nat}{cs:List Str}{sp:Str->Sp}(h:MtOk X.prog X.w X.K X.mg X.base CT CX name k cs sp):MTab X CX k name [] (csOf CT cs sp):=by
 rintro A s ⟨c,hc,hA,rfl⟩
 obtain⟨A',f,fd,ps,h1,h2,h3,h4,h5⟩:=h c hc
 rw[hA]at h1;cases h1
 exact⟨h2,f,fd,ps,[],h3,h4,h5,.nil⟩
section
variable{C:Dc}{name:Str}{k:Nat}{cs:List Str}{fr:Bool}{mt:Str->List D->Out D}{o e:Expr}{es:List Expr}{O:SD->Out D}{AA:SD->Out (List D)}{apos pos:Pos}
def eMeth(cs:List Str)(name:Str)(mt:Str->List D->Out D)(O:SD->Out D)(A:SD->Out (List D)):SD->Out D:=fun ς=>O ς>>=fun d=>match d with
 | .ins c fds=>if (cs.contains c&&(fds.lookup name).isNone)=true then A ς>>=fun xs=>mt c (.ins c fds::xs) else .stuck
 | _=>.stuck
theorem QJa{G H:Hp}{σ:St}{ς:SD}{Q:VK}{t:TA}{c:Str}{fds:List (Str×D)}{v1:V}{H1 G1:Hp}(S1:StR C G1 H1 σ ς)(a1:Same H H1)(b1:Same G G1)(r1:Rep C.X.K C.CT G1 (.ins c fds) v1)
 (tk:MtOk C.X.prog C.X.w C.X.K C.X.mg C.X.base C.CT CX0 name k cs (fun c=>SpD C.X.K C.CT fr (mt c))) (hx:∀ x,¬ C.XD x)
 (hq:∀ G H σ ς Q,StR C G H σ ς->(AA ς).post (fun ds=>∀ vs H' G',StR C G' H' σ ς->Same H H'->Same G G'->RepL C.X.K C.CT G' ds vs->Q vs H') C.XD->t σ H Q)
 {K':D->Prop} (hK:∀ d v H2 G2 H' G',StR C G2 H2 σ ς->Same H H2->Same G G2->K' d->Same G2 G'->Same H2 H'->Same G' H'->(∀ b,G2 b=none->G' b≠none->H2 b=none)->RetG C.X.K C.CT fr H2 G' H' d v->Q v H')
 (kk:(if (cs.contains c&&(fds.lookup name).isNone)=true then AA ς>>=fun xs=>mt c (.ins c fds::xs) else .stuck).post K' C.XD):
 ∃ a Cc dx fs sp,v1=.ref a/\H1 a=some (.ins Cc dx fs)/\csOf C.CT cs (fun c=>SpD C.X.K C.CT fr (mt c)) Cc sp/\fs.lookup name=none/\t σ H1 fun vs H2=>sp (v1::(vs++[])) H2 Q E0:=by
 rcases Qaq kk with⟨hc,kk⟩ | ⟨_,kk⟩
 ·rw[Bool.and_eq_true]at hc
  obtain⟨a,Cc,dx,fs,rfl,hct,hh,rf⟩:=r1
  refine⟨a,Cc,dx,fs,_,rfl,S1.sub _ _ hh,⟨c,hc.1,hct,rfl⟩,(RepF.look rf).2 (by simpa using hc.2),?_⟩
  rw[Out.post_bind]at kk
  refine hq G1 H1 σ ς _ S1 (Out.post_mono kk fun xs k2 vs H2 G2 S2 a2 b2 r2=>?_)
  refine⟨.ins c fds::xs,G2,S2.sub,⟨_,_,rfl,Rep.mono b2 (.ins c fds) (.ref a) ⟨a,Cc,dx,fs,rfl,hct,hh,rf⟩,by rw[List.append_nil];exact r2⟩,?_⟩
  cases z:mt c (.ins c fds::xs) with
  | stuck=>rw[z]at k2;exact k2.elim
  | exc y=>rw[z]at k2;exact absurd k2 (hx y)
  | ok d=>
   rw[z]at k2
   intro v H' G' g1 h1 s1 n1 ret
   exact hK d v H2 G2 H' G' S2 (a1.trans a2) (b1.trans b2) k2 g1 h1 s1 n1 ret
 ·exact kk.elim
theorem retKD{G H:Hp}{σ:St}{ς:SD}{Q:VK}:∀ d v H2 G2 H' G',StR C G2 H2 σ ς->Same H H2->Same G G2->KD C G H σ ς Q d->Same G2 G'->Same H2 H'->Same G' H'->(∀ b,G2 b=none->G' b≠none->H2 b=none)->RetG C.X.K C.CT fr H2 G' H' d v->Q v H':=by
 intro d v H2 G2 H' G' S2 a b kd g1 h1 s1 n1 ret
 unfold RetG at ret
 by_cases hc:(fr && !d.scal)=true
 ·rw[if_pos hc]at ret
  obtain⟨pp,rfl,h0,hg',ow⟩:=ret
  obtain⟨o,ho⟩:=ow.there
  have S3:=(S2.grow h1 g1 s1 n1).freeze ho hg' (S2.h0none h0) (fun i d' z1 z2=>by
   obtain⟨o',ho'⟩:=S2.own_ne z1 z2
   rw[h0]at ho';cases ho')
  exact kd _ _ _ S3 (a.trans h1) ((b.trans g1).trans (QE hg')) (ow.known hg' ho)
 ·rw[if_neg hc]at ret
  exact kd v H' G' (S2.grow h1 g1 s1 n1) (a.trans h1) (b.trans g1) ret
theorem Qmf{pl:Sem Bool}(tk:MtOk C.X.prog C.X.w C.X.K C.X.mg C.X.base C.CT CX0 name k cs (fun c=>SpD C.X.K C.CT fr (mt c)))(hr:Room k C.X.A)(ho:DE C o O)(ha:DA C (e::es) AA)(hx:∀ x,¬ C.XD x:=by exact fun _ h=>h)
 (hst:starEach (e::es) C.X.env=(false,eval e C.X.env)::starEach es C.X.env:=by rfl) (hpl:(backTo pos (starEach es C.X.env)).any (·.1)=false:=by rfl)
 (ht:eval (.Call (.Attribute o name apos) (e::es) [] pos) C.X.env=(do
  let ov ← eval o C.X.env
  standAt apos.atName
  let (f,first) ← holding [ov] (getMethod ov name pl)
  callWith pos f first (backTo pos (starEach (e::es) C.X.env)) (backToKw pos (keywordEach [] C.X.env))):=by rfl):
 DE C (.Call (.Attribute o name apos) (e::es) [] pos) (eMeth cs name mt O AA):=by
 obtain⟨t1,p1,q1⟩:=ho
 obtain⟨t2,p2,q2⟩:=ha
 refine⟨_,QF4 (pl:=pl) p1 (mtab tk) hr pass0 p2 hst hpl ht,fun G H σ ς Q S q=>?_⟩
 unfold eMeth at q
 rw[Out.post_bind]at q
 refine q1 G H σ ς _ S (Out.post_mono q fun d kk v1 H1 G1 S1 a1 b1 r1=>?_)
 cases d with
 | ins c fds=>exact QJa S1 a1 b1 r1 tk hx q2 retKD kk
 | _=>exact kk.elim
theorem Qfe{pl:Sem Bool}(tk:MtOk C.X.prog C.X.w C.X.K C.X.mg C.X.base C.CT CX0 name k cs (fun c=>SpD C.X.K C.CT fr (mt c)))(hr:Room k C.X.A)(ho:DE C o O)(hx:∀ x,¬ C.XD x:=by exact fun _ h=>h)
 (ht:eval (.Call (.Attribute o name apos) [] [] pos) C.X.env=(do
  let ov ← eval o C.X.env
  standAt apos.atName
  let (f,first) ← holding [ov] (getMethod ov name pl)
  callWith pos f first (backTo pos (starEach [] C.X.env)) (backToKw pos (keywordEach [] C.X.env))):=by rfl):
 DE C (.Call (.Attribute o name apos) [] [] pos) (eMeth cs name mt O aNil):=by
 obtain⟨t1,p1,q1⟩:=ho
 refine⟨_,QNm (pl:=pl) p1 (mtab tk) hr pass0 ht,fun G H σ ς Q S q=>?_⟩
 unfold eMeth at q
 rw[Out.post_bind]at q
 refine q1 G H σ ς _ S (Out.post_mono q fun d kk v1 H1 G1 S1 a1 b1 r1=>?_)
 cases d with
 | ins c fds=>exact QJa (AA:=aNil) (t:=tNil) S1 a1 b1 r1 tk hx (fun G H σ ς Q S q=>q [] H G S (Same.refl H) (Same.refl G) rfl) retKD kk
 | _=>exact kk.elim
end
end DL
namespace DL
open PySem PySem.Spec PyProof.Rows L2
section
variable{C:Dc}{name:Str}{k:Nat}{cs:List Str}{mt:Str->List D->Out D}{o e:Expr}{es:List Expr}{O:SD->Out D}{AA:SD->Out (List D)}{apos pos:Pos}
variable{E:XK}{m:Str->List (Str×D)->List D->Out (List (Str×D))}{x:Str}{px spos:Pos}
def Qkj(cs:List Str)(name:Str)(m:Str->List (Str×D)->List D->Out (List (Str×D)))(i:Nat)(A:SD->Out (List D)):SD->Out Fl:=fun ς=>match (ς[i]?:Option (Option (SM×D))) with
 | some (some (SM.s,D.ins c fds))=>if (cs.contains c&&(fds.lookup name).isNone)=true then A ς>>=fun xs=>m c fds xs>>=fun fds'=>.ok (.nx (ς.set i (some (.s,.ins c fds')))) else .stuck
 | _=>.stuck
theorem Qq5{pl:Sem Bool}(i:Nat)(rz:Rz C E)(tk:MtOk C.X.prog C.X.w C.X.K C.X.mg C.X.base C.CT (CXR C.X.prog C.X.w) name k cs (fun _=>SpI C.X.K C.CT m))(hr:Room k C.X.A)(ha:DA C (e::es) AA)
 (hN:C.X.N[i]?=some x:=by rfl) (hv:Vis C.X.env.scope x:=by first | exact Or.inl rfl | exact Or.inr (Or.inl rfl) | exact Or.inr (Or.inr rfl))
 (hd:(x == ("__debug__":Str))=false:=by decide) (hcd:(x == ("__classdict__":Str))=false:=by decide)
 (hst:starEach (e::es) C.X.env=(false,eval e C.X.env)::starEach es C.X.env:=by rfl) (hpl:(backTo pos (starEach es C.X.env)).any (·.1)=false:=by rfl)
 (ht:eval (.Call (.Attribute (.Name x px) name apos) (e::es) [] pos) C.X.env=(do
  let ov ← eval (.Name x px) C.X.env
  standAt apos.atName
  let (f,first) ← holding [ov] (getMethod ov name pl)
  callWith pos f first (backTo pos (starEach (e::es) C.X.env)) (backToKw pos (keywordEach [] C.X.env))):=by rfl)
 (hsw:swapsWith (.Call (.Attribute (.Name x px) name apos) (e::es) [] pos) none spos.line C.X.env=pure false:=by rfl):
 DS C (.Expr (.Call (.Attribute (.Name x px) name apos) (e::es) [] pos) spos) (Qkj cs name m i AA):=by
 obtain⟨t2,p2,q2⟩:=ha
 refine⟨_,QJt (QF4 (pl:=pl) (Qm9 (i:=i) hN hv hd hcd) (mtab tk) hr rz.pass p2 hst hpl ht) hsw,fun G H σ ς W S kk=>?_⟩
 unfold Qkj at kk
 split at kk
 ·rename_i c fds z
  rcases Qaq kk with⟨hc,kk⟩ | ⟨_,kk⟩
  ·rw[Bool.and_eq_true]at hc
   obtain⟨p,e1',hg,h0,hM,hB,A,dx,fs,hct,hh,rf⟩:=S.sf i _ z
   refine⟨_,e1',p,A,dx,fs,_,rfl,hh,⟨c,hc.1,hct,rfl⟩,(RepF.look rf).2 (by simpa using hc.2),?_⟩
   rw[Out.post_bind]at kk
   refine q2 G H σ ς _ S (Out.post_mono kk fun xs k2 vs H2 G2 S2 a2 b2 r2=>?_)
   obtain⟨p',e2',hg2,_,_,_,A2,dx2,fs2,hct2,hh2,rf2⟩:=S2.sf i _ z
   rw[e1']at e2';cases e2'
   rw[Out.post_bind]at k2
   refine⟨p,c,A2,dx2,fs2,fds,vs++[],xs,G2,rfl,hct2,hh2,hg2,S2.sub,rf2,by rw[List.append_nil];exact r2,?_⟩
   cases zz:m c fds xs with
   | stuck=>rw[zz]at k2;exact k2.elim
   | exc y=>
    rw[zz]at k2
    obtain⟨c',Cc,f1,f2,f3⟩:=rz.xd y k2
    exact⟨c',Cc,f1,f2,fun H' s'=>f3 H' fun b o q mm=>s' b o (S2.fr b o q mm) (by rintro rfl;exact mm hM)⟩
   | ok fds'=>
    rw[zz]at k2
    intro H' G' fs' dx' g1 h1 s1 n1 hp rf'
    have gp:G' p=none:=by
     cases y:G' p with
     | none=>rfl
     | some o=>have:=n1 p hg2 (by rw[y];simp);rw[hh2]at this;cases this
    have S3:StR C G' (upd H' p (.ins A2 dx2 fs2)) σ ς:=S2.grow (fun b o e=>by
     by_cases hb:b=p
     ·subst hb;rw[QS];rw[hh2]at e;exact e
     ·rw[Qk hb];exact h1 b o e hb) g1 (fun b o e=>by
     rw[Qk (by rintro rfl;rw[gp]at e;cases e)];exact s1 b o e) n1
    have S4:=S3.writeS (dx:=dx') z e1' hct2 rf'
    have eq:upd (upd H' p (.ins A2 dx2 fs2)) p (.ins A2 dx' fs')=H':=by
     rw[QQe]
     funext b
     by_cases hb:b=p
     ·subst hb;rw[QS,hp]
     ·rw[Qk hb]
    rw[eq]at S4
    exact(show FlK C G W (.nx (ς.set i (some (.s,.ins c fds')))) from k2) σ H' G' S4 (b2.trans g1)
  ·exact kk.elim
 ·exact kk.elim
end
end DL
namespace DL
open PySem PySem.Spec PyProof.Rows L2
def inCls(s:Stmt)(j:Nat):Stmt:=match s with
 | .ClassDef _ _ _ b _ _ _ _ _ _ _=>b.getD j (.Pass ⟨0,0,0,0⟩)
 | _=>.Pass ⟨0,0,0,0⟩
def KitI(K:PySem.W.Frag)(CT:CTab)(uc:Value)(tbl:List (Str×Bool)):Prop:=∀ c b,tbl.lookup c=some b->∀ A,CT c=some A->ClsD K A/\PySem.W.kitOne K (.ref A) uc=some b
theorem QrB{K:PySem.W.Frag}{CT:CTab}{uc:Value}:KitI K CT uc []:=fun _ _ h=>nomatch h
theorem Qan{K:PySem.W.Frag}{CT:CTab}{uc:Value}{c:Str}{b:Bool}{A:Addr}{tbl:List (Str×Bool)}(hc:CT c=some A)(hx:ClsD K A)(hk:PySem.W.kitOne K (.ref A) uc=some b)(r:KitI K CT uc tbl):KitI K CT uc ((c,b)::tbl):=by
 intro c' b' h A' hA
 rw[List.lookup_cons]at h
 cases e:c' == c with
 | true=>
  rw[e]at h
  cases h
  rw[beq_iff_eq.mp e,hc]at hA
  cases hA
  exact⟨hx,hk⟩
 | false=>
  rw[e]at h
  exact r c' b' h A' hA
section
variable{C:Dc}{pos p:Pos}{e cx:Expr}{E:SD->Out D}
end
def eIxO(i:Nat)(b:SD->Out D):SD->Out D:=fun ς=>match (ς[i]?:Option (Option (SM×D))) with
 | some (some (SM.o,D.lst xs))=>b ς>>=fun k=>match k with | .int k=>optO (atI xs k) | _=>.stuck
 | _=>.stuck
section
variable{C:Dc}{pos px:Pos}{b:Expr}{B:SD->Out D}{x f:Str}{cs:List Str}
theorem QNj(i:Nat)(hb:DB C b B)(hN:C.X.N[i]?=some x:=by rfl)(hv:Vis C.X.env.scope x:=by first | exact Or.inl rfl | exact Or.inr (Or.inl rfl) | exact Or.inr (Or.inr rfl))
 (hd:(x == ("__debug__":Str))=false:=by decide) (hcd:(x == ("__classdict__":Str))=false:=by decide) (hs:Qy9 b:=by intro _ _;rfl):DE C (.Subscript (.Name x px) b pos) (eIxO i B):=by
 obtain⟨tb,p2,q2⟩:=hb
 refine⟨_,pe_ix QLN (Qm9 (i:=i) hN hv hd hcd) p2 hs,fun G H σ ς Q S q=>?_⟩
 unfold eIxO at q
 split at q
 ·rename_i xs z
  obtain⟨p,e1',hg,h0,ow⟩:=S.ow i _ z
  rw[Out.post_bind]at q
  refine⟨_,e1',q2 G H σ ς _ S (Out.post_mono q fun y k2 v2 H2 G2 S2 a2 b2 r2=>?_)⟩
  cases y with
  | int k=>
   cases r2
   obtain⟨d,e2',kd⟩:=QjE k2
   obtain⟨p',e3',hg',h0',vs,hv1,hv2⟩:=S2.ow i _ z
   rw[e1']at e3';cases e3'
   obtain⟨v,e4',rv⟩:=QAc hv2 e2'
   exact .inl ⟨p,vs,k,v,rfl,rfl,SqL.of hv1,e4',KD.now (KD.later kd a2 b2) S2 rv⟩
  | _=>exact k2.elim
 ·exact q.elim
end
end DL
namespace L2
open PySem PySem.Spec PyProof.Rows
def Ite(K:PySem.W.Frag)(a:Addr):It:=
 ⟨fun i H=>∃ xs x,SqL K H a xs/\xs[i]?=some x,
  fun i H v H'=>∃ p x,H p=none/\v=.ref p/\H'=upd H p (.tup [.int i,x])/\(∀ xs,SqL K H a xs->xs[i]?=some x),
  fun i H=>∃ xs,SqL K H a xs/\xs.length<=i⟩
theorem QNi{P:Program}{w:World}{K:PySem.W.Frag}{elts:List Expr}{k1:Nat}{pos:Pos}{e it l:Addr}(D1:e≠it):
 Turn P w K (.Tuple elts k1 pos) (Ite K l) [e,it] e (fun i h=>(∃ old,IsEnum h e it (i:Int) old)/\h.IsListIter it l i) where
 mem:=by simp
 obj:=fun i h st b hb=>by
  obtain⟨⟨old,s1⟩,⟨o4,e4,c4,d4⟩⟩:=st
  simp only[List.mem_cons,List.not_mem_nil,or_false]at hb
  rcases hb with rfl | rfl
  ·exact⟨_,s1,fun v q=>by cases q⟩
  ·exact⟨_,e4,fun v q=>by rw[d4]at q;cases q⟩
 keep:=fun i h h' st k=>by
  obtain⟨⟨old,s1⟩,s4⟩:=st
  exact⟨⟨old,k e (by simp) _ s1⟩,s4.at fun o q=>k it (by simp) o q⟩
 item:=by
  intro X hP hw hK hc i pins s σ H E I hf st hg
  subst hP hw hK
  obtain⟨xs,x,q1,hx⟩:=hg
  obtain⟨its1,rv1,p1,hz1⟩:=I.list q1
  obtain⟨u1,hu1,ru1⟩:=rv1.get hx
  obtain⟨⟨old,s1⟩,s4⟩:=st
  refine wpAny_pyNext_enum_item s1 s4 p1.isList (x:=u1) (by simpa using hu1) D1 fun h' a1 a3 a5 a6 hk=>?_
  have hT:H s.heap.objs.size=none:=I.hok.fresh (Nat.le_refl _)
  have fp:∀ c∈[e,it],FpOk X pins H c:=hf
  have out:∀ c,c∉[e,it]->∀ o,s.heap.get? c=some o->h'.get? c=some o:=fun c hc o q=>hk c o (fun q=>hc (by simp[q])) (fun q=>hc (by simp[q])) q
  have trk:∀ c o,H c=some o->c∉[e,it]:=fun c o q hc=>by rw[(fp c hc).1]at q;cases q
  have hok:HOk X.prog X.w (upd H s.heap.objs.size (.tup [.int i,x])) h':=fun c o q=>by
   by_cases hcT:c=s.heap.objs.size
   ·subst hcT
    rw[QS]at q
    cases q
    exact⟨by show 2<=sizeLine;decide,[.int i s.toks,u1],.cons ⟨_,rfl⟩ (.cons ru1 .nil),⟨_,a5,rfl,_,rfl⟩⟩
   ·rw[Qk hcT]at q
    refine(I.hok c o q).stay (fun b u hb q'=>out b ?_ u q') (fun b q'=>?_) fun b ts q'=>?_
    ·rcases hb with rfl | hb
     ·exact trk b _ q
     ·exact trk b _ hb
    ·rw[Qk (QZ q' hT)];exact q'
    ·rw[Qk (QZ q' hT)];exact q'
  have I1:Inv X pins σ (upd H s.heap.objs.size (.tup [.int i,x])) { s with heap:=h',gens:=s.gens,drawn:=s.drawn,toks:=s.toks+1 }:=I.step (ch:=[e,it])
   (fun c hc=>⟨(fp c hc).2.2.2.1,(fp c hc).2.1,(fp c hc).2.2.2.2.1,(fp c hc).2.2.2.2.2⟩) (fun c o _ _ hc q _=>out c hc o q) (fun c o _ _ hc q _=>⟨o.slots,out c hc o q⟩)
   (fun c o hc q n=>by rw[Qk (Nat.ne_of_lt (Heap.lt_size q))];exact n) (fun c o hc q=>⟨o,out c hc o q⟩)
   (fun c ts q=>by rw[Qk (QZ q hT)];exact q) (fun c o u q=>by rw[Qk (QZ q hT)];exact q) (fun c ts q=>⟨#[],by rw[Qk (QZ q hT),q];simp⟩)
   (fun m hm=>by
    obtain⟨o,es,ep,ho,r⟩:=hm
    exact⟨o,es,ep,out _ (fun hc=>(fp _ hc).2.1 rfl) o ho,r⟩) hok I.bare
  have lt:∀{c o},s.heap.get? c=some o->s.heap.objs.size≠c:=fun q=>Nat.ne_of_gt (Heap.lt_size q)
  refine⟨_,rfl,wpAny_letOwnedTupleGo_enum a1 fun h2 hz2 hs2=>?_⟩
  obtain⟨z0,z1,z2,z3,z4,z5⟩:=hf e (by simp)
  have I2:Inv X pins σ (upd H s.heap.objs.size (.tup [.int i,x])) { s with heap:=h2,toks:=s.toks+1 }:=Inv.turned (s:={ s with heap:=h',gens:=s.gens,drawn:=s.drawn,toks:=s.toks+1 }) (t':=s.toks+1) (it:=e) I1 (fun b o hb q=>(hs2.2 b hb).trans q) (by rw[Qk (lt s1).symm];exact z0) z1 z3 z4 z5
  refine⟨.ref s.heap.objs.size,_,I2,rfl,⟨_,x,hT,rfl,rfl,fun xs' q'=>by rw[I.list_inj q' q1];exact hx⟩,
   ⟨⟨_,by have:((i+1:Nat):Int)=(i:Int)+1:=by push_cast;rfl
          rw[this];exact hz2⟩,a3.extBut hs2.extBut D1.symm⟩,fun c hc=>?_⟩
  have:H c=none:=(hf c hc).1
  obtain⟨oc,hoc⟩:∃ o,s.heap.get? c=some o:=by
   simp only[List.mem_cons,List.not_mem_nil,or_false]at hc
   rcases hc with rfl | rfl
   ·exact⟨_,s1⟩
   ·obtain⟨o,q,_⟩:=s4;exact⟨o,q⟩
  rw[Qk (lt hoc).symm];exact this
 done:=by
  intro X hP hw hK hc i pins s σ H E I hf st hg
  subst hP hw hK
  obtain⟨xs,q1,hend⟩:=hg
  obtain⟨its1,rv1,p1,hz1⟩:=I.list q1
  have l1:=rv1.length
  obtain⟨⟨old,s1⟩,s4⟩:=st
  obtain⟨z0,z1,z2,z3,z4,z5⟩:=hf it (by simp)
  refine wpAny_pyNext_enum_end (I.ok.hd hc) s1 s4 p1.isList (by simp;omega) fun h' hk=>⟨rfl,?_⟩
  have fp:∀ c∈[it],FpOk X pins H c:=fun c hc=>hf c (by simp only[List.mem_cons,List.not_mem_nil,or_false]at hc ⊢;exact Or.inr hc)
  have out:∀ c,c∉[it]->∀ o,s.heap.get? c=some o->h'.get? c=some o:=fun c hc o q=>hk c o (fun q=>hc (by simp[q])) q
  have trk:∀ c o,H c=some o->c∉[it]:=fun c o q hc=>by rw[(fp c hc).1]at q;cases q
  exact I.step (g':=s.gens) (d':=s.drawn) (t':=s.toks) (ch:=[it]) (fun c hc=>⟨(fp c hc).2.2.2.1,(fp c hc).2.1,(fp c hc).2.2.2.2.1,(fp c hc).2.2.2.2.2⟩) (fun c o _ _ hc q _=>out c hc o q) (fun c o _ _ hc q _=>⟨o.slots,out c hc o q⟩)
   (fun c o hc q n=>n) (fun c o hc q=>⟨o,out c hc o q⟩) (fun c ts q=>q) (fun c o u q=>q) (fun c ts q=>⟨#[],by rw[q];simp⟩)
   (fun m hm=>by
    obtain⟨o,es,ep,ho,r⟩:=hm
    exact⟨o,es,ep,out _ (fun hc=>(fp _ hc).2.1 rfl) o ho,r⟩)
   (fun c o q=>(I.hok c o q).stay (fun b u hb q'=>out b (by
    rcases hb with rfl | hb
    ·exact trk b _ q
    ·exact trk b _ hb) u q') (fun b q'=>q') fun b ts q'=>q') I.bare
 self:=fun _ _ _ _ _ st h=>wpAny_pyIter_enum st.1.choose_spec h
section
variable{X:Cx}
def iEnum(K:PySem.W.Frag)(ta:TA):TI:=fun σ H R=>ta σ H fun vs H1=>∃ a,vs=[.ref a]/\(∃ xs,SqL K H1 a xs)/\R (Ite K a) H1
theorem QPW{elts:List Expr}{k1:Nat}{tpos:Pos}{a:Expr}{ta:TA}{p pos:Pos}(hg:Gl X "enumerate")(hm:X.mg "enumerate"=none)(ha:PA X [a] ta)(hs:starEach [a] X.env=[(false,eval a X.env)]:=by rfl):
 PI X (.Tuple elts k1 tpos) (.Call (.Name "enumerate" p) [a] [] pos) (iEnum X.K ta):=by
 intro pins s σ H R I h
 refine Call_ (Qks I hg hm PyProof.Rows.Boot.«enumerate» (PyProof.Rows.callWith_type1 (thn (ha pos pins s σ H _ I h) fun us s1 ⟨vs,H1,I1,r1,q1⟩=>?_) (by rw[hs];rfl) (by rfl)))
 obtain⟨l1,e,⟨xs,hx⟩,q⟩:=q1
 subst e
 cases r1 with
 | cons r rr=>
  cases rr
  cases r
  obtain⟨its1,rv1,p1,hz1⟩:=I1.list hx
  refine call_enumerate_list p1.isList fun h' c1 c4 c6 hk=>?_
  refine wpAny_pyIter_enum c1 ?_
  refine⟨_,_,_,Ite X.K l1,H1,rfl,I1.kept (t':=s1.toks) fun b o e=>hk b o e,QNi (e:=s1.heap.objs.size+1) (it:=s1.heap.objs.size) (l:=l1) (show ¬ ((s1.heap.objs.size+1:Nat)=s1.heap.objs.size) by omega),
   ⟨⟨_,c1⟩,c4⟩,fun b hb=>?_,q⟩
  have hb':s1.heap.objs.size<=b:=by
   simp only[List.mem_cons,List.not_mem_nil,or_false]at hb
   rcases hb with rfl | rfl<;>omega
  exact I1.fpOk hb' (I1.hok.fresh hb')
end
end L2
namespace DL
open PySem PySem.Spec PyProof.Rows L2
def enumD(i:Nat):List D->List D
 | []=>[]
 | x::xs=>.tup [.int i,x]::enumD (i+1) xs
theorem QA3:∀(xs:List D)(i:Nat),(enumD i xs).length=xs.length
 | [],_=>rfl
 | x::xs,i=>by simp[enumD,QA3 xs]
theorem Quy:∀(xs:List D)(n i:Nat),(enumD n xs)[i]?=xs[i]?.map fun x=>.tup [.int (n+i:Nat),x]
 | [],_,_=>rfl
 | x::xs,n,0=>rfl
 | x::xs,n,i+1=>by
  show(enumD (n+1) xs)[i]?=_
  rw[Quy xs (n+1) i,show n+1+i=n+(i+1) by omega]
  rfl
def itE(A:SD->Out D):SD->Out (List D):=fun ς=>A ς>>=fun x=>match x with
 | .lst xs=>.ok (enumD 0 xs)
 | _=>.stuck
section
variable{C:Dc}{a:Expr}{A:SD->Out D}
theorem QN6{K:PySem.W.Frag}{CT:CTab}{G1:Hp}{p:Addr}{xs:List D}{us:List V}(h1:SqL K G1 p us)(r1:RepL K CT G1 xs us):DIt K CT G1 (Ite K p) (enumD 0 xs) where
 go:=fun G H i d s1 sH hd=>by
  rw[Quy,Nat.zero_add]at hd
  cases e1':xs[i]? with
  | none=>rw[e1']at hd;cases hd
  | some x=>
   rw[e1']at hd
   cases hd
   obtain⟨u,hu,ru⟩:=r1.get e1'
   have q1:SqL K H p us:=sH.seq (s1.seq h1)
   refine⟨⟨us,u,q1,hu⟩,fun w H' ⟨t,x',n,e,e',k1⟩=>?_⟩
   have z1:=k1 us q1
   rw[hu]at z1;cases z1
   subst e e'
   have gn:G t=none:=sH.free n
   refine⟨upd G t (.tup [.int i,u]),QE gn,QE n,Qum sH,fun b g g'=>?_,t,[.int i,u],rfl,SqT.of QS,⟨.int i,_,rfl,rfl,u,_,rfl,Rep.mono (s1.trans (QE gn)) x u ru,rfl⟩⟩
   by_cases hb:b=t
   ·subst hb;exact n
   ·rw[Qk hb]at g';exact absurd g g'
 stop:=fun G H s1 sH=>by
  refine⟨us,sH.seq (s1.seq h1),?_⟩
  have l1:=r1.length
  rw[QA3]
  omega
theorem QJo{elts:List Expr}{k1:Nat}{tpos p pos:Pos}(hgl:Gl C.X "enumerate")(hm:C.X.mg "enumerate"=none)(ha:DE C a A)
 (hst:starEach [a] C.X.env=(false,eval a C.X.env)::starEach [] C.X.env:=by rfl):DI C (.Tuple elts k1 tpos) (.Call (.Name "enumerate" p) [a] [] pos) (itE A):=by
 obtain⟨t0,p0,q0⟩:=ha
 refine⟨_,QPW hgl hm (QcY p0 Qge hst) (by rw[hst];rfl),fun G H σ ς R S k=>?_⟩
 unfold itE at k
 rw[Out.post_bind]at k
 refine q0 G H σ ς _ S (Out.post_mono k fun d k v H1 G1 S1 a1 b1 r=>?_)
 cases d with
 | lst xs=>
  obtain⟨p1,us,rfl,h1,r1⟩:=r
  exact⟨p1,rfl,⟨us,S1.sub.seq h1⟩,k _ H1 G1 S1 a1 b1 (QN6 h1 r1)⟩
 | _=>exact k.elim
end
end DL
namespace L2
open PySem PySem.Spec PyProof.Rows
section
variable{X:Cx}
end
end L2
namespace DL
open PySem PySem.Spec PyProof.Rows L2
section
variable{C:Dc}{o e:Expr}{O E:SD->Out D}{apos cpos:Pos}
end
end DL
namespace L2
open PySem PySem.Spec PyProof.Rows
structure FnM(P:Program)(w:World)(K:PySem.W.Frag)(mg:Str->Option Value)(base:Heap)(k:Nat)(f:Addr)(fd:FuncData)(ps:List Str)(sp:Sp):Prop where
 many:∀ vs H Q E,sp vs H Q E->vs.length=ps.length
 go:∀(ea:Addr)(A:Around)(outer:List Env)(s:Shared)(H:Hp)(args:Args)(us:List Value)(vs:List V)(Q:VK),Room k A->Env0 P w K mg base A outer s H->
  BindsTo s fd args (ps.zip us)->Vals vs us->sp vs H Q E0->codeAny (model P w) (A.mark (some (.ref ea))) (.call (.ref f) args) (CR CX0 outer P w H s Q E0) s
section
variable{X:Cx}{k:Nat}{f ea:Addr}{fd:FuncData}{ps:List Str}{sp:Sp}{dvs:List V}{ds:List Value}{x:Str}{p pos:Pos}{e:Expr}{es:List Expr}{t:TA}
end
end L2
namespace DL
open PySem PySem.Spec PyProof.Rows L2
section
variable{C:Dc}{ea:Addr}{x:Str}{k:Nat}{m:List D->Out D}{e:Expr}{es:List Expr}{A:SD->Out (List D)}{p pos:Pos}
end
end DL
namespace L2
open PySem PySem.Spec PyProof.Rows
section
variable{X:Cx}{tg:Expr}
theorem QMm:∀{ns:List Int}{its:List Value},Vals (ns.map V.int) its->∃ xs:List (Int×Tok),its=xs.map (fun p=>Value.int p.1 p.2)/\xs.map (·.1)=ns
 | [],_,.nil=>⟨[],rfl,rfl⟩
 | n::ns,_,.cons r rr=>by
  obtain⟨t,rfl⟩:=r
  obtain⟨xs,rfl,e⟩:=QMm rr
  exact⟨(n,t)::xs,rfl,by rw[List.map_cons,e]⟩
theorem QL0(hc:X.calm=true):CallR X (.builtin "sum") (fun xs H Q=>∃(p:Addr)(ns:List Int),xs=[.ref p]/\SqL X.K H p (ns.map V.int)/\Q (.int ns.sum) H):=by
 intro pins s σ H xs us Q I r h
 obtain⟨p,ns,rfl,hq,q⟩:=h
 obtain⟨u,rfl,rx⟩:=vals1 r
 cases rx
 obtain⟨its,rv,pl,hz⟩:=I.list hq
 obtain⟨ys,rfl,e⟩:=QMm rv
 have hl:s.heap.IsList p (intItems ys.toArray):=by
  have:(ys.map fun p=>Value.int p.1 p.2).toArray=intItems ys.toArray:=by simp[intItems]
  rw[← this];exact pl.isList
 refine sum_intListG (I.ok.hd hc) hl fun h' tk t' kk=>⟨.int ns.sum,H,I.kept kk,⟨t',?_⟩,q⟩
 congr 1
 rw[preSum_eq,List.take_of_length_le (by simp), ← e]
end
end L2
namespace DL
open PySem PySem.Spec PyProof.Rows L2
def intsD:List D->Option (List Int)
 | []=>some []
 | .int i::r=>(intsD r).map (i :: ·)
 | _::_=>none
theorem QA5{K:PySem.W.Frag}{CT:CTab}{H:Hp}:∀{ds:List D}{ns:List Int}{vs:List V},intsD ds=some ns->RepL K CT H ds vs->vs=ns.map V.int
 | [],ns,vs,h,r=>by cases h;exact r
 | d::ds,ns,vs,h,⟨v,w,h1,h2,h3⟩=>by
  cases d with
  | int i=>
   cases e:intsD ds with
   | none=>rw[intsD,e]at h;cases h
   | some ms=>
    rw[intsD,e]at h
    cases h
    subst h1
    cases h2
    rw[QA5 e h3];rfl
  | _=>cases h
def fSum:D->Out D
 | .lst xs=>match intsD xs with | some ns=>.ok (.int ns.sum) | none=>.stuck
 | _=>.stuck
section
variable{C:Dc}{a b c e:Expr}{es:List Expr}{A B E:SD->Out D}{AA:SD->Out (List D)}{tg:Expr}{p pos:Pos}
theorem QRA(hc:C.X.calm=true)(hg:Gl C.X "sum")(hm:C.X.mg "sum"=none)(ha:DAB C (e::es) AA)
 (he:starEach (e::es) C.X.env=(false,eval e C.X.env)::starEach es C.X.env:=by rfl) (hpl:(backTo pos (starEach es C.X.env)).any (·.1)=false:=by rfl):DE C (.Call (.Name "sum" p) (e::es) [] pos) (eA (f1 fSum) AA):=by
 refine Qmm (QL0 hc) (Qtz ?_) (Qqm ?_) hg hm PyProof.Rows.Boot.«sum» ha (by decide) (by decide) he hpl
 ·intro G H σ ς Q x v S r q
  cases x with
  | lst xs=>
   cases eb:intsD xs with
   | none=>rw[fSum,eb]at q;exact q.elim
   | some ns=>
    rw[fSum,eb]at q
    obtain⟨a,vs,rfl,h2,h3⟩:=r
    rw[QA5 eb h3]at h2
    exact⟨a,ns,rfl,h2,q.2⟩
  | _=>exact q.elim
 ·intro x
  cases x with
  | lst xs=>
   rw[fSum]
   cases intsD xs with
   | none=>exact True.intro
   | some bs=>exact rfl
  | _=>exact True.intro
def frz(j:Nat)(ς:SD):SD:=match (ς[j]?:Option (Option (SM×D))) with
 | some (some (SM.o,d))=>ς.set j (some (.k,d))
 | _=>ς
theorem StR.frz{G H:Hp}{σ:L2.St}{ς:SD}(S:StR C G H σ ς){j:Nat}{d:D}(z:ς[j]?=some (some (.o,d))):∃ G',Same G G'/\StR C G' H σ (ς.set j (some (.k,d))):=by
 obtain⟨p,e,hg,h0,ow⟩:=S.ow j d z
 obtain⟨o,ho⟩:=ow.there
 have hj:j<ς.length:=(List.getElem?_eq_some_iff.mp z).1
 have get:∀(i:Nat) x,(ς.set j (some (.k,d)))[i]?=some (some x)->(i=j/\x=(.k,d))∨(i≠j/\ς[i]?=some (some x)):=fun i x h=>by
  rw[List.getElem?_set]at h
  by_cases q:j=i
  ·rw[if_pos q,if_pos (by omega)]at h
   cases h
   exact .inl ⟨q.symm,rfl⟩
  ·rw[if_neg q]at h
   exact .inr ⟨fun w=>q w.symm,h⟩
 refine⟨upd G p o,QE hg,?_⟩
 have hn:∀(i:Nat) d',i≠j->ς[i]?=some (some (.o,d'))->σ[i]?≠some (some (.ref p)):=fun i d' hi q w=>S.inj i j d' d p hi q z w e
 exact {
  toGH:=GH.freezeR S.toGH ho hg h0
  len:=by rw[List.length_set];exact S.len
  fz:=fun i d' q=>by
   rcases get i _ q with⟨rfl,w⟩ | ⟨_,w⟩
   ·cases w
    exact⟨_,e,ow.known hg ho⟩
   ·obtain⟨v,a,b⟩:=S.fz i d' w
    exact⟨v,a,Rep.mono (QE hg) d' v b⟩
  ow:=fun i d' q=>by
   rcases get i _ q with⟨rfl,w⟩ | ⟨hi,w⟩
   ·cases w
   ·obtain⟨r,a,b,c,w'⟩:=S.ow i d' w
    refine⟨r,a,?_,c,w'.mono (QE hg) fun _ z=>z⟩
    rw[Qk (by rintro rfl;exact hn i d' hi w a)];exact b
  ln:=fun i d' q=>by
   rcases get i _ q with⟨rfl,w⟩ | ⟨_,w⟩
   ·cases w
   ·exact S.ln i d' w
  inj:=fun i k d1 d2 q hne h1 h2=>by
   rcases get i _ h1 with⟨rfl,w⟩ | ⟨_,w⟩
   ·cases w
   ·rcases get k _ h2 with⟨rfl,w2⟩ | ⟨_,w2⟩
    ·cases w2
    ·exact S.inj i k d1 d2 q hne w w2
  sf:=fun i d' q=>by
   rcases get i _ q with⟨rfl,w⟩ | ⟨_,w⟩
   ·cases w
   ·obtain⟨r,a,b,c,m,z',w'⟩:=S.sf i d' w
    refine⟨r,a,?_,c,m,z',w'.mono (QE hg) fun _ z=>z⟩
    rw[Qk (by rintro rfl;exact c h0)];exact b
  su:=fun i k d1 d2 h1 h2=>by
   rcases get i _ h1 with⟨rfl,w⟩ | ⟨_,w⟩
   ·cases w
   ·rcases get k _ h2 with⟨rfl,w2⟩ | ⟨_,w2⟩
    ·cases w2
    ·exact S.su i k d1 d2 w w2 }
theorem QyP(j:Nat){st:Stmt}{T:SD->Out Fl}(h:DS C st T):DS C st (fun ς=>T (frz j ς)):=by
 obtain⟨t,p1,q⟩:=h
 refine⟨t,p1,fun G H σ ς W S k=>?_⟩
 have k:(T (frz j ς)).post (FlK C G W) C.XD:=k
 by_cases z:∃ d,ς[j]?=some (some (SM.o,d))
 ·obtain⟨d,z⟩:=z
  have e:frz j ς=ς.set j (some (.k,d)):=by unfold frz;rw[z]
  rw[e]at k
  obtain⟨G',sG,S'⟩:=S.frz z
  exact q G' H σ _ W S' (Out.post_mono k fun f kf=>FlK.later kf sG)
 ·have e:frz j ς=ς:=by
   unfold frz
   split
   ·rename_i d w;exact absurd ⟨d,w⟩ z
   ·rfl
  rw[e]at k
  exact q G H σ ς W S k
end
end DL
namespace LS
open PySem PySem.Spec PyProof.Rows
def met(f:Nat->Str):Nat->List Str
 | 0=>[]
 | i+1=>if f i∈met f i then met f i else met f i++[f i]
theorem met_le(f:Nat->Str):∀ i,(met f i).length<=i
 | 0=>Nat.le_refl _
 | i+1=>by
  have h:=met_le f i
  show(if _ then _ else _:List Str).length<=_
  split
  ·omega
  ·rw[List.length_append,List.length_singleton];omega
abbrev isIn(f:Nat->Str)(i:Nat):Str->Bool:=fun y=>decide (y∈met f i)
theorem QNh(f:Nat->Str)(i:Nat)(y:Str):(isIn f i y||decide (y=f i))=isIn f (i+1) y:=by
 show _=decide (y∈(if _ then _ else _:List Str))
 by_cases h:f i∈met f i
 ·rw[if_pos h]
  by_cases e:y=f i
  ·subst e;simp[isIn,h]
  ·simp[isIn,e]
 ·rw[if_neg h]
  simp[isIn,Bool.decide_or]
theorem QOw(f:Nat->Str)(i:Nat):(if isIn f i (f i)=true then(met f i).length else(met f i).length+1)=(met f (i+1)).length:=by
 show _=(if _ then _ else _:List Str).length
 by_cases h:f i∈met f i
 ·rw[if_pos h,if_pos (decide_eq_true h)]
 ·rw[if_neg h,if_neg (by simpa [isIn] using h),List.length_append];rfl
section
variable{pg:Program}{wd:World}
theorem QMh{hp:Heap}{p:Addr}{f g:Str->Bool}{m n:Nat}(h:hp.SetOf (strKind pg wd) p f m)(hf:f=g)(hn:m=n):hp.SetOf (strKind pg wd) p g n:=hn ▸ hf ▸ h
variable{ar:Around}{Res:Result->Shared->Prop}{it:Addr}{ff wt:List Addr}{Gn:Array GenState->Array GenState->Prop}{n:Nat}{Pv:Nat->Value->Prop}{Sv:Nat->Shared->Prop}
theorem fill(Wk:WalksS pg wd ar.in1 it ff wt Gn n Pv Sv){p:Addr}(off:p∉ff){f:Nat->Str}(txt:∀ i v,Pv i v->∃ t,v=.str (f i) t)(few:n+1<scanBound):
 ∀(m i:Nat)(st:Shared),i+m=n->Sv i st->st.heap.SetOf (strKind pg wd) p (isIn f i) (met f i).length->
  (∀ st',Moved (p::wt) Gn st st'->st'.heap.SetOf (strKind pg wd) p (isIn f n) (met f n).length->Res (.ok (.ret .none)) st')->
  codeAny (model pg wd) ar (.builtin "set.update.loop" ⟨[.ref p,.ref it],[]⟩) Res st:=by
 have off':p∉wt:=fun z=>off (Wk.sub _ z)
 have more:∀ b,b∈wt->b∈p::wt:=fun b hb=>List.mem_cons_of_mem p hb
 have stays:∀{s s':Shared}{i:Nat},Moved wt Gn s s'->s.heap.SetOf (strKind pg wd) p (isIn f i) (met f i).length->s'.heap.SetOf (strKind pg wd) p (isIn f i) (met f i).length:=
  fun mv ⟨o,es,ep,tb,ho,rest⟩=>⟨o,es,ep,tb,mv.heap p o off' ho,rest⟩
 intro m
 induction m with
 | zero=>
  intro i st him hs hset fin
  obtain rfl:i=n:=by omega
  refine codeAny_builtin PyProof.Rows.F.entry_set_update_loop ?_
  rw[Around.under_plainId PyProof.Rows.F.plain_set_update_loop _]
  exact wpAny_bind (m:=pyNext (.ref it)) (Wk.done st _ _ hs fun st' mv=>wpAny_pure (fin st' (mv.mono more) (stays mv hset)))
 | succ m next=>
  intro i st him hs hset fin
  refine codeAny_builtin PyProof.Rows.F.entry_set_update_loop ?_
  rw[Around.under_plainId PyProof.Rows.F.plain_set_update_loop _]
  refine wpAny_bind (m:=pyNext (.ref it)) (Wk.item i st _ _ (by omega) hs fun v st' hv hs' mv=>?_)
  obtain⟨t,rfl⟩:=txt i v hv
  have key:=strKind_is pg wd (f i) t
  have hset1:=stays mv hset
  refine wpAny_bind (m:=holding [.str (f i) t] (setAdd p (.str (f i) t))) (wpAny_holding ?_)
  unfold setAdd
  refine wpAny_holding (wpAny_bind ((strKind pg wd).pyHash (k:=f i) key ?_))
  refine wpAny_setAddHashed_of (knd:=strKind pg wd) key rfl hset1 (by have:=met_le f i;omega) fun hp' same hset'=>?_
  have now:=QMh hset' (g:=isIn f (i+1)) (funext fun y=>QNh f i y) (QOw f i)
  have tt:st'.toks<=st'.toks+1:=Nat.le_succ _
  refine wpAny_pure ⟨plainId_quiet PyProof.Rows.F.plain_set_update_loop _,next (i+1) _ (by omega) (Wk.frame _ st' _ _ hs' tt fun b hb o e=>?_) now fun st2 mv2 hset2=>fin st2 (Moved.trans Wk.gtrans ((mv.mono more).then_heap tt fun b o hb e=>?_) mv2) hset2⟩
  ·rw[same.2 b fun z=>off (z ▸ hb)];exact e
  ·rw[same.2 b fun z=>hb (z ▸ List.mem_cons_self)];exact e
end
abbrev QeY(led:Bool):Obj:={ cls:=.type "set",dict:=none,data:=.set #[] 0 (.fresh 0 0 led) }
section
variable{pg:Program}{wd:World}{ar:Around}{Ex:Value->Shared->Prop}{st:Shared}
set_option maxHeartbeats 4000000 in
theorem of_list{l:Addr}{vs:Array Value}{f:Nat->Str}{Q:Value->Shared->Prop}(nh:ar.handled=none)(isl:st.heap.IsList l vs)(txt:∀ i v,vs[i]?=some v->∃ t,v=Value.str (f i) t)(few:vs.size+1<scanBound)
 (goal:∀(hp:Heap)(tk:Nat),hp.SetOf (strKind pg wd) st.heap.objs.size (isIn f vs.size) (met f vs.size).length->(∀ b o,b<st.heap.objs.size->st.heap.get? b=some o->hp.get? b=some o)->Q (.ref st.heap.objs.size) { st with heap:=hp,toks:=tk }):
 wpAny (model pg wd) ar (call (.type "set") [.ref l]) Q Ex st:=by
 have made:=PySem.F.called_set.made
 have sub:=PySem.F.called_set.sub
 have nt:=PySem.F.called_set.notType
 have cc:=PySem.F.called_set.canCreate
 have tc:=PySem.F.typeCall_set_1 (.ref l)
 obtain⟨c1,c2,mro⟩:=PySem.F.called_set.mro
 refine wpAny_call (codeAny_of_tree ?_)
 show wpAny (model pg wd) _ (callAny (.type "set") ⟨[.ref l],[]⟩) _ _ st
 refine wpAny_pure ⟨Code.quiet_builtin _ (dk),codeAny_builtin F.entry_type_call ?_⟩
 rw[Around.under_plain (weight_type_call_type "set" [.ref l] []) rfl]
 repeat (any_goals (first | assumption | wp_step))
 let mid:Shared->Prop:=fun s2=>∃ hp tk,s2={ st with heap:=hp,toks:=tk }/\hp.SetOf (strKind pg wd) st.heap.objs.size (isIn f vs.size) (met f vs.size).length/\∀ b o,b<st.heap.objs.size->st.heap.get? b=some o->hp.get? b=some o
 refine codeAny_mono (code_set_new_1 (.ref l) (E:=Ex) (Q₁:=fun v s1=>∃ led,v=.ref st.heap.objs.size/\s1={ st with heap:=st.heap.push (QeY led) }) fun led=>⟨led,rfl,rfl⟩) fun r1 s1 h1=>?_
 cases r1 with
 | error _=>exact h1
 | ok fl1=>
  cases fl1 with
  | ret v1=>
   obtain⟨led,rfl,rfl⟩:=h1
   have at1:(st.heap.push (QeY led)).get? st.heap.objs.size=some (QeY led):=Heap.get?_push_size _ rfl
   have ty1:Shared.TypeIs { st with heap:=st.heap.push (QeY led) } (.ref st.heap.objs.size) "set":=⟨_,at1,rfl⟩
   have lk:=PySem.F.called_set.init.lookup
   have bd:=PySem.F.called_set.init.bind (.ref st.heap.objs.size)
   repeat (any_goals (first | assumption | wp_step))
   refine codeAny_mono (codeAny_call_builtin (R:=wants (fun v s2=>v=.none/\mid s2) Ex) PySem.F.called_set.init.plain F.entry_set_init (check_set_init_1 ty1 ?_)) fun r2 s2 h2=>?_
   ·obtain⟨⟨oc,od,dt,os⟩,hol,e1,nl,e2⟩:=isl
    obtain rfl:oc=.type "list":=e1
    obtain rfl:dt=.seq vs nl:=e2
    have hol1:(st.heap.push (QeY led)).get? l=some ⟨.type "list",od,.seq vs nl,os⟩:=Heap.get?_push_of_some _ hol
    have isl1:(st.heap.push (QeY led)).IsList l vs:=⟨_,hol1,rfl,nl,rfl⟩
    have n1:=PySem.F.sub_list_set
    have n2:=PySem.F.sub_list_frozenset
    have n3:(Value.type "list" == Value.type "dict")=false:=by decide
    have lt : @LT.lt Nat _ l st.heap.objs.size:=Heap.lt_size hol
    have sz:=Heap.size_push st.heap (QeY led)
    unfold Builtin.«set.__init__» noKeywords Builtin.Frozenset.updateFrom
    generalize keep:pyIter=ITER
    wp_walk
    subst keep
    refine wpAny_pyIter_list isl1 (wpAny_bind (wpAny_runValue ?_))
    have off:st.heap.objs.size∉[(st.heap.push (QeY led)).objs.size,l]:=by
     rw[sz]
     intro z
     rcases List.mem_cons.mp z with z | z
     ·exact Nat.ne_of_lt (Nat.lt_succ_self _) z
     ·exact Nat.ne_of_gt lt (List.mem_singleton.mp z)
    have off2:l≠(st.heap.push (QeY led)).objs.size:=by rw[sz];exact Nat.ne_of_lt (Nat.lt_succ_of_lt lt)
    refine fill ((Walks.list (by simp[nh]) _ l off2 vs).toS) off txt few vs.size 0 _ (Nat.zero_add _) ⟨⟨_,Heap.get?_push_size _ rfl,rfl,rfl⟩,isl1.push _⟩ ?_ fun s3 mv hs3=>?_
    ·exact QMh ((setObjOf_fresh (knd:=strKind pg wd) led).setOf (Heap.get?_push_of_some _ at1) (by unfold scanBound;omega)) (funext fun y=>by simp[isIn,met]) rfl
    ·obtain⟨hp3,g3,d3,tk3,os3⟩:=s3
     obtain rfl:g3=st.gens:=mv.gens
     obtain rfl:d3=st.drawn:=mv.drawn
     obtain rfl:os3=st.os:=mv.os
     refine wpAny_pure (wpAny_pure ⟨rfl,hp3,tk3,rfl,hs3,fun b o hb e=>?_⟩)
     refine mv.heap b o (fun z=>?_) (Heap.get?_push_of_some _ (Heap.get?_push_of_some _ e))
     rw[sz]at z
     rcases List.mem_cons.mp z with z | z
     ·exact Nat.ne_of_lt hb z
     ·rcases List.mem_cons.mp z with z | z
      ·exact Nat.ne_of_lt (Nat.lt_succ_of_lt hb) z
      ·exact absurd z List.not_mem_nil
   ·cases r2 with
    | error _=>exact h2
    | ok fl2=>
     cases fl2 with
     | ret v2=>
      obtain⟨rfl,hp,tk,rfl,hs2,kp⟩:=h2
      repeat (any_goals (first | assumption | wp_step))
      exact goal hp tk hs2 kp
     | _=>exact h2.elim
  | _=>exact h1.elim
end
end LS
namespace DL
open PySem PySem.Spec PyProof.Rows L2
def dkey:D->Option Key
 | .int i=>some (.inl i)
 | .str x=>some (.inr x)
 | _=>none
def valD(kds:List (Key×D))(k:Key):Option D:=(kds.find? fun kv=>decide (kv.1=k)).map (·.2)
def putKD(kds:List (Key×D))(k:Key)(d:D):List (Key×D):=
 if (kds.any fun kv=>decide (kv.1=k))=true then kds.map (fun kv=>if kv.1=k then(kv.1,d) else kv) else kds++[(k,d)]
section
variable{K:PySem.W.Frag}{CT:CTab}{H:Hp}
theorem Qv7{d:D}{v:V}{k:Key}(h:dkey d=some k)(r:Rep K CT H d v):v=kV k:=by
 cases d with
 | int i=>cases h;exact r
 | str x=>cases h;exact r
 | _=>cases h
theorem RepK.len:∀{ds:List (Key×D)}{vs:List (Key×V)},RepK K CT H ds vs->ds.length=vs.length
 | [],_,h=>by cases h;rfl
 | (k,d)::ds,_,⟨v,r,h1,h2,h3⟩=>by rw[h1,List.length_cons,List.length_cons,RepK.len h3]
theorem RepK.val(k:Key):∀{ds:List (Key×D)}{vs:List (Key×V)},RepK K CT H ds vs->(valD ds k=none/\valV vs k=none)∨∃ d v,valD ds k=some d/\valV vs k=some v/\Rep K CT H d v
 | [],_,h=>by cases h;exact .inl ⟨rfl,rfl⟩
 | (k',d)::ds,_,⟨v,r,h1,h2,h3⟩=>by
  subst h1
  by_cases e:k'=k
  ·subst e
   exact .inr ⟨d,v,by simp[valD],by simp[valV],h2⟩
  ·have a:valD ((k',d)::ds) k=valD ds k:=by simp[valD,List.find?_cons,e]
   have b:valV ((k',v)::r) k=valV r k:=by simp[valV,List.find?_cons,e]
   rw[a,b];exact RepK.val k h3
theorem RepK.any(k:Key):∀{ds:List (Key×D)}{vs:List (Key×V)},RepK K CT H ds vs->(ds.any fun kv=>decide (kv.1=k))=vs.any fun kv=>decide (kv.1=k)
 | [],_,h=>by cases h;rfl
 | (k',d)::ds,_,⟨v,r,h1,h2,h3⟩=>by
  subst h1
  rw[List.any_cons,List.any_cons,RepK.any k h3]
theorem RepK.repl(k:Key){d:D}{v:V}(hd:Rep K CT H d v):∀{ds:List (Key×D)}{vs:List (Key×V)},RepK K CT H ds vs->RepK K CT H (ds.map fun kv=>if kv.1=k then(kv.1,d) else kv) (vs.map fun kv=>if kv.1=k then(kv.1,v) else kv)
 | [],_,h=>by cases h;rfl
 | (k',d')::ds,_,⟨v',r,h1,h2,h3⟩=>by
  subst h1
  rw[List.map_cons,List.map_cons]
  by_cases e:k'=k
  ·rw[if_pos (show(k',d').1=k from e),if_pos (show(k',v').1=k from e)]
   exact⟨v,_,rfl,hd,RepK.repl k hd h3⟩
  ·rw[if_neg (show ¬ (k',d').1=k from e),if_neg (show ¬ (k',v').1=k from e)]
   exact⟨v',_,rfl,h2,RepK.repl k hd h3⟩
theorem RepK.snoc(k:Key){d:D}{v:V}(hd:Rep K CT H d v):∀{ds:List (Key×D)}{vs:List (Key×V)},RepK K CT H ds vs->RepK K CT H (ds++[(k,d)]) (vs++[(k,v)])
 | [],_,h=>by cases h;exact⟨v,[],rfl,hd,rfl⟩
 | (k',d')::ds,_,⟨v',r,h1,h2,h3⟩=>by
  subst h1
  exact⟨v',_,rfl,h2,RepK.snoc k hd h3⟩
theorem RepK.put(k:Key){d:D}{v:V}(hd:Rep K CT H d v){ds:List (Key×D)}{vs:List (Key×V)}(h:RepK K CT H ds vs):RepK K CT H (putKD ds k d) (putK vs k v):=by
 unfold putKD putK
 rw[RepK.any k h]
 split
 ·exact RepK.repl k hd h
 ·exact RepK.snoc k hd h
end
def eDix(A B:SD->Out D):SD->Out D:=fun ς=>A ς>>=fun x=>match x with
 | .dic kds=>B ς>>=fun y=>match dkey y with | some k=>optO (valD kds k) | none=>.stuck
 | _=>.stuck
def eDget(A B:SD->Out D):SD->Out D:=fun ς=>A ς>>=fun x=>match x with
 | .dic kds=>B ς>>=fun y=>match dkey y with | some k=>.ok ((valD kds k).getD .non) | none=>.stuck
 | _=>.stuck
def sPutD(i:Nat)(I E:SD->Out D):SD->Out Fl:=fun ς=>E ς>>=fun d=>match ς[i]? with
 | some (some (.o,.dic kds))=>I ς>>=fun y=>match dkey y with
  | some k=>if decide (kds.length<sizeLine)=true then .ok (.nx (ς.set i (some (.o,.dic (putKD kds k d))))) else .stuck
  | none=>.stuck
 | _=>.stuck
section
variable{C:Dc}{a b c:Expr}{A B Z:SD->Out D}{pos apos:Pos}
theorem QRm(hu:C.X.A.units+64<cLine)(ha:DE C a A)(hb:DB C b B)(hs:NoSl b:=by intro _ _;rfl):DE C (.Subscript a b pos) (eDix A B):=by
 obtain⟨ta,p1,q1⟩:=ha
 obtain⟨tb,p2,q2⟩:=hb
 refine⟨_,QPm (by omega) p1 p2 hs,fun G H σ ς Q S q=>?_⟩
 unfold eDix at q
 rw[Out.post_bind]at q
 refine q1 G H σ ς _ S (Out.post_mono q fun x k v1 H1 G1 S1 a1 b1 r1=>?_)
 cases x with
 | dic kds=>
  have k:(B ς>>=fun y=>match dkey y with | some k=>optO (valD kds k) | none=>.stuck).post (KD C G H σ ς Q) C.XD:=k
  rw[Out.post_bind]at k
  refine q2 G1 H1 σ ς _ S1 (Out.post_mono k fun y k2 v2 H2 G2 S2 a2 b2 r2=>?_)
  cases e:dkey y with
  | none=>rw[e]at k2;exact k2.elim
  | some kk=>
   rw[e]at k2
   obtain⟨d,ed,kd⟩:=QjE k2
   obtain⟨p,kvs,rfl,h2,h3⟩:=Rep.mono b2 _ v1 r1
   rcases RepK.val kk h3 with⟨n1,n2⟩ | ⟨d',v,n1,n2,r⟩
   ·rw[n1]at ed;cases ed
   ·rw[n1]at ed;cases ed
    exact⟨p,v,rfl,.inl ⟨kvs,kk,Same.rd S2.sub h2,Qv7 e r2,n2.symm⟩,KD.now (KD.later kd (a1.trans a2) (b1.trans b2)) S2 r⟩
 | _=>exact k.elim
theorem QPI{K:PySem.W.Frag}{CT:CTab}{H:Hp}:Rep K CT H .non .non:=rfl
theorem QON(hu:C.X.A.units+64<cLine)(ha:DE C a A)(hb:DB C b B)
 (hbase:attributeBase a "get" C.X.env (eval a C.X.env)=eval a C.X.env:=by rfl)
 (hfew:((backTo pos (starEach [b] C.X.env)).all (fun x => !x.1)&&(backToKw pos (keywordEach [] C.X.env)).all (fun x=>x.1.isSome)
  && decide (([b]:List Expr).length+([]:List Keyword).length+(if ([]:List Keyword).isEmpty then 0 else 1)<30))=true:=by rfl)
 (hline:(apos.endLine == pos.line)=true:=by rfl) (htr:backTo pos (starEach [b] C.X.env)=[(false,eval b C.X.env)]:=by rfl):DE C (.Call (.Attribute a "get" apos) [b] [] pos) (eDget A B):=by
 obtain⟨ta,p1,q1⟩:=ha
 obtain⟨tb,p2,q2⟩:=hb
 refine⟨_,QOq (by omega) p1 p2 ⟨hbase,hfew,hline,htr⟩,fun G H σ ς Q S q=>?_⟩
 unfold eDget at q
 rw[Out.post_bind]at q
 refine q1 G H σ ς _ S (Out.post_mono q fun x k v1 H1 G1 S1 a1 b1 r1=>?_)
 cases x with
 | dic kds=>
  have k:(B ς>>=fun y=>match dkey y with | some k=>Out.ok ((valD kds k).getD .non) | none=>.stuck).post (KD C G H σ ς Q) C.XD:=k
  rw[Out.post_bind]at k
  obtain⟨p,kvs,rfl,h2,h3⟩:=r1
  refine⟨p,rfl,.inl ⟨kvs,Same.rd S1.sub h2⟩,q2 G1 H1 σ ς _ S1 (Out.post_mono k fun y k2 v2 H2 G2 S2 a2 b2 r2=>?_)⟩
  cases e:dkey y with
  | none=>rw[e]at k2;exact k2.elim
  | some kk=>
   rw[e]at k2
   have kd:KD C G H σ ς Q ((valD kds kk).getD .non):=k2
   refine⟨valV kvs kk,.inl ⟨kvs,kk,Same.rd (S1.sub.trans a2) h2,Qv7 e r2,rfl⟩,?_⟩
   rcases RepK.val kk (RepK.mono b2 kds kvs h3) with⟨n1,n2⟩ | ⟨d',v,n1,n2,r⟩
   ·rw[n1]at kd;rw[n2];exact KD.now (KD.later kd (a1.trans a2) (b1.trans b2)) S2 QPI
   ·rw[n1]at kd;rw[n2];exact KD.now (KD.later kd (a1.trans a2) (b1.trans b2)) S2 r
 | _=>exact k.elim
theorem StR.writeD{G H:Hp}{σ:St}{ς:SD}(S:StR C G H σ ς){i:Nat}{p:Addr}{xs ys:List (Key×D)}{vs ws:List (Key×V)}(hi:ς[i]?=some (some (.o,.dic xs)))(hp:σ[i]?=some (some (.ref p)))(hH:H p=some (.dK vs))(r:RepK C.X.K C.CT G ys ws):
 StR C G (upd H p (.dK ws)) σ (ς.set i (some (.o,.dic ys))):=by
 obtain⟨p',e1,hg,h0,ow⟩:=S.ow i _ hi
 rw[hp]at e1;cases e1
 have hil:i<ς.length:=(List.getElem?_eq_some_iff.mp hi).1
 have ne:∀ b o,G b=some o->b≠p:=fun b o e z=>by subst z;rw[hg]at e;cases e
 have S':StR C G (upd H p (.dK ws)) (σ.set i (some (.ref p))) (ς.set i (some (.o,.dic ys))):={
  sub:=fun b o e=>by rw[Qk (ne b o e)];exact S.sub b o e
  g0:=S.g0
  new:=S.new
  fr:=fun b o e m=>by
   rw[Qk (by rintro rfl;rw[h0]at e;cases e)];exact S.fr b o e m
  dom:=fun b e=>by
   by_cases hb:b=p
   ·subst hb;exact h0
   ·rw[Qk hb]at e;exact S.dom b e
  bs:=fun b o e=>by
   rw[Qk (by rintro rfl;rw[S.bh _ h0]at e;cases e)];exact S.bs b o e
  bh:=S.bh
  len:=by rw[List.length_set,List.length_set];exact S.len
  fz:=fun j d h=>by
   rcases QL h with⟨rfl,h2,l⟩ | ⟨hne,h2⟩
   ·cases h2
   ·rw[Qz hne];exact S.fz j d h2
  ow:=fun j d h=>by
   rcases QL h with⟨rfl,h2,l⟩ | ⟨hne,h2⟩
   ·cases h2
    exact⟨p,QjD (by rw[S.len];exact l),hg,h0,⟨ws,QS,r⟩⟩
   ·rw[Qz hne]
    obtain⟨q,a,b,c,w⟩:=S.ow j d h2
    have qp:q≠p:=by
     rintro rfl
     exact S.inj i j _ _ q hne hi h2 hp a
    exact⟨q,a,b,c,w.mono (Same.refl G) fun o z=>by rw[Qk qp];exact z⟩
  ln:=fun j d h=>by
   rcases QL h with⟨rfl,h2,l⟩ | ⟨hne,h2⟩
   ·cases h2
   ·rw[Qz hne];exact S.ln j d h2
  inj:=fun j k d1 d2 q hjk h1 h2 h3=>by
   have get:∀(j:Nat) d,(ς.set i (some (.o,D.dic ys)))[j]?=some (some (.o,d))->∃ d',ς[j]?=some (some (.o,d')):=fun j d h=>by
    rcases QL h with⟨rfl,h2,l⟩ | ⟨hne,h2⟩
    ·exact⟨_,hi⟩
    ·exact⟨_,h2⟩
   obtain⟨d1',g1⟩:=get j d1 h1
   obtain⟨d2',g2⟩:=get k d2 h2
   rw[Qnc hp]at h3 ⊢
   exact S.inj j k d1' d2' q hjk g1 g2 h3
  sf:=fun j d h=>by
   rcases QL h with⟨rfl,h2,l⟩ | ⟨hne,h2⟩
   ·cases h2
   ·rw[Qz hne]
    obtain⟨q,a,b,c,m,z,w⟩:=S.sf j d h2
    have qp:q≠p:=by
     rintro rfl
     exact c h0
    exact⟨q,a,b,c,m,z,w.mono (Same.refl G) fun o z=>by rw[Qk qp];exact z⟩
  su:=fun j k d1 d2 h1 h2=>by
   rcases QL h1 with⟨rfl,q1,l⟩ | ⟨n1,q1⟩
   ·cases q1
   ·rcases QL h2 with⟨rfl,q2,l⟩ | ⟨n2,q2⟩
    ·cases q2
    ·exact S.su j k d1 d2 q1 q2 }
 rw[Qnc hp]at S'
 exact S'
variable{e:Expr}{E:SD->Out D}{p1 p2:Pos}{x:Str}
theorem QJs(hu:C.X.A.units+64<cLine)(i:Nat)(hi:DB C a A)(he:DE C e E)(hN:C.X.N[i]?=some x:=by rfl)(hv:Vis C.X.env.scope x:=by first | exact Or.inl rfl | exact Or.inr (Or.inl rfl) | exact Or.inr (Or.inr rfl))
 (hd:(x == ("__debug__":Str))=false:=by decide) (hcd:(x == ("__classdict__":Str))=false:=by decide)
 (hs:swapsWith e (some (.Subscript (.Name x p1) a p2)) pos.line C.X.env=pure false:=by rfl):DS C (.Assign [.Subscript (.Name x p1) a p2] e pos) (sPutD i A E):=by
 obtain⟨t,p,q⟩:=he
 obtain⟨t2,p2',q2⟩:=hi
 refine⟨_,QPM (by omega) (Qm9 (i:=i) hN hv hd hcd) p2' p hs,fun G H σ ς W S k=>?_⟩
 unfold sPutD at k
 rw[Out.post_bind]at k
 refine q G H σ ς _ S (Out.post_mono k fun d k v H1 G1 S1 a1 b1 r1=>?_)
 split at k
 ·rename_i kds z
  obtain⟨pp,e1,hg,h0,ow⟩:=S1.ow i _ z
  rw[Out.post_bind]at k
  refine⟨_,e1,q2 G1 H1 σ ς _ S1 (Out.post_mono k fun y k2 w H2 G2 S2 a2 b2 r2=>?_)⟩
  cases ey:dkey y with
  | none=>rw[ey]at k2;exact k2.elim
  | some kk=>
   rw[ey]at k2
   obtain⟨pp',e1',hg',h0',kvs,hv1,hv2⟩:=S2.ow i _ z
   rw[e1]at e1';cases e1'
   rcases Qaq k2 with⟨hc,k3⟩ | ⟨_,k3⟩
   ·refine⟨pp,_,rfl,.inl ⟨kvs,kk,hv1,Qv7 ey r2,by rw[← hv2.len];exact of_decide_eq_true hc,rfl⟩,?_⟩
    exact k3 σ _ G2 (S2.writeD z e1 hv1 (RepK.put kk (Rep.mono b2 d v r1) hv2)) (b1.trans b2)
   ·exact k3.elim
 ·exact k.elim
end
end DL
namespace DL
open PySem PySem.Spec PyProof.Rows L2
def Qft(xs:List Str):Nat:=(LS.met (fun i=>xs.getD i "") xs.length).length
def QPT(K:PySem.W.Frag)(te:TA):TE:=fun σ H Q=>te σ H fun vs H1=>∃ p xs,vs=[V.ref p]/\SqL K H1 p (xs.map V.str)/\xs.length<4000/\Q (.int (Qft xs)) H1
section
variable{X:Cx}{e:Expr}{te:TA}{p1 p2 p3 pos:Pos}
theorem QGd:∀{xs:List Str}{us:List Value},Vals (xs.map V.str) us->∀(i:Nat) v,us[i]?=some v->∃ t,v=.str (xs.getD i "") t
 | [],_,h,i,v,hv=>by cases h;simp at hv
 | x::xs,_,h,i,v,hv=>by
  cases h with
  | cons hx hr=>
   cases i with
   | zero=>
    obtain⟨t,ht⟩:=hx
    refine⟨t,?_⟩
    simp at hv
    rw[← hv,ht];rfl
   | succ i=>
    have:=QGd hr i v (by simpa using hv)
    simpa using this
theorem QMz(hh:X.A.handled=none)(gl:Gl X "len")(ml:X.mg "len"=none)(gs:Gl X "set")(ms:X.mg "set"=none)(he:PA X [e] te)
 (h1:starEach [e] X.env=(false,eval e X.env)::starEach [] X.env:=by rfl)
 (h2:starEach [.Call (.Name "set" p2) [e] [] p3] X.env=(false,eval (.Call (.Name "set" p2) [e] [] p3) X.env)::starEach [] X.env:=by rfl)
 (h3:backTo pos (starEach [.Call (.Name "set" p2) [e] [] p3] X.env)=[(false,eval (.Call (.Name "set" p2) [e] [] p3) X.env)]:=by rfl):
 PE X (.Call (.Name "len" p1) [.Call (.Name "set" p2) [e] [] p3] [] pos) (QPT X.K te):=by
 intro pins s σ H Q I h
 have inner:wpAny (model X.prog X.w) X.A (eval (.Call (.Name "set" p2) [e] [] p3) X.env) (fun u s'=>∃ D H1 xs,u=.ref D/\Inv X pins σ H1 s'/\s'.heap.SetOf (strKind X.prog X.w) D (LS.isIn (fun i=>xs.getD i "") xs.length) (Qft xs)/\Qft xs<4000/\Q (.int (Qft xs)) H1) X.xe s:=by
  refine wpAny_Call_Name_kw (Qks I gs ms PyProof.Rows.Boot.«set» ?_ (by decide) (by decide))
  refine PyProof.Rows.callWith_type1 (thn (he p3 pins s σ H _ I h) fun us s1 ⟨vs,H1,I1,r1,p,xs,ev,sq,few,q⟩=>?_) h1 rfl
  ·subst ev
   obtain⟨u,rfl,rx⟩:=vals1 r1
   cases rx
   obtain⟨its,rv,pl,hz⟩:=I1.list sq
   have hl:=rv.length
   rw[List.length_map]at hl
   have le:=LS.met_le (fun i=>xs.getD i "") xs.length
   refine LS.of_list hh pl.isList (f:=fun i=>xs.getD i "") (fun i v hv=>QGd rv i v (by simpa using hv)) (by rw[List.size_toArray, ← hl];unfold scanBound;omega) fun hp tk hs kp=>?_
   have sz:its.toArray.size=xs.length:=by rw[List.size_toArray];omega
   rw[sz]at hs
   exact⟨_,H1,xs,rfl,I1.kept fun b o eb=>kp b o (Heap.lt_size eb) eb,hs,by unfold Qft;omega,q⟩
 refine wpAny_Call_Name_kw (Qks I gl ml PySem.boot_len ?_ (by decide) (by decide))
 refine PyProof.Rows.callWith_builtin1 ?_ h2 rfl
 rw[h3]
 refine Calls.spliced_cons (thn inner fun u s1 ⟨D,H1,xs,eu,I1,hs,few,q⟩=>Calls.spliced_nil ?_)
 subst eu
 obtain⟨o,es,ep,t,ho,hex,hd,hel,hmem,hb,hf,hn⟩:=hs
 refine call_len_set ho hex hd hf (by rw[hn];omega) ?_
 rw[hn]
 exact⟨.int (Qft xs),H1,(I1.tok _).tok _,⟨_,rfl⟩,q⟩
end
def strsD:List D->Option (List Str)
 | []=>some []
 | .str x::ds=>(strsD ds).map (x :: ·)
 | _::_=>none
theorem QE2{K:PySem.W.Frag}{CT:CTab}{H:Hp}:∀{ds:List D}{vs:List V}{xs:List Str},strsD ds=some xs->RepL K CT H ds vs->vs=xs.map V.str
 | [],_,_,h,r=>by cases h;cases r;rfl
 | d::ds,_,xs,h,⟨v,r,h1,h2,h3⟩=>by
  cases d with
  | str x=>
   obtain⟨ys,hy,rfl⟩:=Option.map_eq_some_iff.mp (show(strsD ds).map (x :: ·)=some xs from h)
   rw[h1,QE2 hy h3,show v=V.str x from h2];rfl
  | _=>cases h
def QzD:D->Out D
 | .lst ds=>match strsD ds with
  | some xs=>if decide (xs.length<4000)=true then .ok (.int (Qft xs)) else .stuck
  | none=>.stuck
 | _=>.stuck
section
variable{C:Dc}{a:Expr}{A:SD->Out D}{p1 p2 p3 pos:Pos}
theorem QNx(hh:C.X.A.handled=none)(gl:Gl C.X "len")(ml:C.X.mg "len"=none)(gs:Gl C.X "set")(ms:C.X.mg "set"=none)(ha:DB C a A)
 (h1:starEach [a] C.X.env=(false,eval a C.X.env)::starEach [] C.X.env:=by rfl)
 (h2:starEach [.Call (.Name "set" p2) [a] [] p3] C.X.env=(false,eval (.Call (.Name "set" p2) [a] [] p3) C.X.env)::starEach [] C.X.env:=by rfl)
 (h3:backTo pos (starEach [.Call (.Name "set" p2) [a] [] p3] C.X.env)=[(false,eval (.Call (.Name "set" p2) [a] [] p3) C.X.env)]:=by rfl):
 DE C (.Call (.Name "len" p1) [.Call (.Name "set" p2) [a] [] p3] [] pos) (e1 QzD A):=by
 obtain⟨ta,q1,q2⟩:=ha
 refine⟨_,QMz hh gl ml gs ms (QcY q1 Qge h1) h1 h2 h3,fun G H σ ς Q S q=>?_⟩
 unfold e1 at q
 rw[Out.post_bind]at q
 refine q2 G H σ ς _ S (Out.post_mono q fun x k v1 H1 G1 S1 a1 b1 r1=>?_)
 cases x with
 | lst ds=>
  obtain⟨p,vs,rfl,sq,r⟩:=r1
  have k:(match strsD ds with | some xs=>if decide (xs.length<4000)=true then Out.ok (D.int (Qft xs)) else .stuck | none=>.stuck).post (KD C G H σ ς Q) C.XD:=k
  cases es:strsD ds with
  | none=>rw[es]at k;exact k.elim
  | some xs=>
   rw[es]at k
   have ev:=QE2 es r
   subst ev
   rcases Qaq k with⟨hc,kd⟩ | ⟨_,kd⟩
   ·exact⟨p,xs,rfl,sq,of_decide_eq_true hc,KD.now (KD.later (show KD C G H σ ς Q (.int (Qft xs)) from kd) a1 b1) S1 rfl⟩
   ·exact kd.elim
 | _=>exact k.elim
end
end DL
namespace DL
open PySem PySem.Spec PyProof.Rows L2
def tVs(vs:List V):TA:=fun _ H Q=>Q vs H
def anyT:List (List (Str×Bool))->Str->Option Bool
 | [],_=>some false
 | t::ts,c=>match t.lookup c with
  | some true=>some true
  | some false=>anyT ts c
  | none=>none
def KitsT(K:PySem.W.Frag)(CT:CTab):List Value->List (List (Str×Bool))->Prop
 | [],[]=>True
 | u::us,t::ts=>KitI K CT u t/\KitsT K CT us ts
 | _,_=>False
theorem QEe{K:PySem.W.Frag}{CT:CTab}{c:Str}{A:Addr}(hA:CT c=some A):∀{us:List Value}{ts:List (List (Str×Bool))}{b:Bool},KitsT K CT us ts->anyT ts c=some b->PySem.W.kitAny K (.ref A) us=some b
 | [],[],b,_,h=>h
 | u::us,t::ts,b,⟨h1,h2⟩,h=>by
  unfold anyT at h
  unfold PySem.W.kitAny
  cases e:t.lookup c with
  | none=>rw[e]at h;cases h
  | some z=>
   rw[(h1 c z e A hA).2]
   rw[e]at h
   cases z with
   | true=>exact h
   | false=>exact QEe hA h2 h
theorem QOA{K:PySem.W.Frag}{CT:CTab}{c:Str}{A:Addr}(hA:CT c=some A){u:Value}{us:List Value}{t:List (Str×Bool)}{ts:List (List (Str×Bool))}{b:Bool}(h:KitsT K CT (u::us) (t::ts))(e:anyT (t::ts) c=some b):ClsD K A:=by
 unfold anyT at e
 cases q:t.lookup c with
 | none=>rw[q]at e;cases e
 | some z=>exact(h.1 c z q A hA).1
def isaTs(ts:List (List (Str×Bool))):D->Out Bool
 | .ins c _=>match anyT ts c with | some b=>.ok b | none=>.stuck
 | _=>.stuck
section
variable{C:Dc}{e:Expr}{E:SD->Out D}{p pos tp1:Pos}{cs:List Expr}
theorem QP0{X:Cx}:PA X [] (tVs []):=Qge
theorem Qry{X:Cx}{e:Expr}{es:List Expr}{v:V}{vs:List V}(h:PE X e (tC v))(r:PA X es (tVs vs))(he:starEach (e::es) X.env=(false,eval e X.env)::starEach es X.env:=by rfl):PA X (e::es) (tVs (v::vs)):=QcY h r he
theorem QD7:∀{as:List Addr}{us:List Value},Vals (as.map V.ref) us->us=as.map Value.ref
 | [],_,h=>by cases h;rfl
 | a::as,_,h=>by
  cases h with
  | cons h1 h2=>rw[QD7 h2,show _=Value.ref a from h1];rfl
theorem QPy{x1}{a:Addr}{as:List Addr}{t:List (Str×Bool)}{ts:List (List (Str×Bool))}(hc:PA C.X cs (tVs ((a::as).map V.ref)))(hk:KitsT C.X.K C.CT ((a::as).map Value.ref) (t::ts))(hz:(a::as).length<=20)(hg:Gl C.X "isinstance")(hm:C.X.mg "isinstance"=none)(h:DB C e E)
 (he:starEach (e::[.Tuple cs x1 tp1]) C.X.env=(false,eval e C.X.env)::starEach [.Tuple cs x1 tp1] C.X.env:=by rfl) (he2:starEach (.Tuple cs x1 tp1::[]) C.X.env=(false,eval (.Tuple cs x1 tp1) C.X.env)::starEach [] C.X.env:=by rfl)
 (hpl:(backTo pos (starEach [.Tuple cs x1 tp1] C.X.env)).any (·.1)=false:=by rfl):DE C (.Call (.Name "isinstance" p) [e,.Tuple cs x1 tp1] [] pos) (eIsa (isaTs (t::ts)) E):=by
 obtain⟨te,p1,q1⟩:=h
 have hR:CallR C.X (.builtin "isinstance") (fun xs H Q=>∃ c fs x tp b,xs=[x,V.ref tp]/\Rep C.X.K C.CT H (.ins c fs) x/\H tp=some (.tup ((a::as).map V.ref))/\anyT (t::ts) c=some b/\Q (.bl b) H):=by
  intro pins s σ H xs us Q I r hq
  obtain⟨c,fs,x,tp,b,rfl,h1,h2,h3,q⟩:=hq
  obtain⟨u,w,rfl,r1,r2⟩:=vals2 r
  obtain rfl:w=Value.ref tp:=r2
  obtain⟨p',A',dx,fs',rfl,g1,g2,_⟩:=h1
  obtain rfl:u=Value.ref p':=r1
  have cd:=QOA g1 hk h3
  obtain⟨mA,O,_⟩:=Qqp I.hok g2
  obtain⟨od,J,_⟩:=O.look
  obtain⟨_,its,rv,pt⟩:=(show ObjOk C.X.prog C.X.w H s.heap tp (.tup ((a::as).map V.ref)) from I.hok tp _ h2)
  obtain⟨⟨oc,odd,odt,osl⟩,ho,hcl,nn,hd⟩:=pt
  obtain rfl:oc=.type "tuple":=hcl
  obtain rfl:odt=.seq its.toArray nn:=hd
  obtain rfl:=QD7 rv
  exact PySem.W.kia_tup (PySem.W.kitx_own (cd.cl.get _) cd.cl.hd cd.ha cd.hn cd.htk cd.hm) I.kIn J ho (QEe g1 hk h3) (fun z=>nomatch z) fun tk=>⟨.bl b,H,I.tok _,rfl,q⟩
 refine⟨_,Qwl hR hg hm PyProof.Rows.Boot.«isinstance» (QcY p1 (QcY (QMJ hc) Qge he2) he) (by decide) (by decide) he hpl,fun G H σ ς Q S q=>?_⟩
 unfold eIsa at q
 rw[Out.post_bind]at q
 refine q1 G H σ ς _ S (Out.post_mono q fun d k v1 H1 G1 S1 a1 b1 r1=>?_)
 rw[Out.post_bind]at k
 cases d with
 | ins c fs=>
  cases ea:anyT (t::ts) c with
  | none=>
   have hs:isaTs (t::ts) (D.ins c fs)=.stuck:=by show(match anyT (t::ts) c with | some b=>Out.ok b | none=>Out.stuck)=_;rw[ea]
   rw[hs]at k;exact k.elim
  | some b=>
   have hs:isaTs (t::ts) (D.ins c fs)=.ok b:=by show(match anyT (t::ts) c with | some b=>Out.ok b | none=>Out.stuck)=_;rw[ea]
   rw[hs]at k
   refine⟨by rw[List.length_map];exact Nat.le_trans hz (by decide),fun tp htp=>?_⟩
   have S2:=S1.allocO (o:=.tup ((a::as).map V.ref)) htp
   exact⟨c,fs,v1,tp,b,rfl,Rep.mono (QE htp) _ v1 r1,QS,ea,KD.now (KD.later (show KD C G H σ ς Q (.bl b) from k) (a1.trans (QE htp)) b1) S2 rfl⟩
 | _=>exact k.elim
end
end DL
namespace DL
open PySem PySem.Spec PyProof.Rows L2
theorem QEh{K:PySem.W.Frag}{CT:CTab}{H:Hp}{d:D}{v:V}(h:d.scal=true)(r:Rep K CT H d v):v=toV d:=by
 cases d with
 | non=>exact r
 | bl b=>exact r
 | int i=>exact r
 | str x=>exact r
 | _=>cases h
theorem QBi{K:PySem.W.Frag}{CT:CTab}{H:Hp}:∀{ds:List D}{vs:List V},ds.all D.scal=true->RepL K CT H ds vs->vs=ds.map toV
 | [],_,_,r=>by cases r;rfl
 | d::ds,_,h,⟨v,r,h1,h2,h3⟩=>by
  rw[List.all_cons,Bool.and_eq_true]at h
  rw[h1,QEh h.1 h2,QBi h.2 h3];rfl
theorem QA8{d:D}(h:d.scal=true):flatV (toV d)=true:=by
 cases d with
 | non=>rfl
 | bl b=>rfl
 | int i=>rfl
 | str x=>rfl
 | _=>cases h
theorem QxJ:∀{ds:List D},ds.all D.scal=true->(ds.map toV).all flatV=true
 | [],_=>rfl
 | d::ds,h=>by
  rw[List.all_cons,Bool.and_eq_true]at h
  rw[List.map_cons,List.all_cons,QA8 h.1,QxJ h.2];rfl
def dInL:D->D->Out D
 | x,.lst ds=>if (x.scal&&ds.all D.scal)=true then .ok (.bl (inV (toV x) (ds.map toV))) else .stuck
 | _,_=>.stuck
section
variable{C:Dc}{a b:Expr}{A B:SD->Out D}{pos:Pos}
theorem QQa:DRS C (rIn C.X.K false) dInL:=by
 intro G H σ ς Q x y vx vy S hx hy q
 cases y with
 | lst ds=>
  have q:(if (x.scal&&ds.all D.scal)=true then Out.ok (D.bl (inV (toV x) (ds.map toV))) else .stuck).post _ _:=q
  rcases Qaq q with⟨hc,q⟩ | ⟨_,q⟩
  ·rw[Bool.and_eq_true]at hc
   obtain⟨p,vs,rfl,h2,h3⟩:=hy
   have e1:=QEh hc.1 hx
   have e2:=QBi hc.2 h3
   subst e1;subst e2
   exact⟨p,_,rfl,.inl h2,QA8 hc.1,QxJ hc.2,q.2⟩
  ·exact q.elim
 | _=>exact q.elim
theorem QOd:scal2 dInL:=fun x y=>by
 cases y with
 | lst ds=>
  show match (if (x.scal&&ds.all D.scal)=true then Out.ok (D.bl (inV (toV x) (ds.map toV))) else .stuck) with | .ok d=>d.scal=true | .exc _=>False | .stuck=>True
  split<;>rename_i h<;>(split at h<;>cases h)<;>first | rfl | trivial
 | _=>exact True.intro
theorem QNw(ha:DB C a A)(hb:DB C b B)(hm:behindInMarks .In b=false:=by rfl):DE C (.Compare a [.In] [b] pos) (e2 dInL A B):=QFQ QLX QQa QOd ha hb hm
end
end DL
namespace DL
open PySem PySem.Spec PyProof.Rows L2
theorem Qrp{i j:Int}(h:0<j):dMod (.int i) (.int j)=.ok (.int (i % j)):=by
 show(if decide (j≠0)=true then Out.ok (D.int (i.fmod j)) else Out.stuck)=_
 rw[if_pos (decide_eq_true (by omega)),Int.fmod_eq_emod_of_nonneg i (by omega)]
theorem QFP{j:Int}{n:Nat}(h:j.natAbs<2 ^ n)(hn:n<=9000):big j=true:=decide_eq_true (Nat.lt_of_lt_of_le h (Nat.pow_le_pow_right (by decide) hn))
theorem QwW{i j:Int}(h:j≠0)(hb:big j=true):dFdiv (.int i) (.int j)=.ok (.int (i.fdiv j)):=by
 show(if (decide (j≠0)&&big j)=true then Out.ok (D.int (i.fdiv j)) else Out.stuck)=_
 rw[if_pos (by rw[hb,decide_eq_true h];rfl)]
theorem QAS{i j:Int}(h:0<j)(hb:big j=true):dFdiv (.int i) (.int j)=.ok (.int (i / j)):=by
 rw[QwW (by omega) hb,Int.fdiv_eq_ediv_of_nonneg i (by omega)]
theorem Qas{i:Int}{n:Nat}(h:i.natAbs<2 ^ n):bitsI i<=n:=PySem.intBits_le_iff.mpr h
theorem QeD{i:Int}{n:Nat}(h:bitsI i<=n):i.natAbs<2 ^ n:=PySem.intBits_le_iff.mp h
theorem QOS{i j:Int}(h:bitsI i+bitsI j<=134217728):dMul (.int i) (.int j)=.ok (.int (i * j)):=by
 show(if decide (bitsI i+bitsI j<=134217728)=true then Out.ok (D.int (i * j)) else Out.stuck)=_
 rw[if_pos (decide_eq_true h)]
theorem QJc{i j:Int}{m n:Nat}(hi:bitsI i<=m)(hj:bitsI j<=n)(h:m+n<=134217728):dMul (.int i) (.int j)=.ok (.int (i * j)):=QOS (by omega)
theorem Qbs(i j:Int):dAdd (.int i) (.int j)=.ok (.int (i+j)):=rfl
theorem Qcd(i j:Int):dSub (.int i) (.int j)=.ok (.int (i - j)):=rfl
theorem QbL(i:Int):dNeg (.int i)=.ok (.int (-i)):=rfl
theorem Qbt(i:Int):dAbs (.int i)=.ok (.int (i.natAbs:Int)):=by
 show Out.ok (D.int (if i<0 then -i else i))=_
 congr 2;split<;>omega
theorem QaM(i j:Int):dLt (.int i) (.int j)=.ok (.bl (decide (i<j))):=rfl
theorem QbM(i j:Int):dLe (.int i) (.int j)=.ok (.bl (decide (i<=j))):=rfl
theorem Qc0(i j:Int):dGt (.int i) (.int j)=.ok (.bl (decide (j<i))):=rfl
theorem Qcm(i j:Int):dGe (.int i) (.int j)=.ok (.bl (decide (j<=i))):=rfl
theorem QJD{i j:Int}(h:(decide (0<=j)&&decide (j<=1000000)&&decide (i.natAbs<2 ^ 64))=true):dPow (.int i) (.int j)=.ok (.int (i ^ j.toNat)):=by
 show(if _=true then Out.ok (D.int (i ^ j.toNat)) else Out.stuck)=_
 rw[if_pos h]
mutual
def layD:D->Bool
 | .non=>true
 | .bl _=>true
 | .int _=>true
 | .str x=>PyData.strOk x
 | .lst xs=>layDs xs
 | .tup xs=>layDs xs
 | _=>false
def layDs:List D->Bool
 | []=>true
 | x::xs=>layD x&&layDs xs
end
mutual
def dep:D->Nat
 | .lst xs=>deps xs+1
 | .tup xs=>deps xs+1
 | _=>0
def deps:List D->Nat
 | []=>0
 | x::xs=>max (dep x) (deps xs)
end
mutual
theorem Qyj:∀ d:D,layD d=true->d.py.canLay0=true
 | .non,_=>rfl
 | .bl _,_=>rfl
 | .int _,_=>rfl
 | .str x,h=>h
 | .lst xs,h=>QAP xs h
 | .tup xs,h=>QAP xs h
theorem QAP:∀ ds:List D,layDs ds=true->PyData.canLayAll0 (D.pys ds)=true
 | [],_=>rfl
 | x::xs,h=>by
  rw[layDs,Bool.and_eq_true]at h
  rw[D.pys,PyData.canLayAll0,Bool.and_eq_true]
  exact⟨Qyj x h.1,QAP xs h.2⟩
end
mutual
theorem QMD:∀ d:D,layD d=true->d.py.depth=dep d
 | .non,_=>rfl
 | .bl _,_=>rfl
 | .int _,_=>rfl
 | .str x,h=>rfl
 | .lst xs,h=>by rw[D.py,PyData.depth,dep,QAn xs h]
 | .tup xs,h=>by rw[D.py,PyData.depth,dep,QAn xs h]
theorem QAn:∀ ds:List D,layDs ds=true->PyData.depthAll (D.pys ds)=deps ds
 | [],_=>rfl
 | x::xs,h=>by
  rw[layDs,Bool.and_eq_true]at h
  rw[D.pys,PyData.depthAll,deps,QMD x h.1,QAn xs h.2]
end
theorem QE8{d:D}(h:layD d=true)(hd:dep d<=64):shp d=true:=by
 unfold shp SeqAt.shaped
 rw[Qyj d h,QMD d h]
 simpa using hd
theorem QuG(i:Int):shp (.int i)=true:=QE8 rfl (Nat.zero_le _)
theorem QMq{x y:D}(hx:shp x=true)(hy:shp y=true):dEq x y=.ok (.bl (PyData.eqv x.py y.py)):=by
 unfold dEq;rw[hx,hy];rfl
theorem QMQ{x y:D}(hx:shp x=true)(hy:shp y=true):dNe x y=.ok (.bl (!PyData.eqv x.py y.py)):=by
 unfold dNe;rw[hx,hy];rfl
theorem QJd(i j:Int):(i == j)=decide (i=j):=by
 by_cases h:i=j
 ·subst h;simp
 ·simp[h]
theorem QC(i j:Int):dEq (.int i) (.int j)=.ok (.bl (decide (i=j))):=by
 rw[QMq (QuG i) (QuG j), ← QJd]
 rfl
theorem QaY(i j:Int):dNe (.int i) (.int j)=.ok (.bl (!decide (i=j))):=by
 rw[QMQ (QuG i) (QuG j), ← QJd]
 rfl
theorem QaD{n:Nat}(h:n<=1000:=by decide):fits n=true:=decide_eq_true (Nat.le_trans h (by decide))
theorem ixT{xs:List D}{x:D}(k:Nat)(h:xs[k]?=some x):dIx (.tup xs) (.int (k:Int))=.ok x:=by
 show optO (atI xs (k:Int))=_
 rw[QJw h];rfl
theorem ixL{xs:List D}{x:D}(k:Nat)(h:xs[k]?=some x):dIx (.lst xs) (.int (k:Int))=.ok x:=by
 show optO (atI xs (k:Int))=_
 rw[QJw h];rfl
theorem QPA(x:D)(xs:List D):dIx (.tup (x::xs)) (.int 0)=.ok x:=ixT 0 rfl
theorem QQt(x y:D)(xs:List D):dIx (.tup (x::y::xs)) (.int 1)=.ok y:=ixT 1 rfl
theorem QRC{α:Type}(xs:List α)(k:Nat):cutD xs none (some (k:Int))=xs.take k:=by
 unfold cutD
 rw[HT.sIx_none,HT.sIx_nat,List.drop_zero,Nat.sub_zero]
 by_cases h:k<=xs.length
 ·rw[Nat.min_eq_left h]
 ·rw[Nat.min_eq_right (by omega),List.take_of_length_le (Nat.le_refl _),List.take_of_length_le (by omega)]
theorem QOC{α:Type}(xs:List α)(k:Nat):cutD xs (some (k:Int)) none=xs.drop k:=by
 unfold cutD
 rw[HT.sIx_none,HT.sIx_nat]
 by_cases h:k<=xs.length
 ·rw[Nat.min_eq_left h,List.take_of_length_le (by rw[List.length_drop];exact Nat.le_refl _)]
 ·rw[Nat.min_eq_right (by omega),List.drop_length,List.drop_eq_nil_of_le (by omega)];simp
theorem QJy{xs ys:List D}(h:xs.length+ys.length<=1000):dCat (.lst xs) (.lst ys)=.ok (.lst (xs++ys)):=by
 show(if fits _=true then _ else _)=_
 rw[if_pos (QaD h)]
theorem QbV{g:D->SD->Out SD}{its:SD->Out (List D)}{T:SD->Out Fl}{ς:SD}{xs:List D}{r:Out Fl}(h:its ς=.ok xs)(hL:loopD (fun x ς=>g x ς>>=fun ς'=>T ς') xs ς=r):sFor g its T ς=r:=by
 unfold sFor
 rw[h];exact hL
theorem QcM{A:SD->Out D}{ς:SD}(m:Nat)(h:A ς=.ok (.int (m:Int)))(hm:m<=1000000):itR1 A ς=.ok (QbB 0 m):=by
 have hs:Qp7 (m:Int)=true:=by
  unfold Qp7
  rw[Bool.and_eq_true]
  exact⟨decide_eq_true (by omega),decide_eq_true (by omega)⟩
 unfold itR1
 rw[h,Out.bind_ok]
 simp only[hs,if_true,Int.toNat_natCast]
end DL
namespace DL
open PySem PySem.Spec PyProof.Rows L2
theorem Qbz{body:D->SD->Out Fl}{P:Nat->SD->Prop}{n:Nat}(h:∀ k:Nat,k<n->∀ ς,P k ς->∃ ς',body (.int (k:Int)) ς=.ok (.nx ς')/\P (k+1) ς'):∀ ς,P 0 ς->∃ ς',loopD body (QbB 0 n) ς=.ok (.nx ς')/\P n ς':=by
 have key:∀(j:Nat)(k:Nat),k+j=n->∀ ς,P k ς->∃ ς',loopD body ((List.range' k j).map fun(i:Nat)=>D.int ((0:Int)+i)) ς=.ok (.nx ς')/\P n ς':=by
  intro j
  induction j with
  | zero=>
   intro k hk ς p
   have:k=n:=by omega
   subst this
   exact⟨ς,rfl,p⟩
  | succ j ih=>
   intro k hk ς p
   obtain⟨ς1,e1,p1⟩:=h k (by omega) ς p
   obtain⟨ς2,e2,p2⟩:=ih (k+1) (by omega) ς1 p1
   refine⟨ς2,?_,p2⟩
   rw[List.range'_succ,List.map_cons,loopD,Int.zero_add,e1]
   exact e2
 intro ς p
 have:=key n 0 (by omega) ς p
 unfold QbB
 rw[List.range_eq_range']
 exact this
theorem QFh{f:D->Out (Option D)}{h:D->Option D}:∀{xs:List D},(∀ x∈xs,f x=.ok (h x))->compM f xs=.ok (xs.filterMap h)
 | [],_=>rfl
 | x::xs,hf=>by
  rw[compM,hf x List.mem_cons_self,Out.bind_ok,QFh (xs:=xs) (fun y hy=>hf y (List.mem_cons_of_mem _ hy)),Out.bind_ok,List.filterMap_cons]
  cases h x<;>rfl
theorem QsN{α:Type}(f:α->Bool):∀ xs:List α,blsOf (xs.map fun x=>D.bl (f x))=some (xs.map f)
 | []=>rfl
 | x::xs=>by rw[List.map_cons,blsOf,QsN f xs];rfl
theorem Qws{α:Type}(f:α->Bool)(xs:List α):fAll (.lst (xs.map fun x=>D.bl (f x)))=.ok (.bl (xs.all f)):=by
 rw[fAll,QsN]
 show Out.ok (D.bl ((xs.map f).all id))=_
 rw[List.all_map];rfl
theorem QNG{α:Type}(f:α->Bool)(xs:List α):fAny (.lst (xs.map fun x=>D.bl (f x)))=.ok (.bl (xs.any f)):=by
 rw[fAny,QsN]
 show Out.ok (D.bl ((xs.map f).any id))=_
 rw[List.any_map];rfl
theorem Qp6{n:Nat}(h:n<=1000):fits n=true:=QaD h
end DL
namespace My
def shD(a b:Int):Int:=if b<0 then -(a.gcd b:Int) else(a.gcd b:Int)
def low(p q:Int):Prop:=1<=q/\p.gcd q=1
theorem Qi5{a b:Int}(h:b≠0):0<a.gcd b:=Int.gcd_pos_of_ne_zero_right a h
theorem QDH{a b:Int}(h:b≠0):shD a b≠0:=by
 have:=Qi5 (a:=a) h
 unfold shD;split<;>omega
theorem QuB(a b:Int):(shD a b).natAbs=a.gcd b:=by
 unfold shD;split<;>omega
theorem QEb(a b:Int):shD a b∣a:=by
 rw[← Int.natAbs_dvd,QuB];exact Int.gcd_dvd_left a b
theorem QCb(a b:Int):shD a b∣b:=by
 rw[← Int.natAbs_dvd,QuB];exact Int.gcd_dvd_right a b
theorem QFE{a b:Int}(h:b≠0):∃ x y,a=shD a b * x/\b=shD a b * y/\a.fdiv (shD a b)=x/\b.fdiv (shD a b)=y:=by
 obtain⟨x,hx⟩:=QEb a b
 obtain⟨y,hy⟩:=QCb a b
 have hs:=QDH (a:=a) h
 refine⟨x,y,hx,hy,?_,?_⟩
 ·have e:a.fdiv (shD a b)=(shD a b * x).fdiv (shD a b):=congrArg (fun z=>Int.fdiv z (shD a b)) hx
  rw[e,Int.mul_fdiv_cancel_left x hs]
 ·have e:b.fdiv (shD a b)=(shD a b * y).fdiv (shD a b):=congrArg (fun z=>Int.fdiv z (shD a b)) hy
  rw[e,Int.mul_fdiv_cancel_left y hs]
theorem Qkt{a b:Int}(h:b≠0):low (a.fdiv (shD a b)) (b.fdiv (shD a b)):=by
 obtain⟨x,y,hx,hy,e1,e2⟩:=QFE (a:=a) h
 rw[e1,e2]
 constructor
 ·have hs:=QDH (a:=a) h
  by_cases hb:b<0
  ·have hd:shD a b<0:=by
    have:=Qi5 (a:=a) h
    unfold shD;rw[if_pos hb];omega
   rcases Int.lt_or_le 0 y with h0 | h0
   ·omega
   ·have:0<=shD a b * y:=Int.mul_nonneg_of_nonpos_of_nonpos (by omega) h0
    omega
  ·have hd:0<shD a b:=by
    have:=Qi5 (a:=a) h
    unfold shD;rw[if_neg hb];omega
   rcases Int.lt_or_le 0 y with h0 | h0
   ·omega
   ·have:shD a b * y<=0:=Int.mul_nonpos_of_nonneg_of_nonpos (by omega) h0
    omega
 ·have g0:=Qi5 (a:=a) h
  have e:a.gcd b=(shD a b).natAbs * x.gcd y:=by
   have e0:(shD a b * x).gcd (shD a b * y)=(shD a b).natAbs * x.gcd y:=Int.gcd_mul_left ..
   rw[← hx, ← hy]at e0
   exact e0
  rw[QuB]at e
  have:a.gcd b * 1=a.gcd b * x.gcd y:=by omega
  exact(Nat.eq_of_mul_eq_mul_left g0 this).symm
theorem QOj{a b:Int}(h:b≠0):(a.fdiv (shD a b)) * b=a * (b.fdiv (shD a b)):=by
 obtain⟨x,y,hx,hy,e1,e2⟩:=QFE (a:=a) h
 rw[e1,e2]
 generalize shD a b=s at *
 subst hx hy
 rw[Int.mul_assoc,Int.mul_left_comm]
theorem Qx7{k m n:Int}(h:k∣m * n)(g:k.gcd m=1):k∣n:=by
 rw[← Int.natAbs_dvd_natAbs]at h ⊢
 rw[Int.natAbs_mul]at h
 exact Nat.Coprime.dvd_of_dvd_mul_left (show Nat.Coprime k.natAbs m.natAbs from g) h
theorem QKl{p q r s:Int}(h1:low p q)(h2:low r s)(e:p * s=r * q):p=r/\q=s:=by
 obtain⟨q1,g1⟩:=h1
 obtain⟨s1,g2⟩:=h2
 have d1:q∣s:=Qx7 (m:=p) ⟨r,by rw[e,Int.mul_comm]⟩ (by rw[Int.gcd_comm];exact g1)
 have d2:s∣q:=Qx7 (m:=r) ⟨p,by rw[← e,Int.mul_comm]⟩ (by rw[Int.gcd_comm];exact g2)
 have eq:q=s:=Int.dvd_antisymm (by omega) (by omega) d1 d2
 subst eq
 exact⟨Int.eq_of_mul_eq_mul_right (by omega) e,rfl⟩
theorem QD9(a b:Int):b.gcd (a % b)=a.gcd b:=by
 have h:a % b=a - b * (a / b):=Int.emod_def a b
 rw[h,Int.gcd_sub_mul_left_right,Int.gcd_comm]
end My
namespace DL
open PySem PySem.Spec L2
section
variable{i j:Nat}{d x y:D}{m:SM}{ς ς' ς1:SD}{E A B:SD->Out D}{AA:SD->Out (List D)}{f:D->Out D}{g:D->D->Out D}{h:List D->Out D}{r:Out D}{xs ys:List D}{T U:SD->Out Fl}{P Q:SD->Out Bool}{b c:Bool}{fl:Fl}{rf:Out Fl}{rb:Out Bool}
theorem r_var(e:ς[i]?=some (some (.k,d))):eVar i ς=.ok d:=by unfold eVar;rw[e]
theorem r_C:eC d ς=.ok d:=rfl
theorem r_e1(a:A ς=.ok x)(k:f x=r):e1 f A ς=r:=by unfold e1;rw[a];exact k
theorem r_e2(a:A ς=.ok x)(a':B ς=.ok y)(k:g x y=r):e2 g A B ς=r:=by unfold e2;rw[a,Out.bind_ok,a'];exact k
theorem r_eA(a:AA ς=.ok xs)(k:h xs=r):eA h AA ς=r:=by unfold eA;rw[a];exact k
theorem QQQ{dd:List D}(a:AA ς=.ok xs)(e:xs++dd=ys)(k:h ys=r):eA (fun xs=>h (xs++dd)) AA ς=r:=by unfold eA;rw[a];show h (xs++dd)=r;rw[e];exact k
theorem r_nil:aNil ς=.ok []:=rfl
theorem QQL(a:A ς=.ok x)(k:AA ς=.ok xs):aCons A AA ς=.ok (x::xs):=by unfold aCons;rw[a,Out.bind_ok,k];rfl
theorem r_tup(a:AA ς=.ok xs)(k:xs.length<=1000):eTup AA ς=.ok (.tup xs):=by unfold eTup;rw[a,Out.bind_ok,if_pos (Qp6 k)]
theorem r_lst(a:AA ς=.ok xs)(k:xs.length<=1000):eLst AA ς=.ok (.lst xs):=by unfold eLst;rw[a,Out.bind_ok,if_pos (Qp6 k)]
theorem QQN(a:A ς=.ok (.bl b)):tVal A ς=.ok b:=by unfold tVal;rw[a];rfl
theorem QRp(a:P ς=.ok b):tNot' P ς=.ok (!b):=by unfold tNot';rw[a];rfl
theorem r_or'(a:P ς=.ok b)(k:(if b=true then .ok true else Q ς)=rb):tOr' P Q ς=rb:=by unfold tOr';rw[a];exact k
theorem QRg(a:P ς=.ok b)(k:(if b=true then Q ς else .ok false)=rb):tAnd' P Q ς=rb:=by unfold tAnd';rw[a];exact k
theorem QRk(a:A ς=.ok (.bl b))(k:(if b=true then B ς else .ok (.bl false))=r):eAnd A B ς=r:=by unfold eAnd;rw[a];cases b<;>exact k
theorem r_eIf(a:P ς=.ok b)(k:(if b=true then A ς else B ς)=r):eIf P A B ς=r:=by unfold eIf;rw[a];exact k
theorem r_isa{F:D->Out Bool}(a:A ς=.ok x)(k:F x=.ok b):eIsa F A ς=.ok (.bl b):=by unfold eIsa;rw[a,Out.bind_ok,k];rfl
theorem QO6{g':D->D->Out D}{E':SD->Out D}(a:A ς=.ok x)(a':B ς=.ok y)(k:g x y=.ok (.bl b))(k':(if b=true then E' ς>>=fun w=>g' y w else .ok (.bl false))=r):Qf5 g g' A B E' ς=r:=by unfold Qf5;rw[a,Out.bind_ok,a',Out.bind_ok,k];cases b<;>exact k'
theorem QR3{z:D}(a:E ς=.ok z)(k:f z=r):(E ς>>=fun w=>f w)=r:=by rw[a];exact k
theorem r_set(a:E ς=.ok d)(k:ς.set i (some (.k,d))=ς'):sSet i E ς=.ok (.nx ς'):=by unfold sSet;rw[a,Out.bind_ok,k]
theorem QRN(a:E ς=.ok d)(k:ς.set i (some (.o,d))=ς'):sSetO i E ς=.ok (.nx ς'):=by unfold sSetO;rw[a,Out.bind_ok,k]
theorem r_seq(a:T ς=.ok fl)(k:thenF U fl=rf):sSeq T U ς=rf:=by unfold sSeq;rw[a];exact k
theorem r_okR{α:Type}{a:α}:(Out.ok a)=Out.ok a:=rfl
theorem Qts(k:U ς=rf):thenF U (.nx ς)=rf:=k
theorem QPb{z:Bool}:thenF U (.rt z d)=.ok (.rt z d):=rfl
theorem r_if(a:P ς=.ok b)(k:(if b=true then T ς else U ς)=rf):sIf P T U ς=rf:=by unfold sIf;rw[a];exact k
theorem QRu{α:Type}{u v w:α}(a:b=true)(k:u=w):(if b=true then u else v)=w:=by rw[if_pos a];exact k
theorem QQ1{α:Type}{u v w:α}(a:b=false)(k:v=w):(if b=true then u else v)=w:=by subst a;exact k
theorem r_ret(a:E ς=.ok d):sRet E ς=.ok (.rt false d):=by unfold sRet;rw[a];rfl
theorem QQI(a:E ς=.ok d):sRetF E ς=.ok (.rt true d):=by unfold sRetF;rw[a];rfl
theorem QRW(e:ς[i]?=some (some (.o,d))):sRetO i ς=.ok (.rt true d):=by unfold sRetO;rw[e]
theorem QRS:sNil ς=.ok (.nx ς):=rfl
theorem QJn{n:Nat}(k:n<=1000):decide (n<sizeLine)=true:=decide_eq_true (Nat.lt_of_le_of_lt k (by decide))
theorem r_app(e:ς[i]?=some (some (.o,.lst xs)))(a:E ς=.ok d)(k:xs.length<=1000)(l:ς.set i (some (.o,.lst (xs++[d])))=ς'):QbN i E ς=.ok (.nx ς'):=by
 unfold QbN;rw[e];show(E ς>>=fun d=>if decide (xs.length<sizeLine)=true then _ else _)=_;rw[a,Out.bind_ok,if_pos (QJn k),l]
theorem r_noX{α:Type}{o:Out α}{a:α}(k:o=.ok a):noX o=.ok a:=by rw[k];rfl
theorem r_sl{l u:SD->Out (Option Int)}{p q:Option Int}(a:A ς=.ok (.lst xs))(k1:l ς=.ok p)(k2:u ς=.ok q)(e:cutD xs p q=ys):eSl A l u ς=.ok (.lst ys):=by unfold eSl;rw[a,Out.bind_ok,k1,Out.bind_ok,k2,Out.bind_ok];show Out.ok (D.lst _)=_;rw[e]
theorem r_oNo:oNo ς=.ok none:=rfl
theorem QO1{k:Int}(a:E ς=.ok (.int k)):oSome E ς=.ok (some k):=by unfold oSome;rw[a];rfl
theorem QAU:Q3 [] [] ς=.ok ς:=rfl
theorem QBf{is:List Nat}{rs:Out SD}(a:ς.set i (some (.k,d))=ς1)(k:Q3 is ys ς1=rs):Q3 (i::is) (d::ys) ς=rs:=by show Q3 is ys (ς.set i (some (.k,d)))=rs;rw[a];exact k
theorem r_unp{is:List Nat}(a:E ς=.ok (.tup ys))(k:Q3 is ys ς=.ok ς'):sUnp is E ς=.ok (.nx ς'):=by unfold sUnp;rw[a,Out.bind_ok];show(Q3 is ys ς>>=_)=_;rw[k];rfl
theorem QRs{fr:Bool}(a:T ς=.ok fl)(k:retF fr fl=r):(T ς>>=retF fr)=r:=by rw[a];exact k
theorem r_rt{z:Bool}:retF false (.rt z d)=.ok d:=by unfold retF;simp
theorem r_rtT:retF true (.rt true d)=.ok d:=by unfold retF;simp
theorem r_gN{L:SD->Out Fl}(a:ς.set i (some (.k,d))=ς1)(k:L ς1=rf):(gN i d ς>>=fun ς'=>L ς')=rf:=by unfold gN;rw[a];exact k
theorem r_gT{L:SD->Out Fl}{is:List Nat}(a:Q3 is ys ς=.ok ς1)(k:L ς1=rf):(gT is (.tup ys) ς>>=fun ς'=>L ς')=rf:=by unfold gT;show(Q3 is ys ς>>=fun ς'=>L ς')=rf;rw[a];exact k
theorem QRe{cl:Str}{fds:List (Str×D)}{mk:Str->List (Str×D)->List D->Out (List (Str×D))}(a:AA ς=.ok xs)(k:mk cl [] xs=.ok fds):eMake cl mk AA ς=.ok (.ins cl fds):=by unfold eMake;rw[a,Out.bind_ok,k];rfl
theorem QOO{cs:List Str}{n cl:Str}{fds fds':List (Str×D)}{mk:Str->List (Str×D)->List D->Out (List (Str×D))}(e:ς[i]?=some (some (.s,.ins cl fds)))(k1:cs.contains cl=true)(k2:fds.lookup n=none)(a:AA ς=.ok xs)(k:mk cl fds xs=.ok fds')(l:ς.set i (some (.s,.ins cl fds'))=ς'):Qkj cs n mk i AA ς=.ok (.nx ς'):=by
 unfold Qkj;rw[e]
 show(if (cs.contains cl&&(fds.lookup n).isNone)=true then _ else _)=_
 rw[k1,k2]
 show(AA ς>>=_)=_
 rw[a,Out.bind_ok,k,Out.bind_ok,l]
theorem r_itL(a:E ς=.ok (.lst xs)):itL E ς=.ok xs:=by unfold itL;rw[a];rfl
end
theorem QR2{T:SD->Out Fl}{ς τ:SD}{c:Str}{fds:List (Str×D)}(a:T ς=.ok (.nx (some (.s,.ins c fds)::τ))):(T ς>>=Qgf c)=.ok fds:=by
 rw[a];simp[Qgf,QuA]
theorem c_nil{ς:SD}:captD [] ς=[]:=rfl
theorem Qg5{ς τ:SD}{js:List (Option Nat)}(k:captD js ς=τ):captD (none::js) ς=none::τ:=by rw[← k];rfl
theorem c_k{ς τ:SD}{js:List (Option Nat)}{j:Nat}{d:D}(e:ς[j]?=some (some (.k,d)))(k:captD js ς=τ):captD (some j::js) ς=some (.k,d)::τ:=by
 rw[← k];show captS ς j::_=_;unfold captS;rw[e];rfl
theorem QaH{js:List (Option Nat)}{i:Nat}{e:SD->Out D}{ς τ0 τ:SD}{x d:D}(c:captD js ς=τ0)(a:τ0.set i (some (.k,x))=τ)(k:e τ=.ok d):turnC js (gN i) cTrue e ς x=.ok (some d):=by
 unfold turnC gN cTrue
 rw[c,a,Out.bind_ok,Out.bind_ok,if_pos rfl,k];rfl
theorem QJr{js:List (Option Nat)}{is:List Nat}{e:SD->Out D}{ς τ0 τ:SD}{xs:List D}{d:D}(c:captD js ς=τ0)(a:Q3 is xs τ0=.ok τ)(k:e τ=.ok d):turnC js (gT is) cTrue e ς (.tup xs)=.ok (some d):=by
 unfold turnC gT cTrue
 show((Q3 is xs (captD js ς))>>=_)=_
 rw[c,a,Out.bind_ok,Out.bind_ok,if_pos rfl,k];rfl
theorem QaO{α:Type}{js:List (Option Nat)}{its:SD->Out (List D)}{g:D->SD->Out SD}{e:SD->Out D}{ς:SD}{l:List α}(f:α->D)(h:α->D)(hi:its ς=.ok (l.map f))(ht:∀ x∈l,turnC js g cTrue e ς (f x)=.ok (some (h x)))(hl:l.length<=1000):
 eComp js its g cTrue e ς=.ok (.lst (l.map h)):=by
 have go:∀ l:List α,(∀ x∈l,turnC js g cTrue e ς (f x)=.ok (some (h x)))->compM (turnC js g cTrue e ς) (l.map f)=.ok (l.map h):=by
  intro l
  induction l with
  | nil=>intro _;rfl
  | cons x xs ih=>
   intro H
   have h1:=H x (List.mem_cons_self ..)
   have h2:=ih fun y hy=>H y (List.mem_cons_of_mem _ hy)
   show compM (turnC js g cTrue e ς) (f x::xs.map f)=_
   unfold compM
   rw[h1,Out.bind_ok,h2];rfl
 unfold eComp
 rw[hi,Out.bind_ok,go l ht,Out.bind_ok,if_pos (Qp6 (by rw[List.length_map];exact hl))]
theorem Qjx{js:List (Option Nat)}{its:SD->Out (List D)}{g:D->SD->Out SD}{e:SD->Out D}{ς:SD}{n:Nat}(h:Nat->D)(hi:its ς=.ok (QbB 0 n))(ht:∀ k:Nat,k<n->turnC js g cTrue e ς (.int (k:Int))=.ok (some (h k)))(hl:n<=1000):
 eComp js its g cTrue e ς=.ok (.lst ((List.range n).map h)):=by
 refine QaO (fun i:Nat=>D.int (0+(i:Int))) h hi (fun k hk=>?_) (by rw[List.length_range];exact hl)
 show turnC js g cTrue e ς (.int (0+(k:Int)))=_
 rw[Int.zero_add]
 exact ht k (List.mem_range.mp hk)
theorem r_get{ς:SD}{i:Nat}{m:SM}{d:D}(h:ς[i]?=some (some (m,d))):ς[i]?=some (some (m,d)):=h
theorem r_len{n:Nat}(h:n<=1000):n<=1000:=h
theorem QRB{i:Int}{n:Nat}(h:bitsI i<=n):bitsI i<=n:=h
theorem r_dec{m n:Nat}(h:decide (m<=n)=true):decide (m<=n)=true:=h
theorem r_id{α:Type}{a b:α}(h:a=b):a=b:=h
theorem QPU{n:Str}:List.lookup n ([]:List (Str×D))=none:=rfl
theorem QRG{α:Type}{x:α}{xs:List α}:(x::xs)[0]?=some x:=rfl
theorem QRP{α:Type}{x:α}{xs:List α}{n:Nat}{r:Option α}(h:xs[n]?=r):(x::xs)[n+1]?=r:=by rw[List.getElem?_cons_succ];exact h
theorem QNk{α:Type}{x y:α}{xs:List α}:(x::xs).set 0 y=y::xs:=rfl
theorem QNv{α:Type}{x y:α}{xs ys:List α}{n:Nat}(h:xs.set n y=ys):(x::xs).set (n+1) y=x::ys:=by rw[List.set_cons_succ,h]
theorem QRV{α:Type}{ys:List α}:[]++ys=ys:=rfl
theorem QRD{α:Type}{x:α}{xs ys zs:List α}(h:xs++ys=zs):x::xs++ys=x::zs:=by rw[List.cons_append,h]
theorem QsV{i:Int}(h:decide (i.natAbs<2 ^ 300)=true):bitsI i<=300:=Qas (of_decide_eq_true h)
theorem QQJ{i j:Int}{m n:Nat}(a:bitsI i<=m)(b:bitsI j<=n):bitsI (i+j)<=m+n+1:=by
 have a:=QeD a
 have b:=QeD b
 refine Qas ?_
 have c1:2 ^ m<=2 ^ (m+n):=Nat.pow_le_pow_right (by decide) (by omega)
 have c2:2 ^ n<=2 ^ (m+n):=Nat.pow_le_pow_right (by decide) (by omega)
 rw[Nat.pow_succ]
 omega
theorem QMs{i:Int}{m:Nat}(a:bitsI i<=m):bitsI (-i)<=m:=by
 have a:=QeD a
 exact Qas (by omega)
theorem Qkk{i j:Int}{m n:Nat}(a:bitsI i<=m)(b:bitsI j<=n):bitsI (i * j)<=m+n:=by
 have a:=QeD a
 have b:=QeD b
 refine Qas ?_
 rw[Int.natAbs_mul,Nat.pow_add]
 exact Nat.mul_lt_mul'' a b
theorem QRh{i j:Int}{n:Nat}(h:0<j)(b:bitsI j<=n):bitsI (i % j)<=n:=by
 have b:=QeD b
 have h1:=Int.emod_nonneg i (show j≠0 by omega)
 have h2:=Int.emod_lt_of_pos i h
 exact Qas (by omega)
theorem QtJ{i j:Int}{n:Nat}(a:bitsI i<=n):bitsI (i / j)<=n:=by
 have a:=QeD a
 exact Qas (Nat.lt_of_le_of_lt (Int.natAbs_ediv_le_natAbs i j) a)
theorem Qs1{n m:Nat}(h:n<2 ^ m):bitsI (n:Int)<=m:=Qas (by simpa using h)
theorem bd_in{i:Int}{n:Nat}(h0:0<=i)(h:i<2 ^ n):bitsI i<=n:=Qas (by
 have:((2 ^ n:Nat):Int)=2 ^ n:=by simp
 omega)
theorem r_mul{i j:Int}{m n:Nat}(hi:bitsI i<=m)(hj:bitsI j<=n)(h:decide (m+n<=134217728)=true):dMul (.int i) (.int j)=.ok (.int (i * j)):=QJc hi hj (of_decide_eq_true h)
theorem QQv{i j:Int}{n:Nat}(h:0<j)(hj:bitsI j<=n)(hn:decide (n<=9000)=true):dFdiv (.int i) (.int j)=.ok (.int (i / j)):=QAS h (QFP (QeD hj) (of_decide_eq_true hn))
end DL
namespace Bar
def sm:Nat->(Nat->Rat)->Rat
 | 0,_=>0
 | n+1,f=>sm n f+f n
theorem sm_congr:∀{n:Nat}{f g:Nat->Rat},(∀ i,i<n->f i=g i)->sm n f=sm n g
 | 0,_,_,_=>rfl
 | n+1,f,g,h=>by
  show sm n f+f n=sm n g+g n
  rw[sm_congr fun i hi=>h i (by omega),h n (by omega)]
theorem sm_add:∀(n:Nat)(f g:Nat->Rat),sm n (fun i=>f i+g i)=sm n f+sm n g
 | 0,_,_=>by simp[sm,Rat.zero_add]
 | n+1,f,g=>by
  show sm n (fun i=>f i+g i)+(f n+g n)=(sm n f+f n)+(sm n g+g n)
  rw[sm_add n f g];grind
theorem sm_mul:∀(n:Nat)(c:Rat)(f:Nat->Rat),sm n (fun i=>c * f i)=c * sm n f
 | 0,c,_=>by simp[sm,Rat.mul_zero]
 | n+1,c,f=>by
  show sm n (fun i=>c * f i)+c * f n=c * (sm n f+f n)
  rw[sm_mul n c f];grind
theorem sm_zero:∀{n:Nat}{f:Nat->Rat},(∀ i,i<n->f i=0)->sm n f=0
 | 0,_,_=>rfl
 | n+1,f,h=>by
  show sm n f+f n=0
  rw[sm_zero fun i hi=>h i (by omega),h n (by omega)];grind
abbrev Mx:=Nat->Nat->Rat
def S:Nat->Mx->Mx
 | 0,A=>A
 | k+1,A=>fun i j=>S k A i j - S k A i k / S k A k k * S k A k j
def p:Nat->Mx->Rat
 | 0,_=>1
 | k+1,A=>p k A * S k A k k
def isZ(x:Rat):Prop:=∃ z:Int,x=(z:Rat)
structure Sgn(A:Mx)(n:Nat):Prop where
 off:∀ i j,i<n->j<n->i≠j->A i j<=0
 one:∀ i,i<n->0<A i n
def Xl(A:Mx)(n:Nat):Nat->Nat->Rat
 | 0,_=>0
 | m+1,c=>if c+(m+1)=n then(S c A c n - sm m (fun e=>S c A c (c+1+e) * Xl A n m (c+1+e))) / S c A c c else Xl A n m c
def X(A:Mx)(n c:Nat):Rat:=Xl A n n c
end Bar
namespace Bar
def E(A:Mx)(m i j:Nat):Int:=(p m A * S m A i j).num
def P(A:Mx)(k:Nat):Int:=(p k A).num
section
variable{A:Mx}(hz:∀ i c,isZ (A i c))
include hz
end
section
variable{A:Mx}(hz:∀ i c,isZ (A i c))
include hz
end
end Bar
set_option maxHeartbeats 4000000
namespace My
open PySem PySem.Spec L2 DL
def top(i:Nat):Stmt:=PySem.Challenge.pw_dockethall_k56_leans.main.body.getD i (.Pass ⟨0,0,0,0⟩)
def Qj:List Str:=["Deal","Bundle","Copy","Rows","Office"]
def Qd:List Str:=["Deal","Bundle","Copy","Rows"]
def Q0:List Str:=["Office"]
abbrev QcB:Stmt:=top 53
theorem QIg:Qo ["_law_script","_law_k"] ["_law_script","_law_k"] (Qa QcB):=⟨rfl,rfl,rfl,dk,rfl,dk,dk⟩
noncomputable section
abbrev Lo(s:Stmt)(n:String):Prop:=(Qa s).names.lookup (n:Str)=some NameKind.local
abbrev Gl(s:Stmt)(n:String):Prop:=(Qa s).names.lookup (n:Str)=some NameKind.globalImplicit
variable{P:Program}{w:World}{K:PySem.W.Frag}{mg:Str->Option Value}{base:Heap}{CT:CTab}{f:Addr}{fd:FuncData}{dV:Value}
theorem Qlt:Lo QcB "_law_k":=dk
theorem Qhd:Lo QcB "_law_script":=dk
theorem Qz4:Gl QcB "len":=dk
def Qiu:SD->Out Fl:=(sSeq (sIf (tVal (e2 dLt (eVar 1) (eA fLen (aCons (eVar 0) aNil)))) (sRet (e2 dIx (eVar 0) (eVar 1))) sNil) (sRet (eC (.int 0))))
def QbJ:List D->Out D:=bodyF false 2 2 Qiu
theorem Qyu(d0 d1:D):QbJ [d0,d1]=(Qiu [some (.k,d0),some (.k,d1)]>>=retF false):=rfl
theorem QJ8(F:FunV K "_law_cell" "_law_cell" QcB f fd dV)(z_len:mg "len"=none):FnOk P w K mg base CX0 1 f fd ["_law_script","_law_k"] (SpD K CT false QbJ):=
 @fnV P w K mg base CT false "_law_cell" "_law_cell" QcB f fd dV ["_law_script","_law_k"] ["_law_script","_law_k"] 0 Qiu F QIg fun cdv A outer s H E G hr=>
  (Qf (ds_if (dt_lt (DE.db (Qb 1 rfl (oi Qlt))) (DE.db (Qaz Qz4 z_len (Qs (DE.db (Qb 0 rfl (oi Qhd))) Qx)))) (Qh (QD (de_ix (Qb 0 rfl (oi Qhd)) (DE.db (Qb 1 rfl (oi Qlt)))))) QY) (Qh (QD Qe)))
abbrev Qb2:Stmt:=top 55
theorem QmX:Qo ["_law_cell_here","_law_k","_law_number"] ["_law_cell_here","_law_k"] (Qa Qb2):=⟨rfl,rfl,rfl,dk,rfl,dk,dk⟩
theorem Qk4:Lo Qb2 "_law_cell_here":=dk
theorem Qf7:Lo Qb2 "_law_k":=dk
theorem Qbm:Lo Qb2 "_law_number":=dk
def Qj2:SD->Out Fl:=(sSeq (sSet 2 (e2 dMul (e2 dAdd (e2 dAdd (e2 dAdd (e2 dMod (eVar 0) (eC (.int 1000000007))) (e2 dMul (e2 dMul (eC (.int 7919)) (eVar 1)) (eVar 1))) (e2 dMul (eC (.int 31)) (eVar 1))) (eC (.int 1))) (eC (.int 6364136223846793005)))) (sSeq (sSet 2 (e2 dMod (eVar 2) (eC (.int 2305843009213693951)))) (sRet (e2 dMod (e2 dMul (eVar 2) (eVar 2)) (eC (.int 2305843009213693951))))))
def QP:List D->Out D:=bodyF false 2 3 Qj2
theorem QIW(d0 d1:D):QP [d0,d1]=(Qj2 [some (.k,d0),some (.k,d1),none]>>=retF false):=rfl
theorem QHL(F:FunV K "_law_mixed" "_law_mixed" Qb2 f fd dV)  : FnOk P w K mg base CX0 1 f fd ["_law_cell_here","_law_k"] (SpD K CT false QP):=
 @fnV P w K mg base CT false "_law_mixed" "_law_mixed" Qb2 f fd dV ["_law_cell_here","_law_k","_law_number"] ["_law_cell_here","_law_k"] 0 Qj2 F QmX fun cdv A outer s H E G hr=>
  (Qf (Qy (i:=2) QmX.nd rfl (oi Qbm) (QbO (DE.db (Qbo (DE.db (Qbo (DE.db (Qbo (DE.db (Qbq (DE.db (Qb 0 rfl (oi Qk4))) (DE.db Qe))) (DE.db (QbO (DE.db (QbO (DE.db Qe) (DE.db (Qb 1 rfl (oi Qf7))))) (DE.db (Qb 1 rfl (oi Qf7))))))) (DE.db (QbO (DE.db Qe) (DE.db (Qb 1 rfl (oi Qf7))))))) (DE.db Qe))) (DE.db Qe))) (Qf (Qy (i:=2) QmX.nd rfl (oi Qbm) (Qbq (DE.db (Qb 2 rfl (oi Qbm))) (DE.db Qe))) (Qh (QD (Qbq (DE.db (QbO (DE.db (Qb 2 rfl (oi Qbm))) (DE.db (Qb 2 rfl (oi Qbm))))) (DE.db Qe))))))
abbrev QaQ:Stmt:=top 61
theorem Qhu:Qo ["_law_number","_law_many","_law_found","_law_k"] ["_law_number","_law_many"] (Qa QaQ):=⟨rfl,rfl,rfl,dk,rfl,dk,dk⟩
theorem QdD:Lo QaQ "_law_found":=dk
theorem Qph:Lo QaQ "_law_many":=dk
theorem Qtj:Gl QaQ "range":=dk
theorem Qsi:Lo QaQ "_law_k":=dk
theorem Qdu:Lo QaQ "_law_number":=dk
def Qez:SD->Out Fl:=(sSeq (QbN 2 (e2 dIx (eLst (aCons (eC (.int 0)) (aCons (eC (.int 1)) (aCons (eC (.int 0)) (aCons (eC (.int 2)) (aCons (eC (.int 1)) (aCons (eC (.int 0)) (aCons (eC (.int 1)) (aCons (eC (.int 0)) aNil))))))))) (e2 dMod (eVar 0) (eC (.int 8))))) (sSet 0 (e2 dFdiv (eVar 0) (eC (.int 8)))))
def QiC:SD->Out Fl:=(sSeq (sSetO 2 (eLst aNil)) (sSeq (sFor (gN 3) (itR1 (eVar 1)) Qez) (sRetO 2)))
def QcV:List D->Out D:=bodyF true 2 4 QiC
theorem QDV(d0 d1:D):QcV [d0,d1]=(QiC [some (.k,d0),some (.k,d1),none,none]>>=retF true):=rfl
theorem QEo(F:FunV K "_law_counts" "_law_counts" QaQ f fd dV)(z_range:mg "range"=none):FnOk P w K mg base CX0 1 f fd ["_law_number","_law_many"] (SpD K CT true QcV):=
 @fnV P w K mg base CT true "_law_counts" "_law_counts" QaQ f fd dV ["_law_number","_law_many","_law_found","_law_k"] ["_law_number","_law_many"] 0 QiC F Qhu fun cdv A outer s H E G hr=>
  (Qf (QfB (i:=2) Qhu.nd rfl (oi QdD) (QcK Qg)) (Qf (Qcl PassesOwn.never rfl (QaX Qtj z_range (DE.db (Qb 1 rfl (oi Qph)))) (QB (i:=3) Qhu.nd rfl (oi Qsi)) (Qu _) (Qf (Qdf 2 (de_ix (DF.de (QcK (Qc Qe (Qc Qe (Qc Qe (Qc Qe (Qc Qe (Qc Qe (Qc Qe (Qc Qe Qg)))))))))) (DE.db (Qbq (DE.db (Qb 0 rfl (oi Qdu))) (DE.db Qe)))) rfl (oi QdD)) (Qh (Qy (i:=0) Qhu.nd rfl (oi Qdu) (Qch (DE.db (Qb 0 rfl (oi Qdu))) (DE.db Qe)))))) (Qh (Qqa 2 rfl (oi QdD)))))
abbrev Qad:Stmt:=top 62
theorem Qfz:Qo ["_law_number","_law_kind","_law_size","_law_rows_here","_law_s"] ["_law_number"] (Qa Qad):=⟨rfl,rfl,rfl,dk,rfl,dk,dk⟩
theorem QbC:Lo Qad "_law_number":=dk
theorem Qbl:Lo Qad "_law_kind":=dk
theorem Qb4:Lo Qad "_law_size":=dk
theorem QaC:Lo Qad "_law_rows_here":=dk
theorem Qmq:Gl Qad "range":=dk
theorem Qet:(Qa Qad).names.lookup ("_law_s":Str)=some NameKind.cell:=dk
abbrev Qho:PySem.Scope:={ kind:=PySem.ScopeKind.function,names:=[ (PySem.Str.ofString ".0",PySem.NameKind.local),(PySem.Str.ofString "_law_k",PySem.NameKind.local),(PySem.Str.ofString "int",PySem.NameKind.globalImplicit),(PySem.Str.ofString "_law_s",PySem.NameKind.free)],isGenerator:=false,isCoroutine:=false,more:=[]:PySem.Scope }
theorem QsX:QM ["_law_k","_law_s"] [none,some 4] Qho (Qa Qad) ["_law_number","_law_kind","_law_size","_law_rows_here","_law_s"]:=⟨rfl,dk,dk,rfl,dk,dk⟩
theorem Qfb:(Qi Qho (Qa Qad)).names.lookup ("_law_k":Str)=some NameKind.local:=dk
theorem Qq0:(Qi Qho (Qa Qad)).names.lookup ("_law_s":Str)=some NameKind.cell:=dk
theorem Qu3:(Qi Qho (Qa Qad)).names.lookup ("int":Str)=some NameKind.globalImplicit:=dk
def QmH:SD->Out D:=(eA (f1 dInt) (aCons (e2 dEq (eVar 0) (eVar 1)) aNil))
theorem QzV:Gl Qad "int":=dk
theorem Qg6:Gl Qad "_law_counts":=dk
def Qal:SD->Out Fl:=(sSeq (sIf (tVal (e2 dEq (eVar 1) (eC (.int 0)))) (QbN 3 (eComp [none,some 4] (itR1 (eVar 2)) (gN 0) cTrue QmH)) sNil) (sSeq (sIf (tVal (e2 dEq (eVar 1) (eC (.int 1)))) (QbN 3 (eLst (aCons (eA (f1 dInt) (aCons (e2 dEq (eVar 4) (e2 dSub (eVar 2) (eC (.int 1)))) aNil)) aNil))) sNil) (sIf (tVal (e2 dEq (eVar 1) (eC (.int 3)))) (QbN 3 (eA (fun xs=>QcV (xs++[])) (aCons (e2 dAdd (e2 dFdiv (eVar 0) (eC (.int 64))) (e2 dMul (e2 dMul (eC (.int 48271)) (eVar 4)) (eVar 4))) (aCons (e2 dMod (e2 dFdiv (eVar 0) (eC (.int 16))) (eC (.int 4))) aNil)))) sNil)))
def Qe0:SD->Out Fl:=(sSeq (sSet 1 (e2 dMod (eVar 0) (eC (.int 4)))) (sSeq (sSet 2 (e2 dAdd (eC (.int 1)) (e2 dMod (e2 dFdiv (eVar 0) (eC (.int 4))) (eC (.int 4))))) (sSeq (sSetO 3 (eLst aNil)) (sSeq (sFor (gN 4) (itR1 (eVar 2)) Qal) (sSeq (sIf (tVal (e2 dEq (eVar 1) (eC (.int 2)))) (sSetO 3 (eLst (aCons (eA (fun xs=>QcV (xs++[])) (aCons (e2 dFdiv (eVar 0) (eC (.int 64))) (aCons (e2 dSub (eVar 2) (eC (.int 1))) aNil))) aNil))) sNil) (fun ς=>(sRet (eTup (aCons (eVar 1) (aCons (eVar 3) aNil)))) (frz 3 ς)))))))
def QdN:List D->Out D:=bodyF false 1 5 Qe0
theorem Ql1(d0:D):QdN [d0]=(Qe0 [some (.k,d0),none,none,none,none]>>=retF false):=rfl
theorem QLF(F:FunV K "_law_rows" "_law_rows" Qad f fd dV)(Qty:DefOk P w K mg base CT "_law_counts" 1 true [] QcV)(z_range:mg "range"=none)(z_int:mg "int"=none):FnOk P w K mg base CX0 2 f fd ["_law_number"] (SpD K CT false QdN):=
 @fnV P w K mg base CT false "_law_rows" "_law_rows" Qad f fd dV ["_law_number","_law_kind","_law_size","_law_rows_here","_law_s"] ["_law_number"] 1 Qe0 F Qfz fun cdv A outer s H E G hr=>
  (Qf (Qy (i:=1) Qfz.nd rfl (oi Qbl) (Qbq (DE.db (Qb 0 rfl (oi QbC))) (DE.db Qe))) (Qf (Qy (i:=2) Qfz.nd rfl (oi Qb4) (Qbo (DE.db Qe) (DE.db (Qbq (DE.db (Qch (DE.db (Qb 0 rfl (oi QbC))) (DE.db Qe))) (DE.db Qe))))) (Qf (QfB (i:=3) Qfz.nd rfl (oi QaC) (QcK Qg)) (Qf (Qcl PassesOwn.never rfl (QaX Qmq z_range (DE.db (Qb 2 rfl (oi Qb4)))) (QB (i:=4) Qfz.nd rfl (Or.inr Qet)) (Qu _) (Qf (ds_if (dt_eq hr.units (DE.db (Qb 1 rfl (oi Qbl))) (DE.db Qe)) (Qh (Qdf 3 (DF.de (Q7 rfl QsX (DI.b (QaX Qmq z_range (DE.db (Qb 2 rfl (oi Qb4))))) (fun ς=>QU (Qt rfl ς)) (Qu _) (fun fp s H G p=>⟨(QB (i:=0) QsX.nd rfl (oi Qfb) (hf:=Or.inr Qfb)),QV,(QJH Qu3 z_int (Qs (DE.db (de_eq hr.units (DE.db (Qb 0 rfl (oi Qfb))) (DE.db (Qb 1 rfl (Or.inr (oi Qq0)))))) Qx))⟩))) rfl (oi QaC))) QY) (Qf (ds_if (dt_eq hr.units (DE.db (Qb 1 rfl (oi Qbl))) (DE.db Qe)) (Qh (Qdf 3 (DF.de (QcK (Qc (QJH QzV z_int (Qs (DE.db (de_eq hr.units (DE.db (Qb 4 rfl (Or.inr (oi Qet)))) (DE.db (QcN (DE.db (Qb 2 rfl (oi Qb4))) (DE.db Qe))))) Qx)) Qg))) rfl (oi QaC))) QY) (Qh (ds_if (dt_eq hr.units (DE.db (Qb 1 rfl (oi Qbl))) (DE.db Qe)) (Qh (Qdf 3 (de_f Qty (hr.mono (by decide)) (Qc (Qbo (DE.db (Qch (DE.db (Qb 0 rfl (oi QbC))) (DE.db Qe))) (DE.db (QbO (DE.db (QbO (DE.db Qe) (DE.db (Qb 4 rfl (Or.inr (oi Qet)))))) (DE.db (Qb 4 rfl (Or.inr (oi Qet))))))) (Qc (Qbq (DE.db (Qch (DE.db (Qb 0 rfl (oi QbC))) (DE.db Qe))) (DE.db Qe)) Qg)) Qg6) rfl (oi QaC))) QY))))) (Qf (ds_if (dt_eq hr.units (DE.db (Qb 1 rfl (oi Qbl))) (DE.db Qe)) (Qh (QfB (i:=3) Qfz.nd rfl (oi QaC) (QcK (Qc (de_f Qty (hr.mono (by decide)) (Qc (Qch (DE.db (Qb 0 rfl (oi QbC))) (DE.db Qe)) (Qc (QcN (DE.db (Qb 2 rfl (oi Qb4))) (DE.db Qe)) Qg)) Qg6) Qg)))) QY) (Qh (QyP 3 (QD (Qda (Qc (Qb 1 rfl (oi Qbl)) (Qc (Qb 3 rfl (oi QaC)) Qg)))))))))))
abbrev QN:Stmt:=top 63
theorem QaK:Qo ["_law_script","_law_first","_law_many","_law_doors","_law_ring","_law_plan_here","_law_k","_law_number","_law_kind","_law_rows_here","_law_leads","_law_o","_law_to"] ["_law_script"] (Qa QN):=⟨rfl,rfl,rfl,dk,rfl,dk,dk⟩
theorem Qg8:Lo QN "_law_script":=dk
theorem QiY:Gl QN "_law_cell":=dk
theorem QcW:Lo QN "_law_first":=dk
theorem QbR:Gl QN "_law_mixed":=dk
theorem Qbi:Lo QN "_law_many":=dk
theorem Qc1:Lo QN "_law_doors":=dk
theorem Qiw:Lo QN "_law_ring":=dk
theorem Qde:Lo QN "_law_plan_here":=dk
theorem Qna:Gl QN "range":=dk
theorem Qeq:Lo QN "_law_k":=dk
theorem QcD:Lo QN "_law_number":=dk
theorem QrJ:Gl QN "_law_rows":=dk
theorem QbY:Lo QN "_law_rows_here":=dk
theorem Qis:Lo QN "_law_kind":=dk
theorem QeM:Lo QN "_law_leads":=dk
theorem QpT:Gl QN "len":=dk
theorem Qlv:Lo QN "_law_o":=dk
theorem Qa3:Lo QN "_law_to":=dk
def Qgm:SD->Out Fl:=(sSeq (sSet 12 (e2 dMod (eA (fun xs=>QP (xs++[])) (aCons (eVar 7) (aCons (eVar 11) aNil))) (e2 dAdd (eVar 2) (eVar 3)))) (sSeq (sIf (tAnd' (tNot' (tVal (eVar 4))) (tVal (e2 dLe (eVar 12) (eVar 6)))) (sSet 12 (e2 dAdd (eVar 2) (e2 dMod (eVar 12) (eVar 3)))) sNil) (QbN 10 (eIf (tVal (e2 dLt (eVar 12) (eVar 2))) (eVar 12) (e2 dSub (e2 dSub (eVar 2) (eC (.int 1))) (eVar 12))))))
def Qi2:SD->Out Fl:=(sSeq (sSet 7 (eA (fun xs=>QP (xs++[])) (aCons (eA (fun xs=>QbJ (xs++[])) (aCons (eVar 0) (aCons (e2 dAdd (eC (.int 1)) (eVar 6)) aNil))) (aCons (e2 dAdd (eVar 6) (eC (.int 3))) aNil)))) (sSeq (sUnp [8,9] (eA (fun xs=>QdN (xs++[])) (aCons (e2 dFdiv (eVar 7) (eC (.int 7))) aNil))) (sSeq (sSetO 10 (eLst aNil)) (sSeq (sFor (gN 11) (itR1 (eA fLen (aCons (e2 dIx (eVar 9) (eC (.int 0))) aNil))) Qgm) (fun ς=>(QbN 5 (eTup (aCons (eVar 8) (aCons (eVar 9) (aCons (eVar 10) (aCons (e2 dMod (e2 dMod (eVar 7) (eC (.int 7))) (eA fLen (aCons (eVar 9) aNil))) aNil)))))) (frz 10 ς))))))
def QlH:SD->Out Fl:=(sSeq (sSet 1 (eA (fun xs=>QbJ (xs++[])) (aCons (eVar 0) (aCons (eC (.int 0)) aNil)))) (sSeq (sSet 2 (e2 dAdd (eC (.int 1)) (e2 dMod (eA (fun xs=>QP (xs++[])) (aCons (eVar 1) (aCons (eC (.int 0)) aNil))) (eC (.int 5))))) (sSeq (sSet 3 (e2 dAdd (eC (.int 1)) (e2 dMod (eA (fun xs=>QP (xs++[])) (aCons (eVar 1) (aCons (eC (.int 1)) aNil))) (eC (.int 3))))) (sSeq (sSet 4 (e2 dEq (e2 dMod (eA (fun xs=>QP (xs++[])) (aCons (eVar 1) (aCons (eC (.int 2)) aNil))) (eC (.int 2))) (eC (.int 1)))) (sSeq (sSetO 5 (eLst aNil)) (sSeq (sFor (gN 6) (itR1 (eVar 2)) Qi2) (fun ς=>(sRet (eTup (aCons (eVar 5) (aCons (eVar 3) aNil)))) (frz 5 ς))))))))
def Qfo:List D->Out D:=bodyF false 1 13 QlH
theorem QK0(d0:D):Qfo [d0]=(QlH [some (.k,d0),none,none,none,none,none,none,none,none,none,none,none,none]>>=retF false):=rfl
theorem QLw(F:FunV K "_law_plan" "_law_plan" QN f fd dV)(Qw6:DefOk P w K mg base CT "_law_cell" 1 false [] QbJ)(QcC:DefOk P w K mg base CT "_law_mixed" 1 false [] QP)(QLI:DefOk P w K mg base CT "_law_rows" 2 false [] QdN)(z_range:mg "range"=none)(z_len:mg "len"=none):FnOk P w K mg base CX0 3 f fd ["_law_script"] (SpD K CT false Qfo):=
 @fnV P w K mg base CT false "_law_plan" "_law_plan" QN f fd dV ["_law_script","_law_first","_law_many","_law_doors","_law_ring","_law_plan_here","_law_k","_law_number","_law_kind","_law_rows_here","_law_leads","_law_o","_law_to"] ["_law_script"] 2 QlH F QaK fun cdv A outer s H E G hr=>
  (Qf (Qy (i:=1) QaK.nd rfl (oi QcW) (de_f Qw6 (hr.mono (by decide)) (Qc (Qb 0 rfl (oi Qg8)) (Qc Qe Qg)) QiY)) (Qf (Qy (i:=2) QaK.nd rfl (oi Qbi) (Qbo (DE.db Qe) (DE.db (Qbq (DE.db (de_f QcC (hr.mono (by decide)) (Qc (Qb 1 rfl (oi QcW)) (Qc Qe Qg)) QbR)) (DE.db Qe))))) (Qf (Qy (i:=3) QaK.nd rfl (oi Qc1) (Qbo (DE.db Qe) (DE.db (Qbq (DE.db (de_f QcC (hr.mono (by decide)) (Qc (Qb 1 rfl (oi QcW)) (Qc Qe Qg)) QbR)) (DE.db Qe))))) (Qf (Qy (i:=4) QaK.nd rfl (oi Qiw) (de_eq hr.units (DE.db (Qbq (DE.db (de_f QcC (hr.mono (by decide)) (Qc (Qb 1 rfl (oi QcW)) (Qc Qe Qg)) QbR)) (DE.db Qe))) (DE.db Qe))) (Qf (QfB (i:=5) QaK.nd rfl (oi Qde) (QcK Qg)) (Qf (Qcl PassesOwn.never rfl (QaX Qna z_range (DE.db (Qb 2 rfl (oi Qbi)))) (QB (i:=6) QaK.nd rfl (oi Qeq)) (Qu _) (Qf (Qy (i:=7) QaK.nd rfl (oi QcD) (de_f QcC (hr.mono (by decide)) (Qc (de_f Qw6 (hr.mono (by decide)) (Qc (Qb 0 rfl (oi Qg8)) (Qc (Qbo (DE.db Qe) (DE.db (Qb 6 rfl (oi Qeq)))) Qg)) QiY) (Qc (Qbo (DE.db (Qb 6 rfl (oi Qeq))) (DE.db Qe)) Qg)) QbR)) (Qf (QFF rfl (de_f QLI (hr.mono (by decide)) (Qc (Qch (DE.db (Qb 7 rfl (oi QcD))) (DE.db Qe)) Qg) QrJ) (Qae (i:=8) QaK.nd rfl (oi Qis) (Qae (i:=9) QaK.nd rfl (oi QbY) Qex))) (Qf (QfB (i:=10) QaK.nd rfl (oi QeM) (QcK Qg)) (Qf (Qcl PassesOwn.never rfl (QaX Qna z_range (DE.db (Qaz QpT z_len (Qs (DE.db (de_ix (Qb 9 rfl (oi QbY)) (DE.db Qe))) Qx)))) (QB (i:=11) QaK.nd rfl (oi Qlv)) (Qu _) (Qf (Qy (i:=12) QaK.nd rfl (oi Qa3) (Qbq (DE.db (de_f QcC (hr.mono (by decide)) (Qc (Qb 7 rfl (oi QcD)) (Qc (Qb 11 rfl (oi Qlv)) Qg)) QbR)) (DE.db (Qbo (DE.db (Qb 2 rfl (oi Qbi))) (DE.db (Qb 3 rfl (oi Qc1))))))) (Qf (ds_if (DW.dt (QQU (Qap (Qav (Qb 4 rfl (oi Qiw)))) (QPQ (dt_le (DE.db (Qb 12 rfl (oi Qa3))) (DE.db (Qb 6 rfl (oi Qeq))))))) (Qh (Qy (i:=12) QaK.nd rfl (oi Qa3) (Qbo (DE.db (Qb 2 rfl (oi Qbi))) (DE.db (Qbq (DE.db (Qb 12 rfl (oi Qa3))) (DE.db (Qb 3 rfl (oi Qc1)))))))) QY) (Qh (Qdf 10 (de_if (dt_lt (DE.db (Qb 12 rfl (oi Qa3))) (DE.db (Qb 2 rfl (oi Qbi)))) (Qb 12 rfl (oi Qa3)) (QcN (DE.db (QcN (DE.db (Qb 2 rfl (oi Qbi))) (DE.db Qe))) (DE.db (Qb 12 rfl (oi Qa3))))) rfl (oi QeM)))))) (Qh (QyP 10 (Qdf 5 (Qda (Qc (Qb 8 rfl (oi Qis)) (Qc (Qb 9 rfl (oi QbY)) (Qc (Qb 10 rfl (oi QeM)) (Qc (Qbq (DE.db (Qbq (DE.db (Qb 7 rfl (oi QcD))) (DE.db Qe))) (DE.db (Qaz QpT z_len (Qs (DE.db (Qb 9 rfl (oi QbY))) Qx)))) Qg))))) rfl (oi Qde))))))))) (Qh (QyP 5 (QD (Qda (Qc (Qb 5 rfl (oi Qde)) (Qc (Qb 3 rfl (oi Qc1)) Qg))))))))))))
abbrev QaA:Stmt:=top 49
theorem Qev:Qo ["names","doors","places","k","name","d","door"] ["names","doors"] (Qa QaA):=⟨rfl,rfl,rfl,dk,rfl,dk,dk⟩
theorem QdW:Lo QaA "places":=dk
theorem Qu6:Lo QaA "names":=dk
theorem QhT:Gl QaA "enumerate":=dk
theorem QmQ:Lo QaA "name":=dk
theorem Qr6:Lo QaA "k":=dk
def Qhv:SD->Out Fl:=(sPutD 2 (eVar 4) (eVar 3))
theorem QuU:Lo QaA "doors":=dk
theorem Qml:Lo QaA "door":=dk
theorem Qsh:Lo QaA "d":=dk
def Qhx:SD->Out Fl:=(sPutD 2 (eVar 6) (e2 dSub (e1 dNeg (eC (.int 1))) (eVar 5)))
def Qj1:SD->Out Fl:=(sSeq (sSetO 2 eDic0) (sSeq (sFor (gT [3,4]) (itE (eVar 0)) Qhv) (sSeq (sFor (gT [5,6]) (itE (eVar 1)) Qhx) (sRetO 2))))
def Qd2:List D->Out D:=bodyF true 2 7 Qj1
theorem QGj(d0 d1:D):Qd2 [d0,d1]=(Qj1 [some (.k,d0),some (.k,d1),none,none,none,none,none]>>=retF true):=rfl
theorem QGr(F:FunV K "places_of" "places_of" QaA f fd dV)(z_enumerate:mg "enumerate"=none):FnOk P w K mg base CX0 1 f fd ["names","doors"] (SpD K CT true Qd2):=
 @fnV P w K mg base CT true "places_of" "places_of" QaA f fd dV ["names","doors","places","k","name","d","door"] ["names","doors"] 0 Qj1 F Qev fun cdv A outer s H E G hr=>
  (Qf (QfB (i:=2) Qev.nd rfl (oi QdW) QP6) (Qf (Qcl PassesOwn.never rfl (QJo QhT z_enumerate (Qb 0 rfl (oi Qu6))) (Qku rfl (Qae (i:=3) Qev.nd rfl (oi Qr6) (Qae (i:=4) Qev.nd rfl (oi QmQ) Qex))) (Qf9 _) (Qh (QJs hr.units 2 (DE.db (Qb 4 rfl (oi QmQ))) (Qb 3 rfl (oi Qr6)) rfl (oi QdW)))) (Qf (Qcl PassesOwn.never rfl (QJo QhT z_enumerate (Qb 1 rfl (oi QuU))) (Qku rfl (Qae (i:=5) Qev.nd rfl (oi Qsh) (Qae (i:=6) Qev.nd rfl (oi Qml) Qex))) (Qf9 _) (Qh (QJs hr.units 2 (DE.db (Qb 6 rfl (oi Qml))) (QcN (DE.db (Qqn (DE.db Qe))) (DE.db (Qb 5 rfl (oi Qsh)))) rfl (oi QdW)))) (Qh (Qqa 2 rfl (oi QdW))))))
abbrev Qcn:Stmt:=top 41
theorem QLc:Qo ["thing","most"] ["thing","most"] (Qa Qcn):=⟨rfl,rfl,rfl,dk,rfl,dk,dk⟩
theorem QnV:Lo Qcn "thing":=dk
theorem QAG:Gl Qcn "list":=dk
theorem Qre:Gl Qcn "isinstance":=dk
theorem QCn:Gl Qcn "len":=dk
theorem QAA:Lo Qcn "most":=dk
def Qoc:SD->Out Fl:=(sRet (eAnd (eIsa (isaT "list") (eVar 0)) (Qf5 dLe dLe (eC (.int 1)) (eA fLen (aCons (eVar 0) aNil)) (eVar 1))))
def Qco:List D->Out D:=bodyF false 2 2 Qoc
theorem QLS(d0 d1:D):Qco [d0,d1]=(Qoc [some (.k,d0),some (.k,d1)]>>=retF false):=rfl
theorem QNs(F:FunV K "is_list" "is_list" Qcn f fd dV)(z_isinstance:mg "isinstance"=none)(z_list:mg "list"=none)(z_len:mg "len"=none):FnOk P w K mg base CX0 1 f fd ["thing","most"] (SpD K CT false Qco):=
 @fnV P w K mg base CT false "is_list" "is_list" Qcn f fd dV ["thing","most"] ["thing","most"] 0 Qoc F QLc fun cdv A outer s H E G hr=>
  (Qh (QD (Qf4 (QcZ "list" QmR QAG z_list PyProof.Rows.Boot.«list» Qre z_isinstance (DE.db (Qb 0 rfl (oi QnV)))) (Qj6 (QEF op_le Qdj (Qcx fun _ _=>rfl) op_le Qdj (Qcx fun _ _=>rfl) (DE.db Qe) (DE.db (Qaz QCn z_len (Qs (DE.db (Qb 0 rfl (oi QnV))) Qx))) (DE.db (Qb 1 rfl (oi QAA))))))))
abbrev Qby:Stmt:=top 42
theorem QBI:Qo ["names"] ["names"] (Qa Qby):=⟨rfl,rfl,rfl,dk,rfl,dk,dk⟩
theorem Qka:Lo Qby "names":=dk
theorem Qm7:Gl Qby "len":=dk
theorem QvY:Gl Qby "set":=dk
def QiK:SD->Out Fl:=(sRet (e2 dEq (e1 QzD (eVar 0)) (eA fLen (aCons (eVar 0) aNil))))
def Qam:List D->Out D:=bodyF false 1 1 QiK
theorem QEg(d0:D):Qam [d0]=(QiK [some (.k,d0)]>>=retF false):=rfl
theorem QEH(F:FunV K "all_unlike" "all_unlike" Qby f fd dV)(z_len:mg "len"=none)(z_set:mg "set"=none):FnOk P w K mg base CX0 1 f fd ["names"] (SpD K CT false Qam):=
 @fnV P w K mg base CT false "all_unlike" "all_unlike" Qby f fd dV ["names"] ["names"] 0 QiK F QBI fun cdv A outer s H E G hr=>
  (Qh (QD (de_eq hr.units (DE.db (QNx hr.hd Qm7 z_len QvY z_set (DE.db (Qb 0 rfl (oi Qka))))) (DE.db (Qaz Qm7 z_len (Qs (DE.db (Qb 0 rfl (oi Qka))) Qx))))))
abbrev QaW:Stmt:=top 40
theorem QJ2:Qo ["thing"] ["thing"] (Qa QaW):=⟨rfl,rfl,rfl,dk,rfl,dk,dk⟩
theorem Qic:Lo QaW "thing":=dk
theorem QB2:Gl QaW "str":=dk
theorem Qrq:Gl QaW "isinstance":=dk
theorem QCU:Gl QaW "len":=dk
theorem QrH:Gl QaW "MOST_SIGNS":=dk
abbrev Qmo:PySem.Scope:={ kind:=PySem.ScopeKind.function,names:=[ (PySem.Str.ofString ".0",PySem.NameKind.local),(PySem.Str.ofString "sign",PySem.NameKind.local),(PySem.Str.ofString "LETTERS",PySem.NameKind.globalImplicit)],isGenerator:=false,isCoroutine:=false,more:=[]:PySem.Scope }
theorem Qvf:QM ["sign"] [none] Qmo (Qa QaW) ["thing"]:=⟨rfl,dk,dk,rfl,dk,dk⟩
theorem QgP:(Qi Qmo (Qa QaW)).names.lookup ("sign":Str)=some NameKind.local:=dk
theorem QqJ:(Qi Qmo (Qa QaW)).names.lookup ("LETTERS":Str)=some NameKind.globalImplicit:=dk
def QHD:SD->Out D:=(e2 dIn (eVar 0) (eC (.str "abcdefghijklmnopqrstuvwxyz")))
theorem QCz:Gl QaW "all":=dk
def QAY:SD->Out Fl:=(sSeq (sIf (tOr' (tNot' (tVal (eIsa (isaT "str") (eVar 0)))) (tNot' (tVal (Qf5 dLe dLe (eC (.int 1)) (eA fLen (aCons (eVar 0) aNil)) (eC (.int 6)))))) (sRet (eC (.bl false))) sNil) (sRet (eA (f1 fAll) (aCons (eComp [none] (itS (eVar 0)) (gN 0) cTrue QHD) aNil))))
def Qa4:List D->Out D:=bodyF false 1 1 QAY
theorem QM8{u_MOST_SIGNS:Value}{u_LETTERS:Value}(F:FunV K "is_name" "is_name" QaW f fd dV)(z_isinstance:mg "isinstance"=none)(z_str:mg "str"=none)(z_len:mg "len"=none)(z_all:mg "all"=none)(c_MOST_SIGNS:mg "MOST_SIGNS"=some u_MOST_SIGNS)(r_MOST_SIGNS:RelV (toV (.int 6)) u_MOST_SIGNS)(c_LETTERS:mg "LETTERS"=some u_LETTERS)(r_LETTERS:RelV (toV (.str "abcdefghijklmnopqrstuvwxyz")) u_LETTERS):FnOk P w K mg base CX0 1 f fd ["thing"] (SpD K CT false Qa4):=
 @fnV P w K mg base CT false "is_name" "is_name" QaW f fd dV ["thing"] ["thing"] 0 QAY F QJ2 fun cdv A outer s H E G hr=>
  (Qf (ds_if (DW.dt (dw_or (Qap (Qav (QcZ "str" QJG QB2 z_str PyProof.Rows.Boot.«str» Qrq z_isinstance (DE.db (Qb 0 rfl (oi Qic)))))) (Qga (Qap (QD0 op_le Qdj (Qcx fun _ _=>rfl) op_le Qdj (Qcx fun _ _=>rfl) (DE.db Qe) (DE.db (Qaz QCU z_len (Qs (DE.db (Qb 0 rfl (oi Qic))) Qx))) (DE.db (QfA (d:=(.int 6)) QrH c_MOST_SIGNS rfl r_MOST_SIGNS))))))) (Qh (QD de_bl)) QY) (Qh (QD (Qke rfl QCz z_all (Qs (DE.db (DF.de (Q7 rfl Qvf (DI.b (QRl (DE.db (Qb 0 rfl (oi Qic))))) (fun ς=>QU (Qt rfl ς)) (Qu _) (fun fp s H G p=>⟨(QB (i:=0) Qvf.nd rfl (oi QgP) (hf:=Or.inr QgP)),QV,(de_in (DE.db (Qb 0 rfl (oi QgP))) (DE.db (QfA (d:=(.str "abcdefghijklmnopqrstuvwxyz")) QqJ c_LETTERS rfl r_LETTERS)))⟩)))) Qx)))))
abbrev QaB:Stmt:=top 43
theorem QCZ:Qo ["thing","most"] ["thing","most"] (Qa QaB):=⟨rfl,rfl,rfl,dk,rfl,dk,dk⟩
theorem QgO:Lo QaB "thing":=dk
theorem QwF:Lo QaB "most":=dk
theorem Qsp:Gl QaB "is_list":=dk
abbrev QjB:PySem.Scope:={ kind:=PySem.ScopeKind.function,names:=[ (PySem.Str.ofString ".0",PySem.NameKind.local),(PySem.Str.ofString "name",PySem.NameKind.local),(PySem.Str.ofString "is_name",PySem.NameKind.globalImplicit)],isGenerator:=false,isCoroutine:=false,more:=[]:PySem.Scope }
theorem QrZ:QM ["name"] [none] QjB (Qa QaB) ["thing","most"]:=⟨rfl,dk,dk,rfl,dk,dk⟩
theorem QfK:(Qi QjB (Qa QaB)).names.lookup ("name":Str)=some NameKind.local:=dk
theorem QpL:(Qi QjB (Qa QaB)).names.lookup ("is_name":Str)=some NameKind.globalImplicit:=dk
def Qkx:SD->Out D:=(eA (fun xs=>Qa4 (xs++[])) (aCons (eVar 0) aNil))
theorem QyN:Gl QaB "all":=dk
theorem QoN:Gl QaB "all_unlike":=dk
def QjN:SD->Out Fl:=(sRet (eAnd (eA (fun xs=>Qco (xs++[])) (aCons (eVar 0) (aCons (eVar 1) aNil))) (eAnd (eA (f1 fAll) (aCons (eComp [none] (itL (eVar 0)) (gN 0) cTrue Qkx) aNil)) (eA (fun xs=>Qam (xs++[])) (aCons (eVar 0) aNil)))))
def Qd0:List D->Out D:=bodyF false 2 2 QjN
theorem QIr(d0 d1:D):Qd0 [d0,d1]=(QjN [some (.k,d0),some (.k,d1)]>>=retF false):=rfl
theorem QH6(F:FunV K "are_names" "are_names" QaB f fd dV)(Qko:DefOk P w K mg base CT "is_list" 1 false [] Qco)(QhS:DefOk P w K mg base CT "is_name" 1 false [] Qa4)(Qgl:DefOk P w K mg base CT "all_unlike" 1 false [] Qam)(z_all:mg "all"=none):FnOk P w K mg base CX0 2 f fd ["thing","most"] (SpD K CT false Qd0):=
 @fnV P w K mg base CT false "are_names" "are_names" QaB f fd dV ["thing","most"] ["thing","most"] 1 QjN F QCZ fun cdv A outer s H E G hr=>
  (Qh (QD (Qf4 (de_f Qko (hr.mono (by decide)) (Qc (Qb 0 rfl (oi QgO)) (Qc (Qb 1 rfl (oi QwF)) Qg)) Qsp) (Qf4 (Qke rfl QyN z_all (Qs (DE.db (DF.de (Q7 rfl QrZ (DI.b (Qat (Qb 0 rfl (oi QgO)))) (fun ς=>QU (Qt rfl ς)) (Qu _) (fun fp s H G p=>⟨(QB (i:=0) QrZ.nd rfl (oi QfK) (hf:=Or.inr QfK)),QV,(de_f QhS (hr.mono (by decide)) (Qc (Qb 0 rfl (oi QfK)) Qg) QpL)⟩)))) Qx)) (Qj6 (de_f Qgl (hr.mono (by decide)) (Qc (Qb 0 rfl (oi QgO)) Qg) QoN))))))
abbrev Qah:Stmt:=top 44
theorem QDw:Qo ["thing","many"] ["thing","many"] (Qa Qah):=⟨rfl,rfl,rfl,dk,rfl,dk,dk⟩
theorem QgX:Lo Qah "thing":=dk
theorem QwM:Gl Qah "list":=dk
theorem Qpw:Gl Qah "isinstance":=dk
theorem Qyc:Gl Qah "len":=dk
theorem QwX:Lo Qah "many":=dk
abbrev Qgz:PySem.Scope:={ kind:=PySem.ScopeKind.function,names:=[ (PySem.Str.ofString ".0",PySem.NameKind.local),(PySem.Str.ofString "text",PySem.NameKind.local),(PySem.Str.ofString "isinstance",PySem.NameKind.globalImplicit),(PySem.Str.ofString "str",PySem.NameKind.globalImplicit)],isGenerator:=false,isCoroutine:=false,more:=[]:PySem.Scope }
theorem QrV:QM ["text"] [none] Qgz (Qa Qah) ["thing","many"]:=⟨rfl,dk,dk,rfl,dk,dk⟩
theorem QfH:(Qi Qgz (Qa Qah)).names.lookup ("text":Str)=some NameKind.local:=dk
theorem Qut:(Qi Qgz (Qa Qah)).names.lookup ("str":Str)=some NameKind.globalImplicit:=dk
theorem QlG:(Qi Qgz (Qa Qah)).names.lookup ("isinstance":Str)=some NameKind.globalImplicit:=dk
def QkJ:SD->Out D:=(eIsa (isaT "str") (eVar 0))
theorem Qxv:Gl Qah "all":=dk
def Qj0:SD->Out Fl:=(sRet (eAnd (eIsa (isaT "list") (eVar 0)) (eAnd (e2 dEq (eA fLen (aCons (eVar 0) aNil)) (eVar 1)) (eA (f1 fAll) (aCons (eComp [none] (itL (eVar 0)) (gN 0) cTrue QkJ) aNil)))))
def Qd6:List D->Out D:=bodyF false 2 2 Qj0
theorem QHu(d0 d1:D):Qd6 [d0,d1]=(Qj0 [some (.k,d0),some (.k,d1)]>>=retF false):=rfl
theorem QI3(F:FunV K "are_texts" "are_texts" Qah f fd dV)(z_isinstance:mg "isinstance"=none)(z_list:mg "list"=none)(z_len:mg "len"=none)(z_all:mg "all"=none)(z_str:mg "str"=none):FnOk P w K mg base CX0 1 f fd ["thing","many"] (SpD K CT false Qd6):=
 @fnV P w K mg base CT false "are_texts" "are_texts" Qah f fd dV ["thing","many"] ["thing","many"] 0 Qj0 F QDw fun cdv A outer s H E G hr=>
  (Qh (QD (Qf4 (QcZ "list" QmR QwM z_list PyProof.Rows.Boot.«list» Qpw z_isinstance (DE.db (Qb 0 rfl (oi QgX)))) (Qf4 (de_eq hr.units (DE.db (Qaz Qyc z_len (Qs (DE.db (Qb 0 rfl (oi QgX))) Qx))) (DE.db (Qb 1 rfl (oi QwX)))) (Qj6 (Qke rfl Qxv z_all (Qs (DE.db (DF.de (Q7 rfl QrV (DI.b (Qat (Qb 0 rfl (oi QgX)))) (fun ς=>QU (Qt rfl ς)) (Qu _) (fun fp s H G p=>⟨(QB (i:=0) QrV.nd rfl (oi QfH) (hf:=Or.inr QfH)),QV,(QcZ "str" QJG Qut z_str PyProof.Rows.Boot.«str» QlG z_isinstance (DE.db (Qb 0 rfl (oi QfH))))⟩)))) Qx)))))))
abbrev Qcc:Stmt:=top 7
theorem QIf:Qo ["thing"] ["thing"] (Qa Qcc):=⟨rfl,rfl,rfl,dk,rfl,dk,dk⟩
theorem QmA:Lo Qcc "thing":=dk
theorem Qzc:Gl Qcc "int":=dk
theorem QhX:Gl Qcc "isinstance":=dk
theorem QyQ:Gl Qcc "bool":=dk
def Qh9:SD->Out Fl:=(sRet (eAnd (eIsa (isaT "int") (eVar 0)) (eNot (eIsa (isaT "bool") (eVar 0)))))
def QbK:List D->Out D:=bodyF false 1 1 Qh9
theorem QJY(d0:D):QbK [d0]=(Qh9 [some (.k,d0)]>>=retF false):=rfl
theorem QKy(F:FunV K "is_whole" "is_whole" Qcc f fd dV)(z_isinstance:mg "isinstance"=none)(z_int:mg "int"=none)(z_bool:mg "bool"=none):FnOk P w K mg base CX0 1 f fd ["thing"] (SpD K CT false QbK):=
 @fnV P w K mg base CT false "is_whole" "is_whole" Qcc f fd dV ["thing"] ["thing"] 0 Qh9 F QIf fun cdv A outer s H E G hr=>
  (Qh (QD (Qf4 (QcZ "int" QJf Qzc z_int PyProof.Rows.Boot.«int» QhX z_isinstance (DE.db (Qb 0 rfl (oi QmA)))) (Qj6 (QNq (QcZ "bool" QE5 QyQ z_bool PyProof.Rows.Boot.«bool» QhX z_isinstance (DE.db (Qb 0 rfl (oi QmA)))))))))
abbrev QbA:Stmt:=top 8
theorem QEm:Qo ["thing","least","most"] ["thing","least","most"] (Qa QbA):=⟨rfl,rfl,rfl,dk,rfl,dk,dk⟩
theorem Qlw:Lo QbA "thing":=dk
theorem QqC:Gl QbA "is_whole":=dk
theorem QuR:Lo QbA "least":=dk
theorem QwV:Lo QbA "most":=dk
def QjZ:SD->Out Fl:=(sRet (eAnd (eA (fun xs=>QbK (xs++[])) (aCons (eVar 0) aNil)) (Qf5 dLe dLe (eVar 1) (eVar 0) (eVar 2))))
def QaV:List D->Out D:=bodyF false 3 3 QjZ
theorem QH9(d0 d1 d2:D):QaV [d0,d1,d2]=(QjZ [some (.k,d0),some (.k,d1),some (.k,d2)]>>=retF false):=rfl
theorem QGZ(F:FunV K "is_within" "is_within" QbA f fd dV)(QlN:DefOk P w K mg base CT "is_whole" 1 false [] QbK):FnOk P w K mg base CX0 2 f fd ["thing","least","most"] (SpD K CT false QaV):=
 @fnV P w K mg base CT false "is_within" "is_within" QbA f fd dV ["thing","least","most"] ["thing","least","most"] 1 QjZ F QEm fun cdv A outer s H E G hr=>
  (Qh (QD (Qf4 (de_f QlN (hr.mono (by decide)) (Qc (Qb 0 rfl (oi Qlw)) Qg) QqC) (Qj6 (QEF op_le Qdj (Qcx fun _ _=>rfl) op_le Qdj (Qcx fun _ _=>rfl) (DE.db (Qb 1 rfl (oi QuR))) (DE.db (Qb 0 rfl (oi Qlw))) (DE.db (Qb 2 rfl (oi QwV))))))))
abbrev Qbg:Stmt:=top 32
theorem QHy:Qo ["thing"] ["thing"] (Qa Qbg):=⟨rfl,rfl,rfl,dk,rfl,dk,dk⟩
theorem QvN:Lo Qbg "thing":=dk
theorem Qxg:Gl Qbg "Rows":=dk
theorem Qxk:Gl Qbg "Copy":=dk
theorem QuW:Gl Qbg "Bundle":=dk
theorem QyG:Gl Qbg "Deal":=dk
theorem Qqk:Gl Qbg "isinstance":=dk
def Ql0:SD->Out Fl:=(sRet (eIsa (isaTs [[("Deal",true),("Bundle",false),("Copy",false),("Rows",false),("Office",false)],[("Deal",false),("Bundle",true),("Copy",false),("Rows",false),("Office",false)],[("Deal",false),("Bundle",false),("Copy",true),("Rows",false),("Office",false)],[("Deal",false),("Bundle",false),("Copy",false),("Rows",true),("Office",false)]]) (eVar 0)))
def Qfc:List D->Out D:=bodyF false 1 1 Ql0
theorem QJP(d0:D):Qfc [d0]=(Ql0 [some (.k,d0)]>>=retF false):=rfl
theorem QKv{QF:Addr}{Qq:Addr}{QI:Addr}{QG:Addr}(F:FunV K "is_clerk" "is_clerk" Qbg f fd dV)(z_isinstance:mg "isinstance"=none)(QQA:mg "Deal"=some (.ref QF))(QNO:mg "Bundle"=some (.ref Qq))(QRq:mg "Copy"=some (.ref QI))(QQH:mg "Rows"=some (.ref QG))(QAD:KitI K CT (.ref QF) [("Deal",true),("Bundle",false),("Copy",false),("Rows",false),("Office",false)])(QtO:KitI K CT (.ref Qq) [("Deal",false),("Bundle",true),("Copy",false),("Rows",false),("Office",false)])(QAN:KitI K CT (.ref QI) [("Deal",false),("Bundle",false),("Copy",true),("Rows",false),("Office",false)])(QAp:KitI K CT (.ref QG) [("Deal",false),("Bundle",false),("Copy",false),("Rows",true),("Office",false)]):FnOk P w K mg base CX0 1 f fd ["thing"] (SpD K CT false Qfc):=
 @fnV P w K mg base CT false "is_clerk" "is_clerk" Qbg f fd dV ["thing"] ["thing"] 0 Ql0 F QHy fun cdv A outer s H E G hr=>
  (Qh (QD (QPy (a:=QF) (as:=[Qq,QI,QG]) (Qry (Qp9 (v:=.ref QF) QyG QQA rfl) (Qry (Qp9 (v:=.ref Qq) QuW QNO rfl) (Qry (Qp9 (v:=.ref QI) Qxk QRq rfl) (Qry (Qp9 (v:=.ref QG) Qxg QQH rfl) QP0)))) ⟨QAD,QtO,QAN,QAp,True.intro⟩ (by simp) Qqk z_isinstance (DE.db (Qb 0 rfl (oi QvN))))))
abbrev Qce:Stmt:=inCls (top 24) 3
theorem QBL:Qo ["self"] ["self"] (Qa Qce):=⟨rfl,rfl,rfl,dk,rfl,dk,dk⟩
theorem QuS:Lo Qce "self":=dk
theorem QvR:Gl Qce "len":=dk
def Qii:SD->Out Fl:=(sRet (eA fLen (aCons (e2 dIx (e1 (dFld Qj "table") (eVar 0)) (eC (.int 0))) aNil)))
def QcL:List D->Out D:=bodyF false 1 1 Qii
theorem QER(d0:D):QcL [d0]=(Qii [some (.k,d0)]>>=retF false):=rfl
theorem QF3(F:FunV K "outs" "Clerk.outs" Qce f fd dV)(z_len:mg "len"=none)(fo_table:FldOk K CT Qj "table"):FnOk P w K mg base CX0 1 f fd ["self"] (SpD K CT false QcL):=
 @fnV P w K mg base CT false "outs" "Clerk.outs" Qce f fd dV ["self"] ["self"] 0 Qii F QBL fun cdv A outer s H E G hr=>
  (Qh (QD (Qaz QvR z_len (Qs (DE.db (de_ix (Qp0 fo_table (Qb 0 rfl (oi QuS))) (DE.db Qe))) Qx))))
abbrev Qba:Stmt:=inCls (top 24) 2
theorem Qyg:Qo ["self"] ["self"] (Qa Qba):=⟨rfl,rfl,rfl,dk,rfl,dk,dk⟩
theorem Qso:Lo Qba "self":=dk
theorem Qtg:Gl Qba "len":=dk
def Qgu:SD->Out Fl:=(sRet (eA fLen (aCons (e1 (dFld Qj "table") (eVar 0)) aNil)))
def QA:List D->Out D:=bodyF false 1 1 Qgu
theorem Qz7(d0:D):QA [d0]=(Qgu [some (.k,d0)]>>=retF false):=rfl
theorem Qzu(F:FunV K "period" "Clerk.period" Qba f fd dV)(z_len:mg "len"=none)(fo_table:FldOk K CT Qj "table"):FnOk P w K mg base CX0 1 f fd ["self"] (SpD K CT false QA):=
 @fnV P w K mg base CT false "period" "Clerk.period" Qba f fd dV ["self"] ["self"] 0 Qgu F Qyg fun cdv A outer s H E G hr=>
  (Qh (QD (Qaz Qtg z_len (Qs (DE.db (Qp0 fo_table (Qb 0 rfl (oi Qso)))) Qx))))
abbrev QaZ:Stmt:=top 45
theorem QLm:Qo ["thing"] ["thing"] (Qa QaZ):=⟨rfl,rfl,rfl,dk,rfl,dk,dk⟩
theorem Qbu:Lo QaZ "thing":=dk
theorem QyK:Gl QaZ "tuple":=dk
theorem QrF:Gl QaZ "isinstance":=dk
theorem QCM:Gl QaZ "len":=dk
theorem Qu1:Gl QaZ "is_name":=dk
theorem Qt1:Gl QaZ "is_clerk":=dk
theorem QsB:Gl QaZ "are_texts":=dk
theorem QsC:Gl QaZ "is_within":=dk
def QnU:SD->Out Fl:=(sSeq (sIf (tOr' (tNot' (tVal (eIsa (isaT "tuple") (eVar 0)))) (tVal (e2 dNe (eA fLen (aCons (eVar 0) aNil)) (eC (.int 4))))) (sRet (eC (.bl false))) sNil) (sSeq (sIf (tOr' (tNot' (tVal (eA (fun xs=>Qa4 (xs++[])) (aCons (e2 dIx (eVar 0) (eC (.int 0))) aNil)))) (tNot' (tVal (eA (fun xs=>Qfc (xs++[])) (aCons (e2 dIx (eVar 0) (eC (.int 1))) aNil))))) (sRet (eC (.bl false))) sNil) (sRet (eAnd (eA (fun xs=>Qd6 (xs++[])) (aCons (e2 dIx (eVar 0) (eC (.int 2))) (aCons (eMeth Qd "outs" (fun _=>QcL) (e2 dIx (eVar 0) (eC (.int 1))) aNil) aNil))) (eA (fun xs=>QaV (xs++[])) (aCons (e2 dIx (eVar 0) (eC (.int 3))) (aCons (eC (.int 0)) (aCons (e2 dSub (eMeth Qd "period" (fun _=>QA) (e2 dIx (eVar 0) (eC (.int 1))) aNil) (eC (.int 1))) aNil))))))))
def Qgp:List D->Out D:=bodyF false 1 1 QnU
theorem QMb(d0:D):Qgp [d0]=(QnU [some (.k,d0)]>>=retF false):=rfl
theorem QMV(F:FunV K "is_seat" "is_seat" QaZ f fd dV)(QhS:DefOk P w K mg base CT "is_name" 1 false [] Qa4)(QJR:DefOk P w K mg base CT "is_clerk" 1 false [] Qfc)(QGI:DefOk P w K mg base CT "are_texts" 1 false [] Qd6)(Qd5:DefOk P w K mg base CT "is_within" 2 false [] QaV)(z_isinstance:mg "isinstance"=none)(z_tuple:mg "tuple"=none)(z_len:mg "len"=none)(mt_outs:MtOk P w K mg base CT CX0 "outs" 1 Qd (fun c=>SpD K CT false ((fun _=>QcL) c)))(mt_period:MtOk P w K mg base CT CX0 "period" 1 Qd (fun c=>SpD K CT false ((fun _=>QA) c))):FnOk P w K mg base CX0 3 f fd ["thing"] (SpD K CT false Qgp):=
 @fnV P w K mg base CT false "is_seat" "is_seat" QaZ f fd dV ["thing"] ["thing"] 2 QnU F QLm fun cdv A outer s H E G hr=>
  (Qf (ds_if (DW.dt (dw_or (Qap (Qav (QcZ "tuple" Qul QyK z_tuple PyProof.Rows.Boot.«tuple» QrF z_isinstance (DE.db (Qb 0 rfl (oi Qbu)))))) (Qga (dt_ne hr.units (DE.db (Qaz QCM z_len (Qs (DE.db (Qb 0 rfl (oi Qbu))) Qx))) (DE.db Qe))))) (Qh (QD de_bl)) QY) (Qf (ds_if (DW.dt (dw_or (Qap (Qav (de_f QhS (hr.mono (by decide)) (Qc (de_ix (Qb 0 rfl (oi Qbu)) (DE.db Qe)) Qg) Qu1))) (Qga (Qap (Qav (de_f QJR (hr.mono (by decide)) (Qc (de_ix (Qb 0 rfl (oi Qbu)) (DE.db Qe)) Qg) Qt1)))))) (Qh (QD de_bl)) QY) (Qh (QD (Qf4 (de_f QGI (hr.mono (by decide)) (Qc (de_ix (Qb 0 rfl (oi Qbu)) (DE.db Qe)) (Qc (Qfe mt_outs (hr.mono (by decide)) (de_ix (Qb 0 rfl (oi Qbu)) (DE.db Qe))) Qg)) QsB) (Qj6 (de_f Qd5 (hr.mono (by decide)) (Qc (de_ix (Qb 0 rfl (oi Qbu)) (DE.db Qe)) (Qc Qe (Qc (QcN (DE.db (Qfe mt_period (hr.mono (by decide)) (de_ix (Qb 0 rfl (oi Qbu)) (DE.db Qe)))) (DE.db Qe)) Qg))) QsC)))))))
abbrev Q9:Stmt:=top 46
theorem QDq:Qo ["thing","doors"] ["thing","doors"] (Qa Q9):=⟨rfl,rfl,rfl,dk,rfl,dk,dk⟩
theorem QgS:Lo Q9 "thing":=dk
theorem QnG:Gl Q9 "MOST_CLERKS":=dk
theorem QsE:Gl Q9 "is_list":=dk
abbrev Qjw:PySem.Scope:={ kind:=PySem.ScopeKind.function,names:=[ (PySem.Str.ofString ".0",PySem.NameKind.local),(PySem.Str.ofString "seat",PySem.NameKind.local),(PySem.Str.ofString "is_seat",PySem.NameKind.globalImplicit)],isGenerator:=false,isCoroutine:=false,more:=[]:PySem.Scope }
theorem Qr9:QM ["seat"] [none] Qjw (Qa Q9) ["thing","doors"]:=⟨rfl,dk,dk,rfl,dk,dk⟩
theorem QfJ:(Qi Qjw (Qa Q9)).names.lookup ("seat":Str)=some NameKind.local:=dk
theorem QpB:(Qi Qjw (Qa Q9)).names.lookup ("is_seat":Str)=some NameKind.globalImplicit:=dk
def QkC:SD->Out D:=(eA (fun xs=>Qgp (xs++[])) (aCons (eVar 0) aNil))
theorem Qxq:Gl Q9 "all":=dk
abbrev Qqw:PySem.Scope:={ kind:=PySem.ScopeKind.function,names:=[(PySem.Str.ofString ".0",PySem.NameKind.local),(PySem.Str.ofString "seat",PySem.NameKind.local)],isGenerator:=false,isCoroutine:=false,more:=[]:PySem.Scope }
theorem Qsb:QM ["seat"] [none] Qqw (Qa Q9) ["thing","doors"]:=⟨rfl,dk,dk,rfl,dk,dk⟩
theorem QfD:(Qi Qqw (Qa Q9)).names.lookup ("seat":Str)=some NameKind.local:=dk
def Qk7:SD->Out D:=(e2 dIx (eVar 0) (eC (.int 0)))
theorem Qva:Lo Q9 "doors":=dk
theorem Qo5:Gl Q9 "all_unlike":=dk
def QjI:SD->Out Fl:=(sSeq (sIf (tOr' (tNot' (tVal (eA (fun xs=>Qco (xs++[])) (aCons (eVar 0) (aCons (eC (.int 60)) aNil))))) (tNot' (tVal (eA (f1 fAll) (aCons (eComp [none] (itL (eVar 0)) (gN 0) cTrue QkC) aNil))))) (sRet (eC (.bl false))) sNil) (sRet (eA (fun xs=>Qam (xs++[])) (aCons (e2 dCat (eComp [none] (itL (eVar 0)) (gN 0) cTrue Qk7) (eVar 1)) aNil))))
def Qeg:List D->Out D:=bodyF false 2 2 QjI
theorem QGL(d0 d1:D):Qeg [d0,d1]=(QjI [some (.k,d0),some (.k,d1)]>>=retF false):=rfl
theorem QGP{u_MOST_CLERKS:Value}(F:FunV K "are_seats" "are_seats" Q9 f fd dV)(Qko:DefOk P w K mg base CT "is_list" 1 false [] Qco)(QMg:DefOk P w K mg base CT "is_seat" 3 false [] Qgp)(Qgl:DefOk P w K mg base CT "all_unlike" 1 false [] Qam)(z_all:mg "all"=none)(c_MOST_CLERKS:mg "MOST_CLERKS"=some u_MOST_CLERKS)(r_MOST_CLERKS:RelV (toV (.int 60)) u_MOST_CLERKS):FnOk P w K mg base CX0 4 f fd ["thing","doors"] (SpD K CT false Qeg):=
 @fnV P w K mg base CT false "are_seats" "are_seats" Q9 f fd dV ["thing","doors"] ["thing","doors"] 3 QjI F QDq fun cdv A outer s H E G hr=>
  (Qf (ds_if (DW.dt (dw_or (Qap (Qav (de_f Qko (hr.mono (by decide)) (Qc (Qb 0 rfl (oi QgS)) (Qc (QfA (d:=(.int 60)) QnG c_MOST_CLERKS rfl r_MOST_CLERKS) Qg)) QsE))) (Qga (Qap (Qav (Qke rfl Qxq z_all (Qs (DE.db (DF.de (Q7 rfl Qr9 (DI.b (Qat (Qb 0 rfl (oi QgS)))) (fun ς=>QU (Qt rfl ς)) (Qu _) (fun fp s H G p=>⟨(QB (i:=0) Qr9.nd rfl (oi QfJ) (hf:=Or.inr QfJ)),QV,(de_f QMg (hr.mono (by decide)) (Qc (Qb 0 rfl (oi QfJ)) Qg) QpB)⟩)))) Qx))))))) (Qh (QD de_bl)) QY) (Qh (QD (de_f Qgl (hr.mono (by decide)) (Qc (DF.de (QM7 (DF.de (Q7 rfl Qsb (DI.b (Qat (Qb 0 rfl (oi QgS)))) (fun ς=>QU (Qt rfl ς)) (Qu _) (fun fp s H G p=>⟨(QB (i:=0) Qsb.nd rfl (oi QfD) (hf:=Or.inr QfD)),QV,(de_ix (Qb 0 rfl (oi QfD)) (DE.db Qe))⟩))) (Qb 1 rfl (oi Qva)))) Qg) Qo5))))
abbrev Qbf:Stmt:=top 47
theorem QHG:Qo ["thing","names"] ["thing","names"] (Qa Qbf):=⟨rfl,rfl,rfl,dk,rfl,dk,dk⟩
theorem Qdk:Lo Qbf "thing":=dk
theorem QwR:Gl Qbf "tuple":=dk
theorem Qqv:Gl Qbf "isinstance":=dk
theorem QAo:Gl Qbf "len":=dk
theorem Qkc:Gl Qbf "is_name":=dk
theorem QwY:Lo Qbf "names":=dk
def QlJ:SD->Out Fl:=(sSeq (sIf (tOr' (tNot' (tVal (eIsa (isaT "tuple") (eVar 0)))) (tVal (e2 dNe (eA fLen (aCons (eVar 0) aNil)) (eC (.int 2))))) (sRet (eC (.bl false))) sNil) (sRet (eAnd (eA (fun xs=>Qa4 (xs++[])) (aCons (e2 dIx (eVar 0) (eC (.int 0))) aNil)) (eAnd (eA (fun xs=>Qa4 (xs++[])) (aCons (e2 dIx (eVar 0) (eC (.int 1))) aNil)) (e2 dInL (e2 dIx (eVar 0) (eC (.int 1))) (eVar 1))))))
def Qe5:List D->Out D:=bodyF false 2 2 QlJ
theorem QKO(d0 d1:D):Qe5 [d0,d1]=(QlJ [some (.k,d0),some (.k,d1)]>>=retF false):=rfl
theorem QLe(F:FunV K "is_entry" "is_entry" Qbf f fd dV)(QhS:DefOk P w K mg base CT "is_name" 1 false [] Qa4)(z_isinstance:mg "isinstance"=none)(z_tuple:mg "tuple"=none)(z_len:mg "len"=none):FnOk P w K mg base CX0 2 f fd ["thing","names"] (SpD K CT false Qe5):=
 @fnV P w K mg base CT false "is_entry" "is_entry" Qbf f fd dV ["thing","names"] ["thing","names"] 1 QlJ F QHG fun cdv A outer s H E G hr=>
  (Qf (ds_if (DW.dt (dw_or (Qap (Qav (QcZ "tuple" Qul QwR z_tuple PyProof.Rows.Boot.«tuple» Qqv z_isinstance (DE.db (Qb 0 rfl (oi Qdk)))))) (Qga (dt_ne hr.units (DE.db (Qaz QAo z_len (Qs (DE.db (Qb 0 rfl (oi Qdk))) Qx))) (DE.db Qe))))) (Qh (QD de_bl)) QY) (Qh (QD (Qf4 (de_f QhS (hr.mono (by decide)) (Qc (de_ix (Qb 0 rfl (oi Qdk)) (DE.db Qe)) Qg) Qkc) (Qf4 (de_f QhS (hr.mono (by decide)) (Qc (de_ix (Qb 0 rfl (oi Qdk)) (DE.db Qe)) Qg) Qkc) (Qj6 (QNw (DE.db (de_ix (Qb 0 rfl (oi Qdk)) (DE.db Qe))) (DE.db (Qb 1 rfl (oi QwY))))))))))
abbrev QR:Stmt:=top 48
theorem QzO:Qo ["thing","names"] ["thing","names"] (Qa QR):=⟨rfl,rfl,rfl,dk,rfl,dk,dk⟩
theorem QfN:Lo QR "thing":=dk
theorem Qlk:Gl QR "MOST_ENTRIES":=dk
theorem Qqh:Gl QR "is_list":=dk
abbrev Qfj:PySem.Scope:={ kind:=PySem.ScopeKind.function,names:=[ (PySem.Str.ofString ".0",PySem.NameKind.local),(PySem.Str.ofString "entry",PySem.NameKind.local),(PySem.Str.ofString "is_entry",PySem.NameKind.globalImplicit),(PySem.Str.ofString "names",PySem.NameKind.free)],isGenerator:=false,isCoroutine:=false,more:=[]:PySem.Scope }
theorem QnZ:QM ["entry","names"] [none,some 1] Qfj (Qa QR) ["thing","names"]:=⟨rfl,dk,dk,rfl,dk,dk⟩
theorem Qek:(Qi Qfj (Qa QR)).names.lookup ("entry":Str)=some NameKind.local:=dk
theorem Qon:(Qi Qfj (Qa QR)).names.lookup ("names":Str)=some NameKind.cell:=dk
theorem QlP:(Qi Qfj (Qa QR)).names.lookup ("is_entry":Str)=some NameKind.globalImplicit:=dk
def Qix:SD->Out D:=(eA (fun xs=>Qe5 (xs++[])) (aCons (eVar 0) (aCons (eVar 1) aNil)))
theorem Qu4:Gl QR "all":=dk
abbrev QmN:PySem.Scope:={ kind:=PySem.ScopeKind.function,names:=[(PySem.Str.ofString ".0",PySem.NameKind.local),(PySem.Str.ofString "entry",PySem.NameKind.local)],isGenerator:=false,isCoroutine:=false,more:=[]:PySem.Scope }
theorem QnP:QM ["entry"] [none] QmN (Qa QR) ["thing","names"]:=⟨rfl,dk,dk,rfl,dk,dk⟩
theorem Qd8:(Qi QmN (Qa QR)).names.lookup ("entry":Str)=some NameKind.local:=dk
def QiT:SD->Out D:=(e2 dIx (eVar 0) (eC (.int 0)))
theorem QmM:Gl QR "all_unlike":=dk
def Qhq:SD->Out Fl:=(sSeq (sIf (tOr' (tNot' (tVal (eA (fun xs=>Qco (xs++[])) (aCons (eVar 0) (aCons (eC (.int 6)) aNil))))) (tNot' (tVal (eA (f1 fAll) (aCons (eComp [none,some 1] (itL (eVar 0)) (gN 0) cTrue Qix) aNil))))) (sRet (eC (.bl false))) sNil) (sRet (eA (fun xs=>Qam (xs++[])) (aCons (eComp [none] (itL (eVar 0)) (gN 0) cTrue QiT) aNil))))
def Qc8:List D->Out D:=bodyF false 2 2 Qhq
theorem QBr(d0 d1:D):Qc8 [d0,d1]=(Qhq [some (.k,d0),some (.k,d1)]>>=retF false):=rfl
theorem QCI{u_MOST_ENTRIES:Value}(F:FunV K "are_entries" "are_entries" QR f fd dV)(Qko:DefOk P w K mg base CT "is_list" 1 false [] Qco)(QKm:DefOk P w K mg base CT "is_entry" 2 false [] Qe5)(Qgl:DefOk P w K mg base CT "all_unlike" 1 false [] Qam)(z_all:mg "all"=none)(c_MOST_ENTRIES:mg "MOST_ENTRIES"=some u_MOST_ENTRIES)(r_MOST_ENTRIES:RelV (toV (.int 6)) u_MOST_ENTRIES):FnOk P w K mg base CX0 3 f fd ["thing","names"] (SpD K CT false Qc8):=
 @fnV P w K mg base CT false "are_entries" "are_entries" QR f fd dV ["thing","names"] ["thing","names"] 2 Qhq F QzO fun cdv A outer s H E G hr=>
  (Qf (ds_if (DW.dt (dw_or (Qap (Qav (de_f Qko (hr.mono (by decide)) (Qc (Qb 0 rfl (oi QfN)) (Qc (QfA (d:=(.int 6)) Qlk c_MOST_ENTRIES rfl r_MOST_ENTRIES) Qg)) Qqh))) (Qga (Qap (Qav (Qke rfl Qu4 z_all (Qs (DE.db (DF.de (Q7 rfl QnZ (DI.b (Qat (Qb 0 rfl (oi QfN)))) (fun ς=>QU (Qt rfl ς)) (Qu _) (fun fp s H G p=>⟨(QB (i:=0) QnZ.nd rfl (oi Qek) (hf:=Or.inr Qek)),QV,(de_f QKm (hr.mono (by decide)) (Qc (Qb 0 rfl (oi Qek)) (Qc (Qb 1 rfl (Or.inr (oi Qon))) Qg)) QlP)⟩)))) Qx))))))) (Qh (QD de_bl)) QY) (Qh (QD (de_f Qgl (hr.mono (by decide)) (Qc (DF.de (Q7 rfl QnP (DI.b (Qat (Qb 0 rfl (oi QfN)))) (fun ς=>QU (Qt rfl ς)) (Qu _) (fun fp s H G p=>⟨(QB (i:=0) QnP.nd rfl (oi Qd8) (hf:=Or.inr Qd8)),QV,(de_ix (Qb 0 rfl (oi Qd8)) (DE.db Qe))⟩))) Qg) QmM))))
abbrev Qcg:Stmt:=top 50
theorem QGW:Qo ["seat","places"] ["seat","places"] (Qa Qcg):=⟨rfl,rfl,rfl,dk,rfl,dk,dk⟩
theorem QxE:Lo Qcg "seat":=dk
abbrev Qlh:PySem.Scope:={ kind:=PySem.ScopeKind.function,names:=[ (PySem.Str.ofString ".0",PySem.NameKind.local),(PySem.Str.ofString "text",PySem.NameKind.local),(PySem.Str.ofString "places",PySem.NameKind.free)],isGenerator:=false,isCoroutine:=false,more:=[]:PySem.Scope }
theorem Qt8:QM ["text","places"] [none,some 1] Qlh (Qa Qcg) ["seat","places"]:=⟨rfl,dk,dk,rfl,dk,dk⟩
theorem Qgc:(Qi Qlh (Qa Qcg)).names.lookup ("text":Str)=some NameKind.local:=dk
theorem QrQ:(Qi Qlh (Qa Qcg)).names.lookup ("places":Str)=some NameKind.cell:=dk
def Qnr:SD->Out D:=(eDget (eVar 1) (eVar 0))
def QlV:SD->Out Fl:=(sRetF (eComp [none,some 1] (itL (e2 dIx (eVar 0) (eC (.int 2)))) (gN 0) cTrue Qnr))
def Qff:List D->Out D:=bodyF true 2 2 QlV
theorem QJV(d0 d1:D):Qff [d0,d1]=(QlV [some (.k,d0),some (.k,d1)]>>=retF true):=rfl
theorem QKo(F:FunV K "leads_to" "leads_to" Qcg f fd dV)  : FnOk P w K mg base CX0 1 f fd ["seat","places"] (SpD K CT true Qff):=
 @fnV P w K mg base CT true "leads_to" "leads_to" Qcg f fd dV ["seat","places"] ["seat","places"] 0 QlV F QGW fun cdv A outer s H E G hr=>
  (Qh (QcX (Q7 rfl Qt8 (DI.b (Qat (de_ix (Qb 0 rfl (oi QxE)) (DE.db Qe)))) (fun ς=>QU (Qt rfl ς)) (Qu _) (fun fp s H G p=>⟨(QB (i:=0) Qt8.nd rfl (oi Qgc) (hf:=Or.inr Qgc)),QV,(QON hr.units (Qb 1 rfl (Or.inr (oi QrQ))) (DE.db (Qb 0 rfl (oi Qgc))))⟩))))
abbrev Ql:Stmt:=inCls (top 51) 0
theorem QgA:Qo ["self","clerks","entries","doors","names","places","ways"] ["self","clerks","entries","doors"] (Qa Ql):=⟨rfl,rfl,rfl,dk,rfl,dk,dk⟩
theorem QdA:Lo Ql "doors":=dk
theorem Qnh:Gl Ql "MOST_DOORS":=dk
theorem QnH:Gl Ql "are_names":=dk
theorem Qb8:Lo Ql "clerks":=dk
theorem QnC:Gl Ql "are_seats":=dk
abbrev QmB:PySem.Scope:={ kind:=PySem.ScopeKind.function,names:=[(PySem.Str.ofString ".0",PySem.NameKind.local),(PySem.Str.ofString "seat",PySem.NameKind.local)],isGenerator:=false,isCoroutine:=false,more:=[]:PySem.Scope }
theorem Qoh:QM ["seat"] [none] QmB (Qa Ql) ["self","clerks","entries","doors","names","places","ways"]:=⟨rfl,dk,dk,rfl,dk,dk⟩
theorem QeH:(Qi QmB (Qa Ql)).names.lookup ("seat":Str)=some NameKind.local:=dk
def QiR:SD->Out D:=(e2 dIx (eVar 0) (eC (.int 0)))
theorem Qdx:Lo Ql "names":=dk
theorem QhU:Lo Ql "entries":=dk
theorem QlX:Gl Ql "are_entries":=dk
theorem QnI:Gl Ql "places_of":=dk
theorem QqM:(Qa Ql).names.lookup ("places":Str)=some NameKind.cell:=dk
abbrev Qfh:PySem.Scope:={ kind:=PySem.ScopeKind.function,names:=[ (PySem.Str.ofString ".0",PySem.NameKind.local),(PySem.Str.ofString "seat",PySem.NameKind.local),(PySem.Str.ofString "leads_to",PySem.NameKind.globalImplicit),(PySem.Str.ofString "places",PySem.NameKind.free)],isGenerator:=false,isCoroutine:=false,more:=[]:PySem.Scope }
theorem Qof:QM ["seat","places"] [none,some 5] Qfh (Qa Ql) ["self","clerks","entries","doors","names","places","ways"]:=⟨rfl,dk,dk,rfl,dk,dk⟩
theorem QeR:(Qi Qfh (Qa Ql)).names.lookup ("seat":Str)=some NameKind.local:=dk
theorem QnK:(Qi Qfh (Qa Ql)).names.lookup ("places":Str)=some NameKind.cell:=dk
theorem Qmb:(Qi Qfh (Qa Ql)).names.lookup ("leads_to":Str)=some NameKind.globalImplicit:=dk
def Qh8:SD->Out D:=(eA (fun xs=>Qff (xs++[])) (aCons (eVar 0) (aCons (eVar 1) aNil)))
theorem Qgd:Lo Ql "ways":=dk
abbrev Qnk:PySem.Scope:={ kind:=PySem.ScopeKind.function,names:=[(PySem.Str.ofString ".0",PySem.NameKind.local),(PySem.Str.ofString "way",PySem.NameKind.local)],isGenerator:=false,isCoroutine:=false,more:=[]:PySem.Scope }
theorem QnW:QM ["way"] [none] Qnk (Qa Ql) ["self","clerks","entries","doors","names","places","ways"]:=⟨rfl,dk,dk,rfl,dk,dk⟩
theorem Qe1:(Qi Qnk (Qa Ql)).names.lookup ("way":Str)=some NameKind.local:=dk
def Qi4:SD->Out D:=(e2 dInL (eC .non) (eVar 0))
theorem QuX:Gl Ql "any":=dk
theorem QbU:Lo Ql "self":=dk
theorem Qte:Gl Ql "list":=dk
abbrev QhC:PySem.Scope:={ kind:=PySem.ScopeKind.function,names:=[ (PySem.Str.ofString ".0",PySem.NameKind.local),(PySem.Str.ofString "entry",PySem.NameKind.local),(PySem.Str.ofString "places",PySem.NameKind.free)],isGenerator:=false,isCoroutine:=false,more:=[]:PySem.Scope }
theorem Qob:QM ["entry","places"] [none,some 5] QhC (Qa Ql) ["self","clerks","entries","doors","names","places","ways"]:=⟨rfl,dk,dk,rfl,dk,dk⟩
theorem QcF:(Qi QhC (Qa Ql)).names.lookup ("entry":Str)=some NameKind.local:=dk
theorem QnJ:(Qi QhC (Qa Ql)).names.lookup ("places":Str)=some NameKind.cell:=dk
def QfR:SD->Out D:=(eTup (aCons (e2 dIx (eVar 0) (eC (.int 0))) (aCons (eDix (eVar 1) (e2 dIx (eVar 0) (eC (.int 1)))) aNil)))
abbrev Qnf:PySem.Scope:={ kind:=PySem.ScopeKind.function,names:=[(PySem.Str.ofString ".0",PySem.NameKind.local),(PySem.Str.ofString "seat",PySem.NameKind.local)],isGenerator:=false,isCoroutine:=false,more:=[]:PySem.Scope }
theorem Qoe:QM ["seat"] [none] Qnf (Qa Ql) ["self","clerks","entries","doors","names","places","ways"]:=⟨rfl,dk,dk,rfl,dk,dk⟩
theorem QeF:(Qi Qnf (Qa Ql)).names.lookup ("seat":Str)=some NameKind.local:=dk
def QfT:SD->Out D:=(e2 dIx (eVar 0) (eC (.int 1)))
abbrev QmT:PySem.Scope:={ kind:=PySem.ScopeKind.function,names:=[(PySem.Str.ofString ".0",PySem.NameKind.local),(PySem.Str.ofString "seat",PySem.NameKind.local)],isGenerator:=false,isCoroutine:=false,more:=[]:PySem.Scope }
theorem Qoa:QM ["seat"] [none] QmT (Qa Ql) ["self","clerks","entries","doors","names","places","ways"]:=⟨rfl,dk,dk,rfl,dk,dk⟩
theorem QeI:(Qi QmT (Qa Ql)).names.lookup ("seat":Str)=some NameKind.local:=dk
def QfP:SD->Out D:=(e2 dIx (eVar 0) (eC (.int 3)))
def Qhp:SD->Out Fl:=(sSeq (fun ς=>noX ((sIf (tNot' (tVal (eA (fun xs=>Qd0 (xs++[])) (aCons (eVar 3) (aCons (eC (.int 6)) aNil))))) Qg9 sNil) ς)) (sSeq (fun ς=>noX ((sIf (tNot' (tVal (eA (fun xs=>Qeg (xs++[])) (aCons (eVar 1) (aCons (eVar 3) aNil))))) Qg9 sNil) ς)) (sSeq (fun ς=>noX ((sSet 4 (eComp [none] (itL (eVar 1)) (gN 0) cTrue QiR)) ς)) (sSeq (fun ς=>noX ((sIf (tNot' (tVal (eA (fun xs=>Qc8 (xs++[])) (aCons (eVar 2) (aCons (eVar 4) aNil))))) Qg9 sNil) ς)) (sSeq (fun ς=>noX ((sSet 5 (eA (fun xs=>Qd2 (xs++[])) (aCons (eVar 4) (aCons (eVar 3) aNil)))) ς)) (sSeq (fun ς=>noX ((sSet 6 (eComp [none,some 5] (itL (eVar 1)) (gN 0) cTrue Qh8)) ς)) (sSeq (fun ς=>noX ((sIf (tVal (eA (f1 fAny) (aCons (eComp [none] (itL (eVar 6)) (gN 0) cTrue Qi4) aNil))) Qg9 sNil) ς)) (sSeq (fun ς=>noX (sFldS Qj "clerk_names" 0 (eVar 4) ς)) (sSeq (fun ς=>noX (sFldS Qj "door_names" 0 (e1 dList (eVar 3)) ς)) (sSeq (fun ς=>noX (sFldS Qj "entry_places" 0 (eComp [none,some 5] (itL (eVar 2)) (gN 0) cTrue QfR) ς)) (sSeq (fun ς=>noX (sFldS Qj "staff" 0 (eComp [none] (itL (eVar 1)) (gN 0) cTrue QfT) ς)) (sSeq (fun ς=>noX (sFldS Qj "first_states" 0 (eComp [none] (itL (eVar 1)) (gN 0) cTrue QfP) ς)) (fun ς=>noX (sFldS Qj "ways" 0 (eVar 6) ς))))))))))))))
def Qa7:Str->List (Str×D)->List D->Out (List (Str×D)):=bodyI 4 7 Qhp
theorem QB6(c:Str)(fds:List (Str×D))(d1 d2 d3:D):Qa7 c fds [d1,d2,d3]=(Qhp [some (.s,.ins c fds),some (.k,d1),some (.k,d2),some (.k,d3),none,none,none]>>=Qgf c):=rfl
theorem QBZ{u_MOST_DOORS:Value}(F:FunV K "__init__" "Office.__init__" Ql f fd dV)(QHf:DefOk P w K mg base CT "are_names" 2 false [] Qd0)(QI4:DefOk P w K mg base CT "are_seats" 4 false [] Qeg)(QBN:DefOk P w K mg base CT "are_entries" 3 false [] Qc8)(QIC:DefOk P w K mg base CT "places_of" 1 true [] Qd2)(QKP:DefOk P w K mg base CT "leads_to" 1 true [] Qff)(z_any:mg "any"=none)(z_list:mg "list"=none)(c_MOST_DOORS:mg "MOST_DOORS"=some u_MOST_DOORS)(r_MOST_DOORS:RelV (toV (.int 6)) u_MOST_DOORS)(fo_clerk_names:FldOk K CT Qj "clerk_names")(fo_door_names:FldOk K CT Qj "door_names")(fo_entry_places:FldOk K CT Qj "entry_places")(fo_staff:FldOk K CT Qj "staff")(fo_first_states:FldOk K CT Qj "first_states")(fo_ways:FldOk K CT Qj "ways"):FnOk P w K mg base (CXR P w) 5 f fd ["self","clerks","entries","doors"] (SpI K CT Qa7):=
 @fnI P w K mg base CT "__init__" "Office.__init__" Ql f fd dV ["self","clerks","entries","doors","names","places","ways"] ["self","clerks","entries","doors"] 4 Qhp F QgA fun cdv A outer s H E G p hr=>
  (Qf (DS.lift (ds_if (Qap (Qav (de_f QHf (hr.mono (by decide)) (Qc (Qb 3 rfl (oi QdA)) (Qc (QfA (d:=(.int 6)) Qnh c_MOST_DOORS rfl r_MOST_DOORS) Qg)) QnH))) (Qh Qfn) QY)) (Qf (DS.lift (ds_if (Qap (Qav (de_f QI4 (hr.mono (by decide)) (Qc (Qb 1 rfl (oi Qb8)) (Qc (Qb 3 rfl (oi QdA)) Qg)) QnC))) (Qh Qfn) QY)) (Qf (DS.lift (Qp1 (i:=4) rfl Qoh (DI.b (Qat (Qb 1 rfl (oi Qb8)))) (fun ς=>QU (Qt rfl ς)) (Qu _) (fun fp s H G p=>⟨(QB (i:=0) Qoh.nd rfl (oi QeH) (hf:=Or.inr QeH)),QV,(de_ix (Qb 0 rfl (oi QeH)) (DE.db Qe))⟩) QgA.nd rfl (oi Qdx))) (Qf (DS.lift (ds_if (Qap (Qav (de_f QBN (hr.mono (by decide)) (Qc (Qb 2 rfl (oi QhU)) (Qc (Qb 4 rfl (oi Qdx)) Qg)) QlX))) (Qh Qfn) QY)) (Qf (DS.lift (Qy (i:=5) QgA.nd rfl (Or.inr QqM) (de_f QIC (hr.mono (by decide)) (Qc (Qb 4 rfl (oi Qdx)) (Qc (Qb 3 rfl (oi QdA)) Qg)) QnI))) (Qf (DS.lift (Qp1 (i:=6) rfl Qof (DI.b (Qat (Qb 1 rfl (oi Qb8)))) (fun ς=>QU (Qt rfl ς)) (Qu _) (fun fp s H G p=>⟨(QB (i:=0) Qof.nd rfl (oi QeR) (hf:=Or.inr QeR)),QV,(de_f QKP (hr.mono (by decide)) (Qc (Qb 0 rfl (oi QeR)) (Qc (Qb 1 rfl (Or.inr (oi QnK))) Qg)) Qmb)⟩) QgA.nd rfl (oi Qgd))) (Qf (DS.lift (ds_if (Qav (QRT rfl QuX z_any (Qs (DE.db (DF.de (Q7 rfl QnW (DI.b (Qat (Qb 6 rfl (oi Qgd)))) (fun ς=>QU (Qt rfl ς)) (Qu _) (fun fp s H G p=>⟨(QB (i:=0) QnW.nd rfl (oi Qe1) (hf:=Or.inr Qe1)),QV,(QNw (DE.db QQY) (DE.db (Qb 0 rfl (oi Qe1))))⟩)))) Qx))) (Qh Qfn) QY)) (Qf (DS.lift (QhR 0 fo_clerk_names (Qb 4 rfl (oi Qdx)) rfl (oi QbU))) (Qf (DS.lift (QhR 0 fo_door_names (DF.de (QhY Qte z_list (Qb 3 rfl (oi QdA)))) rfl (oi QbU))) (Qf (DS.lift (QhR 0 fo_entry_places (DF.de (Q7 rfl Qob (DI.b (Qat (Qb 2 rfl (oi QhU)))) (fun ς=>QU (Qt rfl ς)) (Qu _) (fun fp s H G p=>⟨(QB (i:=0) Qob.nd rfl (oi QcF) (hf:=Or.inr QcF)),QV,(Qda (Qc (de_ix (Qb 0 rfl (oi QcF)) (DE.db Qe)) (Qc (QRm hr.units (Qb 1 rfl (Or.inr (oi QnJ))) (DE.db (de_ix (Qb 0 rfl (oi QcF)) (DE.db Qe)))) Qg)))⟩))) rfl (oi QbU))) (Qf (DS.lift (QhR 0 fo_staff (DF.de (Q7 rfl Qoe (DI.b (Qat (Qb 1 rfl (oi Qb8)))) (fun ς=>QU (Qt rfl ς)) (Qu _) (fun fp s H G p=>⟨(QB (i:=0) Qoe.nd rfl (oi QeF) (hf:=Or.inr QeF)),QV,(de_ix (Qb 0 rfl (oi QeF)) (DE.db Qe))⟩))) rfl (oi QbU))) (Qf (DS.lift (QhR 0 fo_first_states (DF.de (Q7 rfl Qoa (DI.b (Qat (Qb 1 rfl (oi Qb8)))) (fun ς=>QU (Qt rfl ς)) (Qu _) (fun fp s H G p=>⟨(QB (i:=0) Qoa.nd rfl (oi QeI) (hf:=Or.inr QeI)),QV,(de_ix (Qb 0 rfl (oi QeI)) (DE.db Qe))⟩))) rfl (oi QbU))) (Qh (DS.lift (QhR 0 fo_ways (Qb 6 rfl (oi Qgd)) rfl (oi QbU))))))))))))))))
abbrev QbS:Stmt:=top 22
theorem QLo:Qo ["one","other"] ["one","other"] (Qa QbS):=⟨rfl,rfl,rfl,dk,rfl,dk,dk⟩
theorem QBq:Lo QbS "one":=dk
theorem QxQ:Lo QbS "other":=dk
theorem QCr:Gl QbS "zip":=dk
abbrev Qnv:PySem.Scope:={ kind:=PySem.ScopeKind.function,names:=[ (PySem.Str.ofString ".0",PySem.NameKind.local),(PySem.Str.ofString "each",PySem.NameKind.local),(PySem.Str.ofString "more",PySem.NameKind.local)],isGenerator:=false,isCoroutine:=false,more:=[]:PySem.Scope }
theorem Qpp:QM ["each","more"] [none,none] Qnv (Qa QbS) ["one","other"]:=⟨rfl,dk,dk,rfl,dk,dk⟩
theorem QgQ:(Qi Qnv (Qa QbS)).names.lookup ("more":Str)=some NameKind.local:=dk
theorem Qg0:(Qi Qnv (Qa QbS)).names.lookup ("each":Str)=some NameKind.local:=dk
def Qvz:SD->Out D:=(e2 dAdd (eVar 0) (eVar 1))
def QnQ:SD->Out Fl:=(sRetF (eComp [none,none] (itZ (eVar 0) (eVar 1)) (gT [0,1]) cTrue Qvz))
def QeV:List D->Out D:=bodyF true 2 2 QnQ
theorem QMe(d0 d1:D):QeV [d0,d1]=(QnQ [some (.k,d0),some (.k,d1)]>>=retF true):=rfl
theorem QMj(F:FunV K "sums_of" "sums_of" QbS f fd dV)(z_zip:mg "zip"=none):FnOk P w K mg base CX0 1 f fd ["one","other"] (SpD K CT true QeV):=
 @fnV P w K mg base CT true "sums_of" "sums_of" QbS f fd dV ["one","other"] ["one","other"] 0 QnQ F QLo fun cdv A outer s H E G hr=>
  (Qh (QcX (Q7 rfl Qpp (DI.b (QpX QCr z_zip (Qb 0 rfl (oi QBq)) (Qb 1 rfl (oi QxQ)))) (fun ς=>QmK (fun i hi=>Qt (by revert hi;revert i;decide) ς)) (Qf9 _) (fun fp s H G p=>⟨(Qku rfl (Qae (i:=0) Qpp.nd rfl (oi Qg0) (Qae (i:=1) Qpp.nd rfl (oi QgQ) Qex (hf:=Or.inr QgQ)) (hf:=Or.inr Qg0))),QV,(Qbo (DE.db (Qb 0 rfl (oi Qg0))) (DE.db (Qb 1 rfl (oi QgQ))))⟩))))
abbrev Qak:Stmt:=top 23
theorem Qiz:Qo ["rows","sums","row"] ["rows"] (Qa Qak):=⟨rfl,rfl,rfl,dk,rfl,dk,dk⟩
theorem Qi9:Lo Qak "rows":=dk
abbrev QlB:PySem.Scope:={ kind:=PySem.ScopeKind.function,names:=[(PySem.Str.ofString ".0",PySem.NameKind.local),(PySem.Str.ofString "each",PySem.NameKind.local)],isGenerator:=false,isCoroutine:=false,more:=[]:PySem.Scope }
theorem Qni:QM ["each"] [none] QlB (Qa Qak) ["rows","sums","row"]:=⟨rfl,dk,dk,rfl,dk,dk⟩
theorem Qg1:(Qi QlB (Qa Qak)).names.lookup ("each":Str)=some NameKind.local:=dk
def QhH:SD->Out D:=(eC (.int 0))
theorem Qdz:Lo Qak "sums":=dk
theorem Qkb:Lo Qak "row":=dk
theorem QoC:Gl Qak "sums_of":=dk
def Qdv:SD->Out Fl:=(QbN 1 (eA (fun xs=>QeV (xs++[])) (aCons (eIxO 1 (e1 dNeg (eC (.int 1)))) (aCons (eVar 2) aNil))))
def QgE:SD->Out Fl:=(sSeq (sSetO 1 (eLst (aCons (eComp [none] (itL (e2 dIx (eVar 0) (eC (.int 0)))) (gN 0) cTrue QhH) aNil))) (sSeq (sFor (gN 2) (itL (eVar 0)) Qdv) (sRetO 1)))
def Qbc:List D->Out D:=bodyF true 1 3 QgE
theorem QzA(d0:D):Qbc [d0]=(QgE [some (.k,d0),none,none]>>=retF true):=rfl
theorem QAK(F:FunV K "running_sums" "running_sums" Qak f fd dV)(QLQ:DefOk P w K mg base CT "sums_of" 1 true [] QeV):FnOk P w K mg base CX0 2 f fd ["rows"] (SpD K CT true Qbc):=
 @fnV P w K mg base CT true "running_sums" "running_sums" Qak f fd dV ["rows","sums","row"] ["rows"] 1 QgE F Qiz fun cdv A outer s H E G hr=>
  (Qf (QfB (i:=1) Qiz.nd rfl (oi Qdz) (QcK (Qc (DF.de (Q7 rfl Qni (DI.b (Qat (de_ix (Qb 0 rfl (oi Qi9)) (DE.db Qe)))) (fun ς=>QU (Qt rfl ς)) (Qu _) (fun fp s H G p=>⟨(QB (i:=0) Qni.nd rfl (oi Qg1) (hf:=Or.inr Qg1)),QV,Qe⟩))) Qg))) (Qf (Qcl PassesOwn.never rfl (Qat (Qb 0 rfl (oi Qi9))) (QB (i:=2) Qiz.nd rfl (oi Qkb)) (Qu _) (Qh (Qdf 1 (de_f QLQ (hr.mono (by decide)) (Qc (QNj 1 (DE.db (Qqn (DE.db Qe))) rfl (oi Qdz)) (Qc (Qb 2 rfl (oi Qkb)) Qg)) QoC) rfl (oi Qdz)))) (Qh (Qqa 1 rfl (oi Qdz)))))
abbrev QW:Stmt:=inCls (top 24) 1
theorem Qt4:Qo ["self","rows"] ["self","rows"] (Qa QW):=⟨rfl,rfl,rfl,dk,rfl,dk,dk⟩
theorem Qg4:Lo QW "rows":=dk
abbrev Qfm:PySem.Scope:={ kind:=PySem.ScopeKind.function,names:=[ (PySem.Str.ofString ".0",PySem.NameKind.local),(PySem.Str.ofString "row",PySem.NameKind.local),(PySem.Str.ofString "list",PySem.NameKind.globalImplicit)],isGenerator:=false,isCoroutine:=false,more:=[]:PySem.Scope }
theorem Qja:QM ["row"] [none] Qfm (Qa QW) ["self","rows"]:=⟨rfl,dk,dk,rfl,dk,dk⟩
theorem Qdp:(Qi Qfm (Qa QW)).names.lookup ("row":Str)=some NameKind.local:=dk
theorem QlW:(Qi Qfm (Qa QW)).names.lookup ("list":Str)=some NameKind.globalImplicit:=dk
def QfO:SD->Out D:=(e1 dList (eVar 0))
theorem Qg3:Lo QW "self":=dk
theorem QiV:Gl QW "running_sums":=dk
def Qeo:SD->Out Fl:=(sSeq (fun ς=>noX (sFldS Qj "table" 0 (eComp [none] (itL (eVar 1)) (gN 0) cTrue QfO) ς)) (fun ς=>noX (sFldS Qj "heads" 0 (eA (fun xs=>Qbc (xs++[])) (aCons (eVar 1) aNil)) ς)))
def QO:Str->List (Str×D)->List D->Out (List (Str×D)):=bodyI 2 2 Qeo
theorem Qvb(c:Str)(fds:List (Str×D))(d1:D):QO c fds [d1]=(Qeo [some (.s,.ins c fds),some (.k,d1)]>>=Qgf c):=rfl
theorem Qvd(F:FunV K "keep_rows" "Clerk.keep_rows" QW f fd dV)(QAe:DefOk P w K mg base CT "running_sums" 2 true [] Qbc)(z_list:mg "list"=none)(fo_table:FldOk K CT Qj "table")(fo_heads:FldOk K CT Qj "heads"):FnOk P w K mg base (CXR P w) 3 f fd ["self","rows"] (SpI K CT QO):=
 @fnI P w K mg base CT "keep_rows" "Clerk.keep_rows" QW f fd dV ["self","rows"] ["self","rows"] 2 Qeo F Qt4 fun cdv A outer s H E G p hr=>
  (Qf (DS.lift (QhR 0 fo_table (DF.de (Q7 rfl Qja (DI.b (Qat (Qb 1 rfl (oi Qg4)))) (fun ς=>QU (Qt rfl ς)) (Qu _) (fun fp s H G p=>⟨(QB (i:=0) Qja.nd rfl (oi Qdp) (hf:=Or.inr Qdp)),QV,(DF.de (QhY QlW z_list (Qb 0 rfl (oi Qdp))))⟩))) rfl (oi Qg3))) (Qh (DS.lift (QhR 0 fo_heads (de_f QAe (hr.mono (by decide)) (Qc (Qb 1 rfl (oi Qg4)) Qg) QiV) rfl (oi Qg3)))))
abbrev Qa6:Stmt:=top 30
theorem QL2:Qo ["thing"] ["thing"] (Qa Qa6):=⟨rfl,rfl,rfl,dk,rfl,dk,dk⟩
theorem Qji:Lo Qa6 "thing":=dk
theorem QBO:Gl Qa6 "list":=dk
theorem Qsq:Gl Qa6 "isinstance":=dk
theorem QDR:Gl Qa6 "len":=dk
theorem Quq:Gl Qa6 "MOST_OUTS":=dk
abbrev QjK:PySem.Scope:={ kind:=PySem.ScopeKind.function,names:=[ (PySem.Str.ofString ".0",PySem.NameKind.local),(PySem.Str.ofString "count",PySem.NameKind.local),(PySem.Str.ofString "is_within",PySem.NameKind.globalImplicit),(PySem.Str.ofString "MOST_SENT",PySem.NameKind.globalImplicit)],isGenerator:=false,isCoroutine:=false,more:=[]:PySem.Scope }
theorem QxA:QM ["count"] [none] QjK (Qa Qa6) ["thing"]:=⟨rfl,dk,dk,rfl,dk,dk⟩
theorem QgZ:(Qi QjK (Qa Qa6)).names.lookup ("count":Str)=some NameKind.local:=dk
theorem Qqd:(Qi QjK (Qa Qa6)).names.lookup ("MOST_SENT":Str)=some NameKind.globalImplicit:=dk
theorem Qqu:(Qi QjK (Qa Qa6)).names.lookup ("is_within":Str)=some NameKind.globalImplicit:=dk
def QrE:SD->Out D:=(eA (fun xs=>QaV (xs++[])) (aCons (eVar 0) (aCons (eC (.int 0)) (aCons (eC (.int 9)) aNil))))
theorem QDb:Gl Qa6 "all":=dk
def QqW:SD->Out Fl:=(sSeq (sIf (tOr' (tNot' (tVal (eIsa (isaT "list") (eVar 0)))) (tVal (e2 dGt (eA fLen (aCons (eVar 0) aNil)) (eC (.int 6))))) (sRet (eC (.bl false))) sNil) (sRet (eA (f1 fAll) (aCons (eComp [none] (itL (eVar 0)) (gN 0) cTrue QrE) aNil))))
def Qe8:List D->Out D:=bodyF false 1 1 QqW
theorem QNW(d0:D):Qe8 [d0]=(QqW [some (.k,d0)]>>=retF false):=rfl
theorem QOv{u_MOST_OUTS:Value}{u_MOST_SENT:Value}(F:FunV K "is_row" "is_row" Qa6 f fd dV)(Qd5:DefOk P w K mg base CT "is_within" 2 false [] QaV)(z_isinstance:mg "isinstance"=none)(z_list:mg "list"=none)(z_len:mg "len"=none)(z_all:mg "all"=none)(c_MOST_OUTS:mg "MOST_OUTS"=some u_MOST_OUTS)(r_MOST_OUTS:RelV (toV (.int 6)) u_MOST_OUTS)(c_MOST_SENT:mg "MOST_SENT"=some u_MOST_SENT)(r_MOST_SENT:RelV (toV (.int 9)) u_MOST_SENT):FnOk P w K mg base CX0 3 f fd ["thing"] (SpD K CT false Qe8):=
 @fnV P w K mg base CT false "is_row" "is_row" Qa6 f fd dV ["thing"] ["thing"] 2 QqW F QL2 fun cdv A outer s H E G hr=>
  (Qf (ds_if (DW.dt (dw_or (Qap (Qav (QcZ "list" QmR QBO z_list PyProof.Rows.Boot.«list» Qsq z_isinstance (DE.db (Qb 0 rfl (oi Qji)))))) (Qga (dt_gt (DE.db (Qaz QDR z_len (Qs (DE.db (Qb 0 rfl (oi Qji))) Qx))) (DE.db (QfA (d:=(.int 6)) Quq c_MOST_OUTS rfl r_MOST_OUTS)))))) (Qh (QD de_bl)) QY) (Qh (QD (Qke rfl QDb z_all (Qs (DE.db (DF.de (Q7 rfl QxA (DI.b (Qat (Qb 0 rfl (oi Qji)))) (fun ς=>QU (Qt rfl ς)) (Qu _) (fun fp s H G p=>⟨(QB (i:=0) QxA.nd rfl (oi QgZ) (hf:=Or.inr QgZ)),QV,(de_f Qd5 (hr.mono (by decide)) (Qc (Qb 0 rfl (oi QgZ)) (Qc Qe (Qc (QfA (d:=(.int 9)) Qqd c_MOST_SENT rfl r_MOST_SENT) Qg))) Qqu)⟩)))) Qx)))))
abbrev Q6:Stmt:=top 31
theorem QIl:Qo ["thing"] ["thing"] (Qa Q6):=⟨rfl,rfl,rfl,dk,rfl,dk,dk⟩
theorem Qe2:(Qa Q6).names.lookup ("thing":Str)=some NameKind.cell:=dk
theorem Qw4:Gl Q6 "list":=dk
theorem Qqo:Gl Q6 "isinstance":=dk
theorem QAi:Gl Q6 "len":=dk
theorem QrA:Gl Q6 "MOST_ROWS":=dk
abbrev QkY:PySem.Scope:={ kind:=PySem.ScopeKind.function,names:=[ (PySem.Str.ofString ".0",PySem.NameKind.local),(PySem.Str.ofString "row",PySem.NameKind.local),(PySem.Str.ofString "is_row",PySem.NameKind.globalImplicit)],isGenerator:=false,isCoroutine:=false,more:=[]:PySem.Scope }
theorem Qtq:QM ["row"] [none] QkY (Qa Q6) ["thing"]:=⟨rfl,dk,dk,rfl,dk,dk⟩
theorem QgW:(Qi QkY (Qa Q6)).names.lookup ("row":Str)=some NameKind.local:=dk
theorem QqE:(Qi QkY (Qa Q6)).names.lookup ("is_row":Str)=some NameKind.globalImplicit:=dk
def Qnu:SD->Out D:=(eA (fun xs=>Qe8 (xs++[])) (aCons (eVar 0) aNil))
theorem Qp4:Gl Q6 "all":=dk
abbrev Qhy:PySem.Scope:={ kind:=PySem.ScopeKind.function,names:=[ (PySem.Str.ofString ".0",PySem.NameKind.local),(PySem.Str.ofString "row",PySem.NameKind.local),(PySem.Str.ofString "len",PySem.NameKind.globalImplicit),(PySem.Str.ofString "thing",PySem.NameKind.free)],isGenerator:=false,isCoroutine:=false,more:=[]:PySem.Scope }
theorem Qtr:QM ["row","thing"] [none,some 0] Qhy (Qa Q6) ["thing"]:=⟨rfl,dk,dk,rfl,dk,dk⟩
theorem QgR:(Qi Qhy (Qa Q6)).names.lookup ("row":Str)=some NameKind.local:=dk
theorem QlC:(Qi Qhy (Qa Q6)).names.lookup ("len":Str)=some NameKind.globalImplicit:=dk
theorem QsG:(Qi Qhy (Qa Q6)).names.lookup ("thing":Str)=some NameKind.cell:=dk
def Qmk:SD->Out D:=(e2 dEq (eA fLen (aCons (eVar 0) aNil)) (eA fLen (aCons (e2 dIx (eVar 1) (eC (.int 0))) aNil)))
def QlZ:SD->Out Fl:=(sSeq (sIf (tOr' (tNot' (tVal (eIsa (isaT "list") (eVar 0)))) (tNot' (tVal (Qf5 dLe dLe (eC (.int 1)) (eA fLen (aCons (eVar 0) aNil)) (eC (.int 12)))))) (sRet (eC (.bl false))) sNil) (sSeq (sIf (tNot' (tVal (eA (f1 fAll) (aCons (eComp [none] (itL (eVar 0)) (gN 0) cTrue Qnu) aNil)))) (sRet (eC (.bl false))) sNil) (sRet (eA (f1 fAll) (aCons (eComp [none,some 0] (itL (eVar 0)) (gN 0) cTrue Qmk) aNil)))))
def Qfl:List D->Out D:=bodyF false 1 1 QlZ
theorem QKT(d0:D):Qfl [d0]=(QlZ [some (.k,d0)]>>=retF false):=rfl
theorem QJ3{u_MOST_ROWS:Value}(F:FunV K "is_table" "is_table" Q6 f fd dV)(Qv9:DefOk P w K mg base CT "is_row" 3 false [] Qe8)(z_isinstance:mg "isinstance"=none)(z_list:mg "list"=none)(z_len:mg "len"=none)(z_all:mg "all"=none)(c_MOST_ROWS:mg "MOST_ROWS"=some u_MOST_ROWS)(r_MOST_ROWS:RelV (toV (.int 12)) u_MOST_ROWS):FnOk P w K mg base CX0 4 f fd ["thing"] (SpD K CT false Qfl):=
 @fnV P w K mg base CT false "is_table" "is_table" Q6 f fd dV ["thing"] ["thing"] 3 QlZ F QIl fun cdv A outer s H E G hr=>
  (Qf (ds_if (DW.dt (dw_or (Qap (Qav (QcZ "list" QmR Qw4 z_list PyProof.Rows.Boot.«list» Qqo z_isinstance (DE.db (Qb 0 rfl (Or.inr (oi Qe2))))))) (Qga (Qap (QD0 op_le Qdj (Qcx fun _ _=>rfl) op_le Qdj (Qcx fun _ _=>rfl) (DE.db Qe) (DE.db (Qaz QAi z_len (Qs (DE.db (Qb 0 rfl (Or.inr (oi Qe2)))) Qx))) (DE.db (QfA (d:=(.int 12)) QrA c_MOST_ROWS rfl r_MOST_ROWS))))))) (Qh (QD de_bl)) QY) (Qf (ds_if (Qap (Qav (Qke rfl Qp4 z_all (Qs (DE.db (DF.de (Q7 rfl Qtq (DI.b (Qat (Qb 0 rfl (Or.inr (oi Qe2))))) (fun ς=>QU (Qt rfl ς)) (Qu _) (fun fp s H G p=>⟨(QB (i:=0) Qtq.nd rfl (oi QgW) (hf:=Or.inr QgW)),QV,(de_f Qv9 (hr.mono (by decide)) (Qc (Qb 0 rfl (oi QgW)) Qg) QqE)⟩)))) Qx)))) (Qh (QD de_bl)) QY) (Qh (QD (Qke rfl Qp4 z_all (Qs (DE.db (DF.de (Q7 rfl Qtr (DI.b (Qat (Qb 0 rfl (Or.inr (oi Qe2))))) (fun ς=>QU (Qt rfl ς)) (Qu _) (fun fp s H G p=>⟨(QB (i:=0) Qtr.nd rfl (oi QgR) (hf:=Or.inr QgR)),QV,(de_eq hr.units (DE.db (Qaz QlC z_len (Qs (DE.db (Qb 0 rfl (oi QgR))) Qx))) (DE.db (Qaz QlC z_len (Qs (DE.db (de_ix (Qb 1 rfl (Or.inr (oi QsG))) (DE.db Qe))) Qx))))⟩)))) Qx))))))
abbrev Qb3:Stmt:=inCls (top 28) 0
theorem QDj:Qo ["self","rows"] ["self","rows"] (Qa Qb3):=⟨rfl,rfl,rfl,dk,rfl,dk,dk⟩
theorem Qmx:Lo Qb3 "rows":=dk
theorem QqI:Gl Qb3 "is_table":=dk
theorem Qwe:Lo Qb3 "self":=dk
def QjO:SD->Out Fl:=(sSeq (fun ς=>noX ((sIf (tNot' (tVal (eA (fun xs=>Qfl (xs++[])) (aCons (eVar 1) aNil)))) Qg9 sNil) ς)) (Qkj Qd "keep_rows" QO 0 (fun ς=>noX ((aCons (eVar 1) aNil) ς))))
def Qej:Str->List (Str×D)->List D->Out (List (Str×D)):=bodyI 2 2 QjO
theorem QIi(c:Str)(fds:List (Str×D))(d1:D):Qej c fds [d1]=(QjO [some (.s,.ins c fds),some (.k,d1)]>>=Qgf c):=rfl
theorem QIL(F:FunV K "__init__" "Rows.__init__" Qb3 f fd dV)(QKn:DefOk P w K mg base CT "is_table" 4 false [] Qfl)(ms_keep_rows:MtOk P w K mg base CT (CXR P w) "keep_rows" 3 Qd (fun _=>SpI K CT QO)):FnOk P w K mg base (CXR P w) 5 f fd ["self","rows"] (SpI K CT Qej):=
 @fnI P w K mg base CT "__init__" "Rows.__init__" Qb3 f fd dV ["self","rows"] ["self","rows"] 4 QjO F QDj fun cdv A outer s H E G p hr=>
  (Qf (DS.lift (ds_if (Qap (Qav (de_f QKn (hr.mono (by decide)) (Qc (Qb 1 rfl (oi Qmx)) Qg) QqI))) (Qh Qfn) QY)) (Qh (Qq5 0 QyD ms_keep_rows (hr.mono (by decide)) (DA.lift (Qc (Qb 1 rfl (oi Qmx)) Qg)) rfl (oi Qwe))))
abbrev QaT:Stmt:=top 29
theorem QCq:Qo ["many","place"] ["many","place"] (Qa QaT):=⟨rfl,rfl,rfl,dk,rfl,dk,dk⟩
theorem QuV:Lo QaT "many":=dk
theorem QsY:Gl QaT "range":=dk
abbrev Qin:PySem.Scope:={ kind:=PySem.ScopeKind.function,names:=[ (PySem.Str.ofString ".0",PySem.NameKind.local),(PySem.Str.ofString "out",PySem.NameKind.local),(PySem.Str.ofString "place",PySem.NameKind.free)],isGenerator:=false,isCoroutine:=false,more:=[]:PySem.Scope }
theorem Qqq:QM ["out","place"] [none,some 1] Qin (Qa QaT) ["many","place"]:=⟨rfl,dk,dk,rfl,dk,dk⟩
theorem QfL:(Qi Qin (Qa QaT)).names.lookup ("out":Str)=some NameKind.local:=dk
theorem QpQ:(Qi Qin (Qa QaT)).names.lookup ("place":Str)=some NameKind.cell:=dk
def Qjn:SD->Out D:=(eIf (tVal (e2 dEq (eVar 0) (eVar 1))) (eC (.int 1)) (eC (.int 0)))
def Qij:SD->Out Fl:=(sRetF (eComp [none,some 1] (itR1 (eVar 0)) (gN 0) cTrue Qjn))
def Qdw:List D->Out D:=bodyF true 2 2 Qij
theorem QFJ(d0 d1:D):Qdw [d0,d1]=(Qij [some (.k,d0),some (.k,d1)]>>=retF true):=rfl
theorem QEJ(F:FunV K "single_row" "single_row" QaT f fd dV)(z_range:mg "range"=none):FnOk P w K mg base CX0 1 f fd ["many","place"] (SpD K CT true Qdw):=
 @fnV P w K mg base CT true "single_row" "single_row" QaT f fd dV ["many","place"] ["many","place"] 0 Qij F QCq fun cdv A outer s H E G hr=>
  (Qh (QcX (Q7 rfl Qqq (DI.b (QaX QsY z_range (DE.db (Qb 0 rfl (oi QuV))))) (fun ς=>QU (Qt rfl ς)) (Qu _) (fun fp s H G p=>⟨(QB (i:=0) Qqq.nd rfl (oi QfL) (hf:=Or.inr QfL)),QV,(de_if (dt_eq hr.units (DE.db (Qb 0 rfl (oi QfL))) (DE.db (Qb 1 rfl (Or.inr (oi QpQ))))) Qe Qe)⟩))))
abbrev Qao:Stmt:=inCls (top 25) 0
theorem QGg:Qo ["self","many"] ["self","many"] (Qa Qao):=⟨rfl,rfl,rfl,dk,rfl,dk,dk⟩
theorem Qny:(Qa Qao).names.lookup ("many":Str)=some NameKind.cell:=dk
theorem Qqe:Gl Qao "MOST_OUTS":=dk
theorem QpW:Gl Qao "is_within":=dk
theorem Qve:Gl Qao "range":=dk
abbrev QgD:PySem.Scope:={ kind:=PySem.ScopeKind.function,names:=[ (PySem.Str.ofString ".0",PySem.NameKind.local),(PySem.Str.ofString "state",PySem.NameKind.local),(PySem.Str.ofString "single_row",PySem.NameKind.globalImplicit),(PySem.Str.ofString "many",PySem.NameKind.free)],isGenerator:=false,isCoroutine:=false,more:=[]:PySem.Scope }
theorem QrU:QM ["state","many"] [none,some 1] QgD (Qa Qao) ["self","many"]:=⟨rfl,dk,dk,rfl,dk,dk⟩
theorem Qfi:(Qi QgD (Qa Qao)).names.lookup ("state":Str)=some NameKind.local:=dk
theorem QsI:(Qi QgD (Qa Qao)).names.lookup ("many":Str)=some NameKind.cell:=dk
theorem Ql6:(Qi QgD (Qa Qao)).names.lookup ("single_row":Str)=some NameKind.globalImplicit:=dk
def QkB:SD->Out D:=(eA (fun xs=>Qdw (xs++[])) (aCons (eVar 1) (aCons (eVar 0) aNil)))
theorem QwC:Lo Qao "self":=dk
def QjJ:SD->Out Fl:=(sSeq (fun ς=>noX ((sIf (tNot' (tVal (eA (fun xs=>QaV (xs++[])) (aCons (eVar 1) (aCons (eC (.int 1)) (aCons (eC (.int 6)) aNil)))))) Qg9 sNil) ς)) (Qkj Qd "keep_rows" QO 0 (fun ς=>noX ((aCons (eComp [none,some 1] (itR1 (eVar 1)) (gN 0) cTrue QkB) aNil) ς))))
def Qed:Str->List (Str×D)->List D->Out (List (Str×D)):=bodyI 2 2 QjJ
theorem QG4(c:Str)(fds:List (Str×D))(d1:D):Qed c fds [d1]=(QjJ [some (.s,.ins c fds),some (.k,d1)]>>=Qgf c):=rfl
theorem QGx{u_MOST_OUTS:Value}(F:FunV K "__init__" "Deal.__init__" Qao f fd dV)(Qd5:DefOk P w K mg base CT "is_within" 2 false [] QaV)(QE1:DefOk P w K mg base CT "single_row" 1 true [] Qdw)(z_range:mg "range"=none)(c_MOST_OUTS:mg "MOST_OUTS"=some u_MOST_OUTS)(r_MOST_OUTS:RelV (toV (.int 6)) u_MOST_OUTS)(ms_keep_rows:MtOk P w K mg base CT (CXR P w) "keep_rows" 3 Qd (fun _=>SpI K CT QO)):FnOk P w K mg base (CXR P w) 4 f fd ["self","many"] (SpI K CT Qed):=
 @fnI P w K mg base CT "__init__" "Deal.__init__" Qao f fd dV ["self","many"] ["self","many"] 3 QjJ F QGg fun cdv A outer s H E G p hr=>
  (Qf (DS.lift (ds_if (Qap (Qav (de_f Qd5 (hr.mono (by decide)) (Qc (Qb 1 rfl (Or.inr (oi Qny))) (Qc Qe (Qc (QfA (d:=(.int 6)) Qqe c_MOST_OUTS rfl r_MOST_OUTS) Qg))) QpW))) (Qh Qfn) QY)) (Qh (Qq5 0 QyD ms_keep_rows (hr.mono (by decide)) (DA.lift (Qc (DF.de (Q7 rfl QrU (DI.b (QaX Qve z_range (DE.db (Qb 1 rfl (Or.inr (oi Qny)))))) (fun ς=>QU (Qt rfl ς)) (Qu _) (fun fp s H G p=>⟨(QB (i:=0) QrU.nd rfl (oi Qfi) (hf:=Or.inr Qfi)),QV,(de_f QE1 (hr.mono (by decide)) (Qc (Qb 1 rfl (Or.inr (oi QsI))) (Qc (Qb 0 rfl (oi Qfi)) Qg)) Ql6)⟩))) Qg)) rfl (oi QwC))))
abbrev Qaa:Stmt:=inCls (top 26) 0
theorem QAM:Qo ["self","size"] ["self","size"] (Qa Qaa):=⟨rfl,rfl,rfl,dk,rfl,dk,dk⟩
theorem Qkd:(Qa Qaa).names.lookup ("size":Str)=some NameKind.cell:=dk
theorem QnL:Gl Qaa "MOST_ROWS":=dk
theorem QnM:Gl Qaa "is_within":=dk
theorem QsH:Gl Qaa "range":=dk
abbrev QhO:PySem.Scope:={ kind:=PySem.ScopeKind.function,names:=[ (PySem.Str.ofString ".0",PySem.NameKind.local),(PySem.Str.ofString "state",PySem.NameKind.local),(PySem.Str.ofString "size",PySem.NameKind.free)],isGenerator:=false,isCoroutine:=false,more:=[]:PySem.Scope }
theorem QnS:QM ["state","size"] [none,some 1] QhO (Qa Qaa) ["self","size"]:=⟨rfl,dk,dk,rfl,dk,dk⟩
theorem Qef:(Qi QhO (Qa Qaa)).names.lookup ("state":Str)=some NameKind.local:=dk
theorem Qp8:(Qi QhO (Qa Qaa)).names.lookup ("size":Str)=some NameKind.cell:=dk
def Qia:SD->Out D:=(eLst (aCons (eIf (tVal (e2 dEq (eVar 0) (e2 dSub (eVar 1) (eC (.int 1))))) (eC (.int 1)) (eC (.int 0))) aNil))
theorem Qs4:Lo Qaa "self":=dk
def Qhn:SD->Out Fl:=(sSeq (fun ς=>noX ((sIf (tNot' (tVal (eA (fun xs=>QaV (xs++[])) (aCons (eVar 1) (aCons (eC (.int 1)) (aCons (eC (.int 12)) aNil)))))) Qg9 sNil) ς)) (Qkj Qd "keep_rows" QO 0 (fun ς=>noX ((aCons (eComp [none,some 1] (itR1 (eVar 1)) (gN 0) cTrue Qia) aNil) ς))))
def Qc4:Str->List (Str×D)->List D->Out (List (Str×D)):=bodyI 2 2 Qhn
theorem QBo(c:Str)(fds:List (Str×D))(d1:D):Qc4 c fds [d1]=(Qhn [some (.s,.ins c fds),some (.k,d1)]>>=Qgf c):=rfl
theorem QCo{u_MOST_ROWS:Value}(F:FunV K "__init__" "Bundle.__init__" Qaa f fd dV)(Qd5:DefOk P w K mg base CT "is_within" 2 false [] QaV)(z_range:mg "range"=none)(c_MOST_ROWS:mg "MOST_ROWS"=some u_MOST_ROWS)(r_MOST_ROWS:RelV (toV (.int 12)) u_MOST_ROWS)(ms_keep_rows:MtOk P w K mg base CT (CXR P w) "keep_rows" 3 Qd (fun _=>SpI K CT QO)):FnOk P w K mg base (CXR P w) 4 f fd ["self","size"] (SpI K CT Qc4):=
 @fnI P w K mg base CT "__init__" "Bundle.__init__" Qaa f fd dV ["self","size"] ["self","size"] 3 Qhn F QAM fun cdv A outer s H E G p hr=>
  (Qf (DS.lift (ds_if (Qap (Qav (de_f Qd5 (hr.mono (by decide)) (Qc (Qb 1 rfl (Or.inr (oi Qkd))) (Qc Qe (Qc (QfA (d:=(.int 12)) QnL c_MOST_ROWS rfl r_MOST_ROWS) Qg))) QnM))) (Qh Qfn) QY)) (Qh (Qq5 0 QyD ms_keep_rows (hr.mono (by decide)) (DA.lift (Qc (DF.de (Q7 rfl QnS (DI.b (QaX QsH z_range (DE.db (Qb 1 rfl (Or.inr (oi Qkd)))))) (fun ς=>QU (Qt rfl ς)) (Qu _) (fun fp s H G p=>⟨(QB (i:=0) QnS.nd rfl (oi Qef) (hf:=Or.inr Qef)),QV,(DF.de (QcK (Qc (de_if (dt_eq hr.units (DE.db (Qb 0 rfl (oi Qef))) (DE.db (QcN (DE.db (Qb 1 rfl (Or.inr (oi Qp8)))) (DE.db Qe)))) Qe Qe) Qg)))⟩))) Qg)) rfl (oi Qs4))))
abbrev Qb1:Stmt:=inCls (top 27) 0
theorem QEO:Qo ["self","counts"] ["self","counts"] (Qa Qb1):=⟨rfl,rfl,rfl,dk,rfl,dk,dk⟩
theorem Qkm:Lo Qb1 "counts":=dk
theorem Qs2:Gl Qb1 "is_row":=dk
theorem QvU:Lo Qb1 "self":=dk
def QjH:SD->Out Fl:=(sSeq (fun ς=>noX ((sIf (tNot' (tVal (eA (fun xs=>Qe8 (xs++[])) (aCons (eVar 1) aNil)))) Qg9 sNil) ς)) (Qkj Qd "keep_rows" QO 0 (fun ς=>noX ((aCons (eLst (aCons (eVar 1) aNil)) aNil) ς))))
def Qei:Str->List (Str×D)->List D->Out (List (Str×D)):=bodyI 2 2 QjH
theorem QGK(c:Str)(fds:List (Str×D))(d1:D):Qei c fds [d1]=(QjH [some (.s,.ins c fds),some (.k,d1)]>>=Qgf c):=rfl
theorem QHv(F:FunV K "__init__" "Copy.__init__" Qb1 f fd dV)(Qv9:DefOk P w K mg base CT "is_row" 3 false [] Qe8)(ms_keep_rows:MtOk P w K mg base CT (CXR P w) "keep_rows" 3 Qd (fun _=>SpI K CT QO)):FnOk P w K mg base (CXR P w) 4 f fd ["self","counts"] (SpI K CT Qei):=
 @fnI P w K mg base CT "__init__" "Copy.__init__" Qb1 f fd dV ["self","counts"] ["self","counts"] 3 QjH F QEO fun cdv A outer s H E G p hr=>
  (Qf (DS.lift (ds_if (Qap (Qav (de_f Qv9 (hr.mono (by decide)) (Qc (Qb 1 rfl (oi Qkm)) Qg) Qs2))) (Qh Qfn) QY)) (Qh (Qq5 0 QyD ms_keep_rows (hr.mono (by decide)) (DA.lift (Qc (DF.de (QcK (Qc (Qb 1 rfl (oi Qkm)) Qg))) Qg)) rfl (oi QvU))))
abbrev Q8:Stmt:=top 64
theorem QEI:Qo ["_law_kind","_law_rows_here"] ["_law_kind","_law_rows_here"] (Qa Q8):=⟨rfl,rfl,rfl,dk,rfl,dk,dk⟩
theorem QeE:Lo Q8 "_law_kind":=dk
theorem QbI:Lo Q8 "_law_rows_here":=dk
theorem Qok:Gl Q8 "len":=dk
theorem QwA:Gl Q8 "Deal":=dk
theorem QsW:Gl Q8 "Bundle":=dk
theorem Qwq:Gl Q8 "list":=dk
theorem Qwn:Gl Q8 "Copy":=dk
abbrev Qjm:PySem.Scope:={ kind:=PySem.ScopeKind.function,names:=[ (PySem.Str.ofString ".0",PySem.NameKind.local),(PySem.Str.ofString "_law_row",PySem.NameKind.local),(PySem.Str.ofString "list",PySem.NameKind.globalImplicit)],isGenerator:=false,isCoroutine:=false,more:=[]:PySem.Scope }
theorem Qsc:QM ["_law_row"] [none] Qjm (Qa Q8) ["_law_kind","_law_rows_here"]:=⟨rfl,dk,dk,rfl,dk,dk⟩
theorem QdH:(Qi Qjm (Qa Q8)).names.lookup ("_law_row":Str)=some NameKind.local:=dk
theorem Qsk:(Qi Qjm (Qa Q8)).names.lookup ("list":Str)=some NameKind.globalImplicit:=dk
def Qr8:SD->Out D:=(e1 dList (eVar 0))
theorem QwE:Gl Q8 "Rows":=dk
def Qd3:SD->Out Fl:=(sSeq (sIf (tVal (e2 dEq (eVar 0) (eC (.int 0)))) (sRetF (eMake "Deal" Qed (aCons (eA fLen (aCons (eVar 1) aNil)) aNil))) sNil) (sSeq (sIf (tVal (e2 dEq (eVar 0) (eC (.int 1)))) (sRetF (eMake "Bundle" Qc4 (aCons (eA fLen (aCons (eVar 1) aNil)) aNil))) sNil) (sSeq (sIf (tVal (e2 dEq (eVar 0) (eC (.int 2)))) (sRetF (eMake "Copy" Qei (aCons (e1 dList (e2 dIx (eVar 1) (eC (.int 0)))) aNil))) sNil) (sRetF (eMake "Rows" Qej (aCons (eComp [none] (itL (eVar 1)) (gN 0) cTrue Qr8) aNil))))))
def QcI:List D->Out D:=bodyF true 2 2 Qd3
theorem QjR(d0 d1:D):QcI [d0,d1]=(Qd3 [some (.k,d0),some (.k,d1)]>>=retF true):=rfl
theorem QIE(F:FunV K "_law_clerk" "_law_clerk" Q8 f fd dV)(z_len:mg "len"=none)(z_list:mg "list"=none)(Qze:MkOk P w K mg base CT "Deal" 4 Qed)(Qt6:MkOk P w K mg base CT "Bundle" 4 Qc4)(QAH:MkOk P w K mg base CT "Copy" 4 Qei)(QAk:MkOk P w K mg base CT "Rows" 5 Qej):FnOk P w K mg base CX0 7 f fd ["_law_kind","_law_rows_here"] (SpD K CT true QcI):=
 @fnV P w K mg base CT true "_law_clerk" "_law_clerk" Q8 f fd dV ["_law_kind","_law_rows_here"] ["_law_kind","_law_rows_here"] 6 Qd3 F QEI fun cdv A outer s H E G hr=>
  (Qf (ds_if (dt_eq hr.units (DE.db (Qb 0 rfl (oi QeE))) (DE.db Qe)) (Qh (QcX (Qqr rz0 Qze (hr.mono (by decide)) (Qc (Qaz Qok z_len (Qs (DE.db (Qb 1 rfl (oi QbI))) Qx)) Qg) QwA))) QY) (Qf (ds_if (dt_eq hr.units (DE.db (Qb 0 rfl (oi QeE))) (DE.db Qe)) (Qh (QcX (Qqr rz0 Qt6 (hr.mono (by decide)) (Qc (Qaz Qok z_len (Qs (DE.db (Qb 1 rfl (oi QbI))) Qx)) Qg) QsW))) QY) (Qf (ds_if (dt_eq hr.units (DE.db (Qb 0 rfl (oi QeE))) (DE.db Qe)) (Qh (QcX (Qqr rz0 QAH (hr.mono (by decide)) (Qc (DF.de (QhY Qwq z_list (de_ix (Qb 1 rfl (oi QbI)) (DE.db Qe)))) Qg) Qwn))) QY) (Qh (QcX (Qqr rz0 QAk (hr.mono (by decide)) (Qc (DF.de (Q7 rfl Qsc (DI.b (Qat (Qb 1 rfl (oi QbI)))) (fun ς=>QU (Qt rfl ς)) (Qu _) (fun fp s H G p=>⟨(QB (i:=0) Qsc.nd rfl (oi QdH) (hf:=Or.inr QdH)),QV,(DF.de (QhY Qsk z_list (Qb 0 rfl (oi QdH))))⟩))) Qg) QwE))))))
abbrev Qv:Stmt:=top 65
theorem QbG:Qo ["_law_plan_here","_law_doors","_law_letters","_law_clerks","_law_k","_law_kind","_law_rows_here","_law_leads","_law_state","_law_names"] ["_law_plan_here","_law_doors"] (Qa Qv):=⟨rfl,rfl,rfl,dk,rfl,dk,dk⟩
theorem QfQ:(Qa Qv).names.lookup ("_law_letters":Str)=some NameKind.cell:=dk
theorem Qdr:Lo Qv "_law_clerks":=dk
theorem QeW:Lo Qv "_law_plan_here":=dk
theorem Qwa:Gl Qv "len":=dk
theorem Qkf:Gl Qv "range":=dk
theorem QfG:Lo Qv "_law_k":=dk
theorem QgK:Lo Qv "_law_state":=dk
theorem QgM:Lo Qv "_law_leads":=dk
theorem QeU:Lo Qv "_law_rows_here":=dk
theorem Qg7:Lo Qv "_law_kind":=dk
abbrev Qh5:PySem.Scope:={ kind:=PySem.ScopeKind.function,names:=[ (PySem.Str.ofString ".0",PySem.NameKind.local),(PySem.Str.ofString "_law_to",PySem.NameKind.local),(PySem.Str.ofString "_law_letters",PySem.NameKind.free)],isGenerator:=false,isCoroutine:=false,more:=[]:PySem.Scope }
theorem QpN:QM ["_law_to","_law_letters"] [none,some 2] Qh5 (Qa Qv) ["_law_plan_here","_law_doors","_law_letters","_law_clerks","_law_k","_law_kind","_law_rows_here","_law_leads","_law_state","_law_names"]:=⟨rfl,dk,dk,rfl,dk,dk⟩
theorem Qbn:(Qi Qh5 (Qa Qv)).names.lookup ("_law_to":Str)=some NameKind.local:=dk
theorem QeC:(Qi Qh5 (Qa Qv)).names.lookup ("_law_letters":Str)=some NameKind.cell:=dk
def Qjg:SD->Out D:=(eIf (tVal (e2 dLt (eVar 0) (eC (.int 0)))) (e2 dAdd (eC (.str "d")) (e2 dIx (eVar 1) (e2 dSub (e1 dNeg (eC (.int 1))) (eVar 0)))) (e2 dAdd (eC (.str "c")) (e2 dIx (eVar 1) (eVar 0))))
theorem QgN:Lo Qv "_law_names":=dk
theorem QnB:Gl Qv "_law_clerk":=dk
def Qgw:SD->Out Fl:=(sSeq (sUnp [5,6,7,8] (e2 dIx (eVar 0) (eVar 4))) (sSeq (sSet 9 (eComp [none,some 2] (itL (eVar 7)) (gN 0) cTrue Qjg)) (QbN 3 (eTup (aCons (e2 dAdd (eC (.str "c")) (e2 dIx (eVar 2) (eVar 4))) (aCons (eA (fun xs=>QcI (xs++[])) (aCons (eVar 5) (aCons (eVar 6) aNil))) (aCons (eVar 9) (aCons (eVar 8) aNil))))))))
theorem QnE:Lo Qv "_law_doors":=dk
abbrev Qir:PySem.Scope:={ kind:=PySem.ScopeKind.function,names:=[ (PySem.Str.ofString ".0",PySem.NameKind.local),(PySem.Str.ofString "_law_d",PySem.NameKind.local),(PySem.Str.ofString "_law_letters",PySem.NameKind.free)],isGenerator:=false,isCoroutine:=false,more:=[]:PySem.Scope }
theorem Qp3:QM ["_law_d","_law_letters"] [none,some 2] Qir (Qa Qv) ["_law_plan_here","_law_doors","_law_letters","_law_clerks","_law_k","_law_kind","_law_rows_here","_law_leads","_law_state","_law_names"]:=⟨rfl,dk,dk,rfl,dk,dk⟩
theorem Qd1:(Qi Qir (Qa Qv)).names.lookup ("_law_d":Str)=some NameKind.local:=dk
theorem Qjf:(Qi Qir (Qa Qv)).names.lookup ("_law_letters":Str)=some NameKind.cell:=dk
def QeN:SD->Out D:=(e2 dAdd (eC (.str "d")) (e2 dIx (eVar 1) (eVar 0)))
theorem QsF:Gl Qv "Office":=dk
def Qh6:SD->Out Fl:=(sSeq (sSet 2 (eC (.str "abcdef"))) (sSeq (sSetO 3 (eLst aNil)) (sSeq (sFor (gN 4) (itR1 (eA fLen (aCons (eVar 0) aNil))) Qgw) (fun ς=>(sRetF (eMake "Office" Qa7 (aCons (eVar 3) (aCons (eLst (aCons (eTup (aCons (eC (.str "in")) (aCons (eC (.str "ca")) aNil))) aNil)) (aCons (eComp [none,some 2] (itR1 (eVar 1)) (gN 0) cTrue QeN) aNil))))) (frz 3 ς)))))
def Qdl:List D->Out D:=bodyF true 2 10 Qh6
theorem QDk(d0 d1:D):Qdl [d0,d1]=(Qh6 [some (.k,d0),some (.k,d1),none,none,none,none,none,none,none,none]>>=retF true):=rfl
theorem QDM(F:FunV K "_law_office" "_law_office" Qv f fd dV)(QIx:DefOk P w K mg base CT "_law_clerk" 7 true [] QcI)(z_range:mg "range"=none)(z_len:mg "len"=none)(QsQ:MkOk P w K mg base CT "Office" 5 Qa7):FnOk P w K mg base CX0 8 f fd ["_law_plan_here","_law_doors"] (SpD K CT true Qdl):=
 @fnV P w K mg base CT true "_law_office" "_law_office" Qv f fd dV ["_law_plan_here","_law_doors","_law_letters","_law_clerks","_law_k","_law_kind","_law_rows_here","_law_leads","_law_state","_law_names"] ["_law_plan_here","_law_doors"] 7 Qh6 F QbG fun cdv A outer s H E G hr=>
  (Qf (Qy (i:=2) QbG.nd rfl (Or.inr QfQ) QmS) (Qf (QfB (i:=3) QbG.nd rfl (oi Qdr) (QcK Qg)) (Qf (Qcl PassesOwn.never rfl (QaX Qkf z_range (DE.db (Qaz Qwa z_len (Qs (DE.db (Qb 0 rfl (oi QeW))) Qx)))) (QB (i:=4) QbG.nd rfl (oi QfG)) (Qu _) (Qf (QFF rfl (de_ix (Qb 0 rfl (oi QeW)) (DE.db (Qb 4 rfl (oi QfG)))) (Qae (i:=5) QbG.nd rfl (oi Qg7) (Qae (i:=6) QbG.nd rfl (oi QeU) (Qae (i:=7) QbG.nd rfl (oi QgM) (Qae (i:=8) QbG.nd rfl (oi QgK) Qex))))) (Qf (Qp1 (i:=9) rfl QpN (DI.b (Qat (Qb 7 rfl (oi QgM)))) (fun ς=>QU (Qt rfl ς)) (Qu _) (fun fp s H G p=>⟨(QB (i:=0) QpN.nd rfl (oi Qbn) (hf:=Or.inr Qbn)),QV,(de_if (dt_lt (DE.db (Qb 0 rfl (oi Qbn))) (DE.db Qe)) (Qbo (DE.db QmS) (DE.db (de_ix (Qb 1 rfl (Or.inr (oi QeC))) (DE.db (QcN (DE.db (Qqn (DE.db Qe))) (DE.db (Qb 0 rfl (oi Qbn)))))))) (Qbo (DE.db QmS) (DE.db (de_ix (Qb 1 rfl (Or.inr (oi QeC))) (DE.db (Qb 0 rfl (oi Qbn)))))))⟩) QbG.nd rfl (oi QgN)) (Qh (Qdf 3 (Qda (Qc (Qbo (DE.db QmS) (DE.db (de_ix (Qb 2 rfl (Or.inr (oi QfQ))) (DE.db (Qb 4 rfl (oi QfG)))))) (Qc (de_f QIx (hr.mono (by decide)) (Qc (Qb 5 rfl (oi Qg7)) (Qc (Qb 6 rfl (oi QeU)) Qg)) QnB) (Qc (Qb 9 rfl (oi QgN)) (Qc (Qb 8 rfl (oi QgK)) Qg))))) rfl (oi Qdr)))))) (Qh (QyP 3 (QcX (Qqr rz0 QsQ (hr.mono (by decide)) (Qc (Qb 3 rfl (oi Qdr)) (Qc (DF.de (QcK (Qc (Qda (Qc QmS (Qc QmS Qg))) Qg))) (Qc (DF.de (Q7 rfl Qp3 (DI.b (QaX Qkf z_range (DE.db (Qb 1 rfl (oi QnE))))) (fun ς=>QU (Qt rfl ς)) (Qu _) (fun fp s H G p=>⟨(QB (i:=0) Qp3.nd rfl (oi Qd1) (hf:=Or.inr Qd1)),QV,(Qbo (DE.db QmS) (DE.db (de_ix (Qb 1 rfl (Or.inr (oi Qjf))) (DE.db (Qb 0 rfl (oi Qd1))))))⟩))) Qg))) QsF)))))))
abbrev Qa8:Stmt:=top 56
theorem Qgy:Qo ["_law_one","_law_other"] ["_law_one","_law_other"] (Qa Qa8):=⟨rfl,rfl,rfl,dk,rfl,dk,dk⟩
theorem Qbw:Lo Qa8 "_law_one":=dk
theorem QlA:Gl Qa8 "abs":=dk
theorem QaG:Lo Qa8 "_law_other":=dk
def QdO:SD->Out Bool:=(tVal (e2 dGt (eVar 1) (eC (.int 0))))
def QdV:SD->Out Fl:=(sPar 0 1 (aCons (eVar 1) (aCons (e2 dMod (eVar 0) (eVar 1)) aNil)))
def QhA:SD->Out Fl:=(sSeq (sSet 0 (eA (f1 dAbs) (aCons (eVar 0) aNil))) (sSeq (sSet 1 (eA (f1 dAbs) (aCons (eVar 1) aNil))) (sSeq (Qc2 QdO QdV) (sRet (eVar 0)))))
def Qc7:List D->Out D:=bodyF false 2 2 QhA
theorem QCO(d0 d1:D):Qc7 [d0,d1]=(QhA [some (.k,d0),some (.k,d1)]>>=retF false):=rfl
theorem QB9(F:FunV K "_law_divisor" "_law_divisor" Qa8 f fd dV)(z_abs:mg "abs"=none):FnOk P w K mg base CX0 1 f fd ["_law_one","_law_other"] (SpD K CT false Qc7):=
 @fnV P w K mg base CT false "_law_divisor" "_law_divisor" Qa8 f fd dV ["_law_one","_law_other"] ["_law_one","_law_other"] 0 QhA F Qgy fun cdv A outer s H E G hr=>
  (Qf (Qy (i:=0) Qgy.nd rfl (oi Qbw) (Qxh QlA z_abs PyProof.Rows.Boot.«abs» (Qs (DE.db (Qb 0 rfl (oi Qbw))) Qx))) (Qf (Qy (i:=1) Qgy.nd rfl (oi QaG) (Qxh QlA z_abs PyProof.Rows.Boot.«abs» (Qs (DE.db (Qb 1 rfl (oi QaG))) Qx))) (Qf (QA6 PassesOwn.never (dt_gt (DE.db (Qb 1 rfl (oi QaG))) (DE.db Qe)) (Qh (QQ8 (i:=0) (j:=1) rfl Qgy.nd rfl rfl (by decide) Qbw QaG (Qc (Qb 1 rfl (oi QaG)) (Qc (Qbq (DE.db (Qb 0 rfl (oi Qbw))) (DE.db (Qb 1 rfl (oi QaG)))) Qg)) (by rfl)))) (Qh (QD (Qb 0 rfl (oi Qbw)))))))
abbrev QcU:Stmt:=top 57
theorem Qx2:Qo ["_law_top","_law_bottom","_law_by"] ["_law_top","_law_bottom"] (Qa QcU):=⟨rfl,rfl,rfl,dk,rfl,dk,dk⟩
theorem Qj9:Lo QcU "_law_top":=dk
theorem Qh0:Lo QcU "_law_bottom":=dk
theorem Qpu:Gl QcU "_law_divisor":=dk
theorem QgY:Lo QcU "_law_by":=dk
def Qn2:SD->Out Fl:=(sSeq (sSet 2 (eA (fun xs=>Qc7 (xs++[])) (aCons (eVar 0) (aCons (eVar 1) aNil)))) (sRet (eTup (aCons (e2 dFdiv (eVar 0) (eVar 2)) (aCons (e2 dFdiv (eVar 1) (eVar 2)) aNil)))))
def QcJ:List D->Out D:=bodyF false 2 3 Qn2
theorem QM0(d0 d1:D):QcJ [d0,d1]=(Qn2 [some (.k,d0),some (.k,d1),none]>>=retF false):=rfl
theorem QNb(F:FunV K "_law_low" "_law_low" QcU f fd dV)(QBu:DefOk P w K mg base CT "_law_divisor" 1 false [] Qc7):FnOk P w K mg base CX0 2 f fd ["_law_top","_law_bottom"] (SpD K CT false QcJ):=
 @fnV P w K mg base CT false "_law_low" "_law_low" QcU f fd dV ["_law_top","_law_bottom","_law_by"] ["_law_top","_law_bottom"] 1 Qn2 F Qx2 fun cdv A outer s H E G hr=>
  (Qf (Qy (i:=2) Qx2.nd rfl (oi QgY) (de_f QBu (hr.mono (by decide)) (Qc (Qb 0 rfl (oi Qj9)) (Qc (Qb 1 rfl (oi Qh0)) Qg)) Qpu)) (Qh (QD (Qda (Qc (Qch (DE.db (Qb 0 rfl (oi Qj9))) (DE.db (Qb 2 rfl (oi QgY)))) (Qc (Qch (DE.db (Qb 1 rfl (oi Qh0))) (DE.db (Qb 2 rfl (oi QgY)))) Qg))))))
abbrev Q4:Stmt:=top 66
theorem QdJ:Qo ["_law_cell_here","_law_many","_law_found","_law_bottom","_law_k","_law_number","_law_top"] ["_law_cell_here","_law_many"] (Qa Q4):=⟨rfl,rfl,rfl,dk,rfl,dk,dk⟩
theorem QdG:Lo Q4 "_law_found":=dk
theorem QcT:Lo Q4 "_law_cell_here":=dk
theorem QdF:Gl Q4 "_law_mixed":=dk
theorem Qgg:Lo Q4 "_law_bottom":=dk
theorem QoR:Lo Q4 "_law_many":=dk
theorem QsM:Gl Q4 "range":=dk
theorem Qi8:Lo Q4 "_law_k":=dk
theorem Qcf:Lo Q4 "_law_number":=dk
theorem QhQ:Lo Q4 "_law_top":=dk
theorem Qp2:Gl Q4 "_law_low":=dk
def QgG:SD->Out Fl:=(sSeq (sSet 5 (eA (fun xs=>QP (xs++[])) (aCons (eVar 0) (aCons (e2 dAdd (eVar 4) (eC (.int 90))) aNil)))) (sSeq (sSet 6 (e2 dIx (eLst (aCons (e2 dSub (e2 dMod (e2 dFdiv (eVar 5) (eC (.int 4))) (eC (.int 121))) (eC (.int 60))) (aCons (e2 dSub (e2 dMod (e2 dFdiv (eVar 5) (eC (.int 4))) (e2 dMul (eC (.int 2)) (e2 dPow (eC (.int 10)) (eC (.int 15))))) (e2 dPow (eC (.int 10)) (eC (.int 15)))) (aCons (eC (.int 0)) (aCons (eC (.int 1)) aNil))))) (e2 dMod (eVar 5) (eC (.int 4))))) (QbN 2 (eA (fun xs=>QcJ (xs++[])) (aCons (eVar 6) (aCons (eVar 3) aNil))))))
def Qih:SD->Out Fl:=(sSeq (sSetO 2 (eLst aNil)) (sSeq (sSet 3 (e2 dAdd (eC (.int 1)) (e2 dMod (e2 dFdiv (eA (fun xs=>QP (xs++[])) (aCons (eVar 0) (aCons (eC (.int 89)) aNil))) (eC (.int 2))) (e2 dIx (eLst (aCons (eC (.int 12)) (aCons (e2 dPow (eC (.int 10)) (eC (.int 9))) aNil))) (e2 dMod (eA (fun xs=>QP (xs++[])) (aCons (eVar 0) (aCons (eC (.int 89)) aNil))) (eC (.int 2))))))) (sSeq (sFor (gN 4) (itR1 (eVar 1)) QgG) (sRetO 2))))
def Qdt:List D->Out D:=bodyF true 2 7 Qih
theorem QFN(d0 d1:D):Qdt [d0,d1]=(Qih [some (.k,d0),some (.k,d1),none,none,none,none,none]>>=retF true):=rfl
theorem QFO(F:FunV K "_law_worths" "_law_worths" Q4 f fd dV)(QcC:DefOk P w K mg base CT "_law_mixed" 1 false [] QP)(Qkl:DefOk P w K mg base CT "_law_low" 2 false [] QcJ)(z_range:mg "range"=none):FnOk P w K mg base CX0 3 f fd ["_law_cell_here","_law_many"] (SpD K CT true Qdt):=
 @fnV P w K mg base CT true "_law_worths" "_law_worths" Q4 f fd dV ["_law_cell_here","_law_many","_law_found","_law_bottom","_law_k","_law_number","_law_top"] ["_law_cell_here","_law_many"] 2 Qih F QdJ fun cdv A outer s H E G hr=>
  (Qf (QfB (i:=2) QdJ.nd rfl (oi QdG) (QcK Qg)) (Qf (Qy (i:=3) QdJ.nd rfl (oi Qgg) (Qbo (DE.db Qe) (DE.db (Qbq (DE.db (Qch (DE.db (de_f QcC (hr.mono (by decide)) (Qc (Qb 0 rfl (oi QcT)) (Qc Qe Qg)) QdF)) (DE.db Qe))) (DE.db (de_ix (DF.de (QcK (Qc Qe (Qc (QEz (DE.db Qe) (DE.db Qe)) Qg)))) (DE.db (Qbq (DE.db (de_f QcC (hr.mono (by decide)) (Qc (Qb 0 rfl (oi QcT)) (Qc Qe Qg)) QdF)) (DE.db Qe))))))))) (Qf (Qcl PassesOwn.never rfl (QaX QsM z_range (DE.db (Qb 1 rfl (oi QoR)))) (QB (i:=4) QdJ.nd rfl (oi Qi8)) (Qu _) (Qf (Qy (i:=5) QdJ.nd rfl (oi Qcf) (de_f QcC (hr.mono (by decide)) (Qc (Qb 0 rfl (oi QcT)) (Qc (Qbo (DE.db (Qb 4 rfl (oi Qi8))) (DE.db Qe)) Qg)) QdF)) (Qf (Qy (i:=6) QdJ.nd rfl (oi QhQ) (de_ix (DF.de (QcK (Qc (QcN (DE.db (Qbq (DE.db (Qch (DE.db (Qb 5 rfl (oi Qcf))) (DE.db Qe))) (DE.db Qe))) (DE.db Qe)) (Qc (QcN (DE.db (Qbq (DE.db (Qch (DE.db (Qb 5 rfl (oi Qcf))) (DE.db Qe))) (DE.db (QbO (DE.db Qe) (DE.db (QEz (DE.db Qe) (DE.db Qe))))))) (DE.db (QEz (DE.db Qe) (DE.db Qe)))) (Qc Qe (Qc Qe Qg)))))) (DE.db (Qbq (DE.db (Qb 5 rfl (oi Qcf))) (DE.db Qe))))) (Qh (Qdf 2 (de_f Qkl (hr.mono (by decide)) (Qc (Qb 6 rfl (oi QhQ)) (Qc (Qb 3 rfl (oi Qgg)) Qg)) Qp2) rfl (oi QdG)))))) (Qh (Qqa 2 rfl (oi QdG))))))
abbrev Qbh:Stmt:=inCls (top 51) 5
theorem QxN:Qo ["self","k"] ["self","k"] (Qa Qbh):=⟨rfl,rfl,rfl,dk,rfl,dk,dk⟩
theorem Qss:Lo Qbh "self":=dk
theorem Qwm:Lo Qbh "k":=dk
def QgF:SD->Out Fl:=(sRet (e2 dIx (e1 (dFld Qj "staff") (eVar 0)) (eVar 1)))
def Qaj:List D->Out D:=bodyF false 2 2 QgF
theorem Qzp(d0 d1:D):Qaj [d0,d1]=(QgF [some (.k,d0),some (.k,d1)]>>=retF false):=rfl
theorem Qzg(F:FunV K "clerk" "Office.clerk" Qbh f fd dV)(fo_staff:FldOk K CT Qj "staff"):FnOk P w K mg base CX0 1 f fd ["self","k"] (SpD K CT false Qaj):=
 @fnV P w K mg base CT false "clerk" "Office.clerk" Qbh f fd dV ["self","k"] ["self","k"] 0 QgF F QxN fun cdv A outer s H E G hr=>
  (Qh (QD (de_ix (Qp0 fo_staff (Qb 0 rfl (oi Qss))) (DE.db (Qb 1 rfl (oi Qwm))))))
abbrev QbF:Stmt:=inCls (top 24) 5
theorem Qzq:Qo ["self"] ["self"] (Qa QbF):=⟨rfl,rfl,rfl,dk,rfl,dk,dk⟩
theorem Qj7:Lo QbF "self":=dk
theorem Quw:Gl QbF "list":=dk
def Qhs:SD->Out Fl:=(sRetF (e1 dList (e2 dIx (e1 (dFld Qj "heads") (eVar 0)) (eMeth Qd "period" (fun _=>QA) (eVar 0) aNil))))
def QaE:List D->Out D:=bodyF true 1 1 Qhs
theorem QCt(d0:D):QaE [d0]=(Qhs [some (.k,d0)]>>=retF true):=rfl
theorem QBY(F:FunV K "whole" "Clerk.whole" QbF f fd dV)(z_list:mg "list"=none)(fo_heads:FldOk K CT Qj "heads")(mt_period:MtOk P w K mg base CT CX0 "period" 1 Qd (fun c=>SpD K CT false ((fun _=>QA) c))):FnOk P w K mg base CX0 2 f fd ["self"] (SpD K CT true QaE):=
 @fnV P w K mg base CT true "whole" "Clerk.whole" QbF f fd dV ["self"] ["self"] 1 Qhs F Qzq fun cdv A outer s H E G hr=>
  (Qh (QcX (QhY Quw z_list (de_ix (Qp0 fo_heads (Qb 0 rfl (oi Qj7))) (DE.db (Qfe mt_period (hr.mono (by decide)) (Qb 0 rfl (oi Qj7))))))))
abbrev Qr:Stmt:=inCls (top 24) 6
theorem Qdq:Qo ["self","count","rounds","head"] ["self","count"] (Qa Qr):=⟨rfl,rfl,rfl,dk,rfl,dk,dk⟩
theorem Qen:Lo Qr "count":=dk
theorem Qbd:Lo Qr "self":=dk
theorem QiS:(Qa Qr).names.lookup ("rounds":Str)=some NameKind.cell:=dk
theorem Qey:Lo Qr "head":=dk
theorem Qj8:Gl Qr "zip":=dk
abbrev QbE:PySem.Scope:={ kind:=PySem.ScopeKind.function,names:=[ (PySem.Str.ofString ".0",PySem.NameKind.local),(PySem.Str.ofString "each",PySem.NameKind.local),(PySem.Str.ofString "more",PySem.NameKind.local),(PySem.Str.ofString "rounds",PySem.NameKind.free)],isGenerator:=false,isCoroutine:=false,more:=[]:PySem.Scope }
theorem Qdd:QM ["each","more","rounds"] [none,none,some 2] QbE (Qa Qr) ["self","count","rounds","head"]:=⟨rfl,dk,dk,rfl,dk,dk⟩
theorem Qb0:(Qi QbE (Qa Qr)).names.lookup ("more":Str)=some NameKind.local:=dk
theorem QbZ:(Qi QbE (Qa Qr)).names.lookup ("each":Str)=some NameKind.local:=dk
theorem Qhf:(Qi QbE (Qa Qr)).names.lookup ("rounds":Str)=some NameKind.cell:=dk
def Qf2:SD->Out D:=(e2 dAdd (e2 dMul (eVar 2) (eVar 0)) (eVar 1))
def Qcs:SD->Out Fl:=(sSeq (sSet 2 (e2 dFdiv (eVar 1) (eMeth Qd "period" (fun _=>QA) (eVar 0) aNil))) (sSeq (sSet 3 (e2 dIx (e1 (dFld Qj "heads") (eVar 0)) (e2 dMod (eVar 1) (eMeth Qd "period" (fun _=>QA) (eVar 0) aNil)))) (sRetF (eComp [none,none,some 2] (itZ (eMeth Qd "whole" (fun _=>QaE) (eVar 0) aNil) (eVar 3)) (gT [0,1]) cTrue Qf2))))
def QQ:List D->Out D:=bodyF true 2 4 Qcs
theorem QnD(d0 d1:D):QQ [d0,d1]=(Qcs [some (.k,d0),some (.k,d1),none,none]>>=retF true):=rfl
theorem QnF(F:FunV K "sent_from_start" "Clerk.sent_from_start" Qr f fd dV)(z_zip:mg "zip"=none)(fo_heads:FldOk K CT Qj "heads")(mt_period:MtOk P w K mg base CT CX0 "period" 1 Qd (fun c=>SpD K CT false ((fun _=>QA) c)))(mt_whole:MtOk P w K mg base CT CX0 "whole" 2 Qd (fun c=>SpD K CT true ((fun _=>QaE) c))):FnOk P w K mg base CX0 3 f fd ["self","count"] (SpD K CT true QQ):=
 @fnV P w K mg base CT true "sent_from_start" "Clerk.sent_from_start" Qr f fd dV ["self","count","rounds","head"] ["self","count"] 2 Qcs F Qdq fun cdv A outer s H E G hr=>
  (Qf (Qy (i:=2) Qdq.nd rfl (Or.inr QiS) (Qch (DE.db (Qb 1 rfl (oi Qen))) (DE.db (Qfe mt_period (hr.mono (by decide)) (Qb 0 rfl (oi Qbd)))))) (Qf (Qy (i:=3) Qdq.nd rfl (oi Qey) (de_ix (Qp0 fo_heads (Qb 0 rfl (oi Qbd))) (DE.db (Qbq (DE.db (Qb 1 rfl (oi Qen))) (DE.db (Qfe mt_period (hr.mono (by decide)) (Qb 0 rfl (oi Qbd)))))))) (Qh (QcX (Q7 rfl Qdd (DI.b (QpX Qj8 z_zip (Qfe mt_whole (hr.mono (by decide)) (Qb 0 rfl (oi Qbd))) (Qb 3 rfl (oi Qey)))) (fun ς=>QmK (fun i hi=>Qt (by revert hi;revert i;decide) ς)) (Qf9 _) (fun fp s H G p=>⟨(Qku rfl (Qae (i:=0) Qdd.nd rfl (oi QbZ) (Qae (i:=1) Qdd.nd rfl (oi Qb0) Qex (hf:=Or.inr Qb0)) (hf:=Or.inr QbZ))),QV,(Qbo (DE.db (QbO (DE.db (Qb 2 rfl (Or.inr (oi Qhf)))) (DE.db (Qb 0 rfl (oi QbZ))))) (DE.db (Qb 1 rfl (oi Qb0))))⟩))))))
abbrev Qab:Stmt:=inCls (top 24) 7
theorem Qlp:Qo ["self","state","count","late","early"] ["self","state","count"] (Qa Qab):=⟨rfl,rfl,rfl,dk,rfl,dk,dk⟩
theorem QlD:Lo Qab "self":=dk
theorem Qkp:Lo Qab "state":=dk
theorem Qup:Lo Qab "count":=dk
theorem Qlz:Lo Qab "late":=dk
theorem Qkn:Lo Qab "early":=dk
theorem Qwz:Gl Qab "zip":=dk
abbrev Qip:PySem.Scope:={ kind:=PySem.ScopeKind.function,names:=[ (PySem.Str.ofString ".0",PySem.NameKind.local),(PySem.Str.ofString "after",PySem.NameKind.local),(PySem.Str.ofString "before",PySem.NameKind.local)],isGenerator:=false,isCoroutine:=false,more:=[]:PySem.Scope }
theorem Qjz:QM ["after","before"] [none,none] Qip (Qa Qab) ["self","state","count","late","early"]:=⟨rfl,dk,dk,rfl,dk,dk⟩
theorem Qel:(Qi Qip (Qa Qab)).names.lookup ("before":Str)=some NameKind.local:=dk
theorem QeP:(Qi Qip (Qa Qab)).names.lookup ("after":Str)=some NameKind.local:=dk
def Qqc:SD->Out D:=(e2 dSub (eVar 0) (eVar 1))
def Qig:SD->Out Fl:=(sSeq (sSet 3 (eMeth Qd "sent_from_start" (fun _=>QQ) (eVar 0) (aCons (e2 dAdd (eVar 1) (eVar 2)) aNil))) (sSeq (sSet 4 (eMeth Qd "sent_from_start" (fun _=>QQ) (eVar 0) (aCons (eVar 1) aNil))) (sRetF (eComp [none,none] (itZ (eVar 3) (eVar 4)) (gT [0,1]) cTrue Qqc))))
def QcR:List D->Out D:=bodyF true 3 5 Qig
theorem QC1(d0 d1 d2:D):QcR [d0,d1,d2]=(Qig [some (.k,d0),some (.k,d1),some (.k,d2),none,none]>>=retF true):=rfl
theorem QFm(F:FunV K "sent" "Clerk.sent" Qab f fd dV)(z_zip:mg "zip"=none)(mt_sent_from_start:MtOk P w K mg base CT CX0 "sent_from_start" 3 Qd (fun c=>SpD K CT true ((fun _=>QQ) c))):FnOk P w K mg base CX0 4 f fd ["self","state","count"] (SpD K CT true QcR):=
 @fnV P w K mg base CT true "sent" "Clerk.sent" Qab f fd dV ["self","state","count","late","early"] ["self","state","count"] 3 Qig F Qlp fun cdv A outer s H E G hr=>
  (Qf (Qy (i:=3) Qlp.nd rfl (oi Qlz) (Qmf mt_sent_from_start (hr.mono (by decide)) (Qb 0 rfl (oi QlD)) (Qc (Qbo (DE.db (Qb 1 rfl (oi Qkp))) (DE.db (Qb 2 rfl (oi Qup)))) Qg))) (Qf (Qy (i:=4) Qlp.nd rfl (oi Qkn) (Qmf mt_sent_from_start (hr.mono (by decide)) (Qb 0 rfl (oi QlD)) (Qc (Qb 1 rfl (oi Qkp)) Qg))) (Qh (QcX (Q7 rfl Qjz (DI.b (QpX Qwz z_zip (Qb 3 rfl (oi Qlz)) (Qb 4 rfl (oi Qkn)))) (fun ς=>QmK (fun i hi=>Qt (by revert hi;revert i;decide) ς)) (Qf9 _) (fun fp s H G p=>⟨(Qku rfl (Qae (i:=0) Qjz.nd rfl (oi QeP) (Qae (i:=1) Qjz.nd rfl (oi Qel) Qex (hf:=Or.inr Qel)) (hf:=Or.inr QeP))),QV,(QcN (DE.db (Qb 0 rfl (oi QeP))) (DE.db (Qb 1 rfl (oi Qel))))⟩))))))
abbrev Qag:Stmt:=top 9
theorem QdB:Qo ["one","other","rest"] ["one","other"] (Qa Qag):=⟨rfl,rfl,rfl,dk,rfl,dk,dk⟩
theorem Qb5:Lo Qag "other":=dk
theorem Qec:Lo Qag "one":=dk
theorem QgL:Lo Qag "rest":=dk
def Qca:SD->Out Bool:=(tVal (e2 dNe (eVar 1) (eC (.int 0))))
def Qb6:SD->Out Fl:=(sSeq (sSet 2 (e2 dMod (eVar 0) (eVar 1))) (sSeq (sSet 0 (eVar 1)) (sSet 1 (eVar 2))))
def Qgn:SD->Out Fl:=(sSeq (Qc2 Qca Qb6) (sRet (eVar 0)))
def Qai:List D->Out D:=bodyF false 2 3 Qgn
theorem Qt2(F:FunV K "greatest_divisor" "greatest_divisor" Qag f fd dV)  : FnOk P w K mg base CX0 1 f fd ["one","other"] (SpD K CT false Qai):=
 @fnV P w K mg base CT false "greatest_divisor" "greatest_divisor" Qag f fd dV ["one","other","rest"] ["one","other"] 0 Qgn F QdB fun cdv A outer s H E G hr=>
  (Qf (QA6 PassesOwn.never (dt_ne hr.units (DE.db (Qb 1 rfl (oi Qb5))) (DE.db Qe)) (Qf (Qy (i:=2) QdB.nd rfl (oi QgL) (Qbq (DE.db (Qb 0 rfl (oi Qec))) (DE.db (Qb 1 rfl (oi Qb5))))) (Qf (Qy (i:=0) QdB.nd rfl (oi Qec) (Qb 1 rfl (oi Qb5))) (Qh (Qy (i:=1) QdB.nd rfl (oi Qb5) (Qb 2 rfl (oi QgL))))))) (Qh (QD (Qb 0 rfl (oi Qec)))))
abbrev Qaw:Stmt:=top 12
theorem Qe6:Qo ["fractions","least","each"] ["fractions"] (Qa Qaw):=⟨rfl,rfl,rfl,dk,rfl,dk,dk⟩
theorem QbT:Lo Qaw "least":=dk
theorem Ql5:Lo Qaw "fractions":=dk
theorem Qfg:Lo Qaw "each":=dk
theorem QhN:Gl Qaw "greatest_divisor":=dk
def Qeu:SD->Out Fl:=(sSet 1 (e2 dMul (eVar 1) (e2 dFdiv (e2 dIx (eVar 2) (eC (.int 1))) (eA (fun xs=>Qai (xs++[])) (aCons (eVar 1) (aCons (e2 dIx (eVar 2) (eC (.int 1))) aNil))))))
def QfV:SD->Out Fl:=(sSeq (sSet 1 (eC (.int 1))) (sSeq (sFor (gN 2) (itL (eVar 0)) Qeu) (sRet (eVar 1))))
def Qbv:List D->Out D:=bodyF false 1 3 QfV
theorem Qw9(d0:D):Qbv [d0]=(QfV [some (.k,d0),none,none]>>=retF false):=rfl
theorem Qyk(F:FunV K "common_bottom" "common_bottom" Qaw f fd dV)(Qgq:DefOk P w K mg base CT "greatest_divisor" 1 false [] Qai):FnOk P w K mg base CX0 2 f fd ["fractions"] (SpD K CT false Qbv):=
 @fnV P w K mg base CT false "common_bottom" "common_bottom" Qaw f fd dV ["fractions","least","each"] ["fractions"] 1 QfV F Qe6 fun cdv A outer s H E G hr=>
  (Qf (Qy (i:=1) Qe6.nd rfl (oi QbT) Qe) (Qf (Qcl PassesOwn.never rfl (Qat (Qb 0 rfl (oi Ql5))) (QB (i:=2) Qe6.nd rfl (oi Qfg)) (Qu _) (Qh (Qy (i:=1) Qe6.nd rfl (oi QbT) (QbO (DE.db (Qb 1 rfl (oi QbT))) (DE.db (Qch (DE.db (de_ix (Qb 2 rfl (oi Qfg)) (DE.db Qe))) (DE.db (de_f Qgq (hr.mono (by decide)) (Qc (Qb 1 rfl (oi QbT)) (Qc (de_ix (Qb 2 rfl (oi Qfg)) (DE.db Qe)) Qg)) QhN)))))))) (Qh (QD (Qb 1 rfl (oi QbT))))))
abbrev Qcj:Stmt:=top 10
theorem Qv8:Qo ["top","bottom","divisor"] ["top","bottom"] (Qa Qcj):=⟨rfl,rfl,rfl,dk,rfl,dk,dk⟩
theorem Qpv:Lo Qcj "top":=dk
theorem Qnl:Gl Qcj "is_whole":=dk
theorem QeL:Lo Qcj "bottom":=dk
theorem QvF:Gl Qcj "abs":=dk
theorem Qmg:Gl Qcj "greatest_divisor":=dk
theorem QdQ:Lo Qcj "divisor":=dk
def QuD:SD->Out Fl:=(sSeq (sIf (tOr' (tNot' (tVal (eA (fun xs=>QbK (xs++[])) (aCons (eVar 0) aNil)))) (tOr' (tNot' (tVal (eA (fun xs=>QbK (xs++[])) (aCons (eVar 1) aNil)))) (tVal (e2 dEq (eVar 1) (eC (.int 0)))))) Qg9 sNil) (sSeq (sSet 2 (eA (fun xs=>Qai (xs++[])) (aCons (eA (f1 dAbs) (aCons (eVar 0) aNil)) (aCons (eA (f1 dAbs) (aCons (eVar 1) aNil)) aNil)))) (sSeq (sIf (tVal (e2 dLt (eVar 1) (eC (.int 0)))) (sSet 2 (e1 dNeg (eVar 2))) sNil) (sRet (eTup (aCons (e2 dFdiv (eVar 0) (eVar 2)) (aCons (e2 dFdiv (eVar 1) (eVar 2)) aNil)))))))
def QfC:List D->Out D:=bodyF false 2 3 QuD
theorem QP2(F:FunV K "share" "share" Qcj f fd dV)(QlN:DefOk P w K mg base CT "is_whole" 1 false [] QbK)(Qgq:DefOk P w K mg base CT "greatest_divisor" 1 false [] Qai)(z_abs:mg "abs"=none):FnOk P w K mg base CX0 2 f fd ["top","bottom"] (SpD K CT false QfC):=
 @fnV P w K mg base CT false "share" "share" Qcj f fd dV ["top","bottom","divisor"] ["top","bottom"] 1 QuD F Qv8 fun cdv A outer s H E G hr=>
  (Qf (ds_if (DW.dt (dw_or (Qap (Qav (de_f QlN (hr.mono (by decide)) (Qc (Qb 0 rfl (oi Qpv)) Qg) Qnl))) (dw_or (Qap (Qav (de_f QlN (hr.mono (by decide)) (Qc (Qb 1 rfl (oi QeL)) Qg) Qnl))) (Qga (dt_eq hr.units (DE.db (Qb 1 rfl (oi QeL))) (DE.db Qe)))))) (Qh Qfn) QY) (Qf (Qy (i:=2) Qv8.nd rfl (oi QdQ) (de_f Qgq (hr.mono (by decide)) (Qc (Qxh QvF z_abs PyProof.Rows.Boot.«abs» (Qs (DE.db (Qb 0 rfl (oi Qpv))) Qx)) (Qc (Qxh QvF z_abs PyProof.Rows.Boot.«abs» (Qs (DE.db (Qb 1 rfl (oi QeL))) Qx)) Qg)) Qmg)) (Qf (ds_if (dt_lt (DE.db (Qb 1 rfl (oi QeL))) (DE.db Qe)) (Qh (Qy (i:=2) Qv8.nd rfl (oi QdQ) (Qqn (DE.db (Qb 2 rfl (oi QdQ)))))) QY) (Qh (QD (Qda (Qc (Qch (DE.db (Qb 0 rfl (oi Qpv))) (DE.db (Qb 2 rfl (oi QdQ)))) (Qc (Qch (DE.db (Qb 1 rfl (oi QeL))) (DE.db (Qb 2 rfl (oi QdQ)))) Qg))))))))
abbrev Q1:Stmt:=top 13
theorem QoI:Qo ["shares","worths","parts","bottom"] ["shares","worths"] (Qa Q1):=⟨rfl,rfl,rfl,dk,rfl,dk,dk⟩
theorem Qu9:Lo Q1 "shares":=dk
theorem QuZ:Lo Q1 "worths":=dk
theorem Qzd:Gl Q1 "zip":=dk
abbrev QkW:PySem.Scope:={ kind:=PySem.ScopeKind.function,names:=[ (PySem.Str.ofString ".0",PySem.NameKind.local),(PySem.Str.ofString "part",PySem.NameKind.local),(PySem.Str.ofString "worth",PySem.NameKind.local)],isGenerator:=false,isCoroutine:=false,more:=[]:PySem.Scope }
theorem Qmw:QM ["part","worth"] [none,none] QkW (Qa Q1) ["shares","worths","parts","bottom"]:=⟨rfl,dk,dk,rfl,dk,dk⟩
theorem Qdy:(Qi QkW (Qa Q1)).names.lookup ("worth":Str)=some NameKind.local:=dk
theorem QcS:(Qi QkW (Qa Q1)).names.lookup ("part":Str)=some NameKind.local:=dk
def QcQ:SD->Out Bool:=(tVal (e2 dNe (e2 dIx (eVar 0) (eC (.int 0))) (eC (.int 0))))
def Qdo:SD->Out D:=(eTup (aCons (e2 dMul (e2 dIx (eVar 0) (eC (.int 0))) (e2 dIx (eVar 1) (eC (.int 0)))) (aCons (e2 dMul (e2 dIx (eVar 0) (eC (.int 1))) (e2 dIx (eVar 1) (eC (.int 1)))) aNil)))
theorem QhD:Lo Q1 "parts":=dk
theorem QmD:Gl Q1 "common_bottom":=dk
theorem Qls:(Qa Q1).names.lookup ("bottom":Str)=some NameKind.cell:=dk
abbrev Qk9:PySem.Scope:={ kind:=PySem.ScopeKind.function,names:=[ (PySem.Str.ofString ".0",PySem.NameKind.local),(PySem.Str.ofString "part",PySem.NameKind.local),(PySem.Str.ofString "bottom",PySem.NameKind.free)],isGenerator:=false,isCoroutine:=false,more:=[]:PySem.Scope }
theorem QtE:QM ["part","bottom"] [none,some 3] Qk9 (Qa Q1) ["shares","worths","parts","bottom"]:=⟨rfl,dk,dk,rfl,dk,dk⟩
theorem QdL:(Qi Qk9 (Qa Q1)).names.lookup ("part":Str)=some NameKind.local:=dk
theorem Qrs:(Qi Qk9 (Qa Q1)).names.lookup ("bottom":Str)=some NameKind.cell:=dk
def QmI:SD->Out D:=(e2 dMul (e2 dIx (eVar 0) (eC (.int 0))) (e2 dFdiv (eVar 1) (e2 dIx (eVar 0) (eC (.int 1)))))
theorem Qy7:Gl Q1 "sum":=dk
theorem Qwg:Gl Q1 "share":=dk
def Qmc:SD->Out Fl:=(sSeq (sSet 2 (eComp [none,none] (itZ (eVar 0) (eVar 1)) (gT [0,1]) QcQ Qdo)) (sSeq (sSet 3 (eA (fun xs=>Qbv (xs++[])) (aCons (eVar 2) aNil))) (sRet (eA (fun xs=>QfC (xs++[])) (aCons (eA (f1 fSum) (aCons (eComp [none,some 3] (itL (eVar 2)) (gN 0) cTrue QmI) aNil)) (aCons (eVar 3) aNil))))))
def Qe3:List D->Out D:=bodyF false 2 4 Qmc
theorem QKw(d0 d1:D):Qe3 [d0,d1]=(Qmc [some (.k,d0),some (.k,d1),none,none]>>=retF false):=rfl
theorem QKg(F:FunV K "worth_of" "worth_of" Q1 f fd dV)(Qxo:DefOk P w K mg base CT "common_bottom" 2 false [] Qbv)(QzK:DefOk P w K mg base CT "share" 2 false [] QfC)(z_zip:mg "zip"=none)(z_sum:mg "sum"=none):FnOk P w K mg base CX0 3 f fd ["shares","worths"] (SpD K CT false Qe3):=
 @fnV P w K mg base CT false "worth_of" "worth_of" Q1 f fd dV ["shares","worths","parts","bottom"] ["shares","worths"] 2 Qmc F QoI fun cdv A outer s H E G hr=>
  (Qf (Qp1 (i:=2) rfl Qmw (DI.b (QpX Qzd z_zip (Qb 0 rfl (oi Qu9)) (Qb 1 rfl (oi QuZ)))) (fun ς=>QmK (fun i hi=>Qt (by revert hi;revert i;decide) ς)) (Qf9 _) (fun fp s H G p=>⟨(Qku rfl (Qae (i:=0) Qmw.nd rfl (oi QcS) (Qae (i:=1) Qmw.nd rfl (oi Qdy) Qex (hf:=Or.inr Qdy)) (hf:=Or.inr QcS))),(QPq (dt_ne hr.units (DE.db (de_ix (Qb 0 rfl (oi QcS)) (DE.db Qe))) (DE.db Qe))),(Qda (Qc (QbO (DE.db (de_ix (Qb 0 rfl (oi QcS)) (DE.db Qe))) (DE.db (de_ix (Qb 1 rfl (oi Qdy)) (DE.db Qe)))) (Qc (QbO (DE.db (de_ix (Qb 0 rfl (oi QcS)) (DE.db Qe))) (DE.db (de_ix (Qb 1 rfl (oi Qdy)) (DE.db Qe)))) Qg)))⟩) QoI.nd rfl (oi QhD)) (Qf (Qy (i:=3) QoI.nd rfl (Or.inr Qls) (de_f Qxo (hr.mono (by decide)) (Qc (Qb 2 rfl (oi QhD)) Qg) QmD)) (Qh (QD (de_f QzK (hr.mono (by decide)) (Qc (QRA rfl Qy7 z_sum (Qs (DE.db (DF.de (Q7 rfl QtE (DI.b (Qat (Qb 2 rfl (oi QhD)))) (fun ς=>QU (Qt rfl ς)) (Qu _) (fun fp s H G p=>⟨(QB (i:=0) QtE.nd rfl (oi QdL) (hf:=Or.inr QdL)),QV,(QbO (DE.db (de_ix (Qb 0 rfl (oi QdL)) (DE.db Qe))) (DE.db (Qch (DE.db (Qb 1 rfl (Or.inr (oi Qrs)))) (DE.db (de_ix (Qb 0 rfl (oi QdL)) (DE.db Qe))))))⟩)))) Qx)) (Qc (Qb 3 rfl (Or.inr (oi Qls))) Qg)) Qwg)))))
abbrev QaU:Stmt:=inCls (top 51) 7
theorem Qyq:Qo ["self","k"] ["self","k"] (Qa QaU):=⟨rfl,rfl,rfl,dk,rfl,dk,dk⟩
theorem Qsj:Lo QaU "self":=dk
theorem QvO:Lo QaU "k":=dk
theorem Qsx:Gl QaU "list":=dk
def QgC:SD->Out Fl:=(sRetF (e1 dList (e2 dIx (e1 (dFld Qj "ways") (eVar 0)) (eVar 1))))
def Qbe:List D->Out D:=bodyF true 2 2 QgC
theorem Qzw(d0 d1:D):Qbe [d0,d1]=(QgC [some (.k,d0),some (.k,d1)]>>=retF true):=rfl
theorem QAI(F:FunV K "leads" "Office.leads" QaU f fd dV)(z_list:mg "list"=none)(fo_ways:FldOk K CT Qj "ways"):FnOk P w K mg base CX0 1 f fd ["self","k"] (SpD K CT true Qbe):=
 @fnV P w K mg base CT true "leads" "Office.leads" QaU f fd dV ["self","k"] ["self","k"] 0 QgC F Qyq fun cdv A outer s H E G hr=>
  (Qh (QcX (QhY Qsx z_list (de_ix (Qp0 fo_ways (Qb 0 rfl (oi Qsj))) (DE.db (Qb 1 rfl (oi QvO)))))))
abbrev Q5:Stmt:=top 15
theorem Qwx:Qo ["office","k","worths","door_worths"] ["office","k","worths","door_worths"] (Qa Q5):=⟨rfl,rfl,rfl,dk,rfl,dk,dk⟩
theorem Qpi:Lo Q5 "office":=dk
theorem Qu2:Lo Q5 "k":=dk
abbrev QdR:PySem.Scope:={ kind:=PySem.ScopeKind.function,names:=[ (PySem.Str.ofString ".0",PySem.NameKind.local),(PySem.Str.ofString "lead",PySem.NameKind.local),(PySem.Str.ofString "door_worths",PySem.NameKind.free),(PySem.Str.ofString "worths",PySem.NameKind.free)],isGenerator:=false,isCoroutine:=false,more:=[]:PySem.Scope }
theorem Qlr:QM ["lead","worths","door_worths"] [none,some 2,some 3] QdR (Qa Q5) ["office","k","worths","door_worths"]:=⟨rfl,dk,dk,rfl,dk,dk⟩
theorem Qbp:(Qi QdR (Qa Q5)).names.lookup ("lead":Str)=some NameKind.local:=dk
theorem Qmd:(Qi QdR (Qa Q5)).names.lookup ("worths":Str)=some NameKind.cell:=dk
theorem QiW:(Qi QdR (Qa Q5)).names.lookup ("door_worths":Str)=some NameKind.cell:=dk
def QgV:SD->Out D:=(eIf (tVal (e2 dGe (eVar 0) (eC (.int 0)))) (e2 dIx (eVar 1) (eVar 0)) (e2 dIx (eVar 2) (e2 dSub (e1 dNeg (eC (.int 1))) (eVar 0))))
def QfX:SD->Out Fl:=(sRetF (eComp [none,some 2,some 3] (itL (eMeth Q0 "leads" (fun _=>Qbe) (eVar 0) (aCons (eVar 1) aNil))) (gN 0) cTrue QgV))
def Qb9:List D->Out D:=bodyF true 4 4 QfX
theorem Qyt(d0 d1 d2 d3:D):Qb9 [d0,d1,d2,d3]=(QfX [some (.k,d0),some (.k,d1),some (.k,d2),some (.k,d3)]>>=retF true):=rfl
theorem Qx9(F:FunV K "worths_behind" "worths_behind" Q5 f fd dV)(mt_leads:MtOk P w K mg base CT CX0 "leads" 1 Q0 (fun c=>SpD K CT true ((fun _=>Qbe) c))):FnOk P w K mg base CX0 2 f fd ["office","k","worths","door_worths"] (SpD K CT true Qb9):=
 @fnV P w K mg base CT true "worths_behind" "worths_behind" Q5 f fd dV ["office","k","worths","door_worths"] ["office","k","worths","door_worths"] 1 QfX F Qwx fun cdv A outer s H E G hr=>
  (Qh (QcX (Q7 rfl Qlr (DI.b (Qat (Qmf mt_leads (hr.mono (by decide)) (Qb 0 rfl (oi Qpi)) (Qc (Qb 1 rfl (oi Qu2)) Qg)))) (fun ς=>QU (Qt rfl ς)) (Qu _) (fun fp s H G p=>⟨(QB (i:=0) Qlr.nd rfl (oi Qbp) (hf:=Or.inr Qbp)),QV,(de_if (dt_ge (DE.db (Qb 0 rfl (oi Qbp))) (DE.db Qe)) (de_ix (Qb 1 rfl (Or.inr (oi Qmd))) (DE.db (Qb 0 rfl (oi Qbp)))) (de_ix (Qb 2 rfl (Or.inr (oi QiW))) (DE.db (QcN (DE.db (Qqn (DE.db Qe))) (DE.db (Qb 0 rfl (oi Qbp)))))))⟩))))
abbrev QaR:Stmt:=top 16
theorem QpO:Qo ["office","k","state","worths","door_worths","clerk","period","ahead","shares"] ["office","k","state","worths","door_worths"] (Qa QaR):=⟨rfl,rfl,rfl,dk,rfl,dk,dk⟩
theorem Qr5:Lo QaR "office":=dk
theorem QEX:Lo QaR "k":=dk
theorem Qiv:Lo QaR "clerk":=dk
theorem QB7:(Qa QaR).names.lookup ("period":Str)=some NameKind.cell:=dk
theorem QDt:(Qa QaR).names.lookup ("state":Str)=some NameKind.cell:=dk
theorem QtS:Lo QaR "ahead":=dk
theorem QKc:Gl QaR "zip":=dk
abbrev QhW:PySem.Scope:={ kind:=PySem.ScopeKind.function,names:=[ (PySem.Str.ofString ".0",PySem.NameKind.local),(PySem.Str.ofString "whole",PySem.NameKind.local),(PySem.Str.ofString "sent",PySem.NameKind.local),(PySem.Str.ofString "share",PySem.NameKind.globalImplicit),(PySem.Str.ofString "period",PySem.NameKind.free),(PySem.Str.ofString "state",PySem.NameKind.free)],isGenerator:=false,isCoroutine:=false,more:=[]:PySem.Scope }
theorem Qww:QM ["whole","sent","state","period"] [none,none,some 2,some 6] QhW (Qa QaR) ["office","k","state","worths","door_worths","clerk","period","ahead","shares"]:=⟨rfl,dk,dk,rfl,dk,dk⟩
theorem Qjd:(Qi QhW (Qa QaR)).names.lookup ("sent":Str)=some NameKind.local:=dk
theorem QiA:(Qi QhW (Qa QaR)).names.lookup ("whole":Str)=some NameKind.local:=dk
theorem Qxu:(Qi QhW (Qa QaR)).names.lookup ("state":Str)=some NameKind.cell:=dk
theorem Qnn:(Qi QhW (Qa QaR)).names.lookup ("period":Str)=some NameKind.cell:=dk
theorem QxU:(Qi QhW (Qa QaR)).names.lookup ("share":Str)=some NameKind.globalImplicit:=dk
def QwB:SD->Out D:=(eA (fun xs=>QfC (xs++[])) (aCons (e2 dSub (e2 dMul (eVar 2) (eVar 0)) (e2 dMul (eVar 3) (eVar 1))) (aCons (eVar 3) aNil)))
theorem Qr7:Lo QaR "shares":=dk
theorem QCu:Lo QaR "worths":=dk
theorem QtQ:Lo QaR "door_worths":=dk
theorem QrG:Gl QaR "worths_behind":=dk
theorem QxP:Gl QaR "worth_of":=dk
def Qw3:SD->Out Fl:=(sSeq (sSet 5 (eMeth Q0 "clerk" (fun _=>Qaj) (eVar 0) (aCons (eVar 1) aNil))) (sSeq (sSet 6 (eMeth Qd "period" (fun _=>QA) (eVar 5) aNil)) (sSeq (sSet 7 (eMeth Qd "sent" (fun _=>QcR) (eVar 5) (aCons (eC (.int 0)) (aCons (eVar 2) aNil)))) (sSeq (sSet 8 (eComp [none,none,some 2,some 6] (itZ (eMeth Qd "whole" (fun _=>QaE) (eVar 5) aNil) (eVar 7)) (gT [0,1]) cTrue QwB)) (sRet (eA (fun xs=>Qe3 (xs++[])) (aCons (eVar 8) (aCons (eA (fun xs=>Qb9 (xs++[])) (aCons (eVar 0) (aCons (eVar 1) (aCons (eVar 3) (aCons (eVar 4) aNil))))) aNil))))))))
def QiD:List D->Out D:=bodyF false 5 9 Qw3
theorem QRH(d0 d1 d2 d3 d4:D):QiD [d0,d1,d2,d3,d4]=(Qw3 [some (.k,d0),some (.k,d1),some (.k,d2),some (.k,d3),some (.k,d4),none,none,none,none]>>=retF false):=rfl
theorem QQO(F:FunV K "lean" "lean" QaR f fd dV)(QzK:DefOk P w K mg base CT "share" 2 false [] QfC)(QKA:DefOk P w K mg base CT "worth_of" 3 false [] Qe3)(QxT:DefOk P w K mg base CT "worths_behind" 2 true [] Qb9)(z_zip:mg "zip"=none)(mt_clerk:MtOk P w K mg base CT CX0 "clerk" 1 Q0 (fun c=>SpD K CT false ((fun _=>Qaj) c)))(mt_period:MtOk P w K mg base CT CX0 "period" 1 Qd (fun c=>SpD K CT false ((fun _=>QA) c)))(mt_sent:MtOk P w K mg base CT CX0 "sent" 4 Qd (fun c=>SpD K CT true ((fun _=>QcR) c)))(mt_whole:MtOk P w K mg base CT CX0 "whole" 2 Qd (fun c=>SpD K CT true ((fun _=>QaE) c))):FnOk P w K mg base CX0 5 f fd ["office","k","state","worths","door_worths"] (SpD K CT false QiD):=
 @fnV P w K mg base CT false "lean" "lean" QaR f fd dV ["office","k","state","worths","door_worths","clerk","period","ahead","shares"] ["office","k","state","worths","door_worths"] 4 Qw3 F QpO fun cdv A outer s H E G hr=>
  (Qf (Qy (i:=5) QpO.nd rfl (oi Qiv) (Qmf mt_clerk (hr.mono (by decide)) (Qb 0 rfl (oi Qr5)) (Qc (Qb 1 rfl (oi QEX)) Qg))) (Qf (Qy (i:=6) QpO.nd rfl (Or.inr QB7) (Qfe mt_period (hr.mono (by decide)) (Qb 5 rfl (oi Qiv)))) (Qf (Qy (i:=7) QpO.nd rfl (oi QtS) (Qmf mt_sent (hr.mono (by decide)) (Qb 5 rfl (oi Qiv)) (Qc Qe (Qc (Qb 2 rfl (Or.inr (oi QDt))) Qg)))) (Qf (Qp1 (i:=8) rfl Qww (DI.b (QpX QKc z_zip (Qfe mt_whole (hr.mono (by decide)) (Qb 5 rfl (oi Qiv))) (Qb 7 rfl (oi QtS)))) (fun ς=>QmK (fun i hi=>Qt (by revert hi;revert i;decide) ς)) (Qf9 _) (fun fp s H G p=>⟨(Qku rfl (Qae (i:=0) Qww.nd rfl (oi QiA) (Qae (i:=1) Qww.nd rfl (oi Qjd) Qex (hf:=Or.inr Qjd)) (hf:=Or.inr QiA))),QV,(de_f QzK (hr.mono (by decide)) (Qc (QcN (DE.db (QbO (DE.db (Qb 2 rfl (Or.inr (oi Qxu)))) (DE.db (Qb 0 rfl (oi QiA))))) (DE.db (QbO (DE.db (Qb 3 rfl (Or.inr (oi Qnn)))) (DE.db (Qb 1 rfl (oi Qjd)))))) (Qc (Qb 3 rfl (Or.inr (oi Qnn))) Qg)) QxU)⟩) QpO.nd rfl (oi Qr7)) (Qh (QD (de_f QKA (hr.mono (by decide)) (Qc (Qb 8 rfl (oi Qr7)) (Qc (de_f QxT (hr.mono (by decide)) (Qc (Qb 0 rfl (oi Qr5)) (Qc (Qb 1 rfl (oi QEX)) (Qc (Qb 3 rfl (oi QCu)) (Qc (Qb 4 rfl (oi QtQ)) Qg)))) QrG) Qg)) QxP)))))))
abbrev QbW:Stmt:=top 17
theorem QN9:Qo ["office","k","worths","door_worths"] ["office","k","worths","door_worths"] (Qa QbW):=⟨rfl,rfl,rfl,dk,rfl,dk,dk⟩
theorem QzX:(Qa QbW).names.lookup ("office":Str)=some NameKind.cell:=dk
theorem QMv:(Qa QbW).names.lookup ("k":Str)=some NameKind.cell:=dk
theorem QBH:Gl QbW "range":=dk
abbrev Qfq:PySem.Scope:={ kind:=PySem.ScopeKind.function,names:=[ (PySem.Str.ofString ".0",PySem.NameKind.local),(PySem.Str.ofString "state",PySem.NameKind.local),(PySem.Str.ofString "lean",PySem.NameKind.globalImplicit),(PySem.Str.ofString "door_worths",PySem.NameKind.free),(PySem.Str.ofString "k",PySem.NameKind.free),(PySem.Str.ofString "office",PySem.NameKind.free),(PySem.Str.ofString "worths",PySem.NameKind.free)],isGenerator:=false,isCoroutine:=false,more:=[]:PySem.Scope }
theorem QBc:QM ["state","office","k","worths","door_worths"] [none,some 0,some 1,some 2,some 3] Qfq (Qa QbW) ["office","k","worths","door_worths"]:=⟨rfl,dk,dk,rfl,dk,dk⟩
theorem QhM:(Qi Qfq (Qa QbW)).names.lookup ("state":Str)=some NameKind.local:=dk
theorem Qu0:(Qi Qfq (Qa QbW)).names.lookup ("office":Str)=some NameKind.cell:=dk
theorem QDK:(Qi Qfq (Qa QbW)).names.lookup ("k":Str)=some NameKind.cell:=dk
theorem Qu5:(Qi Qfq (Qa QbW)).names.lookup ("worths":Str)=some NameKind.cell:=dk
theorem Qoo:(Qi Qfq (Qa QbW)).names.lookup ("door_worths":Str)=some NameKind.cell:=dk
theorem QxX:(Qi Qfq (Qa QbW)).names.lookup ("lean":Str)=some NameKind.globalImplicit:=dk
def QsJ:SD->Out D:=(eA (fun xs=>QiD (xs++[])) (aCons (eVar 1) (aCons (eVar 2) (aCons (eVar 0) (aCons (eVar 3) (aCons (eVar 4) aNil))))))
def QuO:SD->Out Fl:=(sRetF (eComp [none,some 0,some 1,some 2,some 3] (itR1 (eMeth Qd "period" (fun _=>QA) (eMeth Q0 "clerk" (fun _=>Qaj) (eVar 0) (aCons (eVar 1) aNil)) aNil)) (gN 0) cTrue QsJ))
def Qjt:List D->Out D:=bodyF true 4 4 QuO
theorem QPR(d0 d1 d2 d3:D):Qjt [d0,d1,d2,d3]=(QuO [some (.k,d0),some (.k,d1),some (.k,d2),some (.k,d3)]>>=retF true):=rfl
theorem QPL(F:FunV K "leans" "leans" QbW f fd dV)(QRf:DefOk P w K mg base CT "lean" 5 false [] QiD)(z_range:mg "range"=none)(mt_period:MtOk P w K mg base CT CX0 "period" 1 Qd (fun c=>SpD K CT false ((fun _=>QA) c)))(mt_clerk:MtOk P w K mg base CT CX0 "clerk" 1 Q0 (fun c=>SpD K CT false ((fun _=>Qaj) c))):FnOk P w K mg base CX0 6 f fd ["office","k","worths","door_worths"] (SpD K CT true Qjt):=
 @fnV P w K mg base CT true "leans" "leans" QbW f fd dV ["office","k","worths","door_worths"] ["office","k","worths","door_worths"] 5 QuO F QN9 fun cdv A outer s H E G hr=>
  (Qh (QcX (Q7 rfl QBc (DI.b (QaX QBH z_range (DE.db (Qfe mt_period (hr.mono (by decide)) (Qmf mt_clerk (hr.mono (by decide)) (Qb 0 rfl (Or.inr (oi QzX))) (Qc (Qb 1 rfl (Or.inr (oi QMv))) Qg)))))) (fun ς=>QU (Qt rfl ς)) (Qu _) (fun fp s H G p=>⟨(QB (i:=0) QBc.nd rfl (oi QhM) (hf:=Or.inr QhM)),QV,(de_f QRf (hr.mono (by decide)) (Qc (Qb 1 rfl (Or.inr (oi Qu0))) (Qc (Qb 2 rfl (Or.inr (oi QDK))) (Qc (Qb 0 rfl (oi QhM)) (Qc (Qb 3 rfl (Or.inr (oi Qu5))) (Qc (Qb 4 rfl (Or.inr (oi Qoo))) Qg))))) QxX)⟩))))
abbrev QcG:Stmt:=top 58
theorem QG7:Qo ["_law_one","_law_other"] ["_law_one","_law_other"] (Qa QcG):=⟨rfl,rfl,rfl,dk,rfl,dk,dk⟩
theorem QfM:Lo QcG "_law_one":=dk
theorem QeK:Lo QcG "_law_other":=dk
theorem Qsn:Gl QcG "_law_low":=dk
def QiN:SD->Out Fl:=(sRet (eA (fun xs=>QcJ (xs++[])) (aCons (e2 dAdd (e2 dMul (e2 dIx (eVar 0) (eC (.int 0))) (e2 dIx (eVar 1) (eC (.int 1)))) (e2 dMul (e2 dIx (eVar 1) (eC (.int 0))) (e2 dIx (eVar 0) (eC (.int 1))))) (aCons (e2 dMul (e2 dIx (eVar 0) (eC (.int 1))) (e2 dIx (eVar 1) (eC (.int 1)))) aNil))))
def Qax:List D->Out D:=bodyF false 2 2 QiN
theorem QyO(d0 d1:D):Qax [d0,d1]=(QiN [some (.k,d0),some (.k,d1)]>>=retF false):=rfl
theorem QLK(F:FunV K "_law_plus" "_law_plus" QcG f fd dV)(Qkl:DefOk P w K mg base CT "_law_low" 2 false [] QcJ):FnOk P w K mg base CX0 3 f fd ["_law_one","_law_other"] (SpD K CT false Qax):=
 @fnV P w K mg base CT false "_law_plus" "_law_plus" QcG f fd dV ["_law_one","_law_other"] ["_law_one","_law_other"] 2 QiN F QG7 fun cdv A outer s H E G hr=>
  (Qh (QD (de_f Qkl (hr.mono (by decide)) (Qc (Qbo (DE.db (QbO (DE.db (de_ix (Qb 0 rfl (oi QfM)) (DE.db Qe))) (DE.db (de_ix (Qb 1 rfl (oi QeK)) (DE.db Qe))))) (DE.db (QbO (DE.db (de_ix (Qb 1 rfl (oi QeK)) (DE.db Qe))) (DE.db (de_ix (Qb 0 rfl (oi QfM)) (DE.db Qe)))))) (Qc (QbO (DE.db (de_ix (Qb 0 rfl (oi QfM)) (DE.db Qe))) (DE.db (de_ix (Qb 1 rfl (oi QeK)) (DE.db Qe)))) Qg)) Qsn)))
abbrev QJ:Stmt:=top 67
theorem Qcw:Qo ["_law_plan_here","_law_k","_law_state","_law_worths_here","_law_door_worths","_law_total","_law_to","_law_many","_law_worth"] ["_law_plan_here","_law_k","_law_state","_law_worths_here","_law_door_worths"] (Qa QJ):=⟨rfl,rfl,rfl,dk,rfl,dk,dk⟩
theorem QbH:Lo QJ "_law_total":=dk
theorem QdK:Lo QJ "_law_plan_here":=dk
theorem Qhi:Lo QJ "_law_k":=dk
theorem QkN:Lo QJ "_law_state":=dk
theorem Qsu:Gl QJ "zip":=dk
theorem QfS:Lo QJ "_law_many":=dk
theorem Qcp:Lo QJ "_law_to":=dk
theorem QhG:Lo QJ "_law_door_worths":=dk
theorem QhJ:Lo QJ "_law_worths_here":=dk
theorem Qc3:Lo QJ "_law_worth":=dk
theorem QlU:Gl QJ "_law_plus":=dk
def Qer:SD->Out Fl:=(sSeq (sSet 8 (eIf (tVal (e2 dLt (eVar 6) (eC (.int 0)))) (e2 dIx (eVar 4) (e2 dSub (e1 dNeg (eC (.int 1))) (eVar 6))) (e2 dIx (eVar 3) (eVar 6)))) (sSet 5 (eA (fun xs=>Qax (xs++[])) (aCons (eVar 5) (aCons (eTup (aCons (e2 dMul (eVar 7) (e2 dIx (eVar 8) (eC (.int 0)))) (aCons (e2 dIx (eVar 8) (eC (.int 1))) aNil))) aNil)))))
def QfW:SD->Out Fl:=(sSeq (sSet 5 (eTup (aCons (eC (.int 0)) (aCons (eC (.int 1)) aNil)))) (sSeq (sFor (gT [6,7]) (itZ (e2 dIx (e2 dIx (eVar 0) (eVar 1)) (eC (.int 2))) (e2 dIx (e2 dIx (e2 dIx (eVar 0) (eVar 1)) (eC (.int 1))) (eVar 2))) Qer) (sRet (eVar 5))))
def Qay:List D->Out D:=bodyF false 5 9 QfW
theorem QyT(d0 d1 d2 d3 d4:D):Qay [d0,d1,d2,d3,d4]=(QfW [some (.k,d0),some (.k,d1),some (.k,d2),some (.k,d3),some (.k,d4),none,none,none,none]>>=retF false):=rfl
theorem QyA(F:FunV K "_law_row_worth" "_law_row_worth" QJ f fd dV)(QdP:DefOk P w K mg base CT "_law_plus" 3 false [] Qax)(z_zip:mg "zip"=none):FnOk P w K mg base CX0 4 f fd ["_law_plan_here","_law_k","_law_state","_law_worths_here","_law_door_worths"] (SpD K CT false Qay):=
 @fnV P w K mg base CT false "_law_row_worth" "_law_row_worth" QJ f fd dV ["_law_plan_here","_law_k","_law_state","_law_worths_here","_law_door_worths","_law_total","_law_to","_law_many","_law_worth"] ["_law_plan_here","_law_k","_law_state","_law_worths_here","_law_door_worths"] 3 QfW F Qcw fun cdv A outer s H E G hr=>
  (Qf (Qy (i:=5) Qcw.nd rfl (oi QbH) (Qda (Qc Qe (Qc Qe Qg)))) (Qf (Qcl PassesOwn.never rfl (QpX Qsu z_zip (de_ix (de_ix (Qb 0 rfl (oi QdK)) (DE.db (Qb 1 rfl (oi Qhi)))) (DE.db Qe)) (de_ix (de_ix (de_ix (Qb 0 rfl (oi QdK)) (DE.db (Qb 1 rfl (oi Qhi)))) (DE.db Qe)) (DE.db (Qb 2 rfl (oi QkN))))) (Qku rfl (Qae (i:=6) Qcw.nd rfl (oi Qcp) (Qae (i:=7) Qcw.nd rfl (oi QfS) Qex))) (Qf9 _) (Qf (Qy (i:=8) Qcw.nd rfl (oi Qc3) (de_if (dt_lt (DE.db (Qb 6 rfl (oi Qcp))) (DE.db Qe)) (de_ix (Qb 4 rfl (oi QhG)) (DE.db (QcN (DE.db (Qqn (DE.db Qe))) (DE.db (Qb 6 rfl (oi Qcp)))))) (de_ix (Qb 3 rfl (oi QhJ)) (DE.db (Qb 6 rfl (oi Qcp)))))) (Qh (Qy (i:=5) Qcw.nd rfl (oi QbH) (de_f QdP (hr.mono (by decide)) (Qc (Qb 5 rfl (oi QbH)) (Qc (Qda (Qc (QbO (DE.db (Qb 7 rfl (oi QfS))) (DE.db (de_ix (Qb 8 rfl (oi Qc3)) (DE.db Qe)))) (Qc (de_ix (Qb 8 rfl (oi Qc3)) (DE.db Qe)) Qg))) Qg)) QlU))))) (Qh (QD (Qb 5 rfl (oi QbH))))))
abbrev Qaf:Stmt:=top 68
theorem Qhe:Qo ["_law_plan_here","_law_k","_law_worths_here","_law_door_worths","_law_total","_law_many","_law_state"] ["_law_plan_here","_law_k","_law_worths_here","_law_door_worths"] (Qa Qaf):=⟨rfl,rfl,rfl,dk,rfl,dk,dk⟩
theorem QbX:Lo Qaf "_law_total":=dk
theorem QfY:Lo Qaf "_law_plan_here":=dk
theorem Qlx:Lo Qaf "_law_k":=dk
theorem Qzo:Gl Qaf "len":=dk
theorem Qe4:Lo Qaf "_law_many":=dk
theorem QwP:Gl Qaf "range":=dk
theorem QhV:Lo Qaf "_law_state":=dk
theorem Qkh:Lo Qaf "_law_worths_here":=dk
theorem Qj5:Lo Qaf "_law_door_worths":=dk
theorem Ql2:Gl Qaf "_law_row_worth":=dk
theorem QrC:Gl Qaf "_law_plus":=dk
def Qh4:SD->Out Fl:=(sSet 4 (eA (fun xs=>Qax (xs++[])) (aCons (eVar 4) (aCons (eA (fun xs=>Qay (xs++[])) (aCons (eVar 0) (aCons (eVar 1) (aCons (eVar 6) (aCons (eVar 2) (aCons (eVar 3) aNil)))))) aNil))))
theorem Qsv:Gl Qaf "_law_low":=dk
def QlL:SD->Out Fl:=(sSeq (sSet 4 (eTup (aCons (eC (.int 0)) (aCons (eC (.int 1)) aNil)))) (sSeq (sSet 5 (eA fLen (aCons (e2 dIx (e2 dIx (eVar 0) (eVar 1)) (eC (.int 1))) aNil))) (sSeq (sFor (gN 6) (itR1 (eVar 5)) Qh4) (sRet (eA (fun xs=>QcJ (xs++[])) (aCons (e2 dIx (eVar 4) (eC (.int 0))) (aCons (e2 dMul (e2 dIx (eVar 4) (eC (.int 1))) (eVar 5)) aNil)))))))
def Qdb:List D->Out D:=bodyF false 4 7 QlL
theorem QJ6(d0 d1 d2 d3:D):Qdb [d0,d1,d2,d3]=(QlL [some (.k,d0),some (.k,d1),some (.k,d2),some (.k,d3),none,none,none]>>=retF false):=rfl
theorem QLk(F:FunV K "_law_mean" "_law_mean" Qaf f fd dV)(QdP:DefOk P w K mg base CT "_law_plus" 3 false [] Qax)(QdU:DefOk P w K mg base CT "_law_row_worth" 4 false [] Qay)(Qkl:DefOk P w K mg base CT "_law_low" 2 false [] QcJ)(z_len:mg "len"=none)(z_range:mg "range"=none):FnOk P w K mg base CX0 5 f fd ["_law_plan_here","_law_k","_law_worths_here","_law_door_worths"] (SpD K CT false Qdb):=
 @fnV P w K mg base CT false "_law_mean" "_law_mean" Qaf f fd dV ["_law_plan_here","_law_k","_law_worths_here","_law_door_worths","_law_total","_law_many","_law_state"] ["_law_plan_here","_law_k","_law_worths_here","_law_door_worths"] 4 QlL F Qhe fun cdv A outer s H E G hr=>
  (Qf (Qy (i:=4) Qhe.nd rfl (oi QbX) (Qda (Qc Qe (Qc Qe Qg)))) (Qf (Qy (i:=5) Qhe.nd rfl (oi Qe4) (Qaz Qzo z_len (Qs (DE.db (de_ix (de_ix (Qb 0 rfl (oi QfY)) (DE.db (Qb 1 rfl (oi Qlx)))) (DE.db Qe))) Qx))) (Qf (Qcl PassesOwn.never rfl (QaX QwP z_range (DE.db (Qb 5 rfl (oi Qe4)))) (QB (i:=6) Qhe.nd rfl (oi QhV)) (Qu _) (Qh (Qy (i:=4) Qhe.nd rfl (oi QbX) (de_f QdP (hr.mono (by decide)) (Qc (Qb 4 rfl (oi QbX)) (Qc (de_f QdU (hr.mono (by decide)) (Qc (Qb 0 rfl (oi QfY)) (Qc (Qb 1 rfl (oi Qlx)) (Qc (Qb 6 rfl (oi QhV)) (Qc (Qb 2 rfl (oi Qkh)) (Qc (Qb 3 rfl (oi Qj5)) Qg))))) Ql2) Qg)) QrC)))) (Qh (QD (de_f Qkl (hr.mono (by decide)) (Qc (de_ix (Qb 4 rfl (oi QbX)) (DE.db Qe)) (Qc (QbO (DE.db (de_ix (Qb 4 rfl (oi QbX)) (DE.db Qe))) (DE.db (Qb 5 rfl (oi Qe4)))) Qg)) Qsv))))))
abbrev QX:Stmt:=top 69
theorem Qf3:Qo ["_law_plan_here","_law_k","_law_worths_here","_law_door_worths","_law_mean_here","_law_found","_law_state","_law_row"] ["_law_plan_here","_law_k","_law_worths_here","_law_door_worths"] (Qa QX):=⟨rfl,rfl,rfl,dk,rfl,dk,dk⟩
theorem Qc9:Lo QX "_law_plan_here":=dk
theorem Qgk:Lo QX "_law_k":=dk
theorem QeB:Lo QX "_law_worths_here":=dk
theorem QeG:Lo QX "_law_door_worths":=dk
theorem QpZ:Gl QX "_law_mean":=dk
theorem Qfw:Lo QX "_law_mean_here":=dk
theorem QcH:Lo QX "_law_found":=dk
theorem QxZ:Gl QX "len":=dk
theorem Qu7:Gl QX "range":=dk
theorem Qd9:Lo QX "_law_state":=dk
theorem Qlg:Gl QX "_law_row_worth":=dk
theorem Qe9:Lo QX "_law_row":=dk
theorem QhZ:Gl QX "_law_plus":=dk
def Qhl:SD->Out Fl:=(sSeq (sSet 7 (eA (fun xs=>Qay (xs++[])) (aCons (eVar 0) (aCons (eVar 1) (aCons (eVar 6) (aCons (eVar 2) (aCons (eVar 3) aNil))))))) (QbN 5 (eA (fun xs=>Qax (xs++[])) (aCons (eIxO 5 (eVar 6)) (aCons (eA (fun xs=>Qax (xs++[])) (aCons (eVar 4) (aCons (eTup (aCons (e2 dSub (eC (.int 0)) (e2 dIx (eVar 7) (eC (.int 0)))) (aCons (e2 dIx (eVar 7) (eC (.int 1))) aNil))) aNil))) aNil)))))
def QjQ:SD->Out Fl:=(sSeq (sSet 4 (eA (fun xs=>Qdb (xs++[])) (aCons (eVar 0) (aCons (eVar 1) (aCons (eVar 2) (aCons (eVar 3) aNil)))))) (sSeq (sSetO 5 (eLst (aCons (eTup (aCons (eC (.int 0)) (aCons (eC (.int 1)) aNil))) aNil))) (sSeq (sFor (gN 6) (itR1 (e2 dSub (eA fLen (aCons (e2 dIx (e2 dIx (eVar 0) (eVar 1)) (eC (.int 1))) aNil)) (eC (.int 1)))) Qhl) (sRetO 5))))
def Qee:List D->Out D:=bodyF true 4 8 QjQ
theorem QGH(d0 d1 d2 d3:D):Qee [d0,d1,d2,d3]=(QjQ [some (.k,d0),some (.k,d1),some (.k,d2),some (.k,d3),none,none,none,none]>>=retF true):=rfl
theorem QHx(F:FunV K "_law_leans" "_law_leans" QX f fd dV)(QqF:DefOk P w K mg base CT "_law_mean" 5 false [] Qdb)(QdU:DefOk P w K mg base CT "_law_row_worth" 4 false [] Qay)(QdP:DefOk P w K mg base CT "_law_plus" 3 false [] Qax)(z_range:mg "range"=none)(z_len:mg "len"=none):FnOk P w K mg base CX0 6 f fd ["_law_plan_here","_law_k","_law_worths_here","_law_door_worths"] (SpD K CT true Qee):=
 @fnV P w K mg base CT true "_law_leans" "_law_leans" QX f fd dV ["_law_plan_here","_law_k","_law_worths_here","_law_door_worths","_law_mean_here","_law_found","_law_state","_law_row"] ["_law_plan_here","_law_k","_law_worths_here","_law_door_worths"] 5 QjQ F Qf3 fun cdv A outer s H E G hr=>
  (Qf (Qy (i:=4) Qf3.nd rfl (oi Qfw) (de_f QqF (hr.mono (by decide)) (Qc (Qb 0 rfl (oi Qc9)) (Qc (Qb 1 rfl (oi Qgk)) (Qc (Qb 2 rfl (oi QeB)) (Qc (Qb 3 rfl (oi QeG)) Qg)))) QpZ)) (Qf (QfB (i:=5) Qf3.nd rfl (oi QcH) (QcK (Qc (Qda (Qc Qe (Qc Qe Qg))) Qg))) (Qf (Qcl PassesOwn.never rfl (QaX Qu7 z_range (DE.db (QcN (DE.db (Qaz QxZ z_len (Qs (DE.db (de_ix (de_ix (Qb 0 rfl (oi Qc9)) (DE.db (Qb 1 rfl (oi Qgk)))) (DE.db Qe))) Qx))) (DE.db Qe)))) (QB (i:=6) Qf3.nd rfl (oi Qd9)) (Qu _) (Qf (Qy (i:=7) Qf3.nd rfl (oi Qe9) (de_f QdU (hr.mono (by decide)) (Qc (Qb 0 rfl (oi Qc9)) (Qc (Qb 1 rfl (oi Qgk)) (Qc (Qb 6 rfl (oi Qd9)) (Qc (Qb 2 rfl (oi QeB)) (Qc (Qb 3 rfl (oi QeG)) Qg))))) Qlg)) (Qh (Qdf 5 (de_f QdP (hr.mono (by decide)) (Qc (QNj 5 (DE.db (Qb 6 rfl (oi Qd9))) rfl (oi QcH)) (Qc (de_f QdP (hr.mono (by decide)) (Qc (Qb 4 rfl (oi Qfw)) (Qc (Qda (Qc (QcN (DE.db Qe) (DE.db (de_ix (Qb 7 rfl (oi Qe9)) (DE.db Qe)))) (Qc (de_ix (Qb 7 rfl (oi Qe9)) (DE.db Qe)) Qg))) Qg)) QhZ) Qg)) QhZ) rfl (oi QcH))))) (Qh (Qqa 5 rfl (oi QcH))))))
abbrev QbD:Stmt:=top 54
theorem QCX:Qo ["_law_found"] ["_law_found"] (Qa QbD):=⟨rfl,rfl,rfl,dk,rfl,dk,dk⟩
theorem Qhj:Lo QbD "_law_found":=dk
theorem Qxt:Gl QbD "int":=dk
theorem Qg2:Gl QbD "isinstance":=dk
theorem QwT:Gl QbD "bool":=dk
def Qoq:SD->Out Fl:=(sRet (eAnd (eIsa (isaT "int") (eVar 0)) (eNot (eIsa (isaT "bool") (eVar 0)))))
def Qdg:List D->Out D:=bodyF false 1 1 Qoq
theorem QIG(F:FunV K "_law_whole" "_law_whole" QbD f fd dV)(z_isinstance:mg "isinstance"=none)(z_int:mg "int"=none)(z_bool:mg "bool"=none):FnOk P w K mg base CX0 1 f fd ["_law_found"] (SpD K CT false Qdg):=
 @fnV P w K mg base CT false "_law_whole" "_law_whole" QbD f fd dV ["_law_found"] ["_law_found"] 0 Qoq F QCX fun cdv A outer s H E G hr=>
  (Qh (QD (Qf4 (QcZ "int" QJf Qxt z_int PyProof.Rows.Boot.«int» Qg2 z_isinstance (DE.db (Qb 0 rfl (oi Qhj)))) (Qj6 (QNq (QcZ "bool" QE5 QwT z_bool PyProof.Rows.Boot.«bool» Qg2 z_isinstance (DE.db (Qb 0 rfl (oi Qhj)))))))))
abbrev Qbj:Stmt:=top 60
theorem QIb:Qo ["_law_found","_law_due"] ["_law_found","_law_due"] (Qa Qbj):=⟨rfl,rfl,rfl,dk,rfl,dk,dk⟩
theorem QbQ:Lo Qbj "_law_found":=dk
theorem QvV:Gl Qbj "tuple":=dk
theorem QpU:Gl Qbj "isinstance":=dk
theorem Qzh:Gl Qbj "len":=dk
theorem QhP:Gl Qbj "_law_whole":=dk
theorem Qsy:Lo Qbj "_law_due":=dk
def QlK:SD->Out Fl:=(sSeq (sIf (tOr' (tNot' (tVal (eIsa (isaT "tuple") (eVar 0)))) (tOr' (tVal (e2 dNe (eA fLen (aCons (eVar 0) aNil)) (eC (.int 2)))) (tOr' (tNot' (tVal (eA (fun xs=>Qdg (xs++[])) (aCons (e2 dIx (eVar 0) (eC (.int 0))) aNil)))) (tNot' (tVal (eA (fun xs=>Qdg (xs++[])) (aCons (e2 dIx (eVar 0) (eC (.int 1))) aNil))))))) (sRet (eC (.bl false))) sNil) (sRet (e2 dEq (eVar 0) (eVar 1))))
def Qe7:List D->Out D:=bodyF false 2 2 QlK
theorem QKz(d0 d1:D):Qe7 [d0,d1]=(QlK [some (.k,d0),some (.k,d1)]>>=retF false):=rfl
theorem QLi(F:FunV K "_law_same" "_law_same" Qbj f fd dV)(Qvs:DefOk P w K mg base CT "_law_whole" 1 false [] Qdg)(z_isinstance:mg "isinstance"=none)(z_tuple:mg "tuple"=none)(z_len:mg "len"=none):FnOk P w K mg base CX0 2 f fd ["_law_found","_law_due"] (SpD K CT false Qe7):=
 @fnV P w K mg base CT false "_law_same" "_law_same" Qbj f fd dV ["_law_found","_law_due"] ["_law_found","_law_due"] 1 QlK F QIb fun cdv A outer s H E G hr=>
  (Qf (ds_if (DW.dt (dw_or (Qap (Qav (QcZ "tuple" Qul QvV z_tuple PyProof.Rows.Boot.«tuple» QpU z_isinstance (DE.db (Qb 0 rfl (oi QbQ)))))) (dw_or (dt_ne hr.units (DE.db (Qaz Qzh z_len (Qs (DE.db (Qb 0 rfl (oi QbQ))) Qx))) (DE.db Qe)) (dw_or (Qap (Qav (de_f Qvs (hr.mono (by decide)) (Qc (de_ix (Qb 0 rfl (oi QbQ)) (DE.db Qe)) Qg) QhP))) (Qga (Qap (Qav (de_f Qvs (hr.mono (by decide)) (Qc (de_ix (Qb 0 rfl (oi QbQ)) (DE.db Qe)) Qg) QhP)))))))) (Qh (QD de_bl)) QY) (Qh (QD (de_eq hr.units (DE.db (Qb 0 rfl (oi QbQ))) (DE.db (Qb 1 rfl (oi Qsy)))))))
abbrev Qw:Stmt:=top 70
theorem QcO:Qo ["_law_office_here","_law_plan_here","_law_k","_law_worths_here","_law_door_worths","_law_handed","_law_found","_law_due","_law_state","_law_last","_law_row","_law_mean_here"] ["_law_office_here","_law_plan_here","_law_k","_law_worths_here","_law_door_worths"] (Qa Qw):=⟨rfl,rfl,rfl,dk,rfl,dk,dk⟩
theorem QaI:Lo Qw "_law_worths_here":=dk
theorem QhL:Gl Qw "list":=dk
theorem QaJ:Lo Qw "_law_door_worths":=dk
theorem Qcr:Lo Qw "_law_handed":=dk
theorem Qjk:Lo Qw "_law_office_here":=dk
theorem QdM:Lo Qw "_law_k":=dk
theorem QuY:Gl Qw "leans":=dk
theorem Qbx:Lo Qw "_law_found":=dk
theorem Qc6:Lo Qw "_law_plan_here":=dk
theorem Qor:Gl Qw "_law_leans":=dk
theorem Qb7:Lo Qw "_law_due":=dk
theorem Qpo:Gl Qw "isinstance":=dk
theorem Qf1:Gl Qw "len":=dk
theorem Qvc:Gl Qw "range":=dk
theorem QdZ:Lo Qw "_law_state":=dk
theorem Qqb:Gl Qw "_law_same":=dk
def Qhw:SD->Out Fl:=(sIf (tNot' (tVal (eA (fun xs=>Qe7 (xs++[])) (aCons (e2 dIx (eVar 6) (eVar 8)) (aCons (e2 dIx (eVar 7) (eVar 8)) aNil))))) (sRet (eC (.bl false))) sNil)
theorem QeS:Lo Qw "_law_last":=dk
theorem Qlc:Gl Qw "_law_row_worth":=dk
theorem Qiy:Lo Qw "_law_row":=dk
theorem QpR:Gl Qw "_law_mean":=dk
theorem Qfx:Lo Qw "_law_mean_here":=dk
theorem QpS:Gl Qw "_law_plus":=dk
def QjW:SD->Out Fl:=(sSeq (sSet 5 (eTup (aCons (e1 dList (eVar 3)) (aCons (e1 dList (eVar 4)) aNil)))) (sSeq (sSet 6 (eA (fun xs=>Qjt (xs++[])) (aCons (eVar 0) (aCons (eVar 2) (aCons (e2 dIx (eVar 5) (eC (.int 0))) (aCons (e2 dIx (eVar 5) (eC (.int 1))) aNil)))))) (sSeq (sSet 7 (eA (fun xs=>Qee (xs++[])) (aCons (eVar 1) (aCons (eVar 2) (aCons (eVar 3) (aCons (eVar 4) aNil)))))) (sSeq (sIf (tOr' (tNot' (tVal (eIsa (isaT "list") (eVar 6)))) (tOr' (tVal (e2 dNe (eA fLen (aCons (eVar 6) aNil)) (eA fLen (aCons (eVar 7) aNil)))) (tVal (e2 dNe (eVar 5) (eTup (aCons (eVar 3) (aCons (eVar 4) aNil))))))) (sRet (eC (.bl false))) sNil) (sSeq (sFor (gN 8) (itR1 (eA fLen (aCons (eVar 7) aNil))) Qhw) (sSeq (sSet 9 (e2 dSub (eA fLen (aCons (eVar 7) aNil)) (eC (.int 1)))) (sSeq (sSet 10 (eA (fun xs=>Qay (xs++[])) (aCons (eVar 1) (aCons (eVar 2) (aCons (eVar 9) (aCons (eVar 3) (aCons (eVar 4) aNil))))))) (sSeq (sSet 11 (eA (fun xs=>Qdb (xs++[])) (aCons (eVar 1) (aCons (eVar 2) (aCons (eVar 3) (aCons (eVar 4) aNil)))))) (sRet (e2 dEq (eA (fun xs=>Qax (xs++[])) (aCons (e2 dIx (eVar 6) (eVar 9)) (aCons (eVar 11) aNil))) (eVar 10)))))))))))
def Qd7:List D->Out D:=bodyF false 5 12 QjW
theorem QHT(d0 d1 d2 d3 d4:D):Qd7 [d0,d1,d2,d3,d4]=(QjW [some (.k,d0),some (.k,d1),some (.k,d2),some (.k,d3),some (.k,d4),none,none,none,none,none,none,none]>>=retF false):=rfl
theorem QI7(F:FunV K "_law_asked" "_law_asked" Qw f fd dV)(QOZ:DefOk P w K mg base CT "leans" 6 true [] Qjt)(QGk:DefOk P w K mg base CT "_law_leans" 6 true [] Qee)(QK8:DefOk P w K mg base CT "_law_same" 2 false [] Qe7)(QdU:DefOk P w K mg base CT "_law_row_worth" 4 false [] Qay)(QqF:DefOk P w K mg base CT "_law_mean" 5 false [] Qdb)(QdP:DefOk P w K mg base CT "_law_plus" 3 false [] Qax)(z_list:mg "list"=none)(z_isinstance:mg "isinstance"=none)(z_len:mg "len"=none)(z_range:mg "range"=none):FnOk P w K mg base CX0 7 f fd ["_law_office_here","_law_plan_here","_law_k","_law_worths_here","_law_door_worths"] (SpD K CT false Qd7):=
 @fnV P w K mg base CT false "_law_asked" "_law_asked" Qw f fd dV ["_law_office_here","_law_plan_here","_law_k","_law_worths_here","_law_door_worths","_law_handed","_law_found","_law_due","_law_state","_law_last","_law_row","_law_mean_here"] ["_law_office_here","_law_plan_here","_law_k","_law_worths_here","_law_door_worths"] 6 QjW F QcO fun cdv A outer s H E G hr=>
  (Qf (Qy (i:=5) QcO.nd rfl (oi Qcr) (Qda (Qc (DF.de (QhY QhL z_list (Qb 3 rfl (oi QaI)))) (Qc (DF.de (QhY QhL z_list (Qb 4 rfl (oi QaJ)))) Qg)))) (Qf (Qy (i:=6) QcO.nd rfl (oi Qbx) (de_f QOZ (hr.mono (by decide)) (Qc (Qb 0 rfl (oi Qjk)) (Qc (Qb 2 rfl (oi QdM)) (Qc (de_ix (Qb 5 rfl (oi Qcr)) (DE.db Qe)) (Qc (de_ix (Qb 5 rfl (oi Qcr)) (DE.db Qe)) Qg)))) QuY)) (Qf (Qy (i:=7) QcO.nd rfl (oi Qb7) (de_f QGk (hr.mono (by decide)) (Qc (Qb 1 rfl (oi Qc6)) (Qc (Qb 2 rfl (oi QdM)) (Qc (Qb 3 rfl (oi QaI)) (Qc (Qb 4 rfl (oi QaJ)) Qg)))) Qor)) (Qf (ds_if (DW.dt (dw_or (Qap (Qav (QcZ "list" QmR QhL z_list PyProof.Rows.Boot.«list» Qpo z_isinstance (DE.db (Qb 6 rfl (oi Qbx)))))) (dw_or (dt_ne hr.units (DE.db (Qaz Qf1 z_len (Qs (DE.db (Qb 6 rfl (oi Qbx))) Qx))) (DE.db (Qaz Qf1 z_len (Qs (DE.db (Qb 7 rfl (oi Qb7))) Qx)))) (Qga (dt_ne hr.units (DE.db (Qb 5 rfl (oi Qcr))) (DE.db (Qda (Qc (Qb 3 rfl (oi QaI)) (Qc (Qb 4 rfl (oi QaJ)) Qg))))))))) (Qh (QD de_bl)) QY) (Qf (Qcl PassesOwn.never rfl (QaX Qvc z_range (DE.db (Qaz Qf1 z_len (Qs (DE.db (Qb 7 rfl (oi Qb7))) Qx)))) (QB (i:=8) QcO.nd rfl (oi QdZ)) (Qu _) (Qh (ds_if (Qap (Qav (de_f QK8 (hr.mono (by decide)) (Qc (de_ix (Qb 6 rfl (oi Qbx)) (DE.db (Qb 8 rfl (oi QdZ)))) (Qc (de_ix (Qb 7 rfl (oi Qb7)) (DE.db (Qb 8 rfl (oi QdZ)))) Qg)) Qqb))) (Qh (QD de_bl)) QY))) (Qf (Qy (i:=9) QcO.nd rfl (oi QeS) (QcN (DE.db (Qaz Qf1 z_len (Qs (DE.db (Qb 7 rfl (oi Qb7))) Qx))) (DE.db Qe))) (Qf (Qy (i:=10) QcO.nd rfl (oi Qiy) (de_f QdU (hr.mono (by decide)) (Qc (Qb 1 rfl (oi Qc6)) (Qc (Qb 2 rfl (oi QdM)) (Qc (Qb 9 rfl (oi QeS)) (Qc (Qb 3 rfl (oi QaI)) (Qc (Qb 4 rfl (oi QaJ)) Qg))))) Qlc)) (Qf (Qy (i:=11) QcO.nd rfl (oi Qfx) (de_f QqF (hr.mono (by decide)) (Qc (Qb 1 rfl (oi Qc6)) (Qc (Qb 2 rfl (oi QdM)) (Qc (Qb 3 rfl (oi QaI)) (Qc (Qb 4 rfl (oi QaJ)) Qg)))) QpR)) (Qh (QD (de_eq hr.units (DE.db (de_f QdP (hr.mono (by decide)) (Qc (de_ix (Qb 6 rfl (oi Qbx)) (DE.db (Qb 9 rfl (oi QeS)))) (Qc (Qb 11 rfl (oi Qfx)) Qg)) QpS)) (DE.db (Qb 10 rfl (oi Qiy))))))))))))))
abbrev Qcb:Stmt:=top 71
theorem Qm0:Qo ["_law_script","_law_plan_here","_law_doors","_law_office_here","_law_cell_here","_law_some","_law_k"] ["_law_script"] (Qa Qcb):=⟨rfl,rfl,rfl,dk,rfl,dk,dk⟩
theorem Qlu:Lo Qcb "_law_script":=dk
theorem Qyw:Gl Qcb "_law_plan":=dk
theorem QhF:Lo Qcb "_law_doors":=dk
theorem QaP:Lo Qcb "_law_plan_here":=dk
theorem Qu8:Gl Qcb "_law_office":=dk
theorem Qha:Lo Qcb "_law_office_here":=dk
theorem QiB:Lo Qcb "_law_cell_here":=dk
theorem Qog:Gl Qcb "len":=dk
theorem QuT:Gl Qcb "_law_worths":=dk
theorem Qit:Lo Qcb "_law_some":=dk
theorem QIO:Gl Qcb "range":=dk
theorem QsP:Lo Qcb "_law_k":=dk
theorem QwQ:Gl Qcb "_law_asked":=dk
def QuC:SD->Out Fl:=(sIf (tNot' (tVal (eA (fun xs=>Qd7 (xs++[])) (aCons (eVar 3) (aCons (eVar 1) (aCons (eVar 6) (aCons (eSl (eVar 5) oNo (oSome (eA fLen (aCons (eVar 1) aNil)))) (aCons (eSl (eVar 5) (oSome (eA fLen (aCons (eVar 1) aNil))) oNo) aNil)))))))) (sRet (eC (.bl false))) sNil)
def QuH:SD->Out Fl:=(sSeq (sSet 5 (eA (fun xs=>Qdt (xs++[])) (aCons (eVar 4) (aCons (e2 dAdd (eA fLen (aCons (eVar 1) aNil)) (eVar 2)) aNil)))) (sFor (gN 6) (itR1 (eA fLen (aCons (eVar 1) aNil))) QuC))
def QCW:SD->Out Fl:=(sSeq (sUnp [1,2] (eA (fun xs=>Qfo (xs++[])) (aCons (eVar 0) aNil))) (sSeq (sSet 3 (eA (fun xs=>Qdl (xs++[])) (aCons (eVar 1) (aCons (eVar 2) aNil)))) (sSeq (sFor (gN 4) (itL (e2 dCat (eLst (aCons (eC (.int 0)) aNil)) (eSl (eVar 0) (oSome (eC (.int 11))) (oSome (eC (.int 19)))))) QuH) (sRet (eC (.bl true))))))
def QnY:List D->Out D:=bodyF false 1 7 QCW
theorem QSa(d0:D):QnY [d0]=(QCW [some (.k,d0),none,none,none,none,none,none]>>=retF false):=rfl
theorem QR9(F:FunV K "law" "law" Qcb f fd dV)(QKQ:DefOk P w K mg base CT "_law_plan" 3 false [] Qfo)(QEx:DefOk P w K mg base CT "_law_office" 8 true [] Qdl)(QEq:DefOk P w K mg base CT "_law_worths" 3 true [] Qdt)(QIH:DefOk P w K mg base CT "_law_asked" 7 false [] Qd7)(z_len:mg "len"=none)(z_range:mg "range"=none):FnOk P w K mg base CX0 9 f fd ["_law_script"] (SpD K CT false QnY):=
 @fnV P w K mg base CT false "law" "law" Qcb f fd dV ["_law_script","_law_plan_here","_law_doors","_law_office_here","_law_cell_here","_law_some","_law_k"] ["_law_script"] 8 QCW F Qm0 fun cdv A outer s H E G hr=>
  (Qf (QFF rfl (de_f QKQ (hr.mono (by decide)) (Qc (Qb 0 rfl (oi Qlu)) Qg) Qyw) (Qae (i:=1) Qm0.nd rfl (oi QaP) (Qae (i:=2) Qm0.nd rfl (oi QhF) Qex))) (Qf (Qy (i:=3) Qm0.nd rfl (oi Qha) (de_f QEx (hr.mono (by decide)) (Qc (Qb 1 rfl (oi QaP)) (Qc (Qb 2 rfl (oi QhF)) Qg)) Qu8)) (Qf (Qcl PassesOwn.never rfl (Qat (DF.de (QM7 (DF.de (QcK (Qc Qe Qg))) (DF.de (df_sl (Qb 0 rfl (oi Qlu)) (QuE (DE.db Qe)) (QuE (DE.db Qe))))))) (QB (i:=4) Qm0.nd rfl (oi QiB)) (Qu _) (Qf (Qy (i:=5) Qm0.nd rfl (oi Qit) (de_f QEq (hr.mono (by decide)) (Qc (Qb 4 rfl (oi QiB)) (Qc (Qbo (DE.db (Qaz Qog z_len (Qs (DE.db (Qb 1 rfl (oi QaP))) Qx))) (DE.db (Qb 2 rfl (oi QhF)))) Qg)) QuT)) (Qh (Qcl PassesOwn.never rfl (QaX QIO z_range (DE.db (Qaz Qog z_len (Qs (DE.db (Qb 1 rfl (oi QaP))) Qx)))) (QB (i:=6) Qm0.nd rfl (oi QsP)) (Qu _) (Qh (ds_if (Qap (Qav (de_f QIH (hr.mono (by decide)) (Qc (Qb 3 rfl (oi Qha)) (Qc (Qb 1 rfl (oi QaP)) (Qc (Qb 6 rfl (oi QsP)) (Qc (DF.de (df_sl (Qb 5 rfl (oi Qit)) QJq (QuE (DE.db (Qaz Qog z_len (Qs (DE.db (Qb 1 rfl (oi QaP))) Qx)))))) (Qc (DF.de (df_sl (Qb 5 rfl (oi Qit)) (QuE (DE.db (Qaz Qog z_len (Qs (DE.db (Qb 1 rfl (oi QaP))) Qx)))) QJq)) Qg))))) QwQ))) (Qh (QD de_bl)) QY)))))) (Qh (QD de_bl)))))
end
end My
set_option exponentiation.threshold 20000
namespace My
open PySem PySem.Spec L2 DL
local macro_rules | `(tactic| walk_at "g") => `(tactic| ((repeat (first | exact QRG | apply QRP));done))
local macro_rules | `(tactic| walk_at "s") => `(tactic| repeat (first | exact QNk | apply QNv))
local macro_rules | `(tactic| walk_at "all") => `(tactic| repeat (first | with_reducible exact QAU | (apply QBf;focus walk_at "s")))
local macro_rules | `(tactic| walk_at "cap") => `(tactic| repeat (first | exact c_nil | apply Qg5 | (apply c_k;focus walk_at "g") | (apply c_o;focus walk_at "g") | (apply c_l;focus walk_at "g") | (apply c_s;focus walk_at "g")))
local macro_rules | `(tactic| walk_at "b") => `(tactic| first | rfl | with_reducible assumption | (simp only[Bool.not_eq_true',Bool.not_eq_false',decide_eq_true_eq,decide_eq_false_iff_not,Bool.not_true,Bool.not_false];first | with_reducible assumption | omega) | (simp;done))
local macro_rules | `(tactic| walk_at "p") => `(tactic| first | decide | with_reducible assumption | omega)
local macro_rules | `(tactic| walk_at "l") => `(tactic| first | decide | with_reducible assumption | (simp only[List.length_map,List.length_cons,List.length_nil,List.length_range,List.length_append];omega) | omega | (simp;omega))
local macro_rules | `(tactic| walk_at "e") => `(tactic| first
 | ((with_reducible apply r_id);with_reducible assumption)
 | with_reducible exact r_okR | with_reducible exact QPU
 | with_reducible apply r_var | with_reducible apply r_varB | with_reducible exact r_C | with_reducible exact r_nil | with_reducible exact r_oNo | with_reducible exact QRS | with_reducible exact QPb
 | with_reducible exact Qbs _ _ | with_reducible exact Qcd _ _ | with_reducible exact QbL _ | with_reducible exact Qbt _ | with_reducible exact QaM _ _ | with_reducible exact QbM _ _ | with_reducible exact Qc0 _ _ | with_reducible exact Qcm _ _ | with_reducible exact QC _ _ | with_reducible exact QaY _ _
 | with_reducible exact Qrp (by walk_at "p")
 | with_reducible exact r_rt | with_reducible exact r_rtT | with_reducible exact r_rtS rfl
 | with_reducible apply QRW
 | with_reducible exact QNk | with_reducible apply QNv
 | with_reducible exact QRV | with_reducible apply QRD
 | with_reducible exact QAU | with_reducible apply QBf
 | with_reducible exact c_nil | with_reducible apply Qg5 | ((with_reducible apply c_k);focus walk_at "g") | ((with_reducible apply c_o);focus walk_at "g") | ((with_reducible apply c_l);focus walk_at "g") | ((with_reducible apply c_s);focus walk_at "g")
 | ((with_reducible apply r_scal);exact rfl)
 | ((with_reducible apply r_get);focus walk_at "g")
 | ((with_reducible apply QRB);with_reducible assumption)
 | ((with_reducible apply QRh);focus walk_at "p") | with_reducible apply QQJ | with_reducible apply bd_sub | with_reducible apply Qkk | with_reducible apply QtJ | with_reducible apply QMs | with_reducible exact QsV rfl
 | ((with_reducible apply r_dec);focus exact rfl)
 | ((with_reducible apply r_len);focus walk_at "l")
 | with_reducible apply r_mul
 | ((with_reducible apply QQv);focus walk_at "p")
 | ((with_reducible apply QRu);focus walk_at "b")
 | ((with_reducible apply QQ1);focus walk_at "b")
 | with_reducible apply QQL | with_reducible apply r_e2 | with_reducible apply r_e1 | with_reducible apply r_seq | with_reducible apply r_set | with_reducible apply QRN | with_reducible apply r_if | with_reducible apply Qts | with_reducible apply QQN | with_reducible apply QRp | with_reducible apply r_or' | with_reducible apply QRg | with_reducible apply QRk | with_reducible apply r_eOr | with_reducible apply r_eNot | with_reducible apply r_eIf | with_reducible apply r_isa | with_reducible apply QO6 | with_reducible apply QR3 | with_reducible apply r_ret | with_reducible apply QQI | with_reducible apply r_drop | with_reducible apply r_tup | with_reducible apply r_lst | with_reducible apply r_scalar | with_reducible apply r_nonScal | with_reducible apply r_noX | with_reducible apply QO1 | with_reducible apply QRs | with_reducible apply r_gN | with_reducible apply r_gT | with_reducible apply r_unp | with_reducible apply r_for | with_reducible apply r_itL | with_reducible apply r_itT | with_reducible apply r_itE | with_reducible apply r_itZ | with_reducible apply QQQ | with_reducible apply r_eA | with_reducible apply r_sl | with_reducible apply r_slB | with_reducible apply r_ixO | with_reducible apply r_meth | with_reducible apply QRe | with_reducible apply r_app | with_reducible apply r_put | with_reducible apply QaH | with_reducible apply QJr | with_reducible apply QR2 | with_reducible apply QOO | with_reducible apply r_lm)
abbrev CK:List Str:=Qd
theorem QD8{c:Str}(h:CK.contains c=true):Qj.contains c=true:=by
 have hm:c∈Qd:=by simpa using h
 simp only[Qd,List.mem_cons,List.not_mem_nil,or_false]at hm
 rcases hm with rfl | rfl | rfl | rfl<;>decide +kernel
def dl(r:List Int):D:=.lst (r.map .int)
def tbD(t:List (List Int)):D:=.lst (t.map dl)
theorem QvT{js:List (Option Nat)}{its:SD->Out (List D)}{g:D->SD->Out SD}{e:SD->Out D}{ς:SD}{xs:List D}{h:D->D}(hi:its ς=.ok xs)(ht:∀ x∈xs,turnC js g cTrue e ς x=.ok (some (h x)))(hl:xs.length<=1000):
 eComp js its g cTrue e ς=.ok (.lst (xs.map h)):=by
 unfold eComp
 rw[hi,Out.bind_ok,QFh (h:=fun x=>some (h x)) ht,Out.bind_ok]
 have e:xs.filterMap (fun x=>some (h x))=xs.map h:=by rw[← List.filterMap_eq_map];rfl
 rw[e,if_pos (Qp6 (by rw[List.length_map];exact hl))]
theorem Qv6{js:List (Option Nat)}{its:SD->Out (List D)}{e:SD->Out D}{ς:SD}{a b:List Int}(f:Int->Int->Int)(hi:its ς=.ok (List.zipWith (fun x y=>.tup [x,y]) (a.map .int) (b.map .int)))
 (ht:∀ x∈a,∀ y∈b,turnC js (gT [0,1]) cTrue e ς (.tup [.int x,.int y])=.ok (some (.int (f x y)))) (hl:a.length<=1000):eComp js its (gT [0,1]) cTrue e ς=.ok (dl (List.zipWith f a b)):=by
 have hz:List.zipWith (fun x y=>D.tup [x,y]) (a.map .int) (b.map .int)=(List.zip a b).map fun p=>D.tup [.int p.1,.int p.2]:=by
  rw[List.zipWith_map,List.map_zip_eq_zipWith]
  rfl
 rw[QvT (h:=fun d=>match d with | .tup [.int x,.int y]=>.int (f x y) | _=>.non) (by rw[hi,hz]) ?_ ?_]
 ·unfold dl
  rw[List.map_map,List.map_zipWith,List.map_zip_eq_zipWith]
  rfl
 ·intro x hx
  obtain⟨⟨p,q⟩,hp,rfl⟩:=List.mem_map.mp hx
  exact ht p (List.of_mem_zip hp).1 q (List.of_mem_zip hp).2
 ·rw[List.length_map,List.length_zip]
  omega
theorem loopL{body:D->SD->Out Fl}{P:Nat->SD->Prop}:∀{xs:List D}(n:Nat),(∀ k x,xs[k]?=some x->∀ ς,P (n+k) ς->∃ ς',body x ς=.ok (.nx ς')/\P (n+k+1) ς')->∀ ς,P n ς->∃ ς',loopD body xs ς=.ok (.nx ς')/\P (n+xs.length) ς'
 | [],n,_,ς,p=>⟨ς,rfl,p⟩
 | x::xs,n,h,ς,p=>by
  obtain⟨ς1,e1',p1⟩:=h 0 x rfl ς p
  obtain⟨ς2,e2',p2⟩:=loopL (xs:=xs) (n+1) (fun k y hy ς q=>by
   have:=h (k+1) y hy ς (by rw[show n+(k+1)=n+1+k by omega];exact q)
   rw[show n+(k+1)+1=n+1+k+1 by omega]at this
   exact this) ς1 p1
  refine⟨ς2,?_,by rw[List.length_cons,show n+(xs.length+1)=n+1+xs.length by omega];exact p2⟩
  rw[loopD,e1']
  exact e2'
def cs(t:List (List Int))(k j:Nat):Int:=((t.take k).map fun r=>r.getD j 0).sum
def pre(t:List (List Int))(m k:Nat):List Int:=(List.range m).map (cs t k)
theorem QNA{t:List (List Int)}{m k:Nat}{r:List Int}(hr:t[k]?=some r)(hm:r.length=m):List.zipWith (· + ·) (pre t m k) r=pre t m (k+1):=by
 apply List.ext_getElem?
 intro j
 unfold pre
 rw[List.getElem?_zipWith,List.getElem?_map,List.getElem?_map]
 by_cases hj:j<m
 ·have h1:(List.range m)[j]?=some j:=by simp[hj]
  have h2:r[j]?=some r[j]:=by simp[hm,hj]
  rw[h1,h2]
  show some (cs t k j+r[j])=some (cs t (k+1) j)
  unfold cs
  rw[List.take_add_one,hr]
  simp[hm,hj,List.getD_eq_getElem?_getD]
 ·have h1:(List.range m)[j]?=none:=by simp;omega
  rw[h1];rfl
theorem QOE(t:List (List Int))(m:Nat):pre t m 0=List.replicate m 0:=by
 unfold pre
 rw[List.eq_replicate_iff]
 refine⟨by simp,fun x hx=>?_⟩
 obtain⟨j,_,rfl⟩:=List.mem_map.mp hx
 rfl
structure Tb(t:List (List Int))(m:Nat):Prop where
 n1:1<=t.length
 n2:t.length<=12
 m6:m<=6
 row:∀ r∈t,r.length=m
 ent:∀ r∈t,∀ x∈r,0<=x/\x<=9
theorem QP3{a b:List Int}(hl:a.length<=1000):QeV [dl a,dl b]=.ok (dl (List.zipWith (· + ·) a b)):=by
 have h:=Qv6 (js:=[none,none]) (its:=itZ (eVar 0) (eVar 1)) (e:=Qvz) (ς:=[some (.k,dl a),some (.k,dl b)]) (a:=a) (b:=b) (· + ·) rfl (fun x _ y _=>rfl) hl
 rw[QMe]
 unfold QnQ sRetF
 rw[h];rfl
def hdD(t:List (List Int))(m:Nat)(k:Nat):D:=.lst ((List.range (k+1)).map fun i=>dl (pre t m i))
theorem QKi{t:List (List Int)}{m:Nat}(h:Tb t m):Qbc [tbD t]=.ok (hdD t m t.length):=by
 obtain⟨n1,n2,m6,row,_⟩:=h
 have r0:t[0]?=some t[0]:=by simp
 have hr0:(t[0]).length=m:=row _ (List.getElem_mem _)
 have hix:dIx (tbD t) (.int 0)=.ok (dl t[0]):=ixL 0 (by rw[List.getElem?_map,r0];rfl)
 have hc:eComp [none] (itL (e2 dIx (eVar 0) (eC (.int 0)))) (gN 0) cTrue QhH [some (.k,tbD t),none,none]=.ok (dl (pre t m 0)):=by
  rw[QvT (xs:=(t[0]).map .int) (h:=fun _=>.int 0) (by simp only[itL,e2,eVar,eC,Out.bind_ok,List.getElem?_cons_zero,hix];rfl) (fun x _=>rfl) (by rw[List.length_map];omega)]
  rw[QOE,List.map_map]
  unfold dl
  congr 2
  rw[List.map_replicate]
  exact List.eq_replicate_iff.mpr ⟨by simp[hr0],fun x hx=>by obtain⟨_,_,rfl⟩:=List.mem_map.mp hx;rfl⟩
 obtain⟨ς',hL,a2,rfl⟩:=loopL (body:=fun x ς=>gN 2 x ς>>=fun ς'=>Qdv ς') (xs:=t.map dl) (P:=fun k ς=>∃ a2,ς=[some (.k,tbD t),some (.o,hdD t m k),a2]) 0
  (by
   rintro k x hx ς ⟨a2,rfl⟩
   rw[Nat.zero_add]at *
   rw[List.getElem?_map]at hx
   cases ht:t[k]? with
   | none=>rw[ht]at hx;cases hx
   | some r=>
    rw[ht]at hx
    cases hx
    have hk:k<t.length:=(List.getElem?_eq_some_iff.mp ht).1
    have hrm:r.length=m:=row r (List.mem_of_getElem? ht)
    have hl:(pre t m k).length=m:=by simp[pre]
    have s:=QP3 (a:=pre t m k) (b:=r) (by omega)
    rw[QNA ht hrm]at s
    have hat:atI ((List.range (k+1)).map fun i=>dl (pre t m i)) (-1)=some (dl (pre t m k)):=by
     unfold atI ixN
     simp
     rw[if_pos (by omega),show((-1:Int)+((k:Int)+1)).toNat=k by omega]
     simp
    refine⟨[some (.k,tbD t),some (.o,hdD t m (k+1)),some (.k,dl r)],?_,_,rfl⟩
    have e1':eIxO 1 (e1 dNeg (eC (.int 1))) [some (.k,tbD t),some (.o,hdD t m k),some (.k,dl r)]=.ok (dl (pre t m k)):=by
     unfold eIxO hdD
     simp only[List.getElem?_cons_succ,List.getElem?_cons_zero,e1,eC,Out.bind_ok,QbL,hat];rfl
    have hlt:decide (((List.range (k+1)).map fun i=>dl (pre t m i)).length<sizeLine)=true:=by
     have:(1000:Nat)<=sizeLine:=by decide
     rw[List.length_map,List.length_range]
     exact decide_eq_true (by omega)
    have hnext:((List.range (k+1)).map fun i=>dl (pre t m i))++[dl (pre t m (k+1))]=(List.range (k+1+1)).map fun i=>dl (pre t m i):=by
     rw[List.range_succ (n:=k+1),List.map_append];rfl
    show Qdv [some (.k,tbD t),some (.o,hdD t m k),some (.k,dl r)]=_
    unfold Qdv QbN
    simp only[List.getElem?_cons_succ,List.getElem?_cons_zero,hdD]
    have e3':eA (fun xs=>QeV (xs++[])) (aCons (eIxO 1 (e1 dNeg (eC (.int 1)))) (aCons (eVar 2) aNil)) [some (.k,tbD t),some (.o,hdD t m k),some (.k,dl r)]=.ok (dl (pre t m (k+1))):=by
     simp only[eA,aCons,aNil,e1',eVar,Out.bind_ok,List.getElem?_cons_succ,List.getElem?_cons_zero,List.append_nil,s]
    rw[show(D.lst ((List.range (k+1)).map fun i=>dl (pre t m i)))=hdD t m k from rfl,e3',Out.bind_ok,if_pos hlt,hnext]
    rfl)
  [some (.k,tbD t),some (.o,hdD t m 0),none] ⟨_,rfl⟩
 rw[Nat.zero_add,List.length_map]at hL
 have hfor:=QbV (g:=gN 2) (its:=itL (eVar 0)) (T:=Qdv) (ς:=[some (.k,tbD t),some (.o,hdD t m 0),none]) (xs:=t.map dl) rfl hL
 rw[QzA]
 unfold QgE
 have hs:sSetO 1 (eLst (aCons (eComp [none] (itL (e2 dIx (eVar 0) (eC (.int 0)))) (gN 0) cTrue QhH) aNil)) [some (.k,tbD t),none,none]=.ok (.nx [some (.k,tbD t),some (.o,hdD t m 0),none]):=by
  simp only[sSetO,eLst,aCons,aNil,hc,Out.bind_ok,List.length_cons,List.length_nil,QaD,Nat.reduceAdd,Nat.reduceLeDiff,if_true];rfl
 simp only[sSeq,hs,Out.bind_ok,thenF,hfor]
 rfl
def ckF(t:List (List Int))(m:Nat):List (Str×D):=[("table",tbD t),("heads",hdD t m t.length)]
def ck(c:Str)(t:List (List Int))(m:Nat):D:=.ins c (ckF t m)
theorem QR1:(("heads":Str) == ("table":Str))=false:=dk
theorem QRo(t:List (List Int))(m:Nat):(ckF t m).lookup ("table":Str)=some (tbD t):=by
 unfold ckF;rw[List.lookup_cons,beq_self_eq_true]
theorem QQy(t:List (List Int))(m:Nat):(ckF t m).lookup ("heads":Str)=some (hdD t m t.length):=by
 unfold ckF;rw[List.lookup_cons,QR1,List.lookup_cons,beq_self_eq_true]
theorem QQj{n:Str}(h1:(n == ("table":Str))=false)(h2:(n == ("heads":Str))=false)(t:List (List Int))(m:Nat):(ckF t m).lookup n=none:=by
 unfold ckF;rw[List.lookup_cons,h1,List.lookup_cons,h2];rfl
theorem put_h(t:List (List Int))(m:Nat):putD "heads" (hdD t m t.length) [("table",tbD t)]=ckF t m:=by
 have:¬ (("table":Str)=("heads":Str)):=dk
 unfold putD
 rw[if_neg this];rfl
theorem QuM{c:Str}(hc:CK.contains c=true){t:List (List Int)}{m:Nat}(h:Tb t m):QO c [] [tbD t]=.ok (ckF t m):=by
 have hk:eComp [none] (itL (eVar 1)) (gN 0) cTrue QfO [some (.s,.ins c []),some (.k,tbD t)]=.ok (tbD t):=by
  rw[QvT (xs:=t.map dl) (h:=id) rfl ?_ (by rw[List.length_map];have:=h.n2;omega),List.map_id]
  ·rfl
  ·intro x hx
   obtain⟨r,_,rfl⟩:=List.mem_map.mp hx
   rfl
 have r1:=QKi h
 have hz:∀ n:Nat,n<10->(Qj.contains c&&decide (n<1000))=true:=fun n hn=>by rw[QD8 hc,Bool.true_and];exact decide_eq_true (by omega)
 have s1:sFldS Qj "table" 0 (eComp [none] (itL (eVar 1)) (gN 0) cTrue QfO) [some (.s,.ins c []),some (.k,tbD t)]=.ok (.nx [some (.s,.ins c [("table",tbD t)]),some (.k,tbD t)]):=by
  unfold sFldS
  rw[hk,Out.bind_ok]
  show(if (Qj.contains c&&decide (([]:List (Str×D)).length<1000))=true then _ else _)=_
  exact(if_pos (c:=(Qj.contains c&&decide (0<1000))=true) (hz 0 (by decide))).trans rfl
 have s2:sFldS Qj "heads" 0 (eA (fun xs=>Qbc (xs++[])) (aCons (eVar 1) aNil)) [some (.s,.ins c [("table",tbD t)]),some (.k,tbD t)]=.ok (.nx [some (.s,.ins c (ckF t m)),some (.k,tbD t)]):=by
  unfold sFldS
  have:eA (fun xs=>Qbc (xs++[])) (aCons (eVar 1) aNil) [some (.s,.ins c [("table",tbD t)]),some (.k,tbD t)]=.ok (hdD t m t.length):=by
   simp only[eA,aCons,aNil,eVar,Out.bind_ok,List.getElem?_cons_succ,List.getElem?_cons_zero,List.append_nil,r1]
  rw[this,Out.bind_ok]
  show(if (Qj.contains c&&decide ([(("table":Str),tbD t)].length<1000))=true then _ else _)=_
  refine(if_pos (c:=(Qj.contains c&&decide (1<1000))=true) (hz 1 (by decide))).trans ?_
  rw[put_h];rfl
 rw[Qvb]
 unfold Qeo
 simp only[sSeq,s1,QRX,Out.bind_ok,thenF,s2]
 simp only[Qgf,QuA,List.getElem?_cons_zero,if_true]
theorem Qfy{c:Str}(hc:CK.contains c=true){t:List (List Int)}{m:Nat}{n:Str}{mt:Str->List D->Out D}{O:SD->Out D}{A:SD->Out (List D)}{ς:SD}{xs:List D}(hO:O ς=.ok (ck c t m))(hA:A ς=.ok xs)(h1:(n == ("table":Str))=false)(h2:(n == ("heads":Str))=false):
 eMeth CK n mt O A ς=mt c (ck c t m::xs):=by
 unfold eMeth
 rw[hO,Out.bind_ok]
 show(if (CK.contains c&&((ckF t m).lookup n).isNone)=true then A ς>>=fun xs=>mt c (.ins c (ckF t m)::xs) else .stuck)=_
 simp only[QQj h1 h2,hc,Option.isNone_none,Bool.and_self,if_true,hA,Out.bind_ok]
 rfl
theorem fld_t{c:Str}(hc:CK.contains c=true)(t:List (List Int))(m:Nat):dFld Qj "table" (ck c t m)=.ok (tbD t):=by
 show(if Qj.contains c=true then optO ((ckF t m).lookup ("table":Str)) else .stuck)=_
 rw[if_pos (QD8 hc),QRo];rfl
theorem fld_h{c:Str}(hc:CK.contains c=true)(t:List (List Int))(m:Nat):dFld Qj "heads" (ck c t m)=.ok (hdD t m t.length):=by
 show(if Qj.contains c=true then optO ((ckF t m).lookup ("heads":Str)) else .stuck)=_
 rw[if_pos (QD8 hc),QQy];rfl
theorem Qoi{c:Str}(hc:CK.contains c=true)(t:List (List Int))(m:Nat):QA [ck c t m]=.ok (.int (t.length:Int)):=by
 have:fLen [tbD t]=.ok (.int (t.length:Int)):=by simp[fLen,tbD]
 simp only[Qz7,Qgu,sRet,eA,aCons,aNil,e1,eVar,List.getElem?_cons_zero,Out.bind_ok,fld_t hc,this]
 rfl
theorem per_m{c:Str}(hc:CK.contains c=true)(t:List (List Int))(m:Nat){ς:SD}(h:ς[0]?=some (some (.k,ck c t m))):eMeth CK "period" (fun _=>QA) (eVar 0) aNil ς=.ok (.int (t.length:Int)):=by
 rw[Qfy (c:=c) (t:=t) (m:=m) hc (xs:=[]) (by unfold eVar;rw[h]) rfl (dk) (dk)]
 exact Qoi hc t m
theorem hd_ix{t:List (List Int)}{m k:Nat}(hk:k<=t.length):dIx (hdD t m t.length) (.int (k:Int))=.ok (dl (pre t m k)):=ixL k (by rw[List.getElem?_map,List.getElem?_range (by omega)];rfl)
theorem QC3{c:Str}(hc:CK.contains c=true)(t:List (List Int))(m:Nat):QaE [ck c t m]=.ok (dl (pre t m t.length)):=by
 rw[QCt]
 unfold Qhs sRetF
 simp only[e1,e2,eVar,List.getElem?_cons_zero,Out.bind_ok,fld_h hc,per_m hc t m (ς:=[some (.k,ck c t m)]) rfl,hd_ix (Nat.le_refl _)]
 rfl
def sf(t:List (List Int))(x:Int)(j:Nat):Int:=x / (t.length:Int) * cs t t.length j+cs t (x % (t.length:Int)).toNat j
theorem QOR(f:Int->Int->Int)(t:List (List Int))(m a b:Nat):List.zipWith f (pre t m a) (pre t m b)=(List.range m).map fun j=>f (cs t a j) (cs t b j):=by
 unfold pre
 rw[List.zipWith_map,List.zipWith_self]
theorem QMt{c:Str}(hc:CK.contains c=true){t:List (List Int)}{m:Nat}(h:Tb t m){x:Int}(h0:0<=x)(hx:x.natAbs<2 ^ 4000)(hcs:∀ k j,(cs t k j).natAbs<2 ^ 100):QQ [ck c t m,.int x]=.ok (dl ((List.range m).map (sf t x))):=by
 have n1:=h.n1
 have hn:(0:Int)<(t.length:Int):=by omega
 have hb:big (t.length:Int)=true:=QFP (n:=10) (by have:=h.n2;show((t.length:Int)).natAbs<2 ^ 10;omega) (by decide)
 have fd:dFdiv (.int x) (.int (t.length:Int))=.ok (.int (x / (t.length:Int))):=QAS hn hb
 have md:dMod (.int x) (.int (t.length:Int))=.ok (.int (x % (t.length:Int))):=Qrp hn
 have r0:=Int.emod_nonneg x (show(t.length:Int)≠0 by omega)
 have r1:=Int.emod_lt_of_pos x hn
 have hr:((x % (t.length:Int)).toNat:Int)=x % (t.length:Int):=by omega
 have hix:=hd_ix (t:=t) (m:=m) (k:=(x % (t.length:Int)).toNat) (by omega)
 rw[hr]at hix
 have qb:(x / (t.length:Int)).natAbs<2 ^ 4000:=Nat.lt_of_le_of_lt (Int.natAbs_ediv_le_natAbs x _) hx
 have hcomp:=Qv6 (js:=[none,none,some 2]) (its:=itZ (eMeth CK "whole" (fun _=>QaE) (eVar 0) aNil) (eVar 3)) (e:=Qf2)
  (ς:=[some (.k,ck c t m),some (.k,.int x),some (.k,.int (x / (t.length:Int))),some (.k,dl (pre t m (x % (t.length:Int)).toNat))]) (a:=pre t m t.length) (b:=pre t m (x % (t.length:Int)).toNat) (fun w v=>x / (t.length:Int) * w+v)
  (by
   unfold itZ
   rw[Qfy (c:=c) (t:=t) (m:=m) hc (xs:=[]) rfl rfl (dk) (dk),QC3 hc t m]
   rfl)
  (by
   intro w hw v hv
   obtain⟨j,_,rfl⟩:=List.mem_map.mp hw
   have mm:dMul (.int (x / (t.length:Int))) (.int (cs t t.length j))=.ok (.int (x / (t.length:Int) * cs t t.length j)):=QJc (Qas qb) (Qas (hcs _ _)) (by decide)
   show(e2 dAdd (e2 dMul (eVar 2) (eVar 0)) (eVar 1) [some (.k,.int (cs t t.length j)),some (.k,.int v),some (.k,.int (x / (t.length:Int)))]>>=fun y=>Out.ok (some y))=_
   simp only[e2,eVar,List.getElem?_cons_succ,List.getElem?_cons_zero,Out.bind_ok,mm,Qbs])
  (by simp[pre];have:=h.m6;omega)
 rw[QOR]at hcomp
 rw[QnD]
 unfold Qcs
 simp only[sSeq,sSet,e1,e2,eVar,List.getElem?_cons_succ,List.getElem?_cons_zero,Out.bind_ok,thenF,per_m hc t m (ς:=[some (.k,ck c t m),some (.k,.int x),none,none]) rfl,fd,md,List.set_cons_succ,List.set_cons_zero,
  per_m hc t m (ς:=[some (.k,ck c t m),some (.k,.int x),some (.k,.int (x / (t.length:Int))),none]) rfl,fld_h hc,hix,sRetF,hcomp]
 rfl
theorem QOX{c:Str}(hc:CK.contains c=true){t:List (List Int)}{m:Nat}(h:Tb t m){s x:Int}(s0:0<=s)(x0:0<=x)(hs:s.natAbs<2 ^ 4000)(hx:(s+x).natAbs<2 ^ 4000)(hcs:∀ k j,(cs t k j).natAbs<2 ^ 100):
 QcR [ck c t m,.int s,.int x]=.ok (dl ((List.range m).map fun j=>sf t (s+x) j - sf t s j)):=by
 have f1':=QMt hc h (x:=s+x) (by omega) hx hcs
 have f2':=QMt hc h (x:=s) s0 hs hcs
 have g1:∀ ς:SD,ς[0]?=some (some (.k,ck c t m))->ς[1]?=some (some (.k,.int s))->ς[2]?=some (some (.k,.int x))->eMeth CK "sent_from_start" (fun _=>QQ) (eVar 0) (aCons (e2 dAdd (eVar 1) (eVar 2)) aNil) ς=.ok (dl ((List.range m).map (sf t (s+x)))):=fun ς h0 h1 h2=>by
  rw[Qfy (c:=c) (t:=t) (m:=m) hc (xs:=[.int (s+x)]) (by unfold eVar;rw[h0]) (by simp only[aCons,aNil,e2,eVar,h1,h2,Out.bind_ok,Qbs]) (dk) (dk)]
  exact f1'
 have g2:∀ ς:SD,ς[0]?=some (some (.k,ck c t m))->ς[1]?=some (some (.k,.int s))->eMeth CK "sent_from_start" (fun _=>QQ) (eVar 0) (aCons (eVar 1) aNil) ς=.ok (dl ((List.range m).map (sf t s))):=fun ς h0 h1=>by
  rw[Qfy (c:=c) (t:=t) (m:=m) hc (xs:=[.int s]) (by unfold eVar;rw[h0]) (by simp only[aCons,aNil,eVar,h1,Out.bind_ok]) (dk) (dk)]
  exact f2'
 have hcomp:=Qv6 (js:=[none,none]) (its:=itZ (eVar 3) (eVar 4)) (e:=Qqc)
  (ς:=[some (.k,ck c t m),some (.k,.int s),some (.k,.int x),some (.k,dl ((List.range m).map (sf t (s+x)))),some (.k,dl ((List.range m).map (sf t s)))]) (a:=(List.range m).map (sf t (s+x))) (b:=(List.range m).map (sf t s)) (· - ·) rfl (fun _ _ _ _=>rfl) (by simp;have:=h.m6;omega)
 rw[List.zipWith_map,List.zipWith_self]at hcomp
 rw[QC1]
 unfold Qig
 simp only[sSeq,sSet,g1 [some (.k,ck c t m),some (.k,.int s),some (.k,.int x),none,none] rfl rfl rfl,Out.bind_ok,thenF,List.set_cons_succ,List.set_cons_zero,g2 [some (.k,ck c t m),some (.k,.int s),some (.k,.int x),some (.k,dl ((List.range m).map (sf t (s+x)))),none] rfl rfl,sRetF,hcomp]
 rfl
theorem cs_le{t:List (List Int)}{m:Nat}(h:Tb t m)(k j:Nat):0<=cs t k j/\cs t k j<=9 * (t.length:Int):=by
 have key:∀ l:List (List Int),(∀ r∈l,r∈t)->0<=(l.map fun r=>r.getD j 0).sum/\(l.map fun r=>r.getD j 0).sum<=9 * (l.length:Int):=by
  intro l
  induction l with
  | nil=>intro _;simp
  | cons r l ih=>
   intro hr
   have i1:=ih fun x hx=>hr x (List.mem_cons_of_mem _ hx)
   have h0:0<=r.getD j 0/\r.getD j 0<=9:=by
    rw[List.getD_eq_getElem?_getD]
    cases hx:r[j]? with
    | none=>decide
    | some x=>exact h.ent r (hr r (List.mem_cons_self ..)) x (List.mem_of_getElem? hx)
   rw[List.map_cons,List.sum_cons,List.length_cons]
   omega
 have:=key (t.take k) fun r hr=>List.mem_of_mem_take hr
 unfold cs
 have hl:(t.take k).length<=t.length:=by rw[List.length_take];omega
 omega
theorem QNP{t:List (List Int)}{m:Nat}(h:Tb t m)(k j:Nat):(cs t k j).natAbs<2 ^ 100:=by
 have:=cs_le h k j
 have:=h.n2
 omega
theorem QMR(i:Int):QbK [.int i]=.ok (.bl true):=by
 rw[QJY];simp[Qh9,bodyF,retF,sSeq,thenF,sSet,sRet,sIf,sNil,eVar,eC,e1,e2,eA,f1,aNil,aCons,tVal,tAnd',tOr',tNot',eAnd,eOr,eNot,eIf,eTup,eLst,eIsa,isaT,QaL,oNo,oSome,sPar,sUnp,Q3,gN,gT,fLen,QaD,Out.bind_ok,Out.bind_exc,Out.bind_stuck,Out.pure_eq,D.scal,Qbs,Qcd,QbL,Qbt,QaM,QbM,Qc0,Qcm,QC,QaY,List.length_cons,List.length_nil,List.map_cons,List.map_nil,List.cons_append,List.nil_append,List.append_nil,List.getElem?_cons_zero,List.getElem?_cons_succ,List.set_cons_zero,List.set_cons_succ,List.replicate,Nat.reduceAdd,Nat.reduceSub,Nat.reduceLeDiff,Nat.zero_add,Nat.add_zero,reduceIte,Bool.not_true,Bool.not_false,Bool.true_and,Bool.and_true,Bool.false_and,Bool.and_false,Bool.or_true,Bool.true_or,Bool.or_false,Bool.false_or,Bool.false_eq_true,decide_true,decide_false,decide_eq_true_eq,Bool.not_eq_true',decide_eq_false_iff_not,Int.reduceEq,Int.reduceLT,Int.reduceLE,Int.reduceNeg,Nat.reduceEqDiff, ↓reduceIte,not_true_eq_false,not_false_eq_true]
theorem Qn5{i a b:Int}(h1:a<=i)(h2:i<=b):QaV [.int i,.int a,.int b]=.ok (.bl true):=by
 have hw:=QMR i
 have e1':decide (a<=i)=true:=decide_eq_true h1
 have e2':decide (i<=b)=true:=decide_eq_true h2
 rw[QH9]
 simp[QjZ,bodyF,retF,sSeq,thenF,sSet,sRet,sIf,sNil,eVar,eC,e1,e2,eA,f1,aNil,aCons,tVal,tAnd',tOr',tNot',eAnd,eOr,eNot,eIf,eTup,eLst,eIsa,isaT,QaL,oNo,oSome,sPar,sUnp,Q3,gN,gT,fLen,QaD,Out.bind_ok,Out.bind_exc,Out.bind_stuck,Out.pure_eq,D.scal,Qbs,Qcd,QbL,Qbt,QaM,QbM,Qc0,Qcm,QC,QaY,List.length_cons,List.length_nil,List.map_cons,List.map_nil,List.cons_append,List.nil_append,List.append_nil,List.getElem?_cons_zero,List.getElem?_cons_succ,List.set_cons_zero,List.set_cons_succ,List.replicate,Nat.reduceAdd,Nat.reduceSub,Nat.reduceLeDiff,Nat.zero_add,Nat.add_zero,reduceIte,Bool.not_true,Bool.not_false,Bool.true_and,Bool.and_true,Bool.false_and,Bool.and_false,Bool.or_true,Bool.true_or,Bool.or_false,Bool.false_or,Bool.false_eq_true,decide_true,decide_false,decide_eq_true_eq,Bool.not_eq_true',decide_eq_false_iff_not,Int.reduceEq,Int.reduceLT,Int.reduceLE,Int.reduceNeg,Nat.reduceEqDiff, ↓reduceIte,not_true_eq_false,not_false_eq_true,hw,Qf5,h1,h2]
theorem QFt{r:List Int}(hl:r.length<=6)(h:∀ x∈r,0<=x/\x<=9):Qe8 [dl r]=.ok (.bl true):=by
 have hlen:fLen [dl r]=.ok (.int (r.length:Int)):=by simp[fLen,dl]
 have hc:eComp [none] (itL (eVar 0)) (gN 0) cTrue QrE [some (.k,dl r)]=.ok (.lst (r.map fun _=>D.bl true)):=by
  refine QaO D.int (fun _=>.bl true) rfl (fun x hx=>?_) (by omega)
  have hw:=Qn5 (h x hx).1 (h x hx).2
  refine QaH (by walk_at "cap") (by walk_at "s") ?_
  unfold QrE
  (repeat walk_at "e")
 have ha:fAll (.lst (r.map fun _=>D.bl true))=.ok (.bl true):=by rw[Qws (fun _=>true)];simp
 have hf:f1 fAll [.lst (r.map fun _=>D.bl true)]=.ok (.bl true):=ha
 have hi:isaT "list" (dl r)=.ok true:=by simp[isaT,dl,QaL]
 have hg:decide ((6:Int)<(r.length:Int))=false:=decide_eq_false (by omega)
 rw[QNW]
 unfold QqW
 (repeat walk_at "e")
theorem QLt{t:List (List Int)}{m:Nat}(h:Tb t m):Qfl [tbD t]=.ok (.bl true):=by
 obtain⟨n1,n2,m6,row,ent'⟩:=h
 have hlen:fLen [tbD t]=.ok (.int (t.length:Int)):=by simp[fLen,tbD]
 have hc:eComp [none] (itL (eVar 0)) (gN 0) cTrue Qnu [some (.k,tbD t)]=.ok (.lst (t.map fun _=>D.bl true)):=by
  refine QaO dl (fun _=>.bl true) rfl (fun x hx=>?_) (by omega)
  have hw:=QFt (r:=x) (by rw[row x hx];exact m6) (ent' x hx)
  refine QaH (by walk_at "cap") (by walk_at "s") ?_
  unfold Qnu
  (repeat walk_at "e")
 have r0:t[0]?=some t[0]:=by simp
 have hr0:(t[0]).length=m:=row _ (List.getElem_mem _)
 have hix0:dIx (tbD t) (.int 0)=.ok (dl t[0]):=ixL 0 (by rw[List.getElem?_map,r0];rfl)
 have hl0:fLen [dl t[0]]=.ok (.int (m:Int)):=by simp[fLen,dl,hr0]
 have hc2:eComp [none,some 0] (itL (eVar 0)) (gN 0) cTrue Qmk [some (.k,tbD t)]=.ok (.lst (t.map fun _=>D.bl true)):=by
  refine QaO dl (fun _=>.bl true) rfl (fun x hx=>?_) (by omega)
  have hlx:fLen [dl x]=.ok (.int (m:Int)):=by simp[fLen,dl,row x hx]
  have he:dEq (.int (m:Int)) (.int (m:Int))=.ok (.bl true):=by rw[QC];simp
  refine QaH (by walk_at "cap") (by walk_at "s") ?_
  unfold Qmk
  (repeat walk_at "e")
 have ha:fAll (.lst (t.map fun _=>D.bl true))=.ok (.bl true):=by rw[Qws (fun _=>true)];simp
 have hf:f1 fAll [.lst (t.map fun _=>D.bl true)]=.ok (.bl true):=ha
 have hi:isaT "list" (tbD t)=.ok true:=by simp[isaT,tbD,QaL]
 have hg:decide ((1:Int)<=(t.length:Int))=true:=decide_eq_true (by omega)
 have hg2:decide ((t.length:Int)<=12)=true:=decide_eq_true (by omega)
 rw[QKT]
 unfold QlZ
 (repeat walk_at "e")
theorem QMM{c:Str}(hc:CK.contains c=true){t:List (List Int)}{m:Nat}(h:Tb t m):Qej c [] [tbD t]=.ok (ckF t m):=by
 have h1:=QLt h
 have h2:=QuM hc h
 rw[QIi]
 unfold QjO
 (repeat walk_at "e")
theorem QLT{c:Str}(hc:CK.contains c=true){r:List Int}{m:Nat}(h:Tb [r] m):Qei c [] [dl r]=.ok (ckF [r] m):=by
 have h1:=QFt (r:=r) (by rw[h.row r (by simp)];exact h.m6) (h.ent r (by simp))
 have h2:QO c [] [.lst [dl r]]=.ok (ckF [r] m):=QuM hc h
 rw[QGK]
 unfold QjH
 (repeat walk_at "e")
def one(n s:Nat):List Int:=(List.range n).map fun k=>if k=s then 1 else 0
def dealT(n:Nat):List (List Int):=(List.range n).map (one n)
def bunT(n:Nat):List (List Int):=(List.range n).map fun s=>[if s+1=n then 1 else 0]
theorem QLM{n s:Nat}(h:n<=100):Qdw [.int n,.int s]=.ok (dl (one n s)):=by
 have hc:eComp [none,some 1] (itR1 (eVar 0)) (gN 0) cTrue Qjn [some (.k,.int n),some (.k,.int s)]=.ok (.lst ((List.range n).map fun k=>D.int (if k=s then 1 else 0))):=by
  refine Qjx (fun k=>D.int (if k=s then 1 else 0)) (QcM n rfl (by omega)) (fun k hk=>?_) (by omega)
  refine QaH (by walk_at "cap") (by walk_at "s") ?_
  unfold Qjn
  by_cases e:k=s
  ·have e':decide ((k:Int)=(s:Int))=true:=decide_eq_true (by omega)
   rw[if_pos e]
   (repeat walk_at "e")
  ·have e':decide ((k:Int)=(s:Int))=false:=decide_eq_false (by omega)
   rw[if_neg e]
   (repeat walk_at "e")
 have he:dl (one n s)=.lst ((List.range n).map fun k=>D.int (if k=s then 1 else 0)):=by unfold dl one;rw[List.map_map];rfl
 rw[he,QFJ]
 unfold Qij
 (repeat walk_at "e")
theorem QJj{n:Nat}(h1:1<=n)(h6:n<=6):Tb (dealT n) n:=by
 refine⟨by simp[dealT];omega,by simp[dealT];omega,h6,fun r hr=>?_,fun r hr x hx=>?_⟩<;>obtain⟨s,_,rfl⟩:=List.mem_map.mp hr
 ·simp[one]
 ·obtain⟨k,_,rfl⟩:=List.mem_map.mp hx
  split<;>decide
theorem QMi{n:Nat}(h1:1<=n)(h6:n<=12):Tb (bunT n) 1:=by
 refine⟨by simp[bunT];omega,by simp[bunT];omega,by decide,fun r hr=>?_,fun r hr x hx=>?_⟩<;>obtain⟨s,_,rfl⟩:=List.mem_map.mp hr
 ·simp
 ·rw[List.mem_singleton.mp hx]
  split<;>decide
theorem QMl{c:Str}(hc:CK.contains c=true){n:Nat}(n1:1<=n)(n6:n<=6):Qed c [] [.int n]=.ok (ckF (dealT n) n):=by
 have h1:=Qn5 (i:=n) (a:=1) (b:=6) (by omega) (by omega)
 have h2:=QuM hc (QJj n1 n6)
 have hc':eComp [none,some 1] (itR1 (eVar 1)) (gN 0) cTrue QkB [some (.s,.ins c []),some (.k,.int n)]=.ok (tbD (dealT n)):=by
  have he:tbD (dealT n)=.lst ((List.range n).map fun s=>dl (one n s)):=by unfold tbD dealT;rw[List.map_map];rfl
  rw[he]
  refine Qjx (fun s=>dl (one n s)) (QcM n rfl (by omega)) (fun k hk=>?_) (by omega)
  have hs:=QLM (n:=n) (s:=k) (by omega)
  refine QaH (by walk_at "cap") (by walk_at "s") ?_
  unfold QkB
  (repeat walk_at "e")
 rw[QG4]
 unfold QjJ
 (repeat walk_at "e")
theorem QNB{c:Str}(hc:CK.contains c=true){n:Nat}(n1:1<=n)(n6:n<=12):Qc4 c [] [.int n]=.ok (ckF (bunT n) 1):=by
 have h1:=Qn5 (i:=n) (a:=1) (b:=12) (by omega) (by omega)
 have h2:=QuM hc (QMi n1 n6)
 have hc':eComp [none,some 1] (itR1 (eVar 1)) (gN 0) cTrue Qia [some (.s,.ins c []),some (.k,.int n)]=.ok (tbD (bunT n)):=by
  have he:tbD (bunT n)=.lst ((List.range n).map fun s=>D.lst [.int (if s+1=n then 1 else 0)]):=by unfold tbD bunT;rw[List.map_map];rfl
  rw[he]
  refine Qjx (fun s=>D.lst [.int (if s+1=n then 1 else 0)]) (QcM n rfl (by omega)) (fun k hk=>?_) (by omega)
  refine QaH (by walk_at "cap") (by walk_at "s") ?_
  unfold Qia
  by_cases e:k+1=n
  ·have e':decide ((k:Int)=(n:Int) - 1)=true:=decide_eq_true (by omega)
   rw[if_pos e]
   (repeat walk_at "e")
  ·have e':decide ((k:Int)=(n:Int) - 1)=false:=decide_eq_false (by omega)
   rw[if_neg e]
   (repeat walk_at "e")
 rw[QBo]
 unfold Qhn
 (repeat walk_at "e")
abbrev rl(n:Nat)(f:Nat->D):D:=.lst ((List.range n).map f)
theorem atR{n i:Nat}{f:Nat->D}(h:i<n):((List.range n).map f)[i]?=some (f i):=by
 rw[List.getElem?_map,List.getElem?_range h];rfl
theorem ixR{n i:Nat}{f:Nat->D}(h:i<n):dIx (rl n f) (.int (i:Int))=.ok (f i):=ixL i (atR h)
theorem lenR(n:Nat)(f:Nat->D):fLen [rl n f]=.ok (.int (n:Int)):=by simp[fLen]
theorem QNY{n:Nat}{f g:Nat->D}(h:∀ i,i<n->f i=g i):rl n f=rl n g:=by
 show D.lst _=D.lst _
 rw[List.map_congr_left fun i hi=>h i (List.mem_range.mp hi)]
theorem Qru{body:D->SD->Out Fl}{P:Nat->SD->Prop}{f:Nat->D}{n:Nat}(h:∀ k:Nat,k<n->∀ ς,P k ς->∃ ς',body (f k) ς=.ok (.nx ς')/\P (k+1) ς')(ς:SD)(p0:P 0 ς):∃ ς',loopD body ((List.range n).map f) ς=.ok (.nx ς')/\P n ς':=by
 have go:∀ m k:Nat,k+m=n->∀ ς,P k ς->∃ ς',loopD body ((List.range' k m).map f) ς=.ok (.nx ς')/\P n ς':=by
  intro m
  induction m with
  | zero=>intro k hk ς p;exact⟨ς,rfl,by rw[← hk];exact p⟩
  | succ m ih=>
   intro k hk ς p
   obtain⟨ς1,e1',p1⟩:=h k (by omega) ς p
   obtain⟨ς2,e2',p2⟩:=ih (k+1) (by omega) ς1 p1
   refine⟨ς2,?_,p2⟩
   rw[List.range'_succ,List.map_cons,loopD,e1']
   exact e2'
 rw[List.range_eq_range']
 exact go n 0 (by omega) ς p0
def fr(x:Int×Int):D:=.tup [.int x.1,.int x.2]
theorem fr0(x:Int×Int):dIx (fr x) (.int 0)=.ok (.int x.1):=QPA _ _
theorem fr1(x:Int×Int):dIx (fr x) (.int 1)=.ok (.int x.2):=QQt _ _ _
theorem ixNR{n k:Nat}(hk:k<n)(f:Nat->D):ixN ((List.range n).map f).length (k:Int)=some k:=by
 rw[List.length_map,List.length_range]
 unfold ixN
 rw[if_pos (by omega),if_pos (by omega)];simp
theorem allR{n:Nat}{f:Nat->D}(h:∀ i,i<n->(f i).scal=true):((List.range n).map f).all D.scal=true:=List.all_eq_true.mpr fun d hd=>by
 obtain⟨i,hi,rfl⟩:=List.mem_map.mp hd
 exact h i (List.mem_range.mp hi)
theorem QDI:∀ xs:List Str,strsD (xs.map D.str)=some xs
 | []=>rfl
 | x::xs=>by show(strsD (xs.map D.str)).map (x :: ·)=_;rw[QDI xs];rfl
def Inj(xs:List Str):Prop:=∀ i j,i<xs.length->xs[i]?=xs[j]?->i=j
theorem QEP{xs:List Str}(h:Inj xs):∀ i,i<=xs.length->LS.met (fun i=>xs.getD i "") i=xs.take i
 | 0,_=>rfl
 | i+1,hi=>by
  have ih:=QEP h i (by omega)
  have hl:i<xs.length:=by omega
  have e:xs.getD i ""=xs[i]:=by rw[List.getD_eq_getElem?_getD,List.getElem?_eq_getElem hl];rfl
  have ni:¬ xs[i]∈xs.take i:=fun z=>by
   obtain⟨j,hj,ej⟩:=List.getElem_of_mem z
   rw[List.getElem_take]at ej
   rw[List.length_take]at hj
   have:=h i j (by omega) (by rw[List.getElem?_eq_getElem hl,List.getElem?_eq_getElem (show j<xs.length by omega),ej])
   omega
  show(if xs.getD i ""∈LS.met (fun i=>xs.getD i "") i then LS.met (fun i=>xs.getD i "") i else LS.met (fun i=>xs.getD i "") i++[xs.getD i ""])=_
  rw[ih,e,if_neg ni,List.take_add_one,List.getElem?_eq_getElem hl];rfl
theorem Qtk{xs:List Str}(h:Inj xs)(hl:xs.length<=1000):Qam [.lst (xs.map .str)]=.ok (.bl true):=by
 have hu:QzD (.lst (xs.map .str))=.ok (.int (xs.length:Int)):=by
  show(match strsD (xs.map .str) with | some xs=>if decide (xs.length<4000)=true then Out.ok (D.int (Qft xs)) else .stuck | none=>.stuck)=_
  rw[QDI]
  show(if decide (xs.length<4000)=true then Out.ok (D.int (Qft xs)) else .stuck)=_
  rw[if_pos (decide_eq_true (by omega))]
  unfold Qft
  rw[QEP h _ (Nat.le_refl _),List.take_length]
 have hlen:fLen [.lst (xs.map D.str)]=.ok (.int (xs.length:Int)):=by simp[fLen]
 have he:dEq (.int (xs.length:Int)) (.int (xs.length:Int))=.ok (.bl true):=by rw[QC];simp
 rw[QEg]
 unfold QiK
 (repeat walk_at "e")
theorem Qrf{n:Nat}{f:Nat->D}{M:Int}(h1:1<=n)(h2:(n:Int)<=M):Qco [rl n f,.int M]=.ok (.bl true):=by
 have hlen:=lenR n f
 have hi:isaT "list" (rl n f)=.ok true:=by simp[isaT,QaL]
 have g1:decide ((1:Int)<=(n:Int))=true:=decide_eq_true (by omega)
 have g2:decide ((n:Int)<=M)=true:=decide_eq_true h2
 have g3:dLe (.int (n:Int)) (.int M)=.ok (.bl true):=by rw[QbM,g2]
 rw[QLS]
 unfold Qoc
 (repeat walk_at "e")
theorem Qrn(n:Nat):f1 fAll [rl n (fun _=>.bl true)]=.ok (.bl true):=by
 show fAll (.lst ((List.range n).map fun _=>D.bl true))=_
 rw[Qws (fun _=>true)];simp
theorem Qua(n:Nat)(f:Nat->Str):(List.range n).map (fun i=>D.str (f i))=((List.range n).map f).map D.str:=by rw[List.map_map];rfl
theorem QOT{n:Nat}{f:Nat->Str}(h:∀ i j,i<n->j<n->f i=f j->i=j):Inj ((List.range n).map f):=by
 intro i j hi z
 rw[List.length_map,List.length_range]at hi
 rw[List.getElem?_map,List.getElem?_map,List.getElem?_range hi]at z
 by_cases hj:j<n
 ·rw[List.getElem?_range hj]at z
  exact h i j hi hj (Option.some.inj z)
 ·have h1:(List.range n)[j]?=none:=by simp;omega
  rw[h1]at z;cases z
structure Seats(n nd:Nat)(nm dn c:Nat->Str)(t:Nat->List (List Int))(m:Nat->Nat)(ld:Nat->Nat->Int)(st:Nat->Int):Prop where
 n1:1<=n
 n2:n<=60
 d1:1<=nd
 d2:nd<=6
 ck:∀ k,k<n->CK.contains (c k)=true
 tb:∀ k,k<n->Tb (t k) (m k)
 ldr:∀ k j,k<n->j<m k -> -(nd:Int)<=ld k j/\ld k j<(n:Int)
 str:∀ k,k<n->0<=st k/\st k<((t k).length:Int)
 isn:∀ k,k<n->Qa4 [.str (nm k)]=.ok (.bl true)
 isd:∀ d,d<nd->Qa4 [.str (dn d)]=.ok (.bl true)
 inj:∀ i j,i<n->j<n->nm i=nm j->i=j
 injd:∀ i j,i<nd->j<nd->dn i=dn j->i=j
 sep:∀ i d,i<n->d<nd->nm i≠dn d
def nml(nm dn:Nat->Str)(l:Int):Str:=if l<0 then dn (-1 - l).toNat else nm l.toNat
def seatD(nm dn c:Nat->Str)(t:Nat->List (List Int))(m:Nat->Nat)(ld:Nat->Nat->Int)(st:Nat->Int)(k:Nat):D:=
 .tup [.str (nm k),ck (c k) (t k) (m k),rl (m k) (fun j=>.str (nml nm dn (ld k j))),.int (st k)]
theorem ix_t{xs:List D}{d:D}(i:Nat)(h:xs[i]?=some d):dIx (.tup xs) (.int (i:Int))=.ok d:=by
 show optO (atI xs (i:Int))=_
 have hi:i<xs.length:=(List.getElem?_eq_some_iff.mp h).1
 have:atI xs (i:Int)=some d:=by
  unfold atI ixN
  rw[if_pos (by omega),if_pos (by omega)]
  simpa using h
 rw[this];rfl
theorem QN5{c:Str}(hc:CK.contains c=true)(t:List (List Int))(m:Nat):Qfc [ck c t m]=.ok (.bl true):=by
 have hm:c∈Qd:=by simpa using hc
 simp only[Qd,List.mem_cons,List.not_mem_nil,or_false]at hm
 have key:∀ c:Str,(c="Deal"∨c="Bundle"∨c="Copy"∨c="Rows")->anyT [[("Deal",true),("Bundle",false),("Copy",false),("Rows",false),("Office",false)],[("Deal",false),("Bundle",true),("Copy",false),("Rows",false),("Office",false)],[("Deal",false),("Bundle",false),("Copy",true),("Rows",false),("Office",false)],[("Deal",false),("Bundle",false),("Copy",false),("Rows",true),("Office",false)]] c=some true:=by
  rintro c (rfl | rfl | rfl | rfl)<;>decide +kernel
 have k:=key c hm
 rw[QJP]
 unfold Ql0
 show(sRet (eIsa (isaTs _) (eVar 0)) [some (.k,.ins c (ckF t m))]>>=retF false)=_
 have hi:isaTs [[("Deal",true),("Bundle",false),("Copy",false),("Rows",false),("Office",false)],[("Deal",false),("Bundle",true),("Copy",false),("Rows",false),("Office",false)],[("Deal",false),("Bundle",false),("Copy",true),("Rows",false),("Office",false)],[("Deal",false),("Bundle",false),("Copy",false),("Rows",true),("Office",false)]] (.ins c (ckF t m))=.ok true:=by
  show(match anyT _ c with | some b=>Out.ok b | none=>Out.stuck)=_
  rw[k]
 (repeat walk_at "e")
theorem QPZ{c:Str}(hc:CK.contains c=true){t:List (List Int)}{m:Nat}(h:Tb t m):QcL [ck c t m]=.ok (.int (m:Int)):=by
 have n1:=h.n1
 have r0:t[0]?=some t[0]:=by simp
 have hix:dIx (tbD t) (.int 0)=.ok (dl t[0]):=ixL 0 (by rw[List.getElem?_map,r0];rfl)
 have hl0:fLen [dl t[0]]=.ok (.int (m:Int)):=by simp[fLen,dl,h.row _ (List.getElem_mem _)]
 have hf:=fld_t hc t m
 rw[QER]
 unfold Qii
 (repeat walk_at "e")
theorem QN0{n:Nat}(hn:n<=100)(f:Nat->Str):Qd6 [rl n (fun j=>.str (f j)),.int (n:Int)]=.ok (.bl true):=by
 have hlen:=lenR n (fun j=>D.str (f j))
 have hi:isaT "list" (rl n (fun j=>D.str (f j)))=.ok true:=by simp[isaT,QaL]
 have hc:eComp [none] (itL (eVar 0)) (gN 0) cTrue QkJ [some (.k,rl n (fun j=>.str (f j))),some (.k,.int (n:Int))]=.ok (rl n (fun _=>.bl true)):=by
  refine QaO (fun j=>D.str (f j)) (fun _=>.bl true) rfl (fun j _=>?_) (by rw[List.length_range];omega)
  have hs:isaT "str" (D.str (f j))=.ok true:=by simp[isaT,QaL]
  refine QaH (by walk_at "cap") (by walk_at "s") ?_
  unfold QkJ
  (repeat walk_at "e")
 have he:dEq (.int (n:Int)) (.int (n:Int))=.ok (.bl true):=by rw[QC];simp
 have ha:=Qrn n
 rw[QHu]
 unfold Qj0
 (repeat walk_at "e")
theorem QP1:Qa4 [.str "in"]=.ok (.bl true):=by with_unfolding_all rfl
section
variable{n nd:Nat}{nm dn c:Nat->Str}{t:Nat->List (List Int)}{m:Nat->Nat}{ld:Nat->Nat->Int}{st:Nat->Int}(hs:Seats n nd nm dn c t m ld st)
include hs
theorem QNU:Qd0 [rl nd (fun d=>.str (dn d)),.int 6]=.ok (.bl true):=by
 have d2:=hs.d2
 have h1:=Qrf (n:=nd) (f:=fun d=>.str (dn d)) (M:=6) hs.d1 (by omega)
 have hc:eComp [none] (itL (eVar 0)) (gN 0) cTrue Qkx [some (.k,rl nd (fun d=>.str (dn d))),some (.k,.int 6)]=.ok (rl nd (fun _=>.bl true)):=by
  refine QaO (fun d=>D.str (dn d)) (fun _=>.bl true) rfl (fun d hd=>?_) (by rw[List.length_range];omega)
  have h:=hs.isd d (List.mem_range.mp hd)
  refine QaH (by walk_at "cap") (by walk_at "s") ?_
  unfold Qkx
  (repeat walk_at "e")
 have ha:=Qrn nd
 have hu:Qam [rl nd (fun d=>.str (dn d))]=.ok (.bl true):=by
  show Qam [.lst _]=_
  rw[Qua]
  exact Qtk (QOT hs.injd) (by simp;omega)
 rw[QIr]
 unfold QjN
 (repeat walk_at "e")
theorem QOV{k:Nat}(hk:k<n):Qgp [seatD nm dn c t m ld st k]=.ok (.bl true):=by
 have tb:=hs.tb k hk
 have hc:=hs.ck k hk
 have m6:=tb.m6
 obtain⟨s0,s1⟩:=hs.str k hk
 have hi:isaT "tuple" (seatD nm dn c t m ld st k)=.ok true:=by simp[isaT,QaL,seatD]
 have hl:fLen [seatD nm dn c t m ld st k]=.ok (.int 4):=by simp[fLen,seatD]
 have x0:dIx (seatD nm dn c t m ld st k) (.int 0)=.ok (.str (nm k)):=ix_t 0 rfl
 have x1:dIx (seatD nm dn c t m ld st k) (.int 1)=.ok (ck (c k) (t k) (m k)):=ix_t 1 rfl
 have x2:dIx (seatD nm dn c t m ld st k) (.int 2)=.ok (rl (m k) (fun j=>.str (nml nm dn (ld k j)))):=ix_t 2 rfl
 have x3:dIx (seatD nm dn c t m ld st k) (.int 3)=.ok (.int (st k)):=ix_t 3 rfl
 have h0:=hs.isn k hk
 have h1:=QN5 hc (t k) (m k)
 have h2:=QN0 (n:=m k) (by omega) (fun j=>nml nm dn (ld k j))
 have h3:=Qn5 (i:=st k) (a:=0) (b:=((t k).length:Int) - 1) s0 (by omega)
 have mo:eMeth Qd "outs" (fun _=>QcL) (e2 dIx (eVar 0) (eC (.int 1))) aNil [some (.k,seatD nm dn c t m ld st k)]=.ok (.int (m k:Int)):=by
  rw[Qfy (c:=c k) (t:=t k) (m:=m k) hc (xs:=[]) (by (repeat walk_at "e")) rfl (dk) (dk)]
  exact QPZ hc tb
 have mp:eMeth Qd "period" (fun _=>QA) (e2 dIx (eVar 0) (eC (.int 1))) aNil [some (.k,seatD nm dn c t m ld st k)]=.ok (.int ((t k).length:Int)):=by
  rw[Qfy (c:=c k) (t:=t k) (m:=m k) hc (xs:=[]) (by (repeat walk_at "e")) rfl (dk) (dk)]
  exact Qoi hc _ _
 have hne:dNe (.int 4) (.int 4)=.ok (.bl false):=by rw[QaY];rfl
 rw[QMb]
 unfold QnU
 (repeat walk_at "e")
theorem QOh:Qeg [rl n (seatD nm dn c t m ld st),rl nd (fun d=>.str (dn d))]=.ok (.bl true):=by
 have n2:=hs.n2
 have d2:=hs.d2
 have h1:=Qrf (n:=n) (f:=seatD nm dn c t m ld st) (M:=60) hs.n1 (by omega)
 have hc:eComp [none] (itL (eVar 0)) (gN 0) cTrue QkC [some (.k,rl n (seatD nm dn c t m ld st)),some (.k,rl nd (fun d=>.str (dn d)))]=.ok (rl n (fun _=>.bl true)):=by
  refine QaO (seatD nm dn c t m ld st) (fun _=>.bl true) rfl (fun k hk=>?_) (by rw[List.length_range];omega)
  have h:=QOV hs (List.mem_range.mp hk)
  refine QaH (by walk_at "cap") (by walk_at "s") ?_
  unfold QkC
  (repeat walk_at "e")
 have ha:=Qrn n
 have hn:eComp [none] (itL (eVar 0)) (gN 0) cTrue Qk7 [some (.k,rl n (seatD nm dn c t m ld st)),some (.k,rl nd (fun d=>.str (dn d)))]=.ok (rl n (fun k=>.str (nm k))):=by
  refine QaO (seatD nm dn c t m ld st) (fun k=>D.str (nm k)) rfl (fun k hk=>?_) (by rw[List.length_range];omega)
  have x0:dIx (seatD nm dn c t m ld st k) (.int 0)=.ok (.str (nm k)):=ix_t 0 rfl
  refine QaH (by walk_at "cap") (by walk_at "s") ?_
  unfold Qk7
  (repeat walk_at "e")
 have hcat:dCat (rl n (fun k=>.str (nm k))) (rl nd (fun d=>.str (dn d)))=.ok (.lst ((((List.range n).map nm)++((List.range nd).map dn)).map .str)):=by
  rw[QJy (by simp;omega),List.map_append, ← Qua, ← Qua]
 have hu:Qam [.lst ((((List.range n).map nm)++((List.range nd).map dn)).map .str)]=.ok (.bl true):=by
  refine Qtk ?_ (by simp;omega)
  intro i j hi z
  rw[List.length_append,List.length_map,List.length_map,List.length_range,List.length_range]at hi
  have at':∀ i,(((List.range n).map nm)++((List.range nd).map dn))[i]?=if i<n then some (nm i) else if i - n<nd then some (dn (i - n)) else none:=fun i=>by
   rw[List.getElem?_append,List.length_map,List.length_range]
   split
   ·rw[List.getElem?_map,List.getElem?_range (by assumption)];rfl
   ·split
    ·rw[List.getElem?_map,List.getElem?_range (by assumption)];rfl
    ·simp;omega
  rw[at',at']at z
  by_cases a:i<n
  ·rw[if_pos a]at z
   by_cases b:j<n
   ·rw[if_pos b]at z;exact hs.inj i j a b (Option.some.inj z)
   ·rw[if_neg b]at z
    by_cases d:j - n<nd
    ·rw[if_pos d]at z;exact absurd (Option.some.inj z) (hs.sep i _ a d)
    ·rw[if_neg d]at z;cases z
  ·rw[if_neg a,if_pos (show i - n<nd by omega)]at z
   by_cases b:j<n
   ·rw[if_pos b]at z;exact absurd (Option.some.inj z).symm (hs.sep j _ b (by omega))
   ·rw[if_neg b]at z
    by_cases d:j - n<nd
    ·rw[if_pos d]at z
     have:=hs.injd _ _ (by omega) d (Option.some.inj z)
     omega
    ·rw[if_neg d]at z;cases z
 rw[QGL]
 unfold QjI
 (repeat walk_at "e")
theorem QNI:dInL (.str (nm 0)) (rl n (fun k=>.str (nm k)))=.ok (.bl true):=by
 have n1:=hs.n1
 show(if (_&&((List.range n).map fun k=>D.str (nm k)).all D.scal)=true then Out.ok (D.bl (inV _ _)) else _)=_
 rw[if_pos (by rw[Bool.and_eq_true];exact⟨rfl,allR fun i _=>rfl⟩)]
 have:inV (toV (.str (nm 0))) (((List.range n).map fun k=>D.str (nm k)).map toV)=true:=by
  unfold inV
  rw[List.any_eq_true]
  refine⟨V.str (nm 0),?_,by show(nm 0 == nm 0)=true;exact beq_self_eq_true _⟩
  rw[List.map_map,List.mem_map]
  exact⟨0,List.mem_range.mpr (by omega),rfl⟩
 rw[this]
theorem QKE:Qc8 [.lst [.tup [.str "in",.str (nm 0)]],rl n (fun k=>.str (nm k))]=.ok (.bl true):=by
 have n1:=hs.n1
 have hin:=QP1
 have h0:=hs.isn 0 (by omega)
 have hL:=QNI hs
 have e1':Qe5 [.tup [.str "in",.str (nm 0)],rl n (fun k=>.str (nm k))]=.ok (.bl true):=by
  have hi:isaT "tuple" (.tup [.str "in",.str (nm 0)])=.ok true:=by simp[isaT,QaL]
  have hl:fLen [.tup [.str "in",.str (nm 0)]]=.ok (.int 2):=by simp[fLen]
  have x0:dIx (.tup [.str "in",.str (nm 0)]) (.int 0)=.ok (.str "in"):=ix_t 0 rfl
  have x1:dIx (.tup [.str "in",.str (nm 0)]) (.int 1)=.ok (.str (nm 0)):=ix_t 1 rfl
  have hne:dNe (.int 2) (.int 2)=.ok (.bl false):=by rw[QaY];rfl
  rw[QKO]
  unfold QlJ
  (repeat walk_at "e")
 have h1:Qco [.lst [.tup [.str "in",.str (nm 0)]],.int 6]=.ok (.bl true):=Qrf (n:=1) (f:=fun _=>.tup [.str "in",.str (nm 0)]) (M:=6) (by decide) (by decide)
 have hc:eComp [none,some 1] (itL (eVar 0)) (gN 0) cTrue Qix [some (.k,.lst [.tup [.str "in",.str (nm 0)]]),some (.k,rl n (fun k=>.str (nm k)))]=.ok (rl 1 (fun _=>.bl true)):=by
  refine QaO (l:=List.range 1) (fun _=>.tup [.str "in",.str (nm 0)]) (fun _=>.bl true) rfl (fun k hk=>?_) (by simp)
  refine QaH (by walk_at "cap") (by walk_at "s") ?_
  unfold Qix
  (repeat walk_at "e")
 have ha:=Qrn 1
 have hn:eComp [none] (itL (eVar 0)) (gN 0) cTrue QiT [some (.k,.lst [.tup [.str "in",.str (nm 0)]]),some (.k,rl n (fun k=>.str (nm k)))]=.ok (.lst ([("in":Str)].map .str)):=by
  refine QaO (l:=List.range 1) (fun _=>.tup [.str "in",.str (nm 0)]) (fun _=>.str "in") rfl (fun k hk=>?_) (by simp)
  have x0:dIx (.tup [.str "in",.str (nm 0)]) (.int 0)=.ok (.str "in"):=ix_t 0 rfl
  refine QaH (by walk_at "cap") (by walk_at "s") ?_
  unfold QiT
  (repeat walk_at "e")
 have hu:Qam [.lst ([("in":Str)].map .str)]=.ok (.bl true):=Qtk (by
  intro i j hi z
  have hi:i<1:=hi
  have:i=0:=by omega
  subst this
  cases j with
  | zero=>rfl
  | succ j=>simp at z) (by simp)
 rw[QBr]
 unfold Qhq
 (repeat walk_at "e")
end
theorem QMP{i:Nat}{I E:SD->Out D}{ς ς':SD}{kds:List (Key×D)}{d y:D}{k:Key}(a:E ς=.ok d)(e:ς[i]?=some (some (.o,.dic kds)))(a':I ς=.ok y)(hk:dkey y=some k)(hl:kds.length<=1000)
 (l:ς.set i (some (.o,.dic (putKD kds k d)))=ς'):sPutD i I E ς=.ok (.nx ς'):=by
 unfold sPutD
 rw[a,Out.bind_ok,e]
 show(I ς>>=_)=_
 rw[a',Out.bind_ok,hk]
 show(if _ then _ else _)=_
 rw[if_pos (QJn hl),l]
theorem QRQ{A B:SD->Out D}{ς:SD}{kds:List (Key×D)}{y:D}{k:Key}(a:A ς=.ok (.dic kds))(a':B ς=.ok y)(hk:dkey y=some k):eDget A B ς=.ok ((valD kds k).getD .non):=by
 unfold eDget
 rw[a,Out.bind_ok]
 show(B ς>>=_)=_
 rw[a',Out.bind_ok,hk]
theorem r_dix{A B:SD->Out D}{ς:SD}{kds:List (Key×D)}{y d:D}{k:Key}(a:A ς=.ok (.dic kds))(a':B ς=.ok y)(hk:dkey y=some k)(hv:valD kds k=some d):eDix A B ς=.ok d:=by
 unfold eDix
 rw[a,Out.bind_ok]
 show(B ς>>=_)=_
 rw[a',Out.bind_ok,hk]
 show optO (valD kds k)=_
 rw[hv];rfl
theorem QJz{kds:List (Key×D)}{k:Key}{d:D}(h:∀ kv∈kds,kv.1≠k):putKD kds k d=kds++[(k,d)]:=by
 unfold putKD
 rw[if_neg]
 intro z
 obtain⟨kv,hk,e⟩:=List.any_eq_true.mp z
 exact h kv hk (of_decide_eq_true e)
theorem QzH{k:Key}{d:D}:∀{kds:List (Key×D)}(i:Nat),kds[i]?=some (k,d)->(∀ j kv,j<i->kds[j]?=some kv->kv.1≠k)->valD kds k=some d
 | [],i,h,_=>by simp at h
 | kv::kds,0,h,_=>by
  simp at h
  subst h
  simp[valD]
 | kv::kds,i+1,h,hn=>by
  have h0:=hn 0 kv (by omega) rfl
  have:valD (kv::kds) k=valD kds k:=by simp[valD,List.find?_cons,h0]
  rw[this]
  exact QzH i (by simpa using h) fun j kv' hj he=>hn (j+1) kv' (by omega) (by simpa using he)
theorem enumR(n:Nat)(f:Nat->D):enumD 0 ((List.range n).map f)=(List.range n).map fun i:Nat=>D.tup [.int (i:Int),f i]:=by
 apply List.ext_getElem?
 intro i
 rw[Quy,Nat.zero_add]
 by_cases hi:i<n
 ·have r1:((List.range n).map fun i:Nat=>D.tup [.int (i:Int),f i])[i]?=some (D.tup [.int (i:Int),f i]):=atR hi
  rw[atR hi,r1];rfl
 ·have h1:((List.range n).map f)[i]?=none:=by simp;omega
  have h2:((List.range n).map fun i:Nat=>D.tup [.int (i:Int),f i])[i]?=none:=by simp;omega
  rw[h1,h2];rfl
def plc(n nd:Nat)(nm dn:Nat->Str):List (Key×D):=((List.range n).map fun i:Nat=>((.inr (nm i):Key),D.int (i:Int)))++((List.range nd).map fun i:Nat=>((.inr (dn i):Key),D.int (-1 - (i:Int))))
theorem Qx8(n nd:Nat)(nm dn:Nat->Str)(i:Nat):(plc n nd nm dn)[i]?=if i<n then some (.inr (nm i),.int (i:Int)) else if i - n<nd then some (.inr (dn (i - n)),.int (-1 - ((i - n:Nat):Int))) else none:=by
 unfold plc
 rw[List.getElem?_append,List.length_map,List.length_range]
 split
 ·rw[List.getElem?_map,List.getElem?_range (by assumption)];rfl
 ·split
  ·rw[List.getElem?_map,List.getElem?_range (by assumption)];rfl
  ·simp;omega
section
variable{n nd:Nat}{nm dn c:Nat->Str}{t:Nat->List (List Int)}{m:Nat->Nat}{ld:Nat->Nat->Int}{st:Nat->Int}(hs:Seats n nd nm dn c t m ld st)
include hs
theorem plc_c{i:Nat}(hi:i<n):valD (plc n nd nm dn) (.inr (nm i))=some (.int (i:Int)):=by
 refine QzH i (by rw[Qx8,if_pos hi]) fun j kv hj he=>?_
 rw[Qx8,if_pos (by omega)]at he
 cases he
 intro z
 have:=hs.inj j i (by omega) hi (Sum.inr.inj z)
 omega
theorem plc_d{d:Nat}(hd:d<nd):valD (plc n nd nm dn) (.inr (dn d))=some (.int (-1 - (d:Int))):=by
 refine QzH (n+d) (by rw[Qx8,if_neg (by omega),if_pos (by omega),show n+d - n=d by omega]) fun j kv hj he=>?_
 rw[Qx8]at he
 by_cases a:j<n
 ·rw[if_pos a]at he
  cases he
  intro z
  exact hs.sep j d a hd (Sum.inr.inj z)
 ·rw[if_neg a,if_pos (by omega)]at he
  cases he
  intro z
  have:=hs.injd _ _ (by omega) hd (Sum.inr.inj z)
  omega
theorem QM2:Qd2 [rl n (fun k=>.str (nm k)),rl nd (fun d=>.str (dn d))]=.ok (.dic (plc n nd nm dn)):=by
 have n2:=hs.n2
 have d2:=hs.d2
 obtain⟨ς1,hL1,a3,a4,rfl⟩:=Qru (body:=fun x ς=>gT [3,4] x ς>>=fun ς'=>Qhv ς') (f:=fun i:Nat=>D.tup [.int (i:Int),.str (nm i)]) (n:=n)
  (P:=fun k ς=>∃(a3 a4:Option (SM×D)),ς=[some (.k,rl n (fun k=>.str (nm k))),some (.k,rl nd (fun d=>.str (dn d))),some (.o,.dic (plc k 0 nm dn)),a3,a4,none,none])
  (by
   rintro k hk ς ⟨a3,a4,rfl⟩
   refine⟨[some (.k,rl n (fun k=>.str (nm k))),some (.k,rl nd (fun d=>.str (dn d))),some (.o,.dic (plc (k+1) 0 nm dn)),some (.k,.int (k:Int)),some (.k,.str (nm k)),none,none],?_,_,_,rfl⟩
   have e:plc (k+1) 0 nm dn=putKD (plc k 0 nm dn) (.inr (nm k)) (.int (k:Int)):=by
    rw[QJz]
    ·show((List.range (k+1)).map _)++[]=((List.range k).map _++[])++[_]
     rw[List.append_nil,List.append_nil,List.range_succ,List.map_append];rfl
    ·intro kv hkv
     have hkv:kv∈((List.range k).map fun i:Nat=>((.inr (nm i):Key),D.int (i:Int)))++[]:=hkv
     rw[List.append_nil]at hkv
     obtain⟨i,hi,rfl⟩:=List.mem_map.mp hkv
     have hi:=List.mem_range.mp hi
     intro z
     have:=hs.inj i k (by omega) hk (Sum.inr.inj z)
     omega
   rw[e]
   refine r_gT (by walk_at "all") ?_
   unfold Qhv
   exact QMP (d:=.int (k:Int)) (y:=.str (nm k)) (k:=.inr (nm k)) (by (repeat walk_at "e")) rfl (by (repeat walk_at "e")) rfl (by unfold plc;simp;omega) rfl)
  [some (.k,rl n (fun k=>.str (nm k))),some (.k,rl nd (fun d=>.str (dn d))),some (.o,.dic []),none,none,none,none] ⟨_,_,rfl⟩
 obtain⟨ς2,hL2,a5,a6,rfl⟩:=Qru (body:=fun x ς=>gT [5,6] x ς>>=fun ς'=>Qhx ς') (f:=fun i:Nat=>D.tup [.int (i:Int),.str (dn i)]) (n:=nd)
  (P:=fun k ς=>∃(a5 a6:Option (SM×D)),ς=[some (.k,rl n (fun k=>.str (nm k))),some (.k,rl nd (fun d=>.str (dn d))),some (.o,.dic (plc n k nm dn)),a3,a4,a5,a6])
  (by
   rintro k hk ς ⟨a5,a6,rfl⟩
   refine⟨[some (.k,rl n (fun k=>.str (nm k))),some (.k,rl nd (fun d=>.str (dn d))),some (.o,.dic (plc n (k+1) nm dn)),a3,a4,some (.k,.int (k:Int)),some (.k,.str (dn k))],?_,_,_,rfl⟩
   have e:plc n (k+1) nm dn=putKD (plc n k nm dn) (.inr (dn k)) (.int (-1 - (k:Int))):=by
    rw[QJz]
    ·unfold plc
     rw[List.range_succ,List.map_append,List.append_assoc];rfl
    ·intro kv hkv
     rcases List.mem_append.mp hkv with w | w
     ·obtain⟨i,hi,rfl⟩:=List.mem_map.mp w
      intro z
      exact hs.sep i k (List.mem_range.mp hi) hk (Sum.inr.inj z)
     ·obtain⟨i,hi,rfl⟩:=List.mem_map.mp w
      have hi:=List.mem_range.mp hi
      intro z
      have:=hs.injd i k (by omega) hk (Sum.inr.inj z)
      omega
   rw[e]
   refine r_gT (by walk_at "all") ?_
   unfold Qhx
   exact QMP (d:=.int (-1 - (k:Int))) (y:=.str (dn k)) (k:=.inr (dn k)) (by (repeat walk_at "e")) rfl (by (repeat walk_at "e")) rfl (by unfold plc;simp;omega) rfl)
  [some (.k,rl n (fun k=>.str (nm k))),some (.k,rl nd (fun d=>.str (dn d))),some (.o,.dic (plc n 0 nm dn)),a3,a4,none,none] ⟨_,_,rfl⟩
 have hi1:itE (eVar 0) [some (.k,rl n (fun k=>.str (nm k))),some (.k,rl nd (fun d=>.str (dn d))),some (.o,.dic []),none,none,none,none]=.ok ((List.range n).map fun i:Nat=>D.tup [.int (i:Int),.str (nm i)]):=by rw[← enumR];rfl
 have hi2:itE (eVar 1) [some (.k,rl n (fun k=>.str (nm k))),some (.k,rl nd (fun d=>.str (dn d))),some (.o,.dic (plc n 0 nm dn)),a3,a4,none,none]=.ok ((List.range nd).map fun i:Nat=>D.tup [.int (i:Int),.str (dn i)]):=by rw[← enumR];rfl
 have f1':=QbV (g:=gT [3,4]) (T:=Qhv) hi1 hL1
 have f2':=QbV (g:=gT [5,6]) (T:=Qhx) hi2 hL2
 have s0:sSetO 2 eDic0 [some (.k,rl n (fun k=>.str (nm k))),some (.k,rl nd (fun d=>.str (dn d))),none,none,none,none,none]=.ok (.nx [some (.k,rl n (fun k=>.str (nm k))),some (.k,rl nd (fun d=>.str (dn d))),some (.o,.dic []),none,none,none,none]):=rfl
 rw[QGj]
 unfold Qj1
 (repeat walk_at "e")
theorem QOn{k:Nat}(hk:k<n):Qff [seatD nm dn c t m ld st k,.dic (plc n nd nm dn)]=.ok (rl (m k) (fun j=>.int (ld k j))):=by
 have m6:=(hs.tb k hk).m6
 have x2:dIx (seatD nm dn c t m ld st k) (.int 2)=.ok (rl (m k) (fun j=>.str (nml nm dn (ld k j)))):=ix_t 2 rfl
 have hc:eComp [none,some 1] (itL (e2 dIx (eVar 0) (eC (.int 2)))) (gN 0) cTrue Qnr [some (.k,seatD nm dn c t m ld st k),some (.k,.dic (plc n nd nm dn))]=.ok (rl (m k) (fun j=>.int (ld k j))):=by
  refine QaO (fun j=>D.str (nml nm dn (ld k j))) (fun j=>D.int (ld k j)) (by (repeat walk_at "e")) (fun j hj=>?_) (by rw[List.length_range];omega)
  obtain⟨l1,l2⟩:=hs.ldr k j hk (List.mem_range.mp hj)
  refine QaH (by walk_at "cap") (by walk_at "s") ?_
  unfold Qnr
  have hv:valD (plc n nd nm dn) (.inr (nml nm dn (ld k j)))=some (.int (ld k j)):=by
   unfold nml
   by_cases h:ld k j<0
   ·rw[if_pos h,plc_d hs (show(-1 - ld k j).toNat<nd by omega)]
    congr 2;omega
   ·rw[if_neg h,plc_c hs (show(ld k j).toNat<n by omega)]
    congr 2;omega
  rw[QRQ (kds:=plc n nd nm dn) (y:=.str (nml nm dn (ld k j))) (k:=.inr (nml nm dn (ld k j))) (by (repeat walk_at "e")) (by (repeat walk_at "e")) rfl,hv];rfl
 rw[QJV]
 unfold QlV
 (repeat walk_at "e")
end
theorem QJp{f:Str}{d:D}:∀{fs:List (Str×D)},(fs.map Prod.fst).contains f=false->putD f d fs=fs++[(f,d)]
 | [],_=>rfl
 | (g,x)::fs,h=>by
  rw[List.map_cons,List.contains_cons,Bool.or_eq_false_iff]at h
  have ne:¬ g=f:=fun z=>by subst z;simp at h
  show(if g=f then _ else(g,x)::putD f d fs)=_
  rw[if_neg ne,QJp h.2];rfl
theorem Qqt{cs:List Str}{f c:Str}{i:Nat}{E:SD->Out D}{ς ς':SD}{d:D}{fds:List (Str×D)}(a:E ς=.ok d)(e:ς[i]?=some (some (.s,.ins c fds)))(hc:cs.contains c=true)(hl:fds.length<=900)(hf:(fds.map Prod.fst).contains f=false)
 (l:ς.set i (some (.s,.ins c (fds++[(f,d)])))=ς'):sFldS cs f i E ς=.ok (.nx ς'):=by
 unfold sFldS
 rw[a,Out.bind_ok,e]
 show(if (cs.contains c&&decide (fds.length<1000))=true then _ else _)=_
 rw[if_pos (by rw[hc,Bool.true_and];exact decide_eq_true (by omega)),QJp hf,l]
section
variable(n nd:Nat)(nm dn c:Nat->Str)(t:Nat->List (List Int))(m:Nat->Nat)(ld:Nat->Nat->Int)(st:Nat->Int)
def offF:List (Str×D):=[("clerk_names",rl n (fun k=>.str (nm k))),("door_names",rl nd (fun d=>.str (dn d))),("entry_places",.lst [.tup [.str "in",.int 0]]),("staff",rl n (fun k=>ck (c k) (t k) (m k))),("first_states",rl n (fun k=>.int (st k))),("ways",rl n (fun k=>rl (m k) (fun j=>.int (ld k j))))]
def offD:D:=.ins "Office" (offF n nd nm dn c t m ld st)
end
theorem QJh:Qj.contains "Office"=true:=dk
section
variable{n nd:Nat}{nm dn c:Nat->Str}{t:Nat->List (List Int)}{m:Nat->Nat}{ld:Nat->Nat->Int}{st:Nat->Int}(hs:Seats n nd nm dn c t m ld st)
include hs
theorem QO2{k:Nat}(hk:k<n):dInL .non (rl (m k) (fun j=>.int (ld k j)))=.ok (.bl false):=by
 show(if (_&&((List.range (m k)).map fun j=>D.int (ld k j)).all D.scal)=true then Out.ok (D.bl (inV _ _)) else _)=_
 rw[if_pos (by rw[Bool.and_eq_true];exact⟨rfl,allR fun i _=>rfl⟩)]
 have:inV (toV .non) (((List.range (m k)).map fun j=>D.int (ld k j)).map toV)=false:=by
  unfold inV
  rw[List.any_eq_false]
  intro v hv
  rw[List.map_map]at hv
  obtain⟨j,_,rfl⟩:=List.mem_map.mp hv
  simp[toV,eqV]
 rw[this]
theorem QMr:Qa7 "Office" [] [rl n (seatD nm dn c t m ld st),.lst [.tup [.str "in",.str (nm 0)]],rl nd (fun d=>.str (dn d))]=.ok (offF n nd nm dn c t m ld st):=by
 have n1:=hs.n1
 have n2:=hs.n2
 have d2:=hs.d2
 have h1:=QNU hs
 have h2:=QOh hs
 have h3:=QKE hs
 have h4:=QM2 hs
 have p0:=plc_c hs (i:=0) (by omega)
 have oc:=QJh
 generalize hS:rl n (seatD nm dn c t m ld st)=S at *
 generalize hE:D.lst [.tup [.str "in",.str (nm 0)]]=E at *
 generalize hDo:rl nd (fun d=>.str (dn d))=Do at *
 generalize hN:rl n (fun k=>.str (nm k))=N at *
 generalize hP:D.dic (plc n nd nm dn)=P at *
 generalize hW:rl n (fun k=>rl (m k) (fun j=>.int (ld k j)))=W
 have q0:eComp [none] (itL (eVar 1)) (gN 0) cTrue QiR [some (.s,.ins "Office" []),some (.k,S),some (.k,E),some (.k,Do),none,none,none]=.ok N:=by
  subst hS;subst hN
  refine QaO (seatD nm dn c t m ld st) (fun k=>D.str (nm k)) rfl (fun k hk=>?_) (by rw[List.length_range];omega)
  have x0:dIx (seatD nm dn c t m ld st k) (.int 0)=.ok (.str (nm k)):=ix_t 0 rfl
  refine QaH (τ0:=[none]) (Qg5 c_nil) (by walk_at "s") ?_
  unfold QiR
  (repeat walk_at "e")
 have q1:eComp [none,some 5] (itL (eVar 1)) (gN 0) cTrue Qh8 [some (.s,.ins "Office" []),some (.k,S),some (.k,E),some (.k,Do),some (.k,N),some (.k,P),none]=.ok W:=by
  subst hS;subst hW;subst hP
  refine QaO (seatD nm dn c t m ld st) (fun k=>rl (m k) (fun j=>.int (ld k j))) rfl (fun k hk=>?_) (by rw[List.length_range];omega)
  have hl:=QOn hs (List.mem_range.mp hk)
  refine QaH (τ0:=[none,some (.k,.dic (plc n nd nm dn))]) (Qg5 (c_k rfl c_nil)) (by walk_at "s") ?_
  unfold Qh8
  (repeat walk_at "e")
 have q2:eComp [none] (itL (eVar 6)) (gN 0) cTrue Qi4 [some (.s,.ins "Office" []),some (.k,S),some (.k,E),some (.k,Do),some (.k,N),some (.k,P),some (.k,W)]=.ok (rl n (fun _=>.bl false)):=by
  subst hW
  refine QaO (fun k=>rl (m k) (fun j=>.int (ld k j))) (fun _=>D.bl false) rfl (fun k hk=>?_) (by rw[List.length_range];omega)
  have hl:=QO2 hs (List.mem_range.mp hk)
  refine QaH (τ0:=[none]) (Qg5 c_nil) (by walk_at "s") ?_
  unfold Qi4
  (repeat walk_at "e")
 have ha:f1 fAny [rl n (fun _=>.bl false)]=.ok (.bl false):=by
  show fAny (.lst ((List.range n).map fun _=>D.bl false))=_
  rw[QNG (fun _=>false)];simp
 have q3:∀ F:List (Str×D),eComp [none,some 5] (itL (eVar 2)) (gN 0) cTrue QfR [some (.s,.ins "Office" F),some (.k,S),some (.k,E),some (.k,Do),some (.k,N),some (.k,P),some (.k,W)]=.ok (.lst [.tup [.str "in",.int 0]]):=fun F=>by
  subst hE;subst hP
  refine QaO (l:=List.range 1) (fun _=>.tup [.str "in",.str (nm 0)]) (fun _=>D.tup [.str "in",.int 0]) rfl (fun k hk=>?_) (by simp)
  have x0:dIx (.tup [.str "in",.str (nm 0)]) (.int 0)=.ok (.str "in"):=ix_t 0 rfl
  have x1:dIx (.tup [.str "in",.str (nm 0)]) (.int 1)=.ok (.str (nm 0)):=ix_t 1 rfl
  refine QaH (τ0:=[none,some (.k,.dic (plc n nd nm dn))]) (Qg5 (c_k rfl c_nil)) (by walk_at "s") ?_
  unfold QfR
  have hd:eDix (eVar 1) (e2 dIx (eVar 0) (eC (.int 1))) [some (.k,.tup [.str "in",.str (nm 0)]),some (.k,.dic (plc n nd nm dn))]=.ok (.int 0):=r_dix (kds:=plc n nd nm dn) (y:=.str (nm 0)) (k:=.inr (nm 0)) (by (repeat walk_at "e")) (by (repeat walk_at "e")) rfl p0
  (repeat walk_at "e")
 have q4:∀ F:List (Str×D),eComp [none] (itL (eVar 1)) (gN 0) cTrue QfT [some (.s,.ins "Office" F),some (.k,S),some (.k,E),some (.k,Do),some (.k,N),some (.k,P),some (.k,W)]=.ok (rl n (fun k=>ck (c k) (t k) (m k))):=fun F=>by
  subst hS
  refine QaO (seatD nm dn c t m ld st) (fun k=>ck (c k) (t k) (m k)) rfl (fun k hk=>?_) (by rw[List.length_range];omega)
  have x0:dIx (seatD nm dn c t m ld st k) (.int 1)=.ok (ck (c k) (t k) (m k)):=ix_t 1 rfl
  refine QaH (τ0:=[none]) (Qg5 c_nil) (by walk_at "s") ?_
  unfold QfT
  (repeat walk_at "e")
 have q5:∀ F:List (Str×D),eComp [none] (itL (eVar 1)) (gN 0) cTrue QfP [some (.s,.ins "Office" F),some (.k,S),some (.k,E),some (.k,Do),some (.k,N),some (.k,P),some (.k,W)]=.ok (rl n (fun k=>.int (st k))):=fun F=>by
  subst hS
  refine QaO (seatD nm dn c t m ld st) (fun k=>D.int (st k)) rfl (fun k hk=>?_) (by rw[List.length_range];omega)
  have x0:dIx (seatD nm dn c t m ld st k) (.int 3)=.ok (.int (st k)):=ix_t 3 rfl
  refine QaH (τ0:=[none]) (Qg5 c_nil) (by walk_at "s") ?_
  unfold QfP
  (repeat walk_at "e")
 have hdl:dList Do=.ok Do:=by subst hDo;rfl
 let F1:List (Str×D):=[("clerk_names",N)]
 let F2:List (Str×D):=[("clerk_names",N),("door_names",Do)]
 let F3:List (Str×D):=[("clerk_names",N),("door_names",Do),("entry_places",.lst [.tup [.str "in",.int 0]])]
 let F4:List (Str×D):=[("clerk_names",N),("door_names",Do),("entry_places",.lst [.tup [.str "in",.int 0]]),("staff",rl n (fun k=>ck (c k) (t k) (m k)))]
 let F5:List (Str×D):=[("clerk_names",N),("door_names",Do),("entry_places",.lst [.tup [.str "in",.int 0]]),("staff",rl n (fun k=>ck (c k) (t k) (m k))),("first_states",rl n (fun k=>.int (st k)))]
 have s1:sFldS Qj "clerk_names" 0 (eVar 4) [some (.s,.ins "Office" []),some (.k,S),some (.k,E),some (.k,Do),some (.k,N),some (.k,P),some (.k,W)]=.ok (.nx [some (.s,.ins "Office" F1),some (.k,S),some (.k,E),some (.k,Do),some (.k,N),some (.k,P),some (.k,W)]):=
  Qqt (d:=N) (by (repeat walk_at "e")) rfl oc (by decide) (by decide) rfl
 have s2:sFldS Qj "door_names" 0 (e1 dList (eVar 3)) [some (.s,.ins "Office" F1),some (.k,S),some (.k,E),some (.k,Do),some (.k,N),some (.k,P),some (.k,W)]=.ok (.nx [some (.s,.ins "Office" F2),some (.k,S),some (.k,E),some (.k,Do),some (.k,N),some (.k,P),some (.k,W)]):=
  Qqt (d:=Do) (by (repeat walk_at "e")) rfl oc (Nat.le_of_ble_eq_true rfl) (by show(["clerk_names"]:List Str).contains "door_names"=false;decide +kernel) rfl
 have s3:sFldS Qj "entry_places" 0 (eComp [none,some 5] (itL (eVar 2)) (gN 0) cTrue QfR) [some (.s,.ins "Office" F2),some (.k,S),some (.k,E),some (.k,Do),some (.k,N),some (.k,P),some (.k,W)]=.ok (.nx [some (.s,.ins "Office" F3),some (.k,S),some (.k,E),some (.k,Do),some (.k,N),some (.k,P),some (.k,W)]):=
  Qqt (q3 _) rfl oc (Nat.le_of_ble_eq_true rfl) (by show(["clerk_names","door_names"]:List Str).contains "entry_places"=false;decide +kernel) rfl
 have s4:sFldS Qj "staff" 0 (eComp [none] (itL (eVar 1)) (gN 0) cTrue QfT) [some (.s,.ins "Office" F3),some (.k,S),some (.k,E),some (.k,Do),some (.k,N),some (.k,P),some (.k,W)]=.ok (.nx [some (.s,.ins "Office" F4),some (.k,S),some (.k,E),some (.k,Do),some (.k,N),some (.k,P),some (.k,W)]):=
  Qqt (q4 _) rfl oc (Nat.le_of_ble_eq_true rfl) (by show(["clerk_names","door_names","entry_places"]:List Str).contains "staff"=false;decide +kernel) rfl
 have s5:sFldS Qj "first_states" 0 (eComp [none] (itL (eVar 1)) (gN 0) cTrue QfP) [some (.s,.ins "Office" F4),some (.k,S),some (.k,E),some (.k,Do),some (.k,N),some (.k,P),some (.k,W)]=.ok (.nx [some (.s,.ins "Office" F5),some (.k,S),some (.k,E),some (.k,Do),some (.k,N),some (.k,P),some (.k,W)]):=
  Qqt (q5 _) rfl oc (Nat.le_of_ble_eq_true rfl) (by show(["clerk_names","door_names","entry_places","staff"]:List Str).contains "first_states"=false;decide +kernel) rfl
 have s6:sFldS Qj "ways" 0 (eVar 6) [some (.s,.ins "Office" F5),some (.k,S),some (.k,E),some (.k,Do),some (.k,N),some (.k,P),some (.k,W)]=.ok (.nx [some (.s,.ins "Office" (offF n nd nm dn c t m ld st)),some (.k,S),some (.k,E),some (.k,Do),some (.k,N),some (.k,P),some (.k,W)]):=
  Qqt (d:=W) (by (repeat walk_at "e")) rfl oc (Nat.le_of_ble_eq_true rfl) (by show(["clerk_names","door_names","entry_places","staff","first_states"]:List Str).contains "ways"=false;decide +kernel) (by subst hN;subst hDo;subst hW;rfl)
 have fin:Qgf "Office" (.nx [some (.s,.ins "Office" (offF n nd nm dn c t m ld st)),some (.k,S),some (.k,E),some (.k,Do),some (.k,N),some (.k,P),some (.k,W)])=.ok (offF n nd nm dn c t m ld st):=by
  show(if ("Office":Str)="Office" then Out.ok (offF n nd nm dn c t m ld st) else .stuck)=_
  rw[if_pos rfl]
 rw[QB6]
 unfold Qhp
 (repeat walk_at "e")
end
theorem Qs7(i:Int):QbK [.int i]=.ok (.bl true):=by
 simp[QbK,Qh9,bodyF,retF,sSeq,thenF,sSet,sRet,sIf,sNil,eVar,eC,e1,e2,eA,f1,aNil,aCons,tVal,tAnd',tOr',tNot',eAnd,eOr,eNot,eIf,eTup,eLst,eIsa,isaT,QaL,oNo,oSome,sPar,sUnp,Q3,gN,gT,fLen,QaD,Out.bind_ok,Out.bind_exc,Out.bind_stuck,Out.pure_eq,D.scal,Qbs,Qcd,QbL,Qbt,QaM,QbM,Qc0,Qcm,QC,QaY,List.length_cons,List.length_nil,List.map_cons,List.map_nil,List.cons_append,List.nil_append,List.append_nil,List.getElem?_cons_zero,List.getElem?_cons_succ,List.set_cons_zero,List.set_cons_succ,List.replicate,Nat.reduceAdd,Nat.reduceSub,Nat.reduceLeDiff,Nat.zero_add,Nat.add_zero,reduceIte,Bool.not_true,Bool.not_false,Bool.true_and,Bool.and_true,Bool.false_and,Bool.and_false,Bool.or_true,Bool.true_or,Bool.or_false,Bool.false_or,Bool.false_eq_true,decide_true,decide_false,decide_eq_true_eq,Bool.not_eq_true',decide_eq_false_iff_not,Int.reduceEq,Int.reduceLT,Int.reduceLE,Int.reduceNeg,Nat.reduceEqDiff, ↓reduceIte,not_true_eq_false,not_false_eq_true]
theorem QPN:∀(n:Nat)(a b:Int)(r:Option (SM×D)),0<=a->0<=b->b.toNat<=n->∃ r',Qc2 Qca Qb6 [some (.k,.int a),some (.k,.int b),r]
 = .ok (.nx [some (.k,.int (a.gcd b:Nat)),some (.k,.int 0),r']):=by
 intro n
 induction n with
 | zero=>
  intro a b r ha hb hn
  have e:b=0:=by omega
  subst e
  refine⟨r,?_⟩
  rw[Qdh]
  simp[Qca,Qb6,bodyF,retF,sSeq,thenF,sSet,sRet,sIf,sNil,eVar,eC,e1,e2,eA,f1,aNil,aCons,tVal,tAnd',tOr',tNot',eAnd,eOr,eNot,eIf,eTup,eLst,eIsa,isaT,QaL,oNo,oSome,sPar,sUnp,Q3,gN,gT,fLen,QaD,Out.bind_ok,Out.bind_exc,Out.bind_stuck,Out.pure_eq,D.scal,Qbs,Qcd,QbL,Qbt,QaM,QbM,Qc0,Qcm,QC,QaY,List.length_cons,List.length_nil,List.map_cons,List.map_nil,List.cons_append,List.nil_append,List.append_nil,List.getElem?_cons_zero,List.getElem?_cons_succ,List.set_cons_zero,List.set_cons_succ,List.replicate,Nat.reduceAdd,Nat.reduceSub,Nat.reduceLeDiff,Nat.zero_add,Nat.add_zero,reduceIte,Bool.not_true,Bool.not_false,Bool.true_and,Bool.and_true,Bool.false_and,Bool.and_false,Bool.or_true,Bool.true_or,Bool.or_false,Bool.false_or,Bool.false_eq_true,decide_true,decide_false,decide_eq_true_eq,Bool.not_eq_true',decide_eq_false_iff_not,Int.reduceEq,Int.reduceLT,Int.reduceLE,Int.reduceNeg,Nat.reduceEqDiff, ↓reduceIte,not_true_eq_false,not_false_eq_true]
  omega
 | succ n ih=>
  intro a b r ha hb hn
  by_cases e:b=0
  ·subst e
   refine⟨r,?_⟩
   rw[Qdh]
   simp[Qca,Qb6,bodyF,retF,sSeq,thenF,sSet,sRet,sIf,sNil,eVar,eC,e1,e2,eA,f1,aNil,aCons,tVal,tAnd',tOr',tNot',eAnd,eOr,eNot,eIf,eTup,eLst,eIsa,isaT,QaL,oNo,oSome,sPar,sUnp,Q3,gN,gT,fLen,QaD,Out.bind_ok,Out.bind_exc,Out.bind_stuck,Out.pure_eq,D.scal,Qbs,Qcd,QbL,Qbt,QaM,QbM,Qc0,Qcm,QC,QaY,List.length_cons,List.length_nil,List.map_cons,List.map_nil,List.cons_append,List.nil_append,List.append_nil,List.getElem?_cons_zero,List.getElem?_cons_succ,List.set_cons_zero,List.set_cons_succ,List.replicate,Nat.reduceAdd,Nat.reduceSub,Nat.reduceLeDiff,Nat.zero_add,Nat.add_zero,reduceIte,Bool.not_true,Bool.not_false,Bool.true_and,Bool.and_true,Bool.false_and,Bool.and_false,Bool.or_true,Bool.true_or,Bool.or_false,Bool.false_or,Bool.false_eq_true,decide_true,decide_false,decide_eq_true_eq,Bool.not_eq_true',decide_eq_false_iff_not,Int.reduceEq,Int.reduceLT,Int.reduceLE,Int.reduceNeg,Nat.reduceEqDiff, ↓reduceIte,not_true_eq_false,not_false_eq_true]
   omega
  ·have hb':0<b:=by omega
   have h1:=Int.emod_nonneg a e
   have h2:=Int.emod_lt_of_pos a hb'
   obtain⟨r',h⟩:=ih b (a % b) (some (.k,.int (a % b))) hb h1 (by omega)
   refine⟨r',?_⟩
   rw[Qdh]
   rw[QD9]at h
   simp[Qca,Qb6,bodyF,retF,sSeq,thenF,sSet,sRet,sIf,sNil,eVar,eC,e1,e2,eA,f1,aNil,aCons,tVal,tAnd',tOr',tNot',eAnd,eOr,eNot,eIf,eTup,eLst,eIsa,isaT,QaL,oNo,oSome,sPar,sUnp,Q3,gN,gT,fLen,QaD,Out.bind_ok,Out.bind_exc,Out.bind_stuck,Out.pure_eq,D.scal,Qbs,Qcd,QbL,Qbt,QaM,QbM,Qc0,Qcm,QC,QaY,List.length_cons,List.length_nil,List.map_cons,List.map_nil,List.cons_append,List.nil_append,List.append_nil,List.getElem?_cons_zero,List.getElem?_cons_succ,List.set_cons_zero,List.set_cons_succ,List.replicate,Nat.reduceAdd,Nat.reduceSub,Nat.reduceLeDiff,Nat.zero_add,Nat.add_zero,reduceIte,Bool.not_true,Bool.not_false,Bool.true_and,Bool.and_true,Bool.false_and,Bool.and_false,Bool.or_true,Bool.true_or,Bool.or_false,Bool.false_or,Bool.false_eq_true,decide_true,decide_false,decide_eq_true_eq,Bool.not_eq_true',decide_eq_false_iff_not,Int.reduceEq,Int.reduceLT,Int.reduceLE,Int.reduceNeg,Nat.reduceEqDiff, ↓reduceIte,not_true_eq_false,not_false_eq_true,e,Qrp hb']
   exact h
theorem gd_ok{a b:Int}(ha:0<=a)(hb:0<=b):Qai [.int a,.int b]=.ok (.int (a.gcd b:Nat)):=by
 obtain⟨r',h⟩:=QPN b.toNat a b none ha hb (Nat.le_refl _)
 simp[Qai,Qgn,bodyF,retF,sSeq,thenF,sSet,sRet,sIf,sNil,eVar,eC,e1,e2,eA,f1,aNil,aCons,tVal,tAnd',tOr',tNot',eAnd,eOr,eNot,eIf,eTup,eLst,eIsa,isaT,QaL,oNo,oSome,sPar,sUnp,Q3,gN,gT,fLen,QaD,Out.bind_ok,Out.bind_exc,Out.bind_stuck,Out.pure_eq,D.scal,Qbs,Qcd,QbL,Qbt,QaM,QbM,Qc0,Qcm,QC,QaY,List.length_cons,List.length_nil,List.map_cons,List.map_nil,List.cons_append,List.nil_append,List.append_nil,List.getElem?_cons_zero,List.getElem?_cons_succ,List.set_cons_zero,List.set_cons_succ,List.replicate,Nat.reduceAdd,Nat.reduceSub,Nat.reduceLeDiff,Nat.zero_add,Nat.add_zero,reduceIte,Bool.not_true,Bool.not_false,Bool.true_and,Bool.and_true,Bool.false_and,Bool.and_false,Bool.or_true,Bool.true_or,Bool.or_false,Bool.false_or,Bool.false_eq_true,decide_true,decide_false,decide_eq_true_eq,Bool.not_eq_true',decide_eq_false_iff_not,Int.reduceEq,Int.reduceLT,Int.reduceLE,Int.reduceNeg,Nat.reduceEqDiff, ↓reduceIte,not_true_eq_false,not_false_eq_true,h]
theorem QPE{a b:Int}(hb:b≠0)(h:b.natAbs<2 ^ 8000):big (shD a b)=true:=by
 refine QFP (n:=8000) ?_ (by decide)
 rw[QuB]
 have h1:a.gcd b∣b.natAbs:=Int.gcd_dvd_natAbs_right a b
 have h2:=Nat.le_of_dvd (by omega) h1
 exact Nat.lt_of_le_of_lt h2 h
theorem QFG{a b:Int}(hb:b≠0)(h:b.natAbs<2 ^ 8000):QfC [.int a,.int b]=.ok (.tup [.int (a.fdiv (shD a b)),.int (b.fdiv (shD a b))]):=by
 have g:Qai [.int (a.natAbs:Int),.int (b.natAbs:Int)]=.ok (.int (a.gcd b:Nat)):=by
  rw[gd_ok (by omega) (by omega)]
  congr 3
 have hd:=QDH (a:=a) hb
 have hB:=QPE (a:=a) hb h
 by_cases h0:b<0
 ·have e:shD a b = -(a.gcd b:Int):=by unfold shD;rw[if_pos h0]
  rw[e]at hd hB ⊢
  simp[QfC,QuD,bodyF,retF,sSeq,thenF,sSet,sRet,sIf,sNil,eVar,eC,e1,e2,eA,f1,aNil,aCons,tVal,tAnd',tOr',tNot',eAnd,eOr,eNot,eIf,eTup,eLst,eIsa,isaT,QaL,oNo,oSome,sPar,sUnp,Q3,gN,gT,fLen,QaD,Out.bind_ok,Out.bind_exc,Out.bind_stuck,Out.pure_eq,D.scal,Qbs,Qcd,QbL,Qbt,QaM,QbM,Qc0,Qcm,QC,QaY,List.length_cons,List.length_nil,List.map_cons,List.map_nil,List.cons_append,List.nil_append,List.append_nil,List.getElem?_cons_zero,List.getElem?_cons_succ,List.set_cons_zero,List.set_cons_succ,List.replicate,Nat.reduceAdd,Nat.reduceSub,Nat.reduceLeDiff,Nat.zero_add,Nat.add_zero,reduceIte,Bool.not_true,Bool.not_false,Bool.true_and,Bool.and_true,Bool.false_and,Bool.and_false,Bool.or_true,Bool.true_or,Bool.or_false,Bool.false_or,Bool.false_eq_true,decide_true,decide_false,decide_eq_true_eq,Bool.not_eq_true',decide_eq_false_iff_not,Int.reduceEq,Int.reduceLT,Int.reduceLE,Int.reduceNeg,Nat.reduceEqDiff, ↓reduceIte,not_true_eq_false,not_false_eq_true,Qs7,hb,g,h0,QwW hd hB]
 ·have e:shD a b=(a.gcd b:Int):=by unfold shD;rw[if_neg h0]
  rw[e]at hd hB ⊢
  simp[QfC,QuD,bodyF,retF,sSeq,thenF,sSet,sRet,sIf,sNil,eVar,eC,e1,e2,eA,f1,aNil,aCons,tVal,tAnd',tOr',tNot',eAnd,eOr,eNot,eIf,eTup,eLst,eIsa,isaT,QaL,oNo,oSome,sPar,sUnp,Q3,gN,gT,fLen,QaD,Out.bind_ok,Out.bind_exc,Out.bind_stuck,Out.pure_eq,D.scal,Qbs,Qcd,QbL,Qbt,QaM,QbM,Qc0,Qcm,QC,QaY,List.length_cons,List.length_nil,List.map_cons,List.map_nil,List.cons_append,List.nil_append,List.append_nil,List.getElem?_cons_zero,List.getElem?_cons_succ,List.set_cons_zero,List.set_cons_succ,List.replicate,Nat.reduceAdd,Nat.reduceSub,Nat.reduceLeDiff,Nat.zero_add,Nat.add_zero,reduceIte,Bool.not_true,Bool.not_false,Bool.true_and,Bool.and_true,Bool.false_and,Bool.and_false,Bool.or_true,Bool.true_or,Bool.or_false,Bool.false_or,Bool.false_eq_true,decide_true,decide_false,decide_eq_true_eq,Bool.not_eq_true',decide_eq_false_iff_not,Int.reduceEq,Int.reduceLT,Int.reduceLE,Int.reduceNeg,Nat.reduceEqDiff, ↓reduceIte,not_true_eq_false,not_false_eq_true,Qs7,hb,g,h0,QwW hd hB]
theorem bitsN{i:Int}{N:Nat}(h:i.natAbs<=N)(hN:N<2 ^ 4000):bitsI i<=4000:=Qas (Nat.lt_of_le_of_lt h hN)
theorem QRK{n:Nat}{f:Nat->Int×Int}{Q:Nat->Nat}{N:Nat}(hQ:1<=Q 0)(hf:∀ i,i<n->1<=(f i).2/\(f i).2.natAbs<=N/\Q i<=N/\Q i * (f i).2.natAbs<=Q (i+1))(hs:N<2 ^ 4000):∃ L:Int,Qbv [rl n (fun i=>fr (f i))]=.ok (.int L)/\1<=L/\(∀ i,i<n->(f i).2∣L)/\L.natAbs<=Q n:=by
 obtain⟨ς',hL,L,a2,rfl,l1,ld,lb⟩:=Qru (body:=fun x ς=>gN 2 x ς>>=fun ς'=>Qeu ς') (f:=fun i=>fr (f i)) (n:=n)
  (P:=fun k ς=>∃(L:Int)(a2:Option (SM×D)),ς=[some (.k,rl n (fun i=>fr (f i))),some (.k,.int L),a2]/\1<=L/\(∀ i,i<k->(f i).2∣L)/\L.natAbs<=Q k)
  (by
   rintro k hk ς ⟨L,a2,rfl,l1,ld,lb⟩
   obtain⟨b1,b2,b3,b4⟩:=hf k hk
   have g:=gd_ok (a:=L) (b:=(f k).2) (by omega) (by omega)
   have gp:0<L.gcd (f k).2:=Int.gcd_pos_of_ne_zero_right L (by omega)
   have gd1:((L.gcd (f k).2:Nat):Int)∣L:=Int.gcd_dvd_left ..
   have gd2:((L.gcd (f k).2:Nat):Int)∣(f k).2:=Int.gcd_dvd_right ..
   have bL:bitsI L<=4000:=bitsN lb (by omega)
   have bf:bitsI (f k).2<=4000:=bitsN (N:=N) (by omega) (by omega)
   have bg:bitsI ((L.gcd (f k).2:Nat):Int)<=4000:=bitsN (N:=N) (by
    have:=Nat.le_of_dvd (by omega) (Int.gcd_dvd_natAbs_right L (f k).2)
    show(L.gcd (f k).2)<=N
    omega) (by omega)
   have gp':(0:Int)<((L.gcd (f k).2:Nat):Int):=by omega
   have x1:=fr1 (f k)
   obtain⟨u,hu⟩:=gd1
   obtain⟨v,hv⟩:=gd2
   have hdiv:(f k).2 / ((L.gcd (f k).2:Nat):Int)=v:=Int.ediv_eq_of_eq_mul_right (by omega) hv
   have huv:L * v=(f k).2 * u:=by
    have key:∀ x y G:Int,x=G * u->y=G * v->x * v=y * u:=fun x y G h1 h2=>by rw[h1,h2];grind
    exact key _ _ _ hu hv
   refine⟨[some (.k,rl n (fun i=>fr (f i))),some (.k,.int (L * ((f k).2 / ((L.gcd (f k).2:Nat):Int)))),some (.k,fr (f k))],?_,_,_,rfl,?_,?_,?_⟩
   ·refine r_gN (by walk_at "s") ?_
    unfold Qeu
    (repeat walk_at "e")
   ·rw[hdiv]
    have:1<=v:=by
     rcases Int.lt_trichotomy v 0 with h | h | h
     ·have:=Int.mul_neg_of_pos_of_neg gp' h;omega
     ·rw[h,Int.mul_zero]at hv;omega
     ·omega
    have h3:1 * 1<=L * v:=Int.mul_le_mul l1 this (by decide) (by omega)
    rw[Int.one_mul]at h3
    exact h3
   ·intro i hi
    rw[hdiv]
    by_cases e:i=k
    ·subst e
     exact⟨u,huv⟩
    ·exact Int.dvd_trans (ld i (by omega)) (Int.dvd_mul_right L v)
   ·rw[Int.natAbs_mul]
    have:=Int.natAbs_ediv_le_natAbs (f k).2 ((L.gcd (f k).2:Nat):Int)
    exact Nat.le_trans (Nat.mul_le_mul lb this) b4)
  [some (.k,rl n (fun i=>fr (f i))),some (.k,.int 1),none] ⟨1,none,rfl,by decide,fun i hi=>absurd hi (by omega),by show(1:Int).natAbs<=Q 0;omega⟩
 have hfor:=QbV (g:=gN 2) (its:=itL (eVar 0)) (T:=Qeu) (ς:=[some (.k,rl n (fun i=>fr (f i))),some (.k,.int 1),none]) rfl hL
 refine⟨L,?_,l1,ld,lb⟩
 rw[Qw9]
 unfold QfV
 (repeat walk_at "e")
def pr(a b:Int):Int×Int:=(a.fdiv (shD a b),b.fdiv (shD a b))
def qt(x:Int×Int):Rat:=(x.1:Rat) / (x.2:Rat)
theorem Qck{z:Int}(h:1<=z):(z:Rat)≠0:=fun w=>by
 have:=Rat.intCast_inj (a:=z) (b:=0) |>.mp w
 omega
theorem QPG{a b:Int}(hb:1<=b)(h:b∣a):((a / b:Int):Rat)=(a:Rat) / (b:Rat):=by
 obtain⟨c,rfl⟩:=h
 rw[Int.mul_ediv_cancel_left _ (by omega:b≠0),Rat.intCast_mul]
 have:=Qck hb
 grind
theorem qt_pr{a b:Int}(hb:b≠0):qt (pr a b)=(a:Rat) / (b:Rat):=by
 have h1:=QOj (a:=a) hb
 have h2:=(Qkt (a:=a) hb).1
 have h3:=congrArg (fun z:Int=>(z:Rat)) h1
 simp only[Rat.intCast_mul]at h3
 have h4:=Qck h2
 have h5:(b:Rat)≠0:=fun w=>hb (Rat.intCast_inj (a:=b) (b:=0) |>.mp w)
 unfold qt pr
 generalize ((a.fdiv (shD a b):Int):Rat)=x at *
 generalize ((b.fdiv (shD a b):Int):Rat)=y at *
 have:x=(x * (b:Rat)) / (b:Rat):=by grind
 rw[this,h3]
 grind
theorem QMc{p q:Int×Int}(hp:low p.1 p.2)(hq:low q.1 q.2)(h:qt p=qt q):p=q:=by
 have a:=Qck hp.1
 have b:=Qck hq.1
 unfold qt at h
 have e:(p.1:Rat) * (q.2:Rat)=(q.1:Rat) * (p.2:Rat):=by
  generalize (p.1:Rat)=P at *
  generalize (p.2:Rat)=P' at *
  generalize (q.1:Rat)=Q at *
  generalize (q.2:Rat)=Q' at *
  have:P=P / P' * P':=by grind
  rw[this,h];grind
 rw[← Rat.intCast_mul, ← Rat.intCast_mul]at e
 have u:=QKl hp hq (Rat.intCast_inj.mp e)
 exact Prod.ext u.1 u.2
theorem QQo{js:List (Option Nat)}{its:SD->Out (List D)}{g:D->SD->Out SD}{c:SD->Out Bool}{e:SD->Out D}{ς:SD}{n:Nat}(f:Nat->D)(p:Nat->Bool)(h:Nat->D)(hi:its ς=.ok ((List.range n).map f))(ht:∀ i,i<n->turnC js g c e ς (f i)=.ok (if p i=true then some (h i) else none))(hl:n<=1000):
 eComp js its g c e ς=.ok (.lst (((List.range n).filter p).map h)):=by
 have go:∀ l:List Nat,(∀ x∈l,turnC js g c e ς (f x)=.ok (if p x=true then some (h x) else none))->compM (turnC js g c e ς) (l.map f)=.ok ((l.filter p).map h):=by
  intro l
  induction l with
  | nil=>intro _;rfl
  | cons x xs ih=>
   intro H
   have h1:=H x (List.mem_cons_self ..)
   have h2:=ih fun y hy=>H y (List.mem_cons_of_mem _ hy)
   show compM (turnC js g c e ς) (f x::xs.map f)=_
   unfold compM
   rw[h1,Out.bind_ok,h2,List.filter_cons]
   cases p x<;>rfl
 unfold eComp
 rw[hi,Out.bind_ok,go _ (fun x hx=>ht x (List.mem_range.mp hx)),Out.bind_ok,if_pos (Qp6 (by
  rw[List.length_map]
  exact Nat.le_trans (List.length_filter_le ..) (by rw[List.length_range];exact hl)))]
def lsm(l:List Nat)(f:Nat->Rat):Rat:=match l with
 | []=>0
 | i::l=>f i+lsm l f
theorem QJb(f:Nat->Rat):∀ a b:List Nat,lsm (a++b) f=lsm a f+lsm b f
 | [],b=>by show lsm b f=0+lsm b f;grind
 | i::a,b=>by show f i+lsm (a++b) f=f i+lsm a f+lsm b f;rw[QJb f a b];grind
theorem QA4(f:Nat->Rat):∀ n,lsm (List.range n) f=Bar.sm n f
 | 0=>rfl
 | n+1=>by
  rw[List.range_succ,QJb,QA4 f n]
  show Bar.sm n f+(f n+0)=Bar.sm n f+f n
  grind
theorem Qys{p:Nat->Bool}{f:Nat->Rat}:∀ l:List Nat,(∀ i∈l,p i=false->f i=0)->lsm (l.filter p) f=lsm l f
 | [],_=>rfl
 | i::l,h=>by
  have ih:=Qys (p:=p) (f:=f) l fun j hj=>h j (List.mem_cons_of_mem _ hj)
  rw[List.filter_cons]
  cases e:p i with
  | true=>show f i+lsm (l.filter p) f=f i+lsm l f;rw[ih]
  | false=>
   have:=h i (List.mem_cons_self ..) e
   show lsm (l.filter p) f=f i+lsm l f
   rw[ih,this];grind
theorem QFa(h:Nat->Int):∀ l:List Nat,(((l.map h).sum:Int):Rat)=lsm l (fun i=>(h i:Rat))
 | []=>rfl
 | i::l=>by
  rw[List.map_cons,List.sum_cons,Rat.intCast_add,QFa h l];rfl
theorem QJC(c:Rat)(f:Nat->Rat):∀ l:List Nat,lsm l (fun i=>c * f i)=c * lsm l f
 | []=>by show(0:Rat)=c * 0;grind
 | i::l=>by
  show c * f i+lsm l (fun i=>c * f i)=c * (f i+lsm l f)
  rw[QJC c f l];grind
theorem QBg{f g:Nat->Rat}:∀{l:List Nat},(∀ i∈l,f i=g i)->lsm l f=lsm l g
 | [],_=>rfl
 | i::l,h=>by
  show f i+lsm l f=g i+lsm l g
  rw[h i (List.mem_cons_self ..),QBg fun j hj=>h j (List.mem_cons_of_mem _ hj)]
theorem QOe(l:List Nat)(h:Nat->D):l.map h=(List.range l.length).map fun i=>h (l.getD i 0):=by
 apply List.ext_getElem?
 intro i
 rw[List.getElem?_map,List.getElem?_map]
 by_cases hi:i<l.length
 ·rw[List.getElem?_range hi,List.getElem?_eq_getElem hi]
  show some (h l[i])=some (h (l.getD i 0))
  rw[List.getD_eq_getElem?_getD,List.getElem?_eq_getElem hi];rfl
 ·have a:l[i]?=none:=by simp;omega
  have b:(List.range l.length)[i]?=none:=by simp;omega
  rw[a,b];rfl
theorem QNM(l:List Nat)(h:Nat->Int):f1 fSum [.lst (l.map fun i=>D.int (h i))]=.ok (.int (l.map h).sum):=by
 have e:(l.map fun i=>D.int (h i))=(l.map h).map D.int:=by rw[List.map_map];rfl
 show fSum (.lst _)=_
 rw[e,fSum]
 have:∀ ns:List Int,intsD (ns.map .int)=some ns:=fun ns=>by
  induction ns with
  | nil=>rfl
  | cons x xs ih=>show(intsD (xs.map .int)).map (x :: ·)=_;rw[ih];rfl
 rw[this]
theorem QQi{l:List Nat}{F:Nat->Int×Int}(hl:l.length<=12)(hF:∀ i∈l,1<=(F i).2/\(F i).2.natAbs<=2 ^ 100):∃ L:Int,Qbv [.lst (l.map fun i=>fr (F i))]=.ok (.int L)/\1<=L/\(∀ i∈l,(F i).2∣L)/\L.natAbs<=2 ^ 1200:=by
 have mem:∀ i,i<l.length->l.getD i 0∈l:=fun i hi=>by
  rw[List.getD_eq_getElem?_getD,List.getElem?_eq_getElem hi];exact List.getElem_mem hi
 obtain⟨L,h1,h2,h3,h4⟩:=QRK (n:=l.length) (f:=fun i=>F (l.getD i 0)) (Q:=fun k=>(2 ^ 100) ^ k) (N:=(2 ^ 100) ^ 12) (by decide) (fun i hi=>by
  obtain⟨a,b⟩:=hF _ (mem i hi)
  refine⟨a,Nat.le_trans b (by decide),Nat.pow_le_pow_right (by decide) (by omega),?_⟩
  show(2 ^ 100) ^ i * _<=(2 ^ 100) ^ (i+1)
  rw[Nat.pow_succ]
  exact Nat.mul_le_mul (Nat.le_refl _) b) (dk)
 refine⟨L,?_,h2,fun i hi=>?_,Nat.le_trans h4 ?_⟩
 ·rw[QOe l fun i=>fr (F i)];exact h1
 ·obtain⟨j,hj,e⟩:=List.getElem_of_mem hi
  have:=h3 j hj
  have g:l.getD j 0=i:=by rw[List.getD_eq_getElem?_getD,List.getElem?_eq_getElem hj, ← e];rfl
  rw[g]at this;exact this
 ·have:((2:Nat) ^ 100) ^ l.length<=(2 ^ 100) ^ 12:=Nat.pow_le_pow_right (by decide) hl
  exact Nat.le_trans this (dk)
theorem QNS{n:Nat}(hn:n<=12){f g:Nat->Int×Int}(hf:∀ i,i<n->1<=(f i).2/\bitsI (f i).1<=48/\(f i).2.natAbs<=2 ^ 48)(hg:∀ i,i<n->1<=(g i).2/\bitsI (g i).1<=100/\(g i).2.natAbs<=2 ^ 48):
 ∃ p:Int×Int,low p.1 p.2/\qt p=Bar.sm n (fun i=>qt (f i) * qt (g i))/\p.2.natAbs<=2 ^ 1200/\Qe3 [rl n (fun i=>fr (f i)),rl n (fun i=>fr (g i))]=.ok (fr p):=by
 let F:Nat->Int×Int:=fun i=>((f i).1 * (g i).1,(f i).2 * (g i).2)
 let pp:Nat->Bool:=fun i => !decide ((f i).1=0)
 generalize hl:(List.range n).filter pp=l
 have mem:∀ i∈l,i<n:=fun i hi=>by rw[← hl]at hi;exact List.mem_range.mp (List.mem_filter.mp hi).1
 have len:l.length<=12:=by rw[← hl];exact Nat.le_trans (List.length_filter_le ..) (by rw[List.length_range];exact hn)
 have b2:∀ i,i<n->bitsI (f i).2<=49/\bitsI (g i).2<=49:=fun i hi=>⟨Qas (Nat.lt_of_le_of_lt (hf i hi).2.2 (by decide)),Qas (Nat.lt_of_le_of_lt (hg i hi).2.2 (by decide))⟩
 have hc:eComp [none,none] (itZ (eVar 0) (eVar 1)) (gT [0,1]) QcQ Qdo [some (.k,rl n (fun i=>fr (f i))),some (.k,rl n (fun i=>fr (g i))),none,none]=.ok (.lst (l.map fun i=>fr (F i))):=by
  rw[← hl]
  refine QQo (fun i=>D.tup [fr (f i),fr (g i)]) pp (fun i=>fr (F i)) ?_ (fun i hi=>?_) (by omega)
  ·unfold itZ
   rw[r_var rfl,Out.bind_ok,r_var rfl,Out.bind_ok]
   show Out.ok (List.zipWith _ _ _)=_
   rw[List.zipWith_map,List.zipWith_self]
  ·have x0:=fr0 (f i)
   have x1:=fr1 (f i)
   have y0:=fr0 (g i)
   have y1:=fr1 (g i)
   obtain⟨f1',f2',f3'⟩:=hf i hi
   obtain⟨g1',g2',g3'⟩:=hg i hi
   obtain⟨b1',b2'⟩:=b2 i hi
   by_cases h0:(f i).1=0
   ·have d0:(!decide ((f i).1=0))=false:=by rw[decide_eq_true h0];rfl
    have q:QcQ [some (.k,fr (f i)),some (.k,fr (g i))]=.ok false:=by
     unfold QcQ
     have hne:dNe (.int (f i).1) (.int 0)=.ok (.bl false):=by rw[QaY,d0]
     (repeat walk_at "e")
    show(QcQ [some (.k,fr (f i)),some (.k,fr (g i))]>>=fun b=>if b=true then Qdo [some (.k,fr (f i)),some (.k,fr (g i))]>>=fun y=>Out.ok (some y) else .ok none)=_
    rw[q]
    show Out.ok none=Out.ok (if (!decide ((f i).1=0))=true then _ else none)
    rw[d0];rfl
   ·have d0:(!decide ((f i).1=0))=true:=by rw[decide_eq_false h0];rfl
    have q:QcQ [some (.k,fr (f i)),some (.k,fr (g i))]=.ok true:=by
     unfold QcQ
     have hne:dNe (.int (f i).1) (.int 0)=.ok (.bl true):=by rw[QaY,d0]
     (repeat walk_at "e")
    have x:Qdo [some (.k,fr (f i)),some (.k,fr (g i))]=.ok (fr (F i)):=by
     show _=Out.ok (D.tup [.int ((f i).1 * (g i).1),.int ((f i).2 * (g i).2)])
     unfold Qdo
     (repeat walk_at "e")
    show(QcQ [some (.k,fr (f i)),some (.k,fr (g i))]>>=fun b=>if b=true then Qdo [some (.k,fr (f i)),some (.k,fr (g i))]>>=fun y=>Out.ok (some y) else .ok none)=_
    rw[q]
    show(Qdo [some (.k,fr (f i)),some (.k,fr (g i))]>>=fun y=>Out.ok (some y))=Out.ok (if (!decide ((f i).1=0))=true then some (fr (F i)) else none)
    rw[x,d0];rfl
 have hF:∀ i∈l,1<=(F i).2/\(F i).2.natAbs<=2 ^ 100:=fun i hi=>by
  obtain⟨f1',f2',f3'⟩:=hf i (mem i hi)
  obtain⟨g1',g2',g3'⟩:=hg i (mem i hi)
  refine⟨?_,?_⟩
  ·show 1<=(f i).2 * (g i).2
   have h3:1 * 1<=(f i).2 * (g i).2:=Int.mul_le_mul f1' g1' (by decide) (by omega)
   omega
  ·show((f i).2 * (g i).2).natAbs<=_
   rw[Int.natAbs_mul]
   exact Nat.le_trans (Nat.mul_le_mul f3' g3') (by decide)
 obtain⟨L,cb,l1,ld,lb⟩:=QQi len hF
 have bL:bitsI L<=1201:=Qas (Nat.lt_of_le_of_lt lb (dk))
 have hc2:eComp [none,some 3] (itL (eVar 2)) (gN 0) cTrue QmI [some (.k,rl n (fun i=>fr (f i))),some (.k,rl n (fun i=>fr (g i))),some (.k,.lst (l.map fun i=>fr (F i))),some (.k,.int L)]=.ok (.lst (l.map fun i=>D.int ((F i).1 * (L / (F i).2)))):=by
  refine QaO (fun i=>fr (F i)) (fun i=>D.int ((F i).1 * (L / (F i).2))) rfl (fun i hi=>?_) (by omega)
  have x0:=fr0 (F i)
  have x1:=fr1 (F i)
  obtain⟨c1,c2⟩:=hF i hi
  obtain⟨f1',f2',f3'⟩:=hf i (mem i hi)
  obtain⟨g1',g2',g3'⟩:=hg i (mem i hi)
  have bt:bitsI (F i).1<=200:=Nat.le_trans (Qkk f2' g2') (by decide)
  have bb:bitsI (F i).2<=200:=Qas (Nat.lt_of_le_of_lt c2 (dk))
  refine QaH (by walk_at "cap") (by walk_at "s") ?_
  unfold QmI
  (repeat walk_at "e")
 have hsum:=QNM l fun i=>(F i).1 * (L / (F i).2)
 generalize hS:(l.map fun i=>(F i).1 * (L / (F i).2)).sum=S at hsum
 have sh:=QFG (a:=S) (b:=L) (by omega) (Nat.lt_of_le_of_lt lb (dk))
 refine⟨pr S L,Qkt (by omega),?_,?_,?_⟩
 ·rw[qt_pr (by omega), ← hS,QFa]
  have cl:=Qck l1
  have e:lsm l (fun i=>(((F i).1 * (L / (F i).2):Int):Rat))=lsm l (fun i=>(L:Rat) * (qt (f i) * qt (g i))):=QBg fun i hi=>by
   obtain⟨f1',_⟩:=hf i (mem i hi)
   obtain⟨g1',_⟩:=hg i (mem i hi)
   rw[Rat.intCast_mul,QPG (hF i hi).1 (ld i hi)]
   show(((f i).1 * (g i).1:Int):Rat) * ((L:Rat) / (((f i).2 * (g i).2:Int):Rat))=_
   rw[Rat.intCast_mul,Rat.intCast_mul]
   have:=Qck f1'
   have:=Qck g1'
   unfold qt
   grind
  rw[e,QJC, ← hl,Qys,QA4]
  ·grind
  ·intro i hi hp
   have:(f i).1=0:=by
    have hp:(!decide ((f i).1=0))=false:=hp
    simpa using hp
   unfold qt
   rw[this]
   have z:((0:Int):Rat)=0:=rfl
   rw[z];grind
 ·show(L.fdiv (shD S L)).natAbs<=_
  exact Nat.le_trans (Int.natAbs_fdiv_le_natAbs _ _) lb
 ·show _=Out.ok (D.tup [.int (S.fdiv (shD S L)),.int (L.fdiv (shD S L))])
  rw[QKw]
  unfold Qmc
  (repeat walk_at "e")
theorem sf_at{t:List (List Int)}{s:Nat}(h:s<t.length)(j:Nat):sf t (s:Int) j=cs t s j:=by
 unfold sf
 rw[Int.ediv_eq_zero_of_lt (by omega) (by omega),Int.emod_eq_of_lt (by omega) (by omega),Int.zero_mul,Int.zero_add];simp
theorem QQp{t:List (List Int)}(j:Nat):sf t 0 j=0:=by
 unfold sf cs;simp
section
variable{n nd:Nat}{nm dn c:Nat->Str}{t:Nat->List (List Int)}{m:Nat->Nat}{ld:Nat->Nat->Int}{st:Nat->Int}
theorem QKY:(offF n nd nm dn c t m ld st).lookup ("staff":Str)=some (rl n (fun k=>ck (c k) (t k) (m k))):=by
 have h1:(("staff":Str) == "clerk_names")=false:=dk
 have h2:(("staff":Str) == "door_names")=false:=dk
 have h3:(("staff":Str) == "entry_places")=false:=dk
 unfold offF
 rw[List.lookup_cons,h1,List.lookup_cons,h2,List.lookup_cons,h3,List.lookup_cons,beq_self_eq_true]
theorem QNt:(offF n nd nm dn c t m ld st).lookup ("ways":Str)=some (rl n (fun k=>rl (m k) (fun j=>.int (ld k j)))):=by
 have h1:(("ways":Str) == "clerk_names")=false:=dk
 have h2:(("ways":Str) == "door_names")=false:=dk
 have h3:(("ways":Str) == "entry_places")=false:=dk
 have h4:(("ways":Str) == "staff")=false:=dk
 have h5:(("ways":Str) == "first_states")=false:=dk
 unfold offF
 rw[List.lookup_cons,h1,List.lookup_cons,h2,List.lookup_cons,h3,List.lookup_cons,h4,List.lookup_cons,h5,List.lookup_cons,beq_self_eq_true]
theorem QMp{x:Str}(h:(["clerk_names","door_names","entry_places","staff","first_states","ways"]:List Str).all (fun y => !(x == y))=true):(offF n nd nm dn c t m ld st).lookup x=none:=by
 simp only[List.all_cons,List.all_nil,Bool.and_eq_true,Bool.not_eq_true',Bool.and_true]at h
 obtain⟨h1,h2,h3,h4,h5,h6⟩:=h
 unfold offF
 rw[List.lookup_cons,h1,List.lookup_cons,h2,List.lookup_cons,h3,List.lookup_cons,h4,List.lookup_cons,h5,List.lookup_cons,h6];rfl
theorem fld_o{x:Str}{d:D}(h:(offF n nd nm dn c t m ld st).lookup x=some d):dFld Qj x (offD n nd nm dn c t m ld st)=.ok d:=by
 show(if Qj.contains "Office"=true then optO ((offF n nd nm dn c t m ld st).lookup x) else .stuck)=_
 rw[if_pos QJh,h];rfl
theorem Qv1{x:Str}{mt:Str->List D->Out D}{O:SD->Out D}{A:SD->Out (List D)}{ς:SD}{xs:List D}(hO:O ς=.ok (offD n nd nm dn c t m ld st))(hA:A ς=.ok xs)
 (h:(["clerk_names","door_names","entry_places","staff","first_states","ways"]:List Str).all (fun y => !(x == y))=true):eMeth Q0 x mt O A ς=mt "Office" (offD n nd nm dn c t m ld st::xs):=by
 have hc:Q0.contains "Office"=true:=dk
 unfold eMeth
 rw[hO,Out.bind_ok]
 show(if (Q0.contains "Office"&&((offF n nd nm dn c t m ld st).lookup x).isNone)=true then A ς>>=fun xs=>mt "Office" (.ins "Office" (offF n nd nm dn c t m ld st)::xs) else .stuck)=_
 rw[QMp h,hc,if_pos (show(true&&(none:Option D).isNone)=true from rfl),hA];rfl
theorem QBh{k:Nat}(hk:k<n):Qaj [offD n nd nm dn c t m ld st,.int (k:Int)]=.ok (ck (c k) (t k) (m k)):=by
 have h1:=fld_o (QKY (n:=n) (nd:=nd) (nm:=nm) (dn:=dn) (c:=c) (t:=t) (m:=m) (ld:=ld) (st:=st))
 have x1:dIx (rl n (fun k=>ck (c k) (t k) (m k))) (.int (k:Int))=.ok (ck (c k) (t k) (m k)):=ixR hk
 rw[Qzp]
 unfold QgF
 (repeat walk_at "e")
theorem QNp{k:Nat}(hk:k<n):Qbe [offD n nd nm dn c t m ld st,.int (k:Int)]=.ok (rl (m k) (fun j=>.int (ld k j))):=by
 have h1:=fld_o (QNt (n:=n) (nd:=nd) (nm:=nm) (dn:=dn) (c:=c) (t:=t) (m:=m) (ld:=ld) (st:=st))
 have x1:dIx (rl n (fun k=>rl (m k) (fun j=>.int (ld k j)))) (.int (k:Int))=.ok (rl (m k) (fun j=>.int (ld k j))):=ixR hk
 have hd:dList (rl (m k) (fun j=>.int (ld k j)))=.ok (rl (m k) (fun j=>.int (ld k j))):=rfl
 rw[Qzw]
 unfold QgC
 (repeat walk_at "e")
def bh(ld:Nat->Nat->Int)(wr dw:Nat->Int×Int)(k j:Nat):Int×Int:=if ld k j<0 then dw (-1 - ld k j).toNat else wr (ld k j).toNat
def okW(p:Int×Int):Prop:=low p.1 p.2/\bitsI p.1<=100/\p.2.natAbs<=2 ^ 48
variable(hs:Seats n nd nm dn c t m ld st){wr dw:Nat->Int×Int}(hw:∀ i,i<n->okW (wr i))(hd:∀ i,i<nd->okW (dw i))
include hs
theorem QNl{k:Nat}(hk:k<n):Qb9 [offD n nd nm dn c t m ld st,.int (k:Int),rl n (fun i=>fr (wr i)),rl nd (fun i=>fr (dw i))]=.ok (rl (m k) (fun j=>fr (bh ld wr dw k j))):=by
 have m6:=(hs.tb k hk).m6
 have hl:=QNp (n:=n) (nd:=nd) (nm:=nm) (dn:=dn) (c:=c) (t:=t) (m:=m) (ld:=ld) (st:=st) hk
 have hm:eMeth Q0 "leads" (fun _=>Qbe) (eVar 0) (aCons (eVar 1) aNil) [some (.k,offD n nd nm dn c t m ld st),some (.k,.int (k:Int)),some (.k,rl n (fun i=>fr (wr i))),some (.k,rl nd (fun i=>fr (dw i)))]=.ok (rl (m k) (fun j=>.int (ld k j))):=by
  rw[Qv1 (xs:=[.int (k:Int)]) (by (repeat walk_at "e")) (by (repeat walk_at "e")) (dk)]
  exact hl
 have hc:eComp [none,some 2,some 3] (itL (eMeth Q0 "leads" (fun _=>Qbe) (eVar 0) (aCons (eVar 1) aNil))) (gN 0) cTrue QgV [some (.k,offD n nd nm dn c t m ld st),some (.k,.int (k:Int)),some (.k,rl n (fun i=>fr (wr i))),some (.k,rl nd (fun i=>fr (dw i)))]=.ok (rl (m k) (fun j=>fr (bh ld wr dw k j))):=by
  refine QaO (fun j=>D.int (ld k j)) (fun j=>fr (bh ld wr dw k j)) (r_itL hm) (fun j hj=>?_) (by rw[List.length_range];omega)
  obtain⟨l1,l2⟩:=hs.ldr k j hk (List.mem_range.mp hj)
  refine QaH (by walk_at "cap") (by walk_at "s") ?_
  unfold QgV bh
  by_cases h:ld k j<0
  ·rw[if_pos h]
   have g0:dGe (.int (ld k j)) (.int 0)=.ok (.bl false):=by rw[Qcm,decide_eq_false (by omega)]
   have x1:dIx (rl nd (fun i=>fr (dw i))) (.int (-1 - ld k j))=.ok (fr (dw (-1 - ld k j).toNat)):=by
    have:=ixR (n:=nd) (f:=fun i=>fr (dw i)) (show(-1 - ld k j).toNat<nd by omega)
    rw[Int.toNat_of_nonneg (by omega)]at this
    exact this
   (repeat walk_at "e")
  ·rw[if_neg h]
   have g0:dGe (.int (ld k j)) (.int 0)=.ok (.bl true):=by rw[Qcm,decide_eq_true (by omega)]
   have x1:dIx (rl n (fun i=>fr (wr i))) (.int (ld k j))=.ok (fr (wr (ld k j).toNat)):=by
    have:=ixR (n:=n) (f:=fun i=>fr (wr i)) (show(ld k j).toNat<n by omega)
    rw[Int.toNat_of_nonneg (by omega)]at this
    exact this
   (repeat walk_at "e")
 rw[Qyt]
 unfold QfX
 (repeat walk_at "e")
include hw hd
theorem bh_ok{k j:Nat}(hk:k<n)(hj:j<m k):okW (bh ld wr dw k j):=by
 obtain⟨l1,l2⟩:=hs.ldr k j hk hj
 unfold bh
 split
 ·exact hd _ (by omega)
 ·exact hw _ (by omega)
def leanQ(t:List (List Int))(m:Nat)(q:Nat->Rat)(s:Nat):Rat:=Bar.sm m (fun j=>(((s:Int) * cs t t.length j - (t.length:Int) * cs t s j:Int):Rat) / ((t.length:Int):Rat) * q j)
theorem QO0{k s:Nat}(hk:k<n)(hsn:s<(t k).length):∃ p:Int×Int,low p.1 p.2/\qt p=leanQ (t k) (m k) (fun j=>qt (bh ld wr dw k j)) s/\p.2.natAbs<=2 ^ 1200/\
 QiD [offD n nd nm dn c t m ld st,.int (k:Int),.int (s:Int),rl n (fun i=>fr (wr i)),rl nd (fun i=>fr (dw i))]=.ok (fr p):=by
 have tb:=hs.tb k hk
 have hc:=hs.ck k hk
 have m6:=tb.m6
 have n12:=tb.n2
 have n1':=tb.n1
 have h1:=QBh (n:=n) (nd:=nd) (nm:=nm) (dn:=dn) (c:=c) (t:=t) (m:=m) (ld:=ld) (st:=st) hk
 have h2:=QNl hs (wr:=wr) (dw:=dw) hk
 have csb:=cs_le tb
 let f:Nat->Int×Int:=fun j=>pr ((s:Int) * cs (t k) (t k).length j - ((t k).length:Int) * cs (t k) s j) ((t k).length:Int)
 have hf:∀ j,j<m k->1<=(f j).2/\bitsI (f j).1<=48/\(f j).2.natAbs<=2 ^ 48:=fun j hj=>by
  have lw:=Qkt (a:=(s:Int) * cs (t k) (t k).length j - ((t k).length:Int) * cs (t k) s j) (b:=((t k).length:Int)) (by omega)
  refine⟨lw.1,?_,?_⟩
  ·show bitsI (((s:Int) * cs (t k) (t k).length j - ((t k).length:Int) * cs (t k) s j).fdiv _)<=48
   refine Qas (Nat.lt_of_le_of_lt (Int.natAbs_fdiv_le_natAbs _ _) ?_)
   have a:=csb (t k).length j
   have b:=csb s j
   have c1:(s:Int) * cs (t k) (t k).length j<=12 * 108:=Int.mul_le_mul (by omega) (by omega) a.1 (by decide)
   have c2:((t k).length:Int) * cs (t k) s j<=12 * 108:=Int.mul_le_mul (by omega) (by omega) b.1 (by decide)
   have c3:0<=(s:Int) * cs (t k) (t k).length j:=Int.mul_nonneg (by omega) a.1
   have c4:0<=((t k).length:Int) * cs (t k) s j:=Int.mul_nonneg (by omega) b.1
   omega
  ·show(((t k).length:Int).fdiv _).natAbs<=_
   refine Nat.le_trans (Int.natAbs_fdiv_le_natAbs _ _) ?_
   show(((t k).length:Int)).natAbs<=2 ^ 48
   omega
 obtain⟨p,lp,qp,bp,hp⟩:=QNS (n:=m k) (by omega) (f:=f) (g:=bh ld wr dw k) hf (fun j hj=>by
  obtain⟨a,b,c⟩:=bh_ok hs hw hd hk hj
  exact⟨a.1,b,c⟩)
 refine⟨p,lp,?_,bp,?_⟩
 ·rw[qp]
  unfold leanQ
  exact Bar.sm_congr fun j _=>by
   show qt (pr _ _) * _=_
   rw[qt_pr (by omega)]
 ·generalize hO:offD n nd nm dn c t m ld st=O at *
  generalize hW:rl n (fun i=>fr (wr i))=W at *
  generalize hDW:rl nd (fun i=>fr (dw i))=DW at *
  have mc:eMeth Q0 "clerk" (fun _=>Qaj) (eVar 0) (aCons (eVar 1) aNil) [some (.k,O),some (.k,.int (k:Int)),some (.k,.int (s:Int)),some (.k,W),some (.k,DW),none,none,none,none]=.ok (ck (c k) (t k) (m k)):=by
   subst hO
   rw[Qv1 (xs:=[.int (k:Int)]) (by (repeat walk_at "e")) (by (repeat walk_at "e")) (dk)]
   exact h1
  have mp:∀ ς:SD,ς[5]?=some (some (.k,ck (c k) (t k) (m k)))->eMeth Qd "period" (fun _=>QA) (eVar 5) aNil ς=.ok (.int ((t k).length:Int)):=fun ς h=>by
   rw[Qfy (c:=c k) (t:=t k) (m:=m k) hc (xs:=[]) (by unfold eVar;rw[h]) rfl (dk) (dk)]
   exact Qoi hc _ _
  have mw:∀ ς:SD,ς[5]?=some (some (.k,ck (c k) (t k) (m k)))->eMeth Qd "whole" (fun _=>QaE) (eVar 5) aNil ς=.ok (dl (pre (t k) (m k) (t k).length)):=fun ς h=>by
   rw[Qfy (c:=c k) (t:=t k) (m:=m k) hc (xs:=[]) (by unfold eVar;rw[h]) rfl (dk) (dk)]
   exact QC3 hc _ _
  have ms:∀ ς:SD,ς[5]?=some (some (.k,ck (c k) (t k) (m k)))->ς[2]?=some (some (.k,.int (s:Int)))->eMeth Qd "sent" (fun _=>QcR) (eVar 5) (aCons (eC (.int 0)) (aCons (eVar 2) aNil)) ς=.ok (dl (pre (t k) (m k) s)):=fun ς h h'=>by
   rw[Qfy (c:=c k) (t:=t k) (m:=m k) hc (xs:=[.int 0,.int (s:Int)]) (by unfold eVar;rw[h]) (by simp only[aCons,aNil,eC,eVar,h',Out.bind_ok]) (dk) (dk)]
   rw[QOX hc tb (s:=0) (x:=(s:Int)) (by decide) (by omega) (by decide) (by rw[Int.zero_add];exact Nat.lt_of_le_of_lt (show((s:Int)).natAbs<=12 by omega) (by decide)) (QNP tb)]
   refine congrArg (fun l=>Out.ok (dl l)) ?_
   unfold pre
   exact List.map_congr_left fun j _=>by rw[Int.zero_add,sf_at hsn,QQp,Int.sub_zero]
  have hz:eComp [none,none,some 2,some 6] (itZ (eMeth Qd "whole" (fun _=>QaE) (eVar 5) aNil) (eVar 7)) (gT [0,1]) cTrue QwB [some (.k,O),some (.k,.int (k:Int)),some (.k,.int (s:Int)),some (.k,W),some (.k,DW),some (.k,ck (c k) (t k) (m k)),some (.k,.int ((t k).length:Int)),some (.k,dl (pre (t k) (m k) s)),none]=.ok (rl (m k) (fun j=>fr (f j))):=by
   refine QaO (fun j=>D.tup [.int (cs (t k) (t k).length j),.int (cs (t k) s j)]) (fun j=>fr (f j)) ?_ (fun j hj=>?_) (by rw[List.length_range];omega)
   ·unfold itZ
    rw[mw _ rfl,Out.bind_ok,r_var rfl,Out.bind_ok]
    show Out.ok (List.zipWith _ ((pre (t k) (m k) (t k).length).map D.int) ((pre (t k) (m k) s).map D.int))=_
    unfold pre
    rw[List.map_map,List.map_map,List.zipWith_map,List.zipWith_self];rfl
   ·have a:=csb (t k).length j
    have b:=csb s j
    have b1:bitsI (s:Int)<=100:=Qs1 (Nat.lt_of_lt_of_le hsn (Nat.le_trans n12 (by decide)))
    have b2:bitsI (cs (t k) (t k).length j)<=100:=bd_in a.1 (Int.lt_of_le_of_lt a.2 (Int.lt_of_le_of_lt (show 9 * ((t k).length:Int)<=108 by omega) (by decide)))
    have b3:bitsI (cs (t k) s j)<=100:=bd_in b.1 (Int.lt_of_le_of_lt b.2 (Int.lt_of_le_of_lt (show 9 * ((t k).length:Int)<=108 by omega) (by decide)))
    have b4:bitsI ((t k).length:Int)<=100:=Qs1 (Nat.lt_of_le_of_lt n12 (by decide))
    have sh:=QFG (a:=(s:Int) * cs (t k) (t k).length j - ((t k).length:Int) * cs (t k) s j) (b:=((t k).length:Int)) (by omega) (Nat.lt_of_le_of_lt (show(((t k).length:Int)).natAbs<=12 by omega) (dk))
    refine QJr (by walk_at "cap") (by walk_at "all") ?_
    show _=Out.ok (D.tup [.int (((s:Int) * cs (t k) (t k).length j - ((t k).length:Int) * cs (t k) s j).fdiv (shD _ _)),.int (((t k).length:Int).fdiv (shD _ _))])
    unfold QwB
    (repeat walk_at "e")
  rw[QRH]
  unfold Qw3
  (repeat (first | with_reducible exact mp _ (by walk_at "g") | with_reducible exact ms _ (by walk_at "g") (by walk_at "g") | walk_at "e"))
end
def ent(t:List (List Int))(k j:Nat):Int:=(t.getD k []).getD j 0
theorem QQq{t:List (List Int)}{k j:Nat}(hk:k<t.length):cs t (k+1) j=cs t k j+ent t k j:=by
 have e:t.getD k []=t[k]:=by rw[List.getD_eq_getElem?_getD,List.getElem?_eq_getElem hk];rfl
 unfold cs ent
 rw[e,List.take_add_one,List.getElem?_eq_getElem hk,Option.toList_some,List.map_append,List.sum_append]
 simp only[List.map_cons,List.map_nil,List.sum_cons,List.sum_nil,Int.add_zero,Option.getD_some]
section
variable{n nd:Nat}{nm dn c:Nat->Str}{t:Nat->List (List Int)}{m:Nat->Nat}{ld:Nat->Nat->Int}{st:Nat->Int}(hs:Seats n nd nm dn c t m ld st){wr dw:Nat->Int×Int}(hw:∀ i,i<n->okW (wr i))(hd:∀ i,i<nd->okW (dw i))
include hs hw hd
theorem QN4{k:Nat}(hk:k<n):∃ P:Nat->Int×Int,(∀ s,s<(t k).length->low (P s).1 (P s).2/\qt (P s)=leanQ (t k) (m k) (fun j=>qt (bh ld wr dw k j)) s/\(P s).2.natAbs<=2 ^ 1200)/\
 Qjt [offD n nd nm dn c t m ld st,.int (k:Int),rl n (fun i=>fr (wr i)),rl nd (fun i=>fr (dw i))]=.ok (rl (t k).length (fun s=>fr (P s))):=by
 have n12:=(hs.tb k hk).n2
 have H:∀ s,∃ p:Int×Int,s<(t k).length->low p.1 p.2/\qt p=leanQ (t k) (m k) (fun j=>qt (bh ld wr dw k j)) s/\p.2.natAbs<=2 ^ 1200/\
  QiD [offD n nd nm dn c t m ld st,.int (k:Int),.int (s:Int),rl n (fun i=>fr (wr i)),rl nd (fun i=>fr (dw i))]=.ok (fr p):=fun s=>by
  by_cases h:s<(t k).length
  ·obtain⟨p,a,b,c,d⟩:=QO0 hs hw hd hk h
   exact⟨p,fun _=>⟨a,b,c,d⟩⟩
  ·exact⟨(0,1),fun z=>absurd z h⟩
 obtain⟨P,hP⟩:∃ P:Nat->Int×Int,∀ s,s<(t k).length->low (P s).1 (P s).2/\qt (P s)=leanQ (t k) (m k) (fun j=>qt (bh ld wr dw k j)) s/\(P s).2.natAbs<=2 ^ 1200/\
  QiD [offD n nd nm dn c t m ld st,.int (k:Int),.int (s:Int),rl n (fun i=>fr (wr i)),rl nd (fun i=>fr (dw i))]=.ok (fr (P s)):=⟨fun s=>(H s).choose,fun s h=>(H s).choose_spec h⟩
 refine⟨P,fun s hs'=>⟨(hP s hs').1,(hP s hs').2.1,(hP s hs').2.2.1⟩,?_⟩
 have hP:=fun s h=>(hP s h).2.2.2
 have h1:=QBh (n:=n) (nd:=nd) (nm:=nm) (dn:=dn) (c:=c) (t:=t) (m:=m) (ld:=ld) (st:=st) hk
 generalize hO:offD n nd nm dn c t m ld st=O at *
 generalize hW:rl n (fun i=>fr (wr i))=W at *
 generalize hDW:rl nd (fun i=>fr (dw i))=DW at *
 have mc:eMeth Q0 "clerk" (fun _=>Qaj) (eVar 0) (aCons (eVar 1) aNil) [some (.k,O),some (.k,.int (k:Int)),some (.k,W),some (.k,DW)]=.ok (ck (c k) (t k) (m k)):=by
  subst hO
  rw[Qv1 (xs:=[.int (k:Int)]) (by (repeat walk_at "e")) (by (repeat walk_at "e")) (dk)]
  exact h1
 have mp:eMeth Qd "period" (fun _=>QA) (eMeth Q0 "clerk" (fun _=>Qaj) (eVar 0) (aCons (eVar 1) aNil)) aNil [some (.k,O),some (.k,.int (k:Int)),some (.k,W),some (.k,DW)]=.ok (.int ((t k).length:Int)):=by
  rw[Qfy (c:=c k) (t:=t k) (m:=m k) (hs.ck k hk) (xs:=[]) mc rfl (dk) (dk)]
  exact Qoi (hs.ck k hk) _ _
 have hc:eComp [none,some 0,some 1,some 2,some 3] (itR1 (eMeth Qd "period" (fun _=>QA) (eMeth Q0 "clerk" (fun _=>Qaj) (eVar 0) (aCons (eVar 1) aNil)) aNil)) (gN 0) cTrue QsJ [some (.k,O),some (.k,.int (k:Int)),some (.k,W),some (.k,DW)]=.ok (rl (t k).length (fun s=>fr (P s))):=by
  refine Qjx (fun s=>fr (P s)) (QcM (t k).length mp (by omega)) (fun s hs'=>?_) (by omega)
  have h:=hP s hs'
  refine QaH (by walk_at "cap") (by walk_at "s") ?_
  unfold QsJ
  (repeat walk_at "e")
 rw[QPR]
 unfold QuO
 (repeat walk_at "e")
end
theorem QO8:∀(n:Nat)(a b:Int),0<=a->0<=b->b.toNat<=n->Qc2 QdO QdV [some (.k,.int a),some (.k,.int b)]
 = .ok (.nx [some (.k,.int (a.gcd b:Nat)),some (.k,.int 0)]):=by
 intro n
 induction n with
 | zero=>
  intro a b ha hb hn
  have e:b=0:=by omega
  subst e
  rw[Qdh]
  simp[QdO,QdV,bodyF,retF,sSeq,thenF,sSet,sRet,sIf,sNil,eVar,eC,e1,e2,eA,f1,aNil,aCons,tVal,tAnd',tOr',tNot',eAnd,eOr,eNot,eIf,eTup,eLst,eIsa,isaT,QaL,oNo,oSome,sPar,sUnp,Q3,gN,gT,fLen,QaD,Out.bind_ok,Out.bind_exc,Out.bind_stuck,Out.pure_eq,D.scal,Qbs,Qcd,QbL,Qbt,QaM,QbM,Qc0,Qcm,QC,QaY,List.length_cons,List.length_nil,List.map_cons,List.map_nil,List.cons_append,List.nil_append,List.append_nil,List.getElem?_cons_zero,List.getElem?_cons_succ,List.set_cons_zero,List.set_cons_succ,List.replicate,Nat.reduceAdd,Nat.reduceSub,Nat.reduceLeDiff,Nat.zero_add,Nat.add_zero,reduceIte,Bool.not_true,Bool.not_false,Bool.true_and,Bool.and_true,Bool.false_and,Bool.and_false,Bool.or_true,Bool.true_or,Bool.or_false,Bool.false_or,Bool.false_eq_true,decide_true,decide_false,decide_eq_true_eq,Bool.not_eq_true',decide_eq_false_iff_not,Int.reduceEq,Int.reduceLT,Int.reduceLE,Int.reduceNeg,Nat.reduceEqDiff, ↓reduceIte,not_true_eq_false,not_false_eq_true]
  omega
 | succ n ih=>
  intro a b ha hb hn
  by_cases e:b=0
  ·subst e
   rw[Qdh]
   simp[QdO,QdV,bodyF,retF,sSeq,thenF,sSet,sRet,sIf,sNil,eVar,eC,e1,e2,eA,f1,aNil,aCons,tVal,tAnd',tOr',tNot',eAnd,eOr,eNot,eIf,eTup,eLst,eIsa,isaT,QaL,oNo,oSome,sPar,sUnp,Q3,gN,gT,fLen,QaD,Out.bind_ok,Out.bind_exc,Out.bind_stuck,Out.pure_eq,D.scal,Qbs,Qcd,QbL,Qbt,QaM,QbM,Qc0,Qcm,QC,QaY,List.length_cons,List.length_nil,List.map_cons,List.map_nil,List.cons_append,List.nil_append,List.append_nil,List.getElem?_cons_zero,List.getElem?_cons_succ,List.set_cons_zero,List.set_cons_succ,List.replicate,Nat.reduceAdd,Nat.reduceSub,Nat.reduceLeDiff,Nat.zero_add,Nat.add_zero,reduceIte,Bool.not_true,Bool.not_false,Bool.true_and,Bool.and_true,Bool.false_and,Bool.and_false,Bool.or_true,Bool.true_or,Bool.or_false,Bool.false_or,Bool.false_eq_true,decide_true,decide_false,decide_eq_true_eq,Bool.not_eq_true',decide_eq_false_iff_not,Int.reduceEq,Int.reduceLT,Int.reduceLE,Int.reduceNeg,Nat.reduceEqDiff, ↓reduceIte,not_true_eq_false,not_false_eq_true]
   omega
  ·have hb':0<b:=by omega
   have h1:=Int.emod_nonneg a e
   have h2:=Int.emod_lt_of_pos a hb'
   have h:=ih b (a % b) hb h1 (by omega)
   rw[QD9]at h
   rw[Qdh]
   simp[QdO,QdV,bodyF,retF,sSeq,thenF,sSet,sRet,sIf,sNil,eVar,eC,e1,e2,eA,f1,aNil,aCons,tVal,tAnd',tOr',tNot',eAnd,eOr,eNot,eIf,eTup,eLst,eIsa,isaT,QaL,oNo,oSome,sPar,sUnp,Q3,gN,gT,fLen,QaD,Out.bind_ok,Out.bind_exc,Out.bind_stuck,Out.pure_eq,D.scal,Qbs,Qcd,QbL,Qbt,QaM,QbM,Qc0,Qcm,QC,QaY,List.length_cons,List.length_nil,List.map_cons,List.map_nil,List.cons_append,List.nil_append,List.append_nil,List.getElem?_cons_zero,List.getElem?_cons_succ,List.set_cons_zero,List.set_cons_succ,List.replicate,Nat.reduceAdd,Nat.reduceSub,Nat.reduceLeDiff,Nat.zero_add,Nat.add_zero,reduceIte,Bool.not_true,Bool.not_false,Bool.true_and,Bool.and_true,Bool.false_and,Bool.and_false,Bool.or_true,Bool.true_or,Bool.or_false,Bool.false_or,Bool.false_eq_true,decide_true,decide_false,decide_eq_true_eq,Bool.not_eq_true',decide_eq_false_iff_not,Int.reduceEq,Int.reduceLT,Int.reduceLE,Int.reduceNeg,Nat.reduceEqDiff, ↓reduceIte,not_true_eq_false,not_false_eq_true,hb',Qrp hb']
   exact h
theorem ld_ok(a b:Int):Qc7 [.int a,.int b]=.ok (.int (a.gcd b:Nat)):=by
 have h:=QO8 b.natAbs (a.natAbs:Int) (b.natAbs:Int) (by omega) (by omega) (by omega)
 have e:((a.natAbs:Int)).gcd (b.natAbs:Int)=a.gcd b:=by simp[Int.gcd]
 rw[e]at h
 rw[QCO]
 unfold QhA
 have x0:f1 dAbs [.int a]=.ok (.int (a.natAbs:Int)):=by show dAbs (.int a)=_;rw[Qbt]
 have x1:f1 dAbs [.int b]=.ok (.int (b.natAbs:Int)):=by show dAbs (.int b)=_;rw[Qbt]
 (repeat walk_at "e")
def okB(b:Nat)(p:Int×Int):Prop:=1<=p.2/\bitsI p.1<=b/\bitsI p.2<=b
theorem QOP{i j:Int}{k:Nat}(a:bitsI i<=k)(b:bitsI j<=k):bitsI (i+j)<=k+1:=by
 have h1:=QeD a
 have h2:=QeD b
 refine Qas ?_
 rw[Nat.pow_succ]
 omega
theorem okB.mono{b b':Nat}{p:Int×Int}(h:okB b p)(hb:b<=b'):okB b' p:=⟨h.1,Nat.le_trans h.2.1 hb,Nat.le_trans h.2.2 hb⟩
theorem QuQ{a b:Int}(hb:1<=b):pr a b=(a / ((a.gcd b:Nat):Int),b / ((a.gcd b:Nat):Int)):=by
 unfold pr shD
 rw[if_neg (by omega),Int.fdiv_eq_ediv_of_nonneg a (by omega),Int.fdiv_eq_ediv_of_nonneg b (by omega)]
theorem QL9{a b:Int}{k:Nat}(hb:1<=b)(ba:bitsI a<=k)(bb:bitsI b<=k):okB k (pr a b):=by
 have lw:=Qkt (a:=a) (b:=b) (by omega)
 refine⟨lw.1,?_,?_⟩<;>rw[QuQ hb]
 ·exact QtJ ba
 ·exact QtJ bb
theorem QyL{a b:Int}(hb:1<=b)(bb:bitsI b<=7900):QcJ [.int a,.int b]=.ok (fr (pr a b)):=by
 have hd:=ld_ok a b
 have g0:0<a.gcd b:=Qi5 (by omega)
 have g1:((a.gcd b:Nat):Int)∣b:=Int.gcd_dvd_right a b
 have g2:((a.gcd b:Nat):Int)<=b:=Int.le_of_dvd (by omega) g1
 have gb:bitsI ((a.gcd b:Nat):Int)<=7900:=Qas (Nat.lt_of_le_of_lt (show(((a.gcd b:Nat):Int)).natAbs<=b.natAbs by omega) (QeD bb))
 rw[QuQ hb]
 have gp:0<((a.gcd b:Nat):Int):=by omega
 generalize ((a.gcd b:Nat):Int)=g at *
 rw[QM0]
 unfold Qn2 fr
 (repeat walk_at "e")
theorem QuF{x y:Int×Int}{b1 b2:Nat}(hx:okB b1 x)(hy:okB b2 y)(h:b1+b2<=7800):∃ p:Int×Int,low p.1 p.2/\qt p=qt x+qt y/\okB (b1+b2+1) p/\Qax [fr x,fr y]=.ok (fr p):=by
 obtain⟨x1,x2,x3⟩:=hx
 obtain⟨y1,y2,y3⟩:=hy
 have q1:1 * 1<=x.2 * y.2:=Int.mul_le_mul x1 y1 (by decide) (by omega)
 have q:1<=x.2 * y.2:=by omega
 have bt:bitsI (x.1 * y.2+y.1 * x.2)<=b1+b2+1:=QOP (Qkk x2 y3) (by have:=Qkk y2 x3;omega)
 have bb:bitsI (x.2 * y.2)<=b1+b2:=Qkk x3 y3
 have hl:=QyL (a:=x.1 * y.2+y.1 * x.2) q (by omega)
 refine⟨pr (x.1 * y.2+y.1 * x.2) (x.2 * y.2),Qkt (by omega),?_,QL9 q bt (by omega),?_⟩
 ·rw[qt_pr (by omega),Rat.intCast_add,Rat.intCast_mul,Rat.intCast_mul,Rat.intCast_mul]
  have:=Qck x1
  have:=Qck y1
  unfold qt
  grind
 ·have a0:=fr0 x
  have a1:=fr1 x
  have c0:=fr0 y
  have c1:=fr1 y
  have X2:bitsI x.1<=7800:=by omega
  have X3:bitsI x.2<=7800:=by omega
  have Y2:bitsI y.1<=7800:=by omega
  have Y3:bitsI y.2<=7800:=by omega
  clear x2 x3 y2 y3 bt bb
  rw[QyO]
  unfold QiN
  (repeat walk_at "e")
theorem QOy{x y:Int×Int}{c1 c2:Nat}(x1:1<=x.2)(y1:1<=y.2)(X2:bitsI x.1<=20000)(x3:bitsI x.2<=c1)(Y2:bitsI y.1<=20000)(y3:bitsI y.2<=c2)(h:c1+c2<=7800):∃ p:Int×Int,low p.1 p.2/\qt p=qt x+qt y/\Qax [fr x,fr y]=.ok (fr p):=by
 have q1:1 * 1<=x.2 * y.2:=Int.mul_le_mul x1 y1 (by decide) (by omega)
 have q:1<=x.2 * y.2:=by omega
 have bb:bitsI (x.2 * y.2)<=c1+c2:=Qkk x3 y3
 have hl:=QyL (a:=x.1 * y.2+y.1 * x.2) q (by omega)
 refine⟨pr (x.1 * y.2+y.1 * x.2) (x.2 * y.2),Qkt (by omega),?_,?_⟩
 ·rw[qt_pr (by omega),Rat.intCast_add,Rat.intCast_mul,Rat.intCast_mul,Rat.intCast_mul]
  have:=Qck x1
  have:=Qck y1
  unfold qt
  grind
 ·have a0:=fr0 x
  have a1:=fr1 x
  have c0:=fr0 y
  have c1':=fr1 y
  have X3:bitsI x.2<=7800:=by omega
  have Y3:bitsI y.2<=7800:=by omega
  clear x3 y3 bb
  rw[QyO]
  unfold QiN
  (repeat walk_at "e")
def zero1:Int×Int:=(0,1)
theorem low0:low (0:Int) 1:=⟨Int.le_refl _,rfl⟩
theorem qt0:qt zero1=0:=by
 unfold qt zero1
 show((0:Int):Rat) / ((1:Int):Rat)=0
 have e0:((0:Int):Rat)=0:=rfl
 rw[e0];grind
theorem okB0:okB 1 zero1:=⟨Int.le_refl _,by decide,by decide⟩
def planD(kd:Nat->Int)(t:Nat->List (List Int))(m:Nat->Nat)(ld:Nat->Nat->Int)(st:Nat->Int)(k:Nat):D:=.tup [.int (kd k),tbD (t k),rl (m k) (fun j=>.int (ld k j)),.int (st k)]
section
variable{n nd:Nat}{nm dn c:Nat->Str}{t:Nat->List (List Int)}{m:Nat->Nat}{ld:Nat->Nat->Int}{st kd:Nat->Int}(hs:Seats n nd nm dn c t m ld st)(h4:∀ k,k<n->(t k).length<=4/\m k<=4){wr dw:Nat->Int×Int}(hw:∀ i,i<n->okW (wr i))(hd:∀ i,i<nd->okW (dw i))
def rowQ(t:List (List Int))(m:Nat)(q:Nat->Rat)(s:Nat):Rat:=Bar.sm m (fun j=>(ent t s j:Rat) * q j)
include hs hw hd h4
theorem QRE{k s j:Nat}(hk:k<n):0<=ent (t k) s j/\ent (t k) s j<=9:=by
 unfold ent
 rw[List.getD_eq_getElem?_getD,List.getD_eq_getElem?_getD]
 cases h1:(t k)[s]? with
 | none=>simp
 | some r=>
  show 0<=(r[j]?).getD 0/\(r[j]?).getD 0<=9
  cases h2:r[j]? with
  | none=>decide
  | some x=>exact(hs.tb k hk).ent r (List.mem_of_getElem? h1) x (List.mem_of_getElem? h2)
theorem QGi{k s:Nat}(hk:k<n)(hsn:s<(t k).length):∃ p:Int×Int,low p.1 p.2/\qt p=rowQ (t k) (m k) (fun j=>qt (bh ld wr dw k j)) s/\okB 500 p/\
 Qay [rl n (planD kd t m ld st),.int (k:Int),.int (s:Int),rl n (fun i=>fr (wr i)),rl nd (fun i=>fr (dw i))]=.ok (fr p):=by
 have tb:=hs.tb k hk
 obtain⟨n4,m4⟩:=h4 k hk
 have x1:dIx (rl n (planD kd t m ld st)) (.int (k:Int))=.ok (planD kd t m ld st k):=ixR hk
 have x2:dIx (planD kd t m ld st k) (.int 2)=.ok (rl (m k) (fun j=>.int (ld k j))):=ix_t 2 rfl
 have x3:dIx (planD kd t m ld st k) (.int 1)=.ok (tbD (t k)):=ix_t 1 rfl
 have x4:dIx (tbD (t k)) (.int (s:Int))=.ok (dl (t k)[s]):=ixL s (by rw[List.getElem?_map,List.getElem?_eq_getElem hsn];rfl)
 have rm:((t k)[s]).length=m k:=tb.row _ (List.getElem_mem _)
 have hrow:((t k)[s]).map D.int=(List.range (m k)).map fun j=>D.int (ent (t k) s j):=by
  apply List.ext_getElem?
  intro j
  rw[List.getElem?_map]
  by_cases hj:j<m k
  ·rw[atR hj,List.getElem?_eq_getElem (show j<((t k)[s]).length by omega)]
   show some (D.int ((t k)[s])[j])=some (D.int (ent (t k) s j))
   unfold ent
   rw[List.getD_eq_getElem?_getD,List.getD_eq_getElem?_getD,List.getElem?_eq_getElem hsn]
   show _=some (D.int ((((t k)[s])[j]?).getD 0))
   rw[List.getElem?_eq_getElem (show j<((t k)[s]).length by omega)];rfl
  ·have a:((t k)[s])[j]?=none:=by simp;omega
   have b:((List.range (m k)).map fun j=>D.int (ent (t k) s j))[j]?=none:=by simp;omega
   rw[a,b];rfl
 generalize hP:rl n (planD kd t m ld st)=P at *
 have hz:itZ (e2 dIx (e2 dIx (eVar 0) (eVar 1)) (eC (.int 2))) (e2 dIx (e2 dIx (e2 dIx (eVar 0) (eVar 1)) (eC (.int 1))) (eVar 2)) [some (.k,P),some (.k,.int (k:Int)),some (.k,.int (s:Int)),some (.k,rl n (fun i=>fr (wr i))),some (.k,rl nd (fun i=>fr (dw i))),some (.k,fr zero1),none,none,none]=.ok ((List.range (m k)).map fun j=>D.tup [.int (ld k j),.int (ent (t k) s j)]):=by
  unfold itZ
  have a:e2 dIx (e2 dIx (eVar 0) (eVar 1)) (eC (.int 2)) [some (.k,P),some (.k,.int (k:Int)),some (.k,.int (s:Int)),some (.k,rl n (fun i=>fr (wr i))),some (.k,rl nd (fun i=>fr (dw i))),some (.k,fr zero1),none,none,none]=.ok (rl (m k) (fun j=>.int (ld k j))):=by (repeat walk_at "e")
  have b:e2 dIx (e2 dIx (e2 dIx (eVar 0) (eVar 1)) (eC (.int 1))) (eVar 2) [some (.k,P),some (.k,.int (k:Int)),some (.k,.int (s:Int)),some (.k,rl n (fun i=>fr (wr i))),some (.k,rl nd (fun i=>fr (dw i))),some (.k,fr zero1),none,none,none]=.ok (dl (t k)[s]):=by (repeat walk_at "e")
  rw[a,Out.bind_ok,b,Out.bind_ok]
  show Out.ok (List.zipWith _ _ (((t k)[s]).map D.int))=_
  rw[hrow,List.zipWith_map,List.zipWith_self]
 obtain⟨ς',hL,p,a6,a7,a8,rfl,lp,qp,bp⟩:=Qru (body:=fun x ς=>gT [6,7] x ς>>=fun ς'=>Qer ς') (f:=fun j=>D.tup [.int (ld k j),.int (ent (t k) s j)]) (n:=m k)
  (P:=fun j ς=>∃(p:Int×Int)(a6 a7 a8:Option (SM×D)),ς=[some (.k,P),some (.k,.int (k:Int)),some (.k,.int (s:Int)),some (.k,rl n (fun i=>fr (wr i))),some (.k,rl nd (fun i=>fr (dw i))),some (.k,fr p),a6,a7,a8]/\low p.1 p.2/\qt p=Bar.sm j (fun j=>(ent (t k) s j:Rat) * qt (bh ld wr dw k j))/\okB (1+j * 120) p)
  (by
   rintro j hj ς ⟨p,a6,a7,a8,rfl,lp,qp,bp⟩
   obtain⟨l1,l2⟩:=hs.ldr k j hk hj
   obtain⟨e0,e9⟩:=QRE hs h4 hw hd (s:=s) (j:=j) hk
   have hb:=bh_ok hs hw hd hk hj
   have hsel:eIf (tVal (e2 dLt (eVar 6) (eC (.int 0)))) (e2 dIx (eVar 4) (e2 dSub (e1 dNeg (eC (.int 1))) (eVar 6))) (e2 dIx (eVar 3) (eVar 6)) [some (.k,P),some (.k,.int (k:Int)),some (.k,.int (s:Int)),some (.k,rl n (fun i=>fr (wr i))),some (.k,rl nd (fun i=>fr (dw i))),some (.k,fr p),some (.k,.int (ld k j)),some (.k,.int (ent (t k) s j)),a8]=.ok (fr (bh ld wr dw k j)):=by
    unfold bh
    by_cases h:ld k j<0
    ·rw[if_pos h]
     have g0:dLt (.int (ld k j)) (.int 0)=.ok (.bl true):=by rw[QaM,decide_eq_true h]
     have x1:dIx (rl nd (fun i=>fr (dw i))) (.int (-1 - ld k j))=.ok (fr (dw (-1 - ld k j).toNat)):=by
      have:=ixR (n:=nd) (f:=fun i=>fr (dw i)) (show(-1 - ld k j).toNat<nd by omega)
      rw[Int.toNat_of_nonneg (by omega)]at this
      exact this
     (repeat walk_at "e")
    ·rw[if_neg h]
     have g0:dLt (.int (ld k j)) (.int 0)=.ok (.bl false):=by rw[QaM,decide_eq_false h]
     have x1:dIx (rl n (fun i=>fr (wr i))) (.int (ld k j))=.ok (fr (wr (ld k j).toNat)):=by
      have:=ixR (n:=n) (f:=fun i=>fr (wr i)) (show(ld k j).toNat<n by omega)
      rw[Int.toNat_of_nonneg (by omega)]at this
      exact this
     (repeat walk_at "e")
   obtain⟨hb1,hb2,hb3⟩:=hb
   generalize hB:bh ld wr dw k j=B at *
   have be:bitsI (ent (t k) s j)<=4:=Qas (by omega)
   have by':okB 110 (ent (t k) s j * B.1,B.2):=⟨hb1.1,Nat.le_trans (Qkk be hb2) (by decide),Qas (Nat.lt_of_le_of_lt hb3 (by decide))⟩
   obtain⟨p',lp',qp',bp',hp'⟩:=QuF bp by' (by omega)
   have hp':Qax [fr p,.tup [.int (ent (t k) s j * B.1),.int B.2]]=.ok (fr p'):=hp'
   have y0:=fr0 B
   have y1:=fr1 B
   refine⟨[some (.k,P),some (.k,.int (k:Int)),some (.k,.int (s:Int)),some (.k,rl n (fun i=>fr (wr i))),some (.k,rl nd (fun i=>fr (dw i))),some (.k,fr p'),some (.k,.int (ld k j)),some (.k,.int (ent (t k) s j)),some (.k,fr B)],?_,p',_,_,_,rfl,lp',?_,bp'.mono (by omega)⟩
   ·refine r_gT (by walk_at "all") ?_
    unfold Qer
    (repeat walk_at "e")
   ·rw[qp',qp]
    show _=Bar.sm j _+(ent (t k) s j:Rat) * qt (bh ld wr dw k j)
    rw[hB]
    congr 1
    unfold qt
    show((ent (t k) s j * B.1:Int):Rat) / (B.2:Rat)=_
    rw[Rat.intCast_mul]
    grind)
  [some (.k,P),some (.k,.int (k:Int)),some (.k,.int (s:Int)),some (.k,rl n (fun i=>fr (wr i))),some (.k,rl nd (fun i=>fr (dw i))),some (.k,fr zero1),none,none,none] ⟨zero1,_,_,_,rfl,low0,qt0,okB0⟩
 have hfor:=QbV (g:=gT [6,7]) (T:=Qer) hz hL
 refine⟨p,lp,qp,bp.mono (by omega),?_⟩
 have s5:sSet 5 (eTup (aCons (eC (.int 0)) (aCons (eC (.int 1)) aNil))) [some (.k,P),some (.k,.int (k:Int)),some (.k,.int (s:Int)),some (.k,rl n (fun i=>fr (wr i))),some (.k,rl nd (fun i=>fr (dw i))),none,none,none,none]=.ok (.nx [some (.k,P),some (.k,.int (k:Int)),some (.k,.int (s:Int)),some (.k,rl n (fun i=>fr (wr i))),some (.k,rl nd (fun i=>fr (dw i))),some (.k,fr zero1),none,none,none]):=rfl
 rw[QyT]
 unfold QfW
 (repeat walk_at "e")
end
theorem QyW:∀ l:List D,(∀ d∈l,layD d=true)->layDs l=true
 | [],_=>rfl
 | x::xs,h=>by
  show(layD x&&layDs xs)=true
  rw[h x (List.mem_cons_self ..),QyW xs fun d hd=>h d (List.mem_cons_of_mem _ hd)];rfl
theorem QAO{m:Nat}:∀ l:List D,(∀ d∈l,dep d<=m)->deps l<=m
 | [],_=>Nat.zero_le _
 | x::xs,h=>by
  show max (dep x) (deps xs)<=m
  have h1:=h x (List.mem_cons_self ..)
  have h2:=QAO xs fun d hd=>h d (List.mem_cons_of_mem _ hd)
  omega
theorem QPd{d:D}(hl:layD d=true)(hd:dep d<=64):dNe d d=.ok (.bl false):=by
 have hs:=QE8 hl hd
 rw[QMQ hs hs,PySem.SeqAt.eqv_refl _ (Qyj _ hl)];rfl
theorem QL1{n:Nat}{f:Nat->D}(h:∀ i,i<n->layD (f i)=true):layD (rl n f)=true:=QyW _ fun d hd=>by
 obtain⟨i,hi,rfl⟩:=List.mem_map.mp hd
 exact h i (List.mem_range.mp hi)
theorem QQD{n m:Nat}{f:Nat->D}(h:∀ i,i<n->dep (f i)<=m):dep (rl n f)<=m+1:=Nat.succ_le_succ (QAO _ fun d hd=>by
 obtain⟨i,hi,rfl⟩:=List.mem_map.mp hd
 exact h i (List.mem_range.mp hi))
theorem QQb{d:D}(hl:layD d=true)(hd:dep d<=64):dEq d d=.ok (.bl true):=by
 have hs:=QE8 hl hd
 rw[QMq hs hs,PySem.SeqAt.eqv_refl _ (Qyj _ hl)]
section
variable{t:List (List Int)}{m:Nat}{q:Nat->Rat}
theorem rsum(s:Nat)(h:s<=t.length):Bar.sm s (rowQ t m q)=Bar.sm m (fun j=>(cs t s j:Rat) * q j):=by
 induction s with
 | zero=>
  show(0:Rat)=_
  rw[Bar.sm_zero]
  intro j _
  have:cs t 0 j=0:=by unfold cs;simp
  rw[this]
  have e0:((0:Int):Rat)=0:=rfl
  rw[e0];grind
 | succ s ih=>
  show Bar.sm s (rowQ t m q)+rowQ t m q s=_
  rw[ih (by omega)]
  unfold rowQ
  rw[← Bar.sm_add]
  exact Bar.sm_congr fun j _=>by
   show(cs t s j:Rat) * q j+(ent t s j:Rat) * q j=(cs t (s+1) j:Rat) * q j
   rw[QQq (by omega),Rat.intCast_add];grind
def meanQ(t:List (List Int))(m:Nat)(q:Nat->Rat):Rat:=Bar.sm t.length (rowQ t m q) / ((t.length:Int):Rat)
theorem QJe(h1:1<=t.length)(s:Nat)(hs:s<=t.length):leanQ t m q s=((s:Int):Rat) * meanQ t m q - Bar.sm s (rowQ t m q):=by
 have hn:=Qck (z:=(t.length:Int)) (by omega)
 unfold meanQ
 rw[rsum s hs,rsum t.length (Nat.le_refl _)]
 unfold leanQ
 have e:Bar.sm m (fun j=>(((s:Int) * cs t t.length j - (t.length:Int) * cs t s j:Int):Rat) / ((t.length:Int):Rat) * q j)=Bar.sm m (fun j=>(((s:Int):Rat) / ((t.length:Int):Rat)) * ((cs t t.length j:Rat) * q j)+(-1) * ((cs t s j:Rat) * q j)):=Bar.sm_congr fun j _=>by
  show(((s:Int) * cs t t.length j - (t.length:Int) * cs t s j:Int):Rat) / ((t.length:Int):Rat) * q j=_
  rw[Rat.intCast_sub,Rat.intCast_mul,Rat.intCast_mul]
  generalize ((t.length:Int):Rat)=N at *
  grind
 rw[e,Bar.sm_add,Bar.sm_mul,Bar.sm_mul]
 grind
end
section
variable{n nd:Nat}{nm dn c:Nat->Str}{t:Nat->List (List Int)}{m:Nat->Nat}{ld:Nat->Nat->Int}{st kd:Nat->Int}(hs:Seats n nd nm dn c t m ld st)(h4:∀ k,k<n->(t k).length<=4/\m k<=4){wr dw:Nat->Int×Int}(hw:∀ i,i<n->okW (wr i))(hd:∀ i,i<nd->okW (dw i))
include hs hw hd h4
theorem QJm{k:Nat}(hk:k<n):∃ p:Int×Int,low p.1 p.2/\qt p=meanQ (t k) (m k) (fun j=>qt (bh ld wr dw k j))/\okB 2010 p/\
 Qdb [rl n (planD kd t m ld st),.int (k:Int),rl n (fun i=>fr (wr i)),rl nd (fun i=>fr (dw i))]=.ok (fr p):=by
 obtain⟨n4,m4⟩:=h4 k hk
 have n1:=(hs.tb k hk).n1
 have x1:dIx (rl n (planD kd t m ld st)) (.int (k:Int))=.ok (planD kd t m ld st k):=ixR hk
 have x3:dIx (planD kd t m ld st k) (.int 1)=.ok (tbD (t k)):=ix_t 1 rfl
 have hlen:fLen [tbD (t k)]=.ok (.int ((t k).length:Int)):=by simp[fLen,tbD]
 have R:=fun s (h:s<(t k).length)=>QGi hs h4 hw hd (kd:=kd) hk h
 generalize hP:rl n (planD kd t m ld st)=P at *
 generalize hW:rl n (fun i=>fr (wr i))=W at *
 generalize hDW:rl nd (fun i=>fr (dw i))=DW at *
 obtain⟨ς',hL,p,a6,rfl,lp,qp,bp⟩:=Qbz (body:=fun x ς=>gN 6 x ς>>=fun ς'=>Qh4 ς') (n:=(t k).length)
  (P:=fun s ς=>∃(p:Int×Int)(a6:Option (SM×D)),ς=[some (.k,P),some (.k,.int (k:Int)),some (.k,W),some (.k,DW),some (.k,fr p),some (.k,.int ((t k).length:Int)),a6]/\low p.1 p.2/\qt p=Bar.sm s (rowQ (t k) (m k) (fun j=>qt (bh ld wr dw k j)))/\okB (1+s * 501) p)
  (by
   rintro s hs' ς ⟨p,a6,rfl,lp,qp,bp⟩
   obtain⟨r,lr,qr,br,hr⟩:=R s hs'
   obtain⟨p',lp',qp',bp',hp'⟩:=QuF bp br (by omega)
   refine⟨[some (.k,P),some (.k,.int (k:Int)),some (.k,W),some (.k,DW),some (.k,fr p'),some (.k,.int ((t k).length:Int)),some (.k,.int (s:Int))],?_,p',_,rfl,lp',?_,bp'.mono (by omega)⟩
   ·refine r_gN (by walk_at "s") ?_
    unfold Qh4
    (repeat walk_at "e")
   ·rw[qp',qp,qr];rfl)
  [some (.k,P),some (.k,.int (k:Int)),some (.k,W),some (.k,DW),some (.k,fr zero1),some (.k,.int ((t k).length:Int)),none] ⟨zero1,_,rfl,low0,qt0,okB0⟩
 have hR:itR1 (eVar 5) [some (.k,P),some (.k,.int (k:Int)),some (.k,W),some (.k,DW),some (.k,fr zero1),some (.k,.int ((t k).length:Int)),none]=.ok (QbB 0 (t k).length):=QcM (t k).length (by (repeat walk_at "e")) (by omega)
 have hfor:=QbV (g:=gN 6) (T:=Qh4) hR hL
 have bl:bitsI ((t k).length:Int)<=4:=Qs1 (by omega)
 have q1:1 * 1<=p.2 * ((t k).length:Int):=Int.mul_le_mul bp.1 (by omega) (by decide) (by have:=bp.1;omega)
 have q:1<=p.2 * ((t k).length:Int):=by omega
 have bb:bitsI (p.2 * ((t k).length:Int))<=2010:=Nat.le_trans (Qkk bp.2.2 bl) (by omega)
 have hl:=QyL (a:=p.1) q (by omega)
 refine⟨pr p.1 (p.2 * ((t k).length:Int)),Qkt (by omega),?_,QL9 q (Nat.le_trans bp.2.1 (by omega)) bb,?_⟩
 ·rw[qt_pr (by omega)]
  unfold meanQ
  rw[← qp,Rat.intCast_mul]
  have:=Qck bp.1
  have:=Qck (z:=((t k).length:Int)) (by omega)
  unfold qt
  grind
 ·have p0:=fr0 p
  have p1:=fr1 p
  have P2:bitsI p.2<=2010:=Nat.le_trans bp.2.2 (by omega)
  have s4:∀ a5 a6,sSet 4 (eTup (aCons (eC (.int 0)) (aCons (eC (.int 1)) aNil))) [some (.k,P),some (.k,.int (k:Int)),some (.k,W),some (.k,DW),none,a5,a6]=.ok (.nx [some (.k,P),some (.k,.int (k:Int)),some (.k,W),some (.k,DW),some (.k,fr zero1),a5,a6]):=fun _ _=>rfl
  rw[QJ6]
  unfold QlL
  (repeat (first | with_reducible exact s4 _ _ | walk_at "e"))
theorem QMF{k:Nat}(hk:k<n):∃ L:Nat->Int×Int,(∀ s,s<(t k).length->low (L s).1 (L s).2/\qt (L s)=leanQ (t k) (m k) (fun j=>qt (bh ld wr dw k j)) s/\okB 7600 (L s))/\(L ((t k).length - 1)).2=(L ((t k).length - 1)).2/\
 Qee [rl n (planD kd t m ld st),.int (k:Int),rl n (fun i=>fr (wr i)),rl nd (fun i=>fr (dw i))]=.ok (rl (t k).length (fun s=>fr (L s))):=by
 obtain⟨n4,m4⟩:=h4 k hk
 have n1:=(hs.tb k hk).n1
 have x1:dIx (rl n (planD kd t m ld st)) (.int (k:Int))=.ok (planD kd t m ld st k):=ixR hk
 have x3:dIx (planD kd t m ld st k) (.int 1)=.ok (tbD (t k)):=ix_t 1 rfl
 have hlen:fLen [tbD (t k)]=.ok (.int ((t k).length:Int)):=by simp[fLen,tbD]
 obtain⟨mn,lm,qm,bm,hm⟩:=QJm hs h4 hw hd (kd:=kd) hk
 have R:=fun s (h:s<(t k).length)=>QGi hs h4 hw hd (kd:=kd) hk h
 generalize hP:rl n (planD kd t m ld st)=P at *
 generalize hW:rl n (fun i=>fr (wr i))=W at *
 generalize hDW:rl nd (fun i=>fr (dw i))=DW at *
 obtain⟨ς',hL,L,a6,a7,rfl,lL⟩:=Qbz (body:=fun x ς=>gN 6 x ς>>=fun ς'=>Qhl ς') (n:=(t k).length - 1)
  (P:=fun s ς=>∃(L:Nat->Int×Int)(a6 a7:Option (SM×D)),ς=[some (.k,P),some (.k,.int (k:Int)),some (.k,W),some (.k,DW),some (.k,fr mn),some (.o,rl (s+1) (fun s=>fr (L s))),a6,a7]/\∀ i,i<=s->low (L i).1 (L i).2/\qt (L i)=((i:Int):Rat) * meanQ (t k) (m k) (fun j=>qt (bh ld wr dw k j)) - Bar.sm i (rowQ (t k) (m k) (fun j=>qt (bh ld wr dw k j)))/\okB (1+i * 2515) (L i))
  (by
   rintro s hs' ς ⟨L,a6,a7,rfl,lL⟩
   obtain⟨r,lr,qr,br,hr⟩:=R s (by omega)
   obtain⟨ll,ql,bl⟩:=lL s (Nat.le_refl _)
   have bn:okB 500 (0 - r.1,r.2):=⟨br.1,by
    show bitsI (0 - r.1)<=500
    rw[Int.zero_sub];exact QMs br.2.1,br.2.2⟩
   obtain⟨p1,lp1,qp1,bp1,hp1⟩:=QuF bm bn (by omega)
   obtain⟨p2,lp2,qp2,bp2,hp2⟩:=QuF bl bp1 (by omega)
   have hp1:Qax [fr mn,.tup [.int (0 - r.1),.int r.2]]=.ok (fr p1):=hp1
   have y0:=fr0 r
   have y1:=fr1 r
   have hix:eIxO 5 (eVar 6) [some (.k,P),some (.k,.int (k:Int)),some (.k,W),some (.k,DW),some (.k,fr mn),some (.o,rl (s+1) (fun s=>fr (L s))),some (.k,.int (s:Int)),some (.k,fr r)]=.ok (fr (L s)):=by
    show optO (atI ((List.range (s+1)).map fun s=>fr (L s)) (s:Int))=_
    have:atI ((List.range (s+1)).map fun s=>fr (L s)) (s:Int)=some (fr (L s)):=by
     unfold atI
     rw[ixNR (show s<s+1 by omega)]
     show((List.range (s+1)).map fun s=>fr (L s))[s]?=_
     exact atR (by omega)
    rw[this];rfl
   have ea:(List.range (s+1)).map (fun j=>fr (L j))++[fr p2]=(List.range (s+1+1)).map (fun j=>fr ((fun j=>if j<s+1 then L j else p2) j)):=by
    rw[List.range_succ (n:=s+1),List.map_append]
    congr 1
    ·exact List.map_congr_left fun j hj=>by show fr (L j)=fr (if j<s+1 then L j else p2);rw[if_pos (List.mem_range.mp hj)]
    ·show [fr p2]=[fr (if s+1<s+1 then L (s+1) else p2)];rw[if_neg (by omega)]
   have hle:((List.range (s+1)).map (fun j=>fr (L j))).length<=1000:=by rw[List.length_map,List.length_range];omega
   refine⟨[some (.k,P),some (.k,.int (k:Int)),some (.k,W),some (.k,DW),some (.k,fr mn),some (.o,rl (s+1+1) (fun j=>fr ((fun j=>if j<s+1 then L j else p2) j))),some (.k,.int (s:Int)),some (.k,fr r)],?_,fun j=>if j<s+1 then L j else p2,_,_,rfl,?_⟩
   ·show _=Out.ok (Fl.nx [_,_,_,_,_,some (.o,.lst ((List.range (s+1+1)).map (fun j=>fr ((fun j=>if j<s+1 then L j else p2) j)))),_,_])
    rw[← ea]
    refine r_gN (by walk_at "s") ?_
    unfold Qhl
    (repeat walk_at "e")
   ·intro i hi
    show low (if i<s+1 then L i else p2).1 (if i<s+1 then L i else p2).2/\qt (if i<s+1 then L i else p2)=_/\okB _ (if i<s+1 then L i else p2)
    by_cases h:i<s+1
    ·rw[if_pos h];exact lL i (by omega)
    ·have:i=s+1:=by omega
     subst this
     rw[if_neg h]
     refine⟨lp2,?_,bp2.mono (by omega)⟩
     rw[qp2,qp1,ql]
     show _=_ - (Bar.sm s _+rowQ _ _ _ s)
     rw[← qr,qm]
     have e1':(((s+1:Nat):Int):Rat)=((s:Int):Rat)+1:=by
      rw[Int.natCast_add,Rat.intCast_add];rfl
     rw[e1']
     have e2':qt (0 - r.1,r.2) = - qt r:=by
      unfold qt
      show((0 - r.1:Int):Rat) / (r.2:Rat)=_
      rw[Int.zero_sub,Rat.intCast_neg]
      have:=Qck br.1
      grind
     rw[e2']
     grind)
  [some (.k,P),some (.k,.int (k:Int)),some (.k,W),some (.k,DW),some (.k,fr mn),some (.o,rl (0+1) (fun _=>fr zero1)),none,none] ⟨fun _=>zero1,_,_,rfl,fun i hi=>by
   have:i=0:=by omega
   subst this
   refine⟨low0,?_,okB0⟩
   rw[qt0]
   show(0:Rat)=((0:Int):Rat) * _ - 0
   have e0:((0:Int):Rat)=0:=rfl
   rw[e0];grind⟩
 have hR:itR1 (e2 dSub (eA fLen (aCons (e2 dIx (e2 dIx (eVar 0) (eVar 1)) (eC (.int 1))) aNil)) (eC (.int 1))) [some (.k,P),some (.k,.int (k:Int)),some (.k,W),some (.k,DW),some (.k,fr mn),some (.o,.lst [fr zero1]),none,none]=.ok (QbB 0 ((t k).length - 1)):=QcM ((t k).length - 1) (by
  have e:(((t k).length - 1:Nat):Int)=((t k).length:Int) - 1:=by omega
  rw[e]
  (repeat walk_at "e")) (by omega)
 have hfor:=QbV (g:=gN 6) (T:=Qhl) hR hL
 rw[show(t k).length - 1+1=(t k).length by omega]at hfor
 refine⟨L,fun s hs'=>?_,rfl,?_⟩
 ·obtain⟨a,b,d⟩:=lL s (by omega)
  exact⟨a,by rw[b,QJe n1 s (by omega)],d.mono (by omega)⟩
 ·have s5:∀ a6 a7,sSetO 5 (eLst (aCons (eTup (aCons (eC (.int 0)) (aCons (eC (.int 1)) aNil))) aNil)) [some (.k,P),some (.k,.int (k:Int)),some (.k,W),some (.k,DW),some (.k,fr mn),none,a6,a7]=.ok (.nx [some (.k,P),some (.k,.int (k:Int)),some (.k,W),some (.k,DW),some (.k,fr mn),some (.o,.lst [fr zero1]),a6,a7]):=fun _ _=>rfl
  rw[QGH]
  unfold QjQ
  (repeat (first | with_reducible exact s5 _ _ | walk_at "e"))
end
theorem Qsg(i:Int):Qdg [.int i]=.ok (.bl true):=by
 simp[Qdg,Qoq,bodyF,retF,sSeq,thenF,sSet,sRet,sIf,sNil,eVar,eC,e1,e2,eA,f1,aNil,aCons,tVal,tAnd',tOr',tNot',eAnd,eOr,eNot,eIf,eTup,eLst,eIsa,isaT,QaL,oNo,oSome,sPar,sUnp,Q3,gN,gT,fLen,QaD,Out.bind_ok,Out.bind_exc,Out.bind_stuck,Out.pure_eq,D.scal,Qbs,Qcd,QbL,Qbt,QaM,QbM,Qc0,Qcm,QC,QaY,List.length_cons,List.length_nil,List.map_cons,List.map_nil,List.cons_append,List.nil_append,List.append_nil,List.getElem?_cons_zero,List.getElem?_cons_succ,List.set_cons_zero,List.set_cons_succ,List.replicate,Nat.reduceAdd,Nat.reduceSub,Nat.reduceLeDiff,Nat.zero_add,Nat.add_zero,reduceIte,Bool.not_true,Bool.not_false,Bool.true_and,Bool.and_true,Bool.false_and,Bool.and_false,Bool.or_true,Bool.true_or,Bool.or_false,Bool.false_or,Bool.false_eq_true,decide_true,decide_false,decide_eq_true_eq,Bool.not_eq_true',decide_eq_false_iff_not,Int.reduceEq,Int.reduceLT,Int.reduceLE,Int.reduceNeg,Nat.reduceEqDiff, ↓reduceIte,not_true_eq_false,not_false_eq_true]
theorem fr_eq(x:Int×Int):dEq (fr x) (fr x)=.ok (.bl true):=QQb rfl (show dep (fr x)<=64 from Nat.le_of_ble_eq_true rfl)
theorem QP8(x:Int×Int):Qe7 [fr x,fr x]=.ok (.bl true):=by
 have hi:isaT "tuple" (fr x)=.ok true:=by simp[isaT,QaL,fr]
 have hl:fLen [fr x]=.ok (.int 2):=by simp[fLen,fr]
 have hne:dNe (.int 2) (.int 2)=.ok (.bl false):=by rw[QaY];rfl
 have x0:=fr0 x
 have x1:=fr1 x
 have w0:=Qsg x.1
 have w1:=Qsg x.2
 have he:=fr_eq x
 rw[QKz]
 unfold QlK
 (repeat walk_at "e")
section
variable{n nd:Nat}{nm dn c:Nat->Str}{t:Nat->List (List Int)}{m:Nat->Nat}{ld:Nat->Nat->Int}{st kd:Nat->Int}(hs:Seats n nd nm dn c t m ld st)(h4:∀ k,k<n->(t k).length<=4/\m k<=4){wr dw:Nat->Int×Int}(hw:∀ i,i<n->okW (wr i))(hd:∀ i,i<nd->okW (dw i))
include hs hw hd h4
theorem QOs{k:Nat}(hk:k<n):Qd7 [offD n nd nm dn c t m ld st,rl n (planD kd t m ld st),.int (k:Int),rl n (fun i=>fr (wr i)),rl nd (fun i=>fr (dw i))]=.ok (.bl true):=by
 obtain⟨n4,m4⟩:=h4 k hk
 have n1:=(hs.tb k hk).n1
 obtain⟨P,hP,gP⟩:=QN4 hs hw hd hk
 obtain⟨L,hL,_,gL⟩:=QMF hs h4 hw hd (kd:=kd) hk
 have same:∀ s,s<(t k).length->L s=P s:=fun s h=>QMc (hL s h).1 (hP s h).1 (by rw[(hL s h).2.1,(hP s h).2.1])
 have eL:rl (t k).length (fun s=>fr (L s))=rl (t k).length (fun s=>fr (P s)):=QNY fun s h=>by rw[same s h]
 rw[eL]at gL
 obtain⟨mn,lm,qm,bm,hm⟩:=QJm hs h4 hw hd (kd:=kd) hk
 obtain⟨r,lr,qr,br,hr⟩:=QGi hs h4 hw hd (kd:=kd) hk (s:=(t k).length - 1) (by omega)
 have hlast:(t k).length - 1<(t k).length:=by omega
 have bP:bitsI (P ((t k).length - 1)).1<=20000:=by
  rw[← same _ hlast];exact Nat.le_trans (hL _ hlast).2.2.2.1 (by decide)
 obtain⟨p,lp,qp,hp⟩:=QOy (x:=P ((t k).length - 1)) (y:=mn) (c1:=1201) (c2:=2010) (hP _ hlast).1.1 bm.1 bP (Qas (Nat.lt_of_le_of_lt (hP _ hlast).2.2 (dk))) (Nat.le_trans bm.2.1 (by decide)) bm.2.2 (by decide)
 have epr:p=r:=by
  refine QMc lp lr ?_
  rw[qp,qr,qm,(hP _ hlast).2.1,QJe n1 _ (by omega)]
  have hn:=Qck (z:=((t k).length:Int)) (by omega)
  have e1':((((t k).length - 1:Nat):Int):Rat)=(((t k).length:Int):Rat) - 1:=by
   have:(((t k).length - 1:Nat):Int)=((t k).length:Int) - 1:=by omega
   rw[this,Rat.intCast_sub];rfl
  rw[e1']
  have split:Bar.sm (t k).length (rowQ (t k) (m k) (fun j=>qt (bh ld wr dw k j)))=Bar.sm ((t k).length - 1) (rowQ (t k) (m k) (fun j=>qt (bh ld wr dw k j)))+rowQ (t k) (m k) (fun j=>qt (bh ld wr dw k j)) ((t k).length - 1):=by
   have:(t k).length=(t k).length - 1+1:=by omega
   conv=>lhs;rw[show Bar.sm (t k).length=Bar.sm ((t k).length - 1+1) from congrArg Bar.sm this]
   rfl
  unfold meanQ
  rw[split]
  generalize (((t k).length:Int):Rat)=N at *
  grind
 subst epr
 have ecast:(((t k).length - 1:Nat):Int)=((t k).length:Int) - 1:=by omega
 rw[ecast]at hr
 have hdW:dList (rl n (fun i=>fr (wr i)))=.ok (rl n (fun i=>fr (wr i))):=rfl
 have hdD:dList (rl nd (fun i=>fr (dw i)))=.ok (rl nd (fun i=>fr (dw i))):=rfl
 have hne2:dNe (.tup [rl n (fun i=>fr (wr i)),rl nd (fun i=>fr (dw i))]) (.tup [rl n (fun i=>fr (wr i)),rl nd (fun i=>fr (dw i))])=.ok (.bl false):=by
  refine QPd (show layDs _=true from QyW _ fun d hd=>?_) ?_
  ·rcases List.mem_cons.mp hd with rfl | hd
   ·exact QL1 fun i _=>rfl
   ·rw[List.mem_singleton.mp hd];exact QL1 fun i _=>rfl
  ·have a:∀(q:Nat)(f:Nat->Int×Int),dep (rl q (fun i=>fr (f i)))<=5:=fun q f=>Nat.le_trans (QQD (m:=dep (fr (0,0))) fun i _=>Nat.le_refl _) (by decide)
   have b:dep (.tup [rl n (fun i=>fr (wr i)),rl nd (fun i=>fr (dw i))])<=6:=Nat.succ_le_succ (QAO _ fun d hd=>by
    rcases List.mem_cons.mp hd with rfl | hd
    ·exact a _ _
    ·rw[List.mem_singleton.mp hd];exact a _ _)
   exact Nat.le_trans b (by decide)
 have hfl:=lenR (t k).length (fun s=>fr (P s))
 have hil:isaT "list" (rl (t k).length (fun s=>fr (P s)))=.ok true:=by simp[isaT,QaL]
 have hne1:dNe (.int ((t k).length:Int)) (.int ((t k).length:Int))=.ok (.bl false):=by rw[QaY];simp
 have xl:dIx (rl (t k).length (fun s=>fr (P s))) (.int (((t k).length:Int) - 1))=.ok (fr (P ((t k).length - 1))):=by
  rw[← ecast];exact ixR hlast
 have heq:=fr_eq p
 have tx0:∀ A B:D,dIx (.tup [A,B]) (.int 0)=.ok A:=fun A B=>ix_t 0 rfl
 have tx1:∀ A B:D,dIx (.tup [A,B]) (.int 1)=.ok B:=fun A B=>ix_t 1 rfl
 generalize hO:offD n nd nm dn c t m ld st=O at *
 generalize hPl:rl n (planD kd t m ld st)=Pl at *
 generalize hW:rl n (fun i=>fr (wr i))=W at *
 generalize hDW:rl nd (fun i=>fr (dw i))=DW at *
 have t0:=tx0 W DW
 have t1:=tx1 W DW
 obtain⟨ς',hLo,a8,rfl⟩:=Qbz (body:=fun x ς=>gN 8 x ς>>=fun ς'=>Qhw ς') (n:=(t k).length)
  (P:=fun s ς=>∃(a8:Option (SM×D)),ς=[some (.k,O),some (.k,Pl),some (.k,.int (k:Int)),some (.k,W),some (.k,DW),some (.k,.tup [W,DW]),some (.k,rl (t k).length (fun s=>fr (P s))),some (.k,rl (t k).length (fun s=>fr (P s))),a8,none,none,none])
  (by
   rintro s hs' ς ⟨a8,rfl⟩
   have x:dIx (rl (t k).length (fun s=>fr (P s))) (.int (s:Int))=.ok (fr (P s)):=ixR hs'
   have h:=QP8 (P s)
   refine⟨[some (.k,O),some (.k,Pl),some (.k,.int (k:Int)),some (.k,W),some (.k,DW),some (.k,.tup [W,DW]),some (.k,rl (t k).length (fun s=>fr (P s))),some (.k,rl (t k).length (fun s=>fr (P s))),some (.k,.int (s:Int)),none,none,none],?_,_,rfl⟩
   refine r_gN (by walk_at "s") ?_
   unfold Qhw
   (repeat walk_at "e"))
  [some (.k,O),some (.k,Pl),some (.k,.int (k:Int)),some (.k,W),some (.k,DW),some (.k,.tup [W,DW]),some (.k,rl (t k).length (fun s=>fr (P s))),some (.k,rl (t k).length (fun s=>fr (P s))),none,none,none,none] ⟨_,rfl⟩
 have hR:itR1 (eA fLen (aCons (eVar 7) aNil)) [some (.k,O),some (.k,Pl),some (.k,.int (k:Int)),some (.k,W),some (.k,DW),some (.k,.tup [W,DW]),some (.k,rl (t k).length (fun s=>fr (P s))),some (.k,rl (t k).length (fun s=>fr (P s))),none,none,none,none]=.ok (QbB 0 (t k).length):=QcM (t k).length (by (repeat walk_at "e")) (by omega)
 have hfor:=QbV (g:=gN 8) (T:=Qhw) hR hLo
 rw[QHT]
 unfold QjW
 (repeat walk_at "e")
end
theorem QJB(ns:List Int)(k:Nat):∃ v:Int,QbJ [.lst (ns.map .int),.int (k:Int)]=.ok (.int v):=by
 have hlen:fLen [.lst (ns.map D.int)]=.ok (.int (ns.length:Int)):=by simp[fLen]
 by_cases h:k<ns.length
 ·have hlt:dLt (.int (k:Int)) (.int (ns.length:Int))=.ok (.bl true):=by rw[QaM,decide_eq_true (by omega)]
  have hix:dIx (.lst (ns.map .int)) (.int (k:Int))=.ok (.int ns[k]):=ixL k (by rw[List.getElem?_map,List.getElem?_eq_getElem h];rfl)
  refine⟨ns[k],?_⟩
  rw[Qyu]
  unfold Qiu
  (repeat walk_at "e")
 ·have hlt:dLt (.int (k:Int)) (.int (ns.length:Int))=.ok (.bl false):=by rw[QaM,decide_eq_false (by omega)]
  refine⟨0,?_⟩
  rw[Qyu]
  unfold Qiu
  (repeat walk_at "e")
theorem QhI(c:Int){k:Int}(hk:bitsI k<=300):∃ x:Int,0<=x/\x<2305843009213693951/\QP [.int c,.int k]=.ok (.int x):=by
 have b1:bitsI ((c % 1000000007+7919 * k * k+31 * k+1) * 6364136223846793005 % 2305843009213693951)<=100:=bd_in (Int.emod_nonneg _ (by decide)) (Int.lt_trans (Int.emod_lt_of_pos _ (by decide)) (by decide))
 generalize hy:(c % 1000000007+7919 * k * k+31 * k+1) * 6364136223846793005=y at b1
 have s1:e2 dMul (e2 dAdd (e2 dAdd (e2 dAdd (e2 dMod (eVar 0) (eC (.int 1000000007))) (e2 dMul (e2 dMul (eC (.int 7919)) (eVar 1)) (eVar 1))) (e2 dMul (eC (.int 31)) (eVar 1))) (eC (.int 1))) (eC (.int 6364136223846793005)) [some (.k,.int c),some (.k,.int k),none]=.ok (.int y):=by
  rw[← hy]
  (repeat walk_at "e")
 refine⟨_,Int.emod_nonneg ((y % 2305843009213693951) * (y % 2305843009213693951)) (by decide:(2305843009213693951:Int)≠0),Int.emod_lt_of_pos _ (by decide),?_⟩
 rw[QIW]
 unfold Qj2
 (repeat walk_at "e")
theorem pick8(x:Int):∃ b:Int,0<=b/\b<=9/\dIx (.lst [.int 0,.int 1,.int 0,.int 2,.int 1,.int 0,.int 1,.int 0]) (.int (x % 8))=.ok (.int b):=by
 rcases(by omega:x % 8=0∨x % 8=1∨x % 8=2∨x % 8=3∨x % 8=4∨x % 8=5∨x % 8=6∨x % 8=7) with e | e | e | e | e | e | e | e<;>rw[e]
 ·exact⟨0,by omega,by omega,rfl⟩
 ·exact⟨1,by omega,by omega,rfl⟩
 ·exact⟨0,by omega,by omega,rfl⟩
 ·exact⟨2,by omega,by omega,rfl⟩
 ·exact⟨1,by omega,by omega,rfl⟩
 ·exact⟨0,by omega,by omega,rfl⟩
 ·exact⟨1,by omega,by omega,rfl⟩
 ·exact⟨0,by omega,by omega,rfl⟩
theorem QA1(d:Int){m:Nat}(hm:m<=100):∃ r:List Int,r.length=m/\(∀ x∈r,0<=x/\x<=9)/\QcV [.int d,.int (m:Int)]=.ok (dl r):=by
 obtain⟨ς',hL,v,r,a3,rfl,hl,hr⟩:=Qbz (body:=fun x ς=>gN 3 x ς>>=fun ς'=>Qez ς') (n:=m)
  (P:=fun k ς=>∃(v:Int)(r:List Int)(a3:Option (SM×D)),ς=[some (.k,.int v),some (.k,.int (m:Int)),some (.o,dl r),a3]/\r.length=k/\∀ x∈r,0<=x/\x<=9)
  (by
   rintro k hk ς ⟨v,r,a3,rfl,hl,hr⟩
   obtain⟨b,b0,b9,hb⟩:=pick8 v
   refine⟨[some (.k,.int (v / 8)),some (.k,.int (m:Int)),some (.o,dl (r++[b])),some (.k,.int (k:Int))],?_,v / 8,r++[b],_,rfl,by rw[List.length_append,hl];rfl,fun x hx=>by
    rcases List.mem_append.mp hx with w | w
    ·exact hr x w
    ·rw[List.mem_singleton.mp w];exact⟨b0,b9⟩⟩
   have hle:(r.map D.int).length<=1000:=by rw[List.length_map];omega
   have ea:dl (r++[b])=.lst (r.map D.int++[.int b]):=by unfold dl;simp
   rw[ea]
   show(gN 3 (D.int (k:Int)) [some (.k,.int v),some (.k,.int (m:Int)),some (.o,.lst (r.map D.int)),a3]>>=fun ς'=>Qez ς')=_
   refine r_gN (by walk_at "s") ?_
   unfold Qez
   (repeat walk_at "e"))
  [some (.k,.int d),some (.k,.int (m:Int)),some (.o,.lst []),none] ⟨d,[],_,rfl,rfl,fun x hx=>absurd hx List.not_mem_nil⟩
 have hR:itR1 (eVar 1) [some (.k,.int d),some (.k,.int (m:Int)),some (.o,.lst []),none]=.ok (QbB 0 m):=QcM m (by (repeat walk_at "e")) (by omega)
 have hfor:=QbV (g:=gN 3) (T:=Qez) hR hL
 refine⟨r,hl,hr,?_⟩
 rw[QDV]
 unfold QiC
 (repeat walk_at "e")
inductive Kd:Int->List (List Int)->Nat->Prop where
 | deal (n:Nat) (h1:1<=n) (h2:n<=4):Kd 0 (dealT n) n
 | bun (n:Nat) (h1:1<=n) (h2:n<=4):Kd 1 (bunT n) 1
 | copy (r:List Int) (m:Nat) (h:Tb [r] m) (hm:m<=4):Kd 2 [r] m
 | rows (t:List (List Int)) (m:Nat) (h:Tb t m) (h4:t.length<=4) (hm:m<=4):Kd 3 t m
theorem Kd.tb{w:Int}{t:List (List Int)}{m:Nat}:Kd w t m->Tb t m/\t.length<=4/\m<=4
 | .deal n h1 h2=>⟨QJj h1 (by omega),by simp[dealT];omega,h2⟩
 | .bun n h1 h2=>⟨QMi h1 (by omega),by simp[bunT];omega,by decide⟩
 | .copy _ _ h hm=>⟨h,by simp,hm⟩
 | .rows _ _ h h4 hm=>⟨h,h4,hm⟩
theorem Kd.num{w:Int}{t:List (List Int)}{m:Nat}:Kd w t m->w=0∨w=1∨w=2∨w=3
 | .deal .. => .inl rfl
 | .bun .. => .inr (.inl rfl)
 | .copy .. => .inr (.inr (.inl rfl))
 | .rows .. => .inr (.inr (.inr rfl))
theorem dbl(b:Bool):f1 dInt [.bl b]=.ok (.int (if b=true then 1 else 0)):=by cases b<;>rfl
theorem QOi{w:Int}{t:List (List Int)}{m:Nat}(h:Kd w t m):∃ c,CK.contains c=true/\QcI [.int w,tbD t]=.ok (ck c t m):=by
 have hlen:fLen [tbD t]=.ok (.int (t.length:Int)):=by simp[fLen,tbD]
 have e00:dEq (.int 0) (.int 0)=.ok (.bl true):=by rw[QC];rfl
 have e10:dEq (.int 1) (.int 0)=.ok (.bl false):=by rw[QC];rfl
 have e11:dEq (.int 1) (.int 1)=.ok (.bl true):=by rw[QC];rfl
 have e20:dEq (.int 2) (.int 0)=.ok (.bl false):=by rw[QC];rfl
 have e21:dEq (.int 2) (.int 1)=.ok (.bl false):=by rw[QC];rfl
 have e22:dEq (.int 2) (.int 2)=.ok (.bl true):=by rw[QC];rfl
 have e30:dEq (.int 3) (.int 0)=.ok (.bl false):=by rw[QC];rfl
 have e31:dEq (.int 3) (.int 1)=.ok (.bl false):=by rw[QC];rfl
 have e32:dEq (.int 3) (.int 2)=.ok (.bl false):=by rw[QC];rfl
 cases h with
 | deal _ h1 h2=>
  have hl:(dealT m).length=m:=by simp[dealT]
  rw[hl]at hlen
  have hi:=QMl (c:="Deal") (dk) h1 (by omega)
  refine⟨"Deal",dk,?_⟩
  unfold ck
  rw[QjR]
  unfold Qd3
  (repeat walk_at "e")
 | bun n h1 h2=>
  have hl:(bunT n).length=n:=by simp[bunT]
  rw[hl]at hlen
  have hi:=QNB (c:="Bundle") (dk) h1 (by omega)
  refine⟨"Bundle",dk,?_⟩
  unfold ck
  rw[QjR]
  unfold Qd3
  (repeat walk_at "e")
 | copy r m h hm=>
  have hi:=QLT (c:="Copy") (dk) h
  have hix0:dIx (tbD [r]) (.int 0)=.ok (dl r):=ixL 0 rfl
  have hdl:dList (dl r)=.ok (dl r):=rfl
  refine⟨"Copy",dk,?_⟩
  unfold ck
  rw[QjR]
  unfold Qd3
  (repeat walk_at "e")
 | rows t m h h4 hm=>
  have hi:=QMM (c:="Rows") (dk) h
  have hc:eComp [none] (itL (eVar 1)) (gN 0) cTrue Qr8 [some (.k,.int 3),some (.k,tbD t)]=.ok (tbD t):=by
   refine QaO dl dl rfl (fun x hx=>?_) (by have:=h.n2;omega)
   refine QaH (by walk_at "cap") (by walk_at "s") ?_
   rfl
  refine⟨"Rows",dk,?_⟩
  unfold ck
  rw[QjR]
  unfold Qd3
  (repeat walk_at "e")
theorem Qyv{ς ς':SD}{i:Nat}{d:D}(e:ς[i]?=some (some (.o,d)))(h:ς.set i (some (.k,d))=ς'):frz i ς=ς':=by
 unfold frz
 rw[e]
 exact h
theorem QyV{T:SD->Out Fl}{j:Nat}{ς ς1:SD}{r:Out Fl}(hz:frz j ς=ς1)(h:T ς1=r):(fun ς=>T (frz j ς)) ς=r:=by
 show T (frz j ς)=r
 rw[hz];exact h
theorem QzW(t:List (List Int))(r:List Int):tbD (t++[r])=.lst (t.map dl++[dl r]):=by unfold tbD;simp
theorem QtW{N w:Int}{size:Nat}{Pr:Nat->List Int->Prop}(hz:size<=10) (step:∀ s:Nat,s<size->∃ r:List Int,Pr s r/\∀ t:List (List Int),t.length<=100->
 Qal [some (.k,.int N),some (.k,.int w),some (.k,.int (size:Int)),some (.o,tbD t),some (.k,.int (s:Int))]=.ok (.nx [some (.k,.int N),some (.k,.int w),some (.k,.int (size:Int)),some (.o,tbD (t++[r])),some (.k,.int (s:Int))])):
 ∃(t:List (List Int))(a4:Option (SM×D)),t.length=size/\(∀ s,s<size->∃ r,t[s]?=some r/\Pr s r)/\
  sFor (gN 4) (itR1 (eVar 2)) Qal [some (.k,.int N),some (.k,.int w),some (.k,.int (size:Int)),some (.o,.lst []),none]=.ok (.nx [some (.k,.int N),some (.k,.int w),some (.k,.int (size:Int)),some (.o,tbD t),a4]):=by
 obtain⟨ς',hL,t,a4,rfl,hl,hp⟩:=Qbz (body:=fun x ς=>gN 4 x ς>>=fun ς'=>Qal ς') (n:=size)
  (P:=fun s ς=>∃(t:List (List Int))(a4:Option (SM×D)),ς=[some (.k,.int N),some (.k,.int w),some (.k,.int (size:Int)),some (.o,tbD t),a4]/\t.length=s/\∀ i,i<s->∃ r,t[i]?=some r/\Pr i r)
  (by
   rintro s hs ς ⟨t,a4,rfl,hl,hp⟩
   obtain⟨r,pr',hr⟩:=step s hs
   refine⟨[some (.k,.int N),some (.k,.int w),some (.k,.int (size:Int)),some (.o,tbD (t++[r])),some (.k,.int (s:Int))],r_gN (by walk_at "s") (hr t (by omega)),t++[r],_,rfl,by rw[List.length_append,hl];rfl,fun i hi=>?_⟩
   by_cases h:i<s
   ·obtain⟨r',h1,h2⟩:=hp i h
    exact⟨r',by rw[List.getElem?_append_left (by omega)];exact h1,h2⟩
   ·have:i=s:=by omega
    subst this
    exact⟨r,by rw[List.getElem?_append_right (by omega),hl];simp,pr'⟩)
  [some (.k,.int N),some (.k,.int w),some (.k,.int (size:Int)),some (.o,.lst []),none] ⟨[],_,rfl,rfl,fun i hi=>absurd hi (by omega)⟩
 have hR:itR1 (eVar 2) [some (.k,.int N),some (.k,.int w),some (.k,.int (size:Int)),some (.o,.lst []),none]=.ok (QbB 0 size):=QcM size (by (repeat walk_at "e")) (by omega)
 exact⟨t,a4,hl,hp,QbV (g:=gN 4) (T:=Qal) hR hL⟩
theorem QJF{t:List (List Int)}{n:Nat}{f:Nat->List Int}(hl:t.length=n)(h:∀ s,s<n->∃ r,t[s]?=some r/\r=f s):t=(List.range n).map f:=by
 apply List.ext_getElem?
 intro i
 rw[List.getElem?_map]
 by_cases hi:i<n
 ·obtain⟨r,h1,h2⟩:=h i hi
  rw[List.getElem?_range hi,h1,h2];rfl
 ·have a:t[i]?=none:=by simp;omega
  have b:(List.range n)[i]?=none:=by simp;omega
  rw[a,b];rfl
theorem QPO{N:Int}(h0:0<=N)(hb:bitsI N<=200):∃ w t m,Kd w t m/\QdN [.int N]=.ok (.tup [.int w,tbD t]):=by
 obtain⟨sz,hsz⟩:∃ n:Nat,1+N / 4 % 4=(n:Int):=⟨(1+N / 4 % 4).toNat,by omega⟩
 have z1:1<=sz:=by omega
 have z4:sz<=4:=by omega
 have g2:∀ w,sSet 2 (e2 dAdd (eC (.int 1)) (e2 dMod (e2 dFdiv (eVar 0) (eC (.int 4))) (eC (.int 4)))) [some (.k,.int N),some (.k,.int w),none,none,none]=.ok (.nx [some (.k,.int N),some (.k,.int w),some (.k,.int (sz:Int)),none,none]):=fun w=>by
  rw[← hsz]
  (repeat walk_at "e")
 have k01:dEq (.int 0) (.int 1)=.ok (.bl false):=by rw[QC];rfl
 have k03:dEq (.int 0) (.int 3)=.ok (.bl false):=by rw[QC];rfl
 have k02:dEq (.int 0) (.int 2)=.ok (.bl false):=by rw[QC];rfl
 have k00:dEq (.int 0) (.int 0)=.ok (.bl true):=by rw[QC];rfl
 have k10:dEq (.int 1) (.int 0)=.ok (.bl false):=by rw[QC];rfl
 have k11:dEq (.int 1) (.int 1)=.ok (.bl true):=by rw[QC];rfl
 have k12:dEq (.int 1) (.int 2)=.ok (.bl false):=by rw[QC];rfl
 have k13:dEq (.int 1) (.int 3)=.ok (.bl false):=by rw[QC];rfl
 have k20:dEq (.int 2) (.int 0)=.ok (.bl false):=by rw[QC];rfl
 have k21:dEq (.int 2) (.int 1)=.ok (.bl false):=by rw[QC];rfl
 have k22:dEq (.int 2) (.int 2)=.ok (.bl true):=by rw[QC];rfl
 have k23:dEq (.int 2) (.int 3)=.ok (.bl false):=by rw[QC];rfl
 have k30:dEq (.int 3) (.int 0)=.ok (.bl false):=by rw[QC];rfl
 have k31:dEq (.int 3) (.int 1)=.ok (.bl false):=by rw[QC];rfl
 have k32:dEq (.int 3) (.int 2)=.ok (.bl false):=by rw[QC];rfl
 have k33:dEq (.int 3) (.int 3)=.ok (.bl true):=by rw[QC];rfl
 have g1:∀ w:Int,N % 4=w->sSet 1 (e2 dMod (eVar 0) (eC (.int 4))) [some (.k,.int N),none,none,none,none]=.ok (.nx [some (.k,.int N),some (.k,.int w),none,none,none]):=fun w e=>by
  rw[← e]
  (repeat walk_at "e")
 have g3:∀ w:Int,sSetO 3 (eLst aNil) [some (.k,.int N),some (.k,.int w),some (.k,.int (sz:Int)),none,none]=.ok (.nx [some (.k,.int N),some (.k,.int w),some (.k,.int (sz:Int)),some (.o,.lst []),none]):=fun w=>by (repeat walk_at "e")
 have fin:∀(w:Int)(t:List (List Int))(a4:Option (SM×D)),(fun ς=>sRet (eTup (aCons (eVar 1) (aCons (eVar 3) aNil))) (frz 3 ς)) [some (.k,.int N),some (.k,.int w),some (.k,.int (sz:Int)),some (.o,tbD t),a4]=.ok (.rt false (.tup [.int w,tbD t])):=fun w t a4=>
  QyV (Qyv (i:=3) rfl rfl) (by (repeat walk_at "e"))
 rcases(by omega:N % 4=0∨N % 4=1∨N % 4=2∨N % 4=3) with e | e | e | e
 ·obtain⟨t,a4,hl,hp,hfor⟩:=QtW (N:=N) (w:=0) (size:=sz) (Pr:=fun s r=>r=one sz s) (by omega) (fun s hs=>⟨one sz s,rfl,fun t ht=>by
   have hc:eComp [none,some 4] (itR1 (eVar 2)) (gN 0) cTrue QmH [some (.k,.int N),some (.k,.int 0),some (.k,.int (sz:Int)),some (.o,.lst (t.map dl)),some (.k,.int (s:Int))]=.ok (dl (one sz s)):=by
    have he:dl (one sz s)=.lst ((List.range sz).map fun k:Nat=>D.int (if k=s then 1 else 0)):=by unfold dl one;rw[List.map_map];rfl
    rw[he]
    refine Qjx (fun k=>D.int (if k=s then 1 else 0)) (QcM sz rfl (by omega)) (fun k hk=>?_) (by omega)
    refine QaH (by walk_at "cap") (by walk_at "s") ?_
    unfold QmH
    have e:(if k=s then(1:Int) else 0)=(if decide ((k:Int)=(s:Int))=true then 1 else 0):=by
     by_cases e:k=s
     ·rw[if_pos e,if_pos (decide_eq_true (by omega))]
     ·rw[if_neg e,if_neg (by simp;omega)]
    rw[e]
    (repeat (first | with_reducible exact dbl _ | walk_at "e"))
   have hle:(t.map dl).length<=1000:=by rw[List.length_map];omega
   rw[QzW]
   show Qal [some (.k,.int N),some (.k,.int 0),some (.k,.int (sz:Int)),some (.o,.lst (t.map dl)),some (.k,.int (s:Int))]=_
   unfold Qal
   (repeat walk_at "e")⟩)
  have et:t=dealT sz:=QJF hl hp
  refine⟨0,dealT sz,sz,.deal sz z1 z4,?_⟩
  rw[et]at hfor
  have fin':=fin 0 (dealT sz) a4
  rw[Ql1]
  unfold Qe0
  have:=g1 0 e
  (repeat (first | with_reducible exact g2 _ | with_reducible exact g3 _ | walk_at "e"))
 ·obtain⟨t,a4,hl,hp,hfor⟩:=QtW (N:=N) (w:=1) (size:=sz) (Pr:=fun s r=>r=[if s+1=sz then 1 else 0]) (by omega) (fun s hs=>⟨[if s+1=sz then 1 else 0],rfl,fun t ht=>by
   have e:(if s+1=sz then(1:Int) else 0)=(if decide ((s:Int)=(sz:Int) - 1)=true then 1 else 0):=by
    by_cases e:s+1=sz
    ·rw[if_pos e,if_pos (decide_eq_true (by omega))]
    ·rw[if_neg e,if_neg (by simp;omega)]
   have hle:(t.map dl).length<=1000:=by rw[List.length_map];omega
   rw[QzW,e]
   show Qal [some (.k,.int N),some (.k,.int 1),some (.k,.int (sz:Int)),some (.o,.lst (t.map dl)),some (.k,.int (s:Int))]=Out.ok (Fl.nx [_,_,_,some (.o,.lst (t.map dl++[.lst [.int (if decide ((s:Int)=(sz:Int) - 1)=true then 1 else 0)]])),_])
   unfold Qal
   (repeat (first | with_reducible exact dbl _ | walk_at "e"))⟩)
  have et:t=bunT sz:=QJF hl hp
  refine⟨1,bunT sz,1,.bun sz z1 z4,?_⟩
  rw[et]at hfor
  have fin':=fin 1 (bunT sz) a4
  rw[Ql1]
  unfold Qe0
  have:=g1 1 e
  (repeat (first | with_reducible exact g2 _ | with_reducible exact g3 _ | walk_at "e"))
 ·have hloop:∃ a4,sFor (gN 4) (itR1 (eVar 2)) Qal [some (.k,.int N),some (.k,.int 2),some (.k,.int (sz:Int)),some (.o,.lst []),none]=.ok (.nx [some (.k,.int N),some (.k,.int 2),some (.k,.int (sz:Int)),some (.o,.lst []),a4]):=by
   obtain⟨ς',hL,a4,rfl⟩:=Qbz (body:=fun x ς=>gN 4 x ς>>=fun ς'=>Qal ς') (n:=sz)
    (P:=fun s ς=>∃(a4:Option (SM×D)),ς=[some (.k,.int N),some (.k,.int 2),some (.k,.int (sz:Int)),some (.o,.lst []),a4])
    (by
     rintro s hs ς ⟨a4,rfl⟩
     refine⟨[some (.k,.int N),some (.k,.int 2),some (.k,.int (sz:Int)),some (.o,.lst []),some (.k,.int (s:Int))],?_,_,rfl⟩
     refine r_gN (by walk_at "s") ?_
     unfold Qal
     (repeat walk_at "e"))
    [some (.k,.int N),some (.k,.int 2),some (.k,.int (sz:Int)),some (.o,.lst []),none] ⟨_,rfl⟩
   have hR:itR1 (eVar 2) [some (.k,.int N),some (.k,.int 2),some (.k,.int (sz:Int)),some (.o,.lst []),none]=.ok (QbB 0 sz):=QcM sz (by (repeat walk_at "e")) (by omega)
   exact⟨a4,QbV (g:=gN 4) (T:=Qal) hR hL⟩
  obtain⟨a4,hfor⟩:=hloop
  obtain⟨r,hr,hr9,hc⟩:=QA1 (N / 64) (m:=sz - 1) (by omega)
  have ec:((sz - 1:Nat):Int)=(sz:Int) - 1:=by omega
  rw[ec]at hc
  refine⟨2,[r],sz - 1,.copy r (sz - 1) ⟨by simp,by simp,by omega,fun x hx=>by rw[List.mem_singleton.mp hx];exact hr,fun x hx=>by rw[List.mem_singleton.mp hx];exact hr9⟩ (by omega),?_⟩
  have fin':=fin 2 [r] a4
  have fin':(fun ς=>sRet (eTup (aCons (eVar 1) (aCons (eVar 3) aNil))) (frz 3 ς)) [some (.k,.int N),some (.k,.int 2),some (.k,.int (sz:Int)),some (.o,.lst [dl r]),a4]=.ok (.rt false (.tup [.int 2,tbD [r]])):=fin'
  rw[Ql1]
  unfold Qe0
  have:=g1 2 e
  (repeat (first | with_reducible exact g2 _ | with_reducible exact g3 _ | walk_at "e"))
 ·obtain⟨ot,hot⟩:∃ n:Nat,N / 16 % 4=(n:Int):=⟨(N / 16 % 4).toNat,by omega⟩
  have o4:ot<=4:=by omega
  obtain⟨t,a4,hl,hp,hfor⟩:=QtW (N:=N) (w:=3) (size:=sz) (Pr:=fun s r=>r.length=ot/\∀ x∈r,0<=x/\x<=9) (by omega) (fun s hs=>by
   obtain⟨r,hr,hr9,hc⟩:=QA1 (N / 64+48271 * (s:Int) * (s:Int)) (m:=ot) (by omega)
   refine⟨r,⟨hr,hr9⟩,fun t ht=>?_⟩
   rw[← hot]at hc
   have bs:bitsI (s:Int)<=100:=Qs1 (Nat.lt_of_lt_of_le hs (Nat.le_trans z4 (by decide)))
   have hle:(t.map dl).length<=1000:=by rw[List.length_map];omega
   rw[QzW]
   show Qal [some (.k,.int N),some (.k,.int 3),some (.k,.int (sz:Int)),some (.o,.lst (t.map dl)),some (.k,.int (s:Int))]=_
   unfold Qal
   (repeat walk_at "e"))
  have tb:Tb t ot:=⟨by omega,by omega,by omega,fun r hr=>by
   obtain⟨i,hi,e⟩:=List.getElem_of_mem hr
   obtain⟨r',h1,h2⟩:=hp i (by omega)
   rw[List.getElem?_eq_getElem hi,e]at h1
   cases h1;exact h2.1,fun r hr=>by
   obtain⟨i,hi,e⟩:=List.getElem_of_mem hr
   obtain⟨r',h1,h2⟩:=hp i (by omega)
   rw[List.getElem?_eq_getElem hi,e]at h1
   cases h1;exact h2.2⟩
  refine⟨3,t,ot,.rows t ot tb (by omega) o4,?_⟩
  have fin':=fin 3 t a4
  rw[Ql1]
  unfold Qe0
  have:=g1 3 e
  (repeat (first | with_reducible exact g2 _ | with_reducible exact g3 _ | walk_at "e"))
theorem QDG(n:Nat)(f:Nat->D)(d:D):(List.range n).map f++[d]=(List.range (n+1)).map fun i=>if i<n then f i else d:=by
 rw[List.range_succ,List.map_append]
 congr 1
 ·exact List.map_congr_left fun j hj=>by rw[if_pos (List.mem_range.mp hj)]
 ·show [d]=[if n<n then f n else d];rw[if_neg (by omega)]
section
variable{n nd:Nat}(n1:1<=n)(n5:n<=5)(d1:1<=nd)(d3:nd<=3){S:D}{f0 num:Int}{ring:Bool}{PL:D}{kd:Int}{t:List (List Int)}{m:Nat}(tb:Tb t m)(m4:m<=4)(hnum:bitsI num<=300)
include n1 n5 d1 d3 tb m4 hnum
theorem QLd{k:Nat}(hk:k<n){a11 a12:Option (SM×D)}:∃(ld:Nat->Int)(b11 b12:Option (SM×D)),(∀ j,j<m -> -(nd:Int)<=ld j/\ld j<(n:Int))/\
 sFor (gN 11) (itR1 (eA fLen (aCons (e2 dIx (eVar 9) (eC (.int 0))) aNil))) Qgm [some (.k,S),some (.k,.int f0),some (.k,.int (n:Int)),some (.k,.int (nd:Int)),some (.k,.bl ring),some (.o,PL),some (.k,.int (k:Int)),some (.k,.int num),some (.k,.int kd),some (.k,tbD t),some (.o,.lst []),a11,a12]
  = .ok (.nx [some (.k,S),some (.k,.int f0),some (.k,.int (n:Int)),some (.k,.int (nd:Int)),some (.k,.bl ring),some (.o,PL),some (.k,.int (k:Int)),some (.k,.int num),some (.k,.int kd),some (.k,tbD t),some (.o,rl m (fun j=>.int (ld j))),b11,b12]):=by
 have t1:=tb.n1
 have r0:t[0]?=some t[0]:=by simp
 have hix:dIx (tbD t) (.int 0)=.ok (dl t[0]):=ixL 0 (by rw[List.getElem?_map,r0];rfl)
 have hl0:fLen [dl t[0]]=.ok (.int (m:Int)):=by simp[fLen,dl,tb.row _ (List.getElem_mem _)]
 have np:(0:Int)<(n:Int)+(nd:Int):=by omega
 have dp:(0:Int)<(nd:Int):=by omega
 obtain⟨ς',hL,ld,b11,b12,rfl,hld⟩:=Qbz (body:=fun x ς=>gN 11 x ς>>=fun ς'=>Qgm ς') (n:=m)
  (P:=fun j ς=>∃(ld:Nat->Int)(b11 b12:Option (SM×D)),ς=[some (.k,S),some (.k,.int f0),some (.k,.int (n:Int)),some (.k,.int (nd:Int)),some (.k,.bl ring),some (.o,PL),some (.k,.int (k:Int)),some (.k,.int num),some (.k,.int kd),some (.k,tbD t),some (.o,rl j (fun j=>.int (ld j))),b11,b12]/\∀ i,i<j -> -(nd:Int)<=ld i/\ld i<(n:Int))
  (by
   rintro j hj ς ⟨ld,b11,b12,rfl,hld⟩
   obtain⟨x,x0,x1,hx⟩:=QhI num (k:=(j:Int)) (Qs1 (Nat.lt_of_lt_of_le hj (Nat.le_trans m4 (by decide))))
   have y0:=Int.emod_nonneg x (show(n:Int)+(nd:Int)≠0 by omega)
   have y1:=Int.emod_lt_of_pos x np
   have hdiv:e2 dMod (eA (fun xs=>QP (xs++[])) (aCons (eVar 7) (aCons (eVar 11) aNil))) (e2 dAdd (eVar 2) (eVar 3)) [some (.k,S),some (.k,.int f0),some (.k,.int (n:Int)),some (.k,.int (nd:Int)),some (.k,.bl ring),some (.o,PL),some (.k,.int (k:Int)),some (.k,.int num),some (.k,.int kd),some (.k,tbD t),some (.o,rl j (fun j=>.int (ld j))),some (.k,.int (j:Int)),b12]=.ok (.int (x % ((n:Int)+(nd:Int)))):=by (repeat walk_at "e")
   generalize x % ((n:Int)+(nd:Int))=y at *
   have hto:∃ z:Int,0<=z/\z<(n:Int)+(nd:Int)/\sIf (tAnd' (tNot' (tVal (eVar 4))) (tVal (e2 dLe (eVar 12) (eVar 6)))) (sSet 12 (e2 dAdd (eVar 2) (e2 dMod (eVar 12) (eVar 3)))) sNil [some (.k,S),some (.k,.int f0),some (.k,.int (n:Int)),some (.k,.int (nd:Int)),some (.k,.bl ring),some (.o,PL),some (.k,.int (k:Int)),some (.k,.int num),some (.k,.int kd),some (.k,tbD t),some (.o,rl j (fun j=>.int (ld j))),some (.k,.int (j:Int)),some (.k,.int y)]
    = .ok (.nx [some (.k,S),some (.k,.int f0),some (.k,.int (n:Int)),some (.k,.int (nd:Int)),some (.k,.bl ring),some (.o,PL),some (.k,.int (k:Int)),some (.k,.int num),some (.k,.int kd),some (.k,tbD t),some (.o,rl j (fun j=>.int (ld j))),some (.k,.int (j:Int)),some (.k,.int z)]):=by
    cases ring with
    | true=>
     refine⟨y,y0,y1,?_⟩
     (repeat walk_at "e")
    | false=>
     by_cases h:y<=(k:Int)
     ·have w0:=Int.emod_nonneg y (show(nd:Int)≠0 by omega)
      have w1:=Int.emod_lt_of_pos y dp
      have hle:dLe (.int y) (.int (k:Int))=.ok (.bl true):=by rw[QbM,decide_eq_true h]
      refine⟨(n:Int)+y % (nd:Int),by omega,by omega,?_⟩
      (repeat walk_at "e")
     ·have hle:dLe (.int y) (.int (k:Int))=.ok (.bl false):=by rw[QbM,decide_eq_false h]
      refine⟨y,y0,y1,?_⟩
      (repeat walk_at "e")
   obtain⟨z,z0,z1,hz⟩:=hto
   have hl:∃ v:Int, -(nd:Int)<=v/\v<(n:Int)/\eIf (tVal (e2 dLt (eVar 12) (eVar 2))) (eVar 12) (e2 dSub (e2 dSub (eVar 2) (eC (.int 1))) (eVar 12)) [some (.k,S),some (.k,.int f0),some (.k,.int (n:Int)),some (.k,.int (nd:Int)),some (.k,.bl ring),some (.o,PL),some (.k,.int (k:Int)),some (.k,.int num),some (.k,.int kd),some (.k,tbD t),some (.o,rl j (fun j=>.int (ld j))),some (.k,.int (j:Int)),some (.k,.int z)]=.ok (.int v):=by
    by_cases h:z<(n:Int)
    ·have hlt:dLt (.int z) (.int (n:Int))=.ok (.bl true):=by rw[QaM,decide_eq_true h]
     refine⟨z,by omega,h,?_⟩
     (repeat walk_at "e")
    ·have hlt:dLt (.int z) (.int (n:Int))=.ok (.bl false):=by rw[QaM,decide_eq_false h]
     refine⟨(n:Int) - 1 - z,by omega,by omega,?_⟩
     (repeat walk_at "e")
   obtain⟨v,v0,v1,hv⟩:=hl
   have ea:(List.range j).map (fun j=>D.int (ld j))++[.int v]=(List.range (j+1)).map (fun i=>D.int ((fun i=>if i<j then ld i else v) i)):=by
    rw[QDG]
    exact List.map_congr_left fun i _=>by show(if i<j then D.int (ld i) else .int v)=.int (if i<j then ld i else v);split<;>rfl
   have hle:((List.range j).map (fun j=>D.int (ld j))).length<=1000:=by rw[List.length_map,List.length_range];omega
   refine⟨[some (.k,S),some (.k,.int f0),some (.k,.int (n:Int)),some (.k,.int (nd:Int)),some (.k,.bl ring),some (.o,PL),some (.k,.int (k:Int)),some (.k,.int num),some (.k,.int kd),some (.k,tbD t),some (.o,rl (j+1) (fun i=>.int ((fun i=>if i<j then ld i else v) i))),some (.k,.int (j:Int)),some (.k,.int z)],?_,fun i=>if i<j then ld i else v,_,_,rfl,fun i hi=>?_⟩
   ·show _=Out.ok (Fl.nx [_,_,_,_,_,_,_,_,_,_,some (.o,.lst ((List.range (j+1)).map (fun i=>D.int ((fun i=>if i<j then ld i else v) i)))),_,_])
    rw[← ea]
    refine r_gN (by walk_at "s") ?_
    unfold Qgm
    (repeat walk_at "e")
   ·show -(nd:Int)<=(if i<j then ld i else v)/\(if i<j then ld i else v)<(n:Int)
    split
    ·rename_i w;exact hld i w
    ·exact⟨v0,v1⟩)
  [some (.k,S),some (.k,.int f0),some (.k,.int (n:Int)),some (.k,.int (nd:Int)),some (.k,.bl ring),some (.o,PL),some (.k,.int (k:Int)),some (.k,.int num),some (.k,.int kd),some (.k,tbD t),some (.o,.lst []),a11,a12] ⟨fun _=>0,_,_,rfl,fun i hi=>absurd hi (by omega)⟩
 have hR:itR1 (eA fLen (aCons (e2 dIx (eVar 9) (eC (.int 0))) aNil)) [some (.k,S),some (.k,.int f0),some (.k,.int (n:Int)),some (.k,.int (nd:Int)),some (.k,.bl ring),some (.o,PL),some (.k,.int (k:Int)),some (.k,.int num),some (.k,.int kd),some (.k,tbD t),some (.o,.lst []),a11,a12]=.ok (QbB 0 m):=QcM m (by (repeat walk_at "e")) (by omega)
 exact⟨ld,b11,b12,hld,QbV (g:=gN 11) (T:=Qgm) hR hL⟩
end
structure Plan(n nd:Nat)(kd:Nat->Int)(t:Nat->List (List Int))(m:Nat->Nat)(ld:Nat->Nat->Int)(st:Nat->Int)(N:Nat):Prop where
 kd:∀ k,k<N->Kd (kd k) (t k) (m k)
 ldr:∀ k j,k<N->j<m k -> -(nd:Int)<=ld k j/\ld k j<(n:Int)
 str:∀ k,k<N->0<=st k/\st k<((t k).length:Int)
theorem QPo(ns:List Int):∃(n nd:Nat)(kd:Nat->Int)(t:Nat->List (List Int))(m:Nat->Nat)(ld:Nat->Nat->Int)(st:Nat->Int),1<=n/\n<=5/\1<=nd/\nd<=3/\Plan n nd kd t m ld st n/\
 Qfo [.lst (ns.map .int)]=.ok (.tup [rl n (planD kd t m ld st),.int (nd:Int)]):=by
 obtain⟨v,hv⟩:=QJB ns 0
 have hv:QbJ [.lst (ns.map .int),.int 0]=.ok (.int v):=hv
 obtain⟨x,x0,x1,hx⟩:=QhI v (k:=0) (QsV rfl)
 obtain⟨y,y0,y1,hy⟩:=QhI v (k:=1) (QsV rfl)
 obtain⟨z,z0,z1,hz⟩:=QhI v (k:=2) (QsV rfl)
 obtain⟨n,hn⟩:∃ n:Nat,1+x % 5=(n:Int):=⟨(1+x % 5).toNat,by omega⟩
 obtain⟨nd,hnd⟩:∃ n:Nat,1+y % 3=(n:Int):=⟨(1+y % 3).toNat,by omega⟩
 have n1:1<=n:=by omega
 have n5:n<=5:=by omega
 have d1:1<=nd:=by omega
 have d3:nd<=3:=by omega
 generalize hS:D.lst (ns.map .int)=S at *
 have cell:∀ k:Nat,∃ w:Int,QbJ [S,.int (k:Int)]=.ok (.int w):=fun k=>by rw[← hS];exact QJB ns k
 generalize hr:decide (z % 2=1)=ring
 obtain⟨ς',hL,kd,t,m,ld,st,a6,a7,a8,a9,a10,a11,a12,rfl,pl⟩:=Qbz (body:=fun x ς=>gN 6 x ς>>=fun ς'=>Qi2 ς') (n:=n)
  (P:=fun N ς=>∃(kd:Nat->Int)(t:Nat->List (List Int))(m:Nat->Nat)(ld:Nat->Nat->Int)(st:Nat->Int)(a6 a7 a8 a9 a10 a11 a12:Option (SM×D)),ς=[some (.k,S),some (.k,.int v),some (.k,.int (n:Int)),some (.k,.int (nd:Int)),some (.k,.bl ring),some (.o,rl N (planD kd t m ld st)),a6,a7,a8,a9,a10,a11,a12]/\Plan n nd kd t m ld st N)
  (by
   rintro k hk ς ⟨kd,t,m,ld,st,a6,a7,a8,a9,a10,a11,a12,rfl,pl⟩
   obtain⟨w,hw⟩:=cell (1+k)
   have hw:QbJ [S,.int (1+(k:Int))]=.ok (.int w):=by
    have e:(((1+k:Nat)):Int)=1+(k:Int):=by omega
    rw[e]at hw;exact hw
   have bk:bitsI ((k:Int)+3)<=300:=Nat.le_trans (Qas (show((k:Int)+3).natAbs<2 ^ 10 by omega)) (by decide)
   obtain⟨num,m0,m1,hm⟩:=QhI w (k:=(k:Int)+3) bk
   have bnum:bitsI num<=100:=bd_in m0 (Int.lt_trans m1 (by decide))
   obtain⟨w',t',m',K',hrow⟩:=QPO (N:=num / 7) (by omega) (Nat.le_trans (QtJ bnum) (by decide))
   obtain⟨tb',t4',m4'⟩:=K'.tb
   obtain⟨ld',b11,b12,hld',hfor⟩:=QLd n1 n5 d1 d3 (S:=S) (f0:=v) (num:=num) (ring:=ring) (PL:=rl k (planD kd t m ld st)) (kd:=w') tb' m4' (Nat.le_trans bnum (by decide)) hk (a11:=a11) (a12:=a12)
   have t1':=tb'.n1
   have tl:fLen [tbD t']=.ok (.int (t'.length:Int)):=by simp[fLen,tbD]
   have tp:(0:Int)<(t'.length:Int):=by omega
   have s0:=Int.emod_nonneg (num % 7) (show(t'.length:Int)≠0 by omega)
   have s1:=Int.emod_lt_of_pos (num % 7) tp
   have hle:((List.range k).map (planD kd t m ld st)).length<=1000:=by rw[List.length_map,List.length_range];omega
   have hz':(fun ς=>QbN 5 (eTup (aCons (eVar 8) (aCons (eVar 9) (aCons (eVar 10) (aCons (e2 dMod (e2 dMod (eVar 7) (eC (.int 7))) (eA fLen (aCons (eVar 9) aNil))) aNil))))) (frz 10 ς)) [some (.k,S),some (.k,.int v),some (.k,.int (n:Int)),some (.k,.int (nd:Int)),some (.k,.bl ring),some (.o,rl k (planD kd t m ld st)),some (.k,.int (k:Int)),some (.k,.int num),some (.k,.int w'),some (.k,tbD t'),some (.o,rl m' (fun j=>.int (ld' j))),b11,b12]
    = .ok (.nx [some (.k,S),some (.k,.int v),some (.k,.int (n:Int)),some (.k,.int (nd:Int)),some (.k,.bl ring),some (.o,.lst ((List.range k).map (planD kd t m ld st)++[.tup [.int w',tbD t',rl m' (fun j=>.int (ld' j)),.int (num % 7 % (t'.length:Int))]])),some (.k,.int (k:Int)),some (.k,.int num),some (.k,.int w'),some (.k,tbD t'),some (.k,rl m' (fun j=>.int (ld' j))),b11,b12]):=by
    refine QyV (T:=QbN 5 (eTup (aCons (eVar 8) (aCons (eVar 9) (aCons (eVar 10) (aCons (e2 dMod (e2 dMod (eVar 7) (eC (.int 7))) (eA fLen (aCons (eVar 9) aNil))) aNil)))))) (Qyv (i:=10) rfl rfl) ?_
    refine r_app (xs:=(List.range k).map (planD kd t m ld st)) (d:=.tup [.int w',tbD t',rl m' (fun j=>.int (ld' j)),.int (num % 7 % (t'.length:Int))]) rfl ?_ hle rfl
    (repeat walk_at "e")
   refine⟨[some (.k,S),some (.k,.int v),some (.k,.int (n:Int)),some (.k,.int (nd:Int)),some (.k,.bl ring),some (.o,.lst ((List.range k).map (planD kd t m ld st)++[.tup [.int w',tbD t',rl m' (fun j=>.int (ld' j)),.int (num % 7 % (t'.length:Int))]])),some (.k,.int (k:Int)),some (.k,.int num),some (.k,.int w'),some (.k,tbD t'),some (.k,rl m' (fun j=>.int (ld' j))),b11,b12],?_,
    fun i=>if i<k then kd i else w',fun i=>if i<k then t i else t',fun i=>if i<k then m i else m',fun i=>if i<k then ld i else ld',fun i=>if i<k then st i else num % 7 % (t'.length:Int),some (.k,.int (k:Int)),some (.k,.int num),some (.k,.int w'),some (.k,tbD t'),some (.k,rl m' (fun j=>.int (ld' j))),b11,b12,?_,?_⟩
   ·refine r_gN (by walk_at "s") ?_
    unfold Qi2
    have s10:sSetO 10 (eLst aNil) [some (.k,S),some (.k,.int v),some (.k,.int (n:Int)),some (.k,.int (nd:Int)),some (.k,.bl ring),some (.o,rl k (planD kd t m ld st)),some (.k,.int (k:Int)),some (.k,.int num),some (.k,.int w'),some (.k,tbD t'),a10,a11,a12]=.ok (.nx [some (.k,S),some (.k,.int v),some (.k,.int (n:Int)),some (.k,.int (nd:Int)),some (.k,.bl ring),some (.o,rl k (planD kd t m ld st)),some (.k,.int (k:Int)),some (.k,.int num),some (.k,.int w'),some (.k,tbD t'),some (.o,.lst []),a11,a12]):=by (repeat walk_at "e")
    have s8:sUnp [8,9] (eA (fun xs=>QdN (xs++[])) (aCons (e2 dFdiv (eVar 7) (eC (.int 7))) aNil)) [some (.k,S),some (.k,.int v),some (.k,.int (n:Int)),some (.k,.int (nd:Int)),some (.k,.bl ring),some (.o,rl k (planD kd t m ld st)),some (.k,.int (k:Int)),some (.k,.int num),a8,a9,a10,a11,a12]=.ok (.nx [some (.k,S),some (.k,.int v),some (.k,.int (n:Int)),some (.k,.int (nd:Int)),some (.k,.bl ring),some (.o,rl k (planD kd t m ld st)),some (.k,.int (k:Int)),some (.k,.int num),some (.k,.int w'),some (.k,tbD t'),a10,a11,a12]):=by (repeat walk_at "e")
    have s7:sSet 7 (eA (fun xs=>QP (xs++[])) (aCons (eA (fun xs=>QbJ (xs++[])) (aCons (eVar 0) (aCons (e2 dAdd (eC (.int 1)) (eVar 6)) aNil))) (aCons (e2 dAdd (eVar 6) (eC (.int 3))) aNil))) [some (.k,S),some (.k,.int v),some (.k,.int (n:Int)),some (.k,.int (nd:Int)),some (.k,.bl ring),some (.o,rl k (planD kd t m ld st)),some (.k,.int (k:Int)),a7,a8,a9,a10,a11,a12]=.ok (.nx [some (.k,S),some (.k,.int v),some (.k,.int (n:Int)),some (.k,.int (nd:Int)),some (.k,.bl ring),some (.o,rl k (planD kd t m ld st)),some (.k,.int (k:Int)),some (.k,.int num),a8,a9,a10,a11,a12]):=by (repeat walk_at "e")
    exact r_seq s7 (Qts (r_seq s8 (Qts (r_seq s10 (Qts (r_seq hfor (Qts hz')))))))
   ·have ea:(List.range k).map (planD kd t m ld st)++[.tup [.int w',tbD t',rl m' (fun j=>.int (ld' j)),.int (num % 7 % (t'.length:Int))]]=(List.range (k+1)).map (planD (fun i=>if i<k then kd i else w') (fun i=>if i<k then t i else t') (fun i=>if i<k then m i else m') (fun i=>if i<k then ld i else ld') (fun i=>if i<k then st i else num % 7 % (t'.length:Int))):=by
     rw[QDG]
     refine List.map_congr_left fun i hi=>?_
     unfold planD
     by_cases h:i<k
     ·simp only[if_pos h]
     ·simp only[if_neg h]
    rw[ea]
   ·refine⟨fun i hi=>?_,fun i j hi hj=>?_,fun i hi=>?_⟩
    ·by_cases h:i<k
     ·simp only[if_pos h];exact pl.kd i h
     ·simp only[if_neg h];exact K'
    ·by_cases h:i<k
     ·simp only[if_pos h]at hj ⊢;exact pl.ldr i j h hj
     ·simp only[if_neg h]at hj ⊢;exact hld' j hj
    ·by_cases h:i<k
     ·simp only[if_pos h];exact pl.str i h
     ·simp only[if_neg h];exact⟨s0,s1⟩)
  [some (.k,S),some (.k,.int v),some (.k,.int (n:Int)),some (.k,.int (nd:Int)),some (.k,.bl ring),some (.o,.lst []),none,none,none,none,none,none,none] ⟨fun _=>0,fun _=>[],fun _=>0,fun _ _=>0,fun _=>0,_,_,_,_,_,_,_,rfl,⟨fun i hi=>absurd hi (by omega),fun i j hi=>absurd hi (by omega),fun i hi=>absurd hi (by omega)⟩⟩
 have hR:itR1 (eVar 2) [some (.k,S),some (.k,.int v),some (.k,.int (n:Int)),some (.k,.int (nd:Int)),some (.k,.bl ring),some (.o,.lst []),none,none,none,none,none,none,none]=.ok (QbB 0 n):=QcM n (by (repeat walk_at "e")) (by omega)
 have hfor:=QbV (g:=gN 6) (T:=Qi2) hR hL
 refine⟨n,nd,kd,t,m,ld,st,n1,n5,d1,d3,pl,?_⟩
 have g2:sSet 2 (e2 dAdd (eC (.int 1)) (e2 dMod (eA (fun xs=>QP (xs++[])) (aCons (eVar 1) (aCons (eC (.int 0)) aNil))) (eC (.int 5)))) [some (.k,S),some (.k,.int v),none,none,none,none,none,none,none,none,none,none,none]=.ok (.nx [some (.k,S),some (.k,.int v),some (.k,.int (n:Int)),none,none,none,none,none,none,none,none,none,none]):=by
  rw[← hn]
  (repeat walk_at "e")
 have g3:sSet 3 (e2 dAdd (eC (.int 1)) (e2 dMod (eA (fun xs=>QP (xs++[])) (aCons (eVar 1) (aCons (eC (.int 1)) aNil))) (eC (.int 3)))) [some (.k,S),some (.k,.int v),some (.k,.int (n:Int)),none,none,none,none,none,none,none,none,none,none]=.ok (.nx [some (.k,S),some (.k,.int v),some (.k,.int (n:Int)),some (.k,.int (nd:Int)),none,none,none,none,none,none,none,none,none]):=by
  rw[← hnd]
  (repeat walk_at "e")
 have g4:sSet 4 (e2 dEq (e2 dMod (eA (fun xs=>QP (xs++[])) (aCons (eVar 1) (aCons (eC (.int 2)) aNil))) (eC (.int 2))) (eC (.int 1))) [some (.k,S),some (.k,.int v),some (.k,.int (n:Int)),some (.k,.int (nd:Int)),none,none,none,none,none,none,none,none,none]=.ok (.nx [some (.k,S),some (.k,.int v),some (.k,.int (n:Int)),some (.k,.int (nd:Int)),some (.k,.bl ring),none,none,none,none,none,none,none,none]):=by
  rw[← hr]
  (repeat walk_at "e")
 have fin:(fun ς=>sRet (eTup (aCons (eVar 5) (aCons (eVar 3) aNil))) (frz 5 ς)) [some (.k,S),some (.k,.int v),some (.k,.int (n:Int)),some (.k,.int (nd:Int)),some (.k,.bl ring),some (.o,rl n (planD kd t m ld st)),a6,a7,a8,a9,a10,a11,a12]=.ok (.rt false (.tup [rl n (planD kd t m ld st),.int (nd:Int)])):=QyV (T:=sRet (eTup (aCons (eVar 5) (aCons (eVar 3) aNil)))) (Qyv (i:=5) rfl rfl) (by (repeat walk_at "e"))
 rw[QK0]
 unfold QlH
 (repeat walk_at "e")
def lt(k:Nat):Str:=match k with | 0=>"a" | 1=>"b" | 2=>"c" | 3=>"d" | 4=>"e" | _=>"f"
def nmC(k:Nat):Str:=match k with | 0=>"ca" | 1=>"cb" | 2=>"cc" | 3=>"cd" | 4=>"ce" | _=>"cf"
def dnC(k:Nat):Str:=match k with | 0=>"da" | 1=>"db" | 2=>"dc" | 3=>"dd" | 4=>"de" | _=>"df"
theorem lt_ok{k:Nat}(h:k<5):dIx (.str "abcdef") (.int (k:Int))=.ok (.str (lt k)):=by
 rcases(by omega:k=0∨k=1∨k=2∨k=3∨k=4) with rfl | rfl | rfl | rfl | rfl<;>with_unfolding_all rfl
theorem nm_ok{k:Nat}(h:k<5):dAdd (.str "c") (.str (lt k))=.ok (.str (nmC k)):=by
 rcases(by omega:k=0∨k=1∨k=2∨k=3∨k=4) with rfl | rfl | rfl | rfl | rfl<;>with_unfolding_all rfl
theorem dn_ok{k:Nat}(h:k<5):dAdd (.str "d") (.str (lt k))=.ok (.str (dnC k)):=by
 rcases(by omega:k=0∨k=1∨k=2∨k=3∨k=4) with rfl | rfl | rfl | rfl | rfl<;>with_unfolding_all rfl
theorem QQV{k:Nat}(h:k<5):Qa4 [.str (nmC k)]=.ok (.bl true):=by
 rcases(by omega:k=0∨k=1∨k=2∨k=3∨k=4) with rfl | rfl | rfl | rfl | rfl<;>with_unfolding_all rfl
theorem QQ9{k:Nat}(h:k<5):Qa4 [.str (dnC k)]=.ok (.bl true):=by
 rcases(by omega:k=0∨k=1∨k=2∨k=3∨k=4) with rfl | rfl | rfl | rfl | rfl<;>with_unfolding_all rfl
theorem QRZ{i j:Nat}(hi:i<5)(hj:j<5)(e:nmC i=nmC j):i=j:=by
 have key:∀ a b:Fin 5,nmC a=nmC b->a=b:=dk
 have:=key ⟨i,hi⟩ ⟨j,hj⟩ e
 simpa using this
theorem QQ4{i j:Nat}(hi:i<5)(hj:j<5)(e:dnC i=dnC j):i=j:=by
 have key:∀ a b:Fin 5,dnC a=dnC b->a=b:=dk
 have:=key ⟨i,hi⟩ ⟨j,hj⟩ e
 simpa using this
theorem QQz{i j:Nat}(hi:i<5)(hj:j<5):nmC i≠dnC j:=by
 have key:∀ a b:Fin 5,nmC a≠dnC b:=dk
 exact key ⟨i,hi⟩ ⟨j,hj⟩
theorem QL5{n nd:Nat}{kd:Nat->Int}{t:Nat->List (List Int)}{m:Nat->Nat}{ld:Nat->Nat->Int}{st:Nat->Int}(n1:1<=n)(n5:n<=5)(d1:1<=nd)(d3:nd<=3)(pl:Plan n nd kd t m ld st n):
 ∃ c:Nat->Str,Seats n nd nmC dnC c t m ld st/\Qdl [rl n (planD kd t m ld st),.int (nd:Int)]=.ok (offD n nd nmC dnC c t m ld st):=by
 have H:∀ k,∃ c:Str,k<n->CK.contains c=true/\QcI [.int (kd k),tbD (t k)]=.ok (ck c (t k) (m k)):=fun k=>by
  by_cases h:k<n
  ·obtain⟨c,h1,h2⟩:=QOi (pl.kd k h)
   exact⟨c,fun _=>⟨h1,h2⟩⟩
  ·exact⟨"Copy",fun z=>absurd z h⟩
 obtain⟨c,hc⟩:∃ c:Nat->Str,∀ k,k<n->CK.contains (c k)=true/\QcI [.int (kd k),tbD (t k)]=.ok (ck (c k) (t k) (m k)):=⟨fun k=>(H k).choose,fun k h=>(H k).choose_spec h⟩
 have sts:Seats n nd nmC dnC c t m ld st:=⟨n1,by omega,d1,by omega,fun k h=>(hc k h).1,fun k h=>(pl.kd k h).tb.1,pl.ldr,pl.str,fun k h=>QQV (by omega),fun k h=>QQ9 (by omega),fun i j hi hj e=>QRZ (by omega) (by omega) e,fun i j hi hj e=>QQ4 (by omega) (by omega) e,fun i d hi hd=>QQz (by omega) (by omega)⟩
 refine⟨c,sts,?_⟩
 have mk:=QMr sts
 have hlen:=lenR n (planD kd t m ld st)
 have hix:∀ k:Nat,k<n->dIx (rl n (planD kd t m ld st)) (.int (k:Int))=.ok (planD kd t m ld st k):=fun k h=>ixR h
 generalize hP:rl n (planD kd t m ld st)=P at *
 obtain⟨ς',hL,a4,a5,a6,a7,a8,a9,rfl⟩:=Qbz (body:=fun x ς=>gN 4 x ς>>=fun ς'=>Qgw ς') (n:=n)
  (P:=fun k ς=>∃(a4 a5 a6 a7 a8 a9:Option (SM×D)),ς=[some (.k,P),some (.k,.int (nd:Int)),some (.k,.str "abcdef"),some (.o,rl k (seatD nmC dnC c t m ld st)),a4,a5,a6,a7,a8,a9])
  (by
   rintro k hk ς ⟨a4,a5,a6,a7,a8,a9,rfl⟩
   have x:=hix k hk
   have m6:=(sts.tb k hk).m6
   have l0:=lt_ok (k:=k) (by omega)
   have l1:=nm_ok (k:=k) (by omega)
   have hcl:=(hc k hk).2
   have hcm:∀ a9,eComp [none,some 2] (itL (eVar 7)) (gN 0) cTrue Qjg [some (.k,P),some (.k,.int (nd:Int)),some (.k,.str "abcdef"),some (.o,rl k (seatD nmC dnC c t m ld st)),some (.k,.int (k:Int)),some (.k,.int (kd k)),some (.k,tbD (t k)),some (.k,rl (m k) (fun j=>.int (ld k j))),some (.k,.int (st k)),a9]=.ok (rl (m k) (fun j=>.str (nml nmC dnC (ld k j)))):=fun a9=>by
    refine QaO (fun j=>D.int (ld k j)) (fun j=>D.str (nml nmC dnC (ld k j))) rfl (fun j hj=>?_) (by rw[List.length_range];omega)
    obtain⟨r1,r2⟩:=sts.ldr k j hk (List.mem_range.mp hj)
    refine QaH (τ0:=[none,some (.k,.str "abcdef")]) (Qg5 (c_k rfl c_nil)) (by walk_at "s") ?_
    unfold Qjg nml
    by_cases h:ld k j<0
    ·rw[if_pos h]
     have g0:dLt (.int (ld k j)) (.int 0)=.ok (.bl true):=by rw[QaM,decide_eq_true h]
     have x1:dIx (.str "abcdef") (.int (-1 - ld k j))=.ok (.str (lt (-1 - ld k j).toNat)):=by
      have:=lt_ok (k:=(-1 - ld k j).toNat) (by omega)
      rw[Int.toNat_of_nonneg (by omega)]at this
      exact this
     have x2:=dn_ok (k:=(-1 - ld k j).toNat) (by omega)
     (repeat walk_at "e")
    ·rw[if_neg h]
     have g0:dLt (.int (ld k j)) (.int 0)=.ok (.bl false):=by rw[QaM,decide_eq_false h]
     have x1:dIx (.str "abcdef") (.int (ld k j))=.ok (.str (lt (ld k j).toNat)):=by
      have:=lt_ok (k:=(ld k j).toNat) (by omega)
      rw[Int.toNat_of_nonneg (by omega)]at this
      exact this
     have x2:=nm_ok (k:=(ld k j).toNat) (by omega)
     (repeat walk_at "e")
   have ea:(List.range k).map (seatD nmC dnC c t m ld st)++[.tup [.str (nmC k),ck (c k) (t k) (m k),rl (m k) (fun j=>.str (nml nmC dnC (ld k j))),.int (st k)]]=(List.range (k+1)).map (seatD nmC dnC c t m ld st):=by
    rw[List.range_succ,List.map_append];rfl
   have hle:((List.range k).map (seatD nmC dnC c t m ld st)).length<=1000:=by rw[List.length_map,List.length_range];omega
   refine⟨[some (.k,P),some (.k,.int (nd:Int)),some (.k,.str "abcdef"),some (.o,rl (k+1) (seatD nmC dnC c t m ld st)),some (.k,.int (k:Int)),some (.k,.int (kd k)),some (.k,tbD (t k)),some (.k,rl (m k) (fun j=>.int (ld k j))),some (.k,.int (st k)),some (.k,rl (m k) (fun j=>.str (nml nmC dnC (ld k j))))],?_,_,_,_,_,_,_,rfl⟩
   show _=Out.ok (Fl.nx [_,_,_,some (.o,.lst ((List.range (k+1)).map (seatD nmC dnC c t m ld st))),_,_,_,_,_,_])
   rw[← ea]
   have x:dIx P (.int (k:Int))=.ok (.tup [.int (kd k),tbD (t k),rl (m k) (fun j=>.int (ld k j)),.int (st k)]):=x
   refine r_gN (by walk_at "s") ?_
   unfold Qgw
   (repeat (first | with_reducible exact hcm _ | walk_at "e")))
  [some (.k,P),some (.k,.int (nd:Int)),some (.k,.str "abcdef"),some (.o,.lst []),none,none,none,none,none,none] ⟨_,_,_,_,_,_,rfl⟩
 have hR:itR1 (eA fLen (aCons (eVar 0) aNil)) [some (.k,P),some (.k,.int (nd:Int)),some (.k,.str "abcdef"),some (.o,.lst []),none,none,none,none,none,none]=.ok (QbB 0 n):=QcM n (by (repeat walk_at "e")) (by omega)
 have hfor:=QbV (g:=gN 4) (T:=Qgw) hR hL
 have hdo:∀ ς:SD,ς[1]?=some (some (.k,.int (nd:Int)))->ς[2]?=some (some (.k,.str "abcdef"))->eComp [none,some 2] (itR1 (eVar 1)) (gN 0) cTrue QeN ς=.ok (rl nd (fun d=>.str (dnC d))):=fun ς h1 h2=>by
  refine Qjx (fun d=>.str (dnC d)) (QcM nd (r_var h1) (by omega)) (fun d hd=>?_) (by omega)
  have l0:=lt_ok (k:=d) (by omega)
  have l1:=dn_ok (k:=d) (by omega)
  refine QaH (τ0:=[none,some (.k,.str "abcdef")]) (Qg5 (c_k h2 c_nil)) (by walk_at "s") ?_
  unfold QeN
  (repeat walk_at "e")
 have mk':Qa7 "Office" [] [rl n (seatD nmC dnC c t m ld st),.lst [.tup [.str "in",.str "ca"]],rl nd (fun d=>.str (dnC d))]=.ok (offF n nd nmC dnC c t m ld st):=mk
 have fin:(fun ς=>sRetF (eMake "Office" Qa7 (aCons (eVar 3) (aCons (eLst (aCons (eTup (aCons (eC (.str "in")) (aCons (eC (.str "ca")) aNil))) aNil)) (aCons (eComp [none,some 2] (itR1 (eVar 1)) (gN 0) cTrue QeN) aNil)))) (frz 3 ς)) [some (.k,P),some (.k,.int (nd:Int)),some (.k,.str "abcdef"),some (.o,rl n (seatD nmC dnC c t m ld st)),a4,a5,a6,a7,a8,a9]=.ok (.rt true (offD n nd nmC dnC c t m ld st)):=by
  refine QyV (T:=sRetF (eMake "Office" Qa7 (aCons (eVar 3) (aCons (eLst (aCons (eTup (aCons (eC (.str "in")) (aCons (eC (.str "ca")) aNil))) aNil)) (aCons (eComp [none,some 2] (itR1 (eVar 1)) (gN 0) cTrue QeN) aNil))))) (Qyv (i:=3) rfl rfl) ?_
  unfold offD
  (repeat (first | with_reducible exact hdo _ rfl rfl | walk_at "e"))
 rw[QDk]
 unfold Qh6
 (repeat walk_at "e")
theorem QMZ(cell:Int){N:Nat}(hN:N<=20):∃ w:Nat->Int×Int,(∀ i,i<N->okW (w i))/\Qdt [.int cell,.int (N:Int)]=.ok (rl N (fun i=>fr (w i))):=by
 obtain⟨x,x0,x1,hx⟩:=QhI cell (k:=89) (QsV rfl)
 have h9:dPow (.int 10) (.int 9)=.ok (.int 1000000000):=by rw[QJD (by decide)];rfl
 have h15:dPow (.int 10) (.int 15)=.ok (.int 1000000000000000):=by rw[QJD (by decide)];rfl
 obtain⟨b,b1,b2,hb⟩:∃ b:Int,1<=b/\b<=1000000000/\dIx (.lst [.int 12,.int 1000000000]) (.int (x % 2))=.ok (.int b):=by
  rcases(by omega:x % 2=0∨x % 2=1) with e | e<;>rw[e]
  ·exact⟨12,by omega,by omega,rfl⟩
  ·exact⟨1000000000,by omega,by omega,rfl⟩
 have bp:0<b:=by omega
 have q0:=Int.emod_nonneg (x / 2) (show b≠0 by omega)
 have q1:=Int.emod_lt_of_pos (x / 2) bp
 have hbot:e2 dAdd (eC (.int 1)) (e2 dMod (e2 dFdiv (eA (fun xs=>QP (xs++[])) (aCons (eVar 0) (aCons (eC (.int 89)) aNil))) (eC (.int 2))) (e2 dIx (eLst (aCons (eC (.int 12)) (aCons (e2 dPow (eC (.int 10)) (eC (.int 9))) aNil))) (e2 dMod (eA (fun xs=>QP (xs++[])) (aCons (eVar 0) (aCons (eC (.int 89)) aNil))) (eC (.int 2))))) [some (.k,.int cell),some (.k,.int (N:Int)),some (.o,.lst []),none,none,none,none]=.ok (.int (1+x / 2 % b)):=by (repeat walk_at "e")
 obtain⟨B,hB,B1,B2⟩:∃ B:Int,1+x / 2 % b=B/\1<=B/\B<=1000000000:=⟨_,rfl,by omega,by omega⟩
 rw[hB]at hbot
 obtain⟨ς',hL,w,a4,a5,a6,rfl,hw⟩:=Qbz (body:=fun x ς=>gN 4 x ς>>=fun ς'=>QgG ς') (n:=N)
  (P:=fun k ς=>∃(w:Nat->Int×Int)(a4 a5 a6:Option (SM×D)),ς=[some (.k,.int cell),some (.k,.int (N:Int)),some (.o,rl k (fun i=>fr (w i))),some (.k,.int B),a4,a5,a6]/\∀ i,i<k->okW (w i))
  (by
   rintro k hk ς ⟨w,a4,a5,a6,rfl,hw⟩
   obtain⟨y,y0,y1,hy⟩:=QhI cell (k:=(k:Int)+90) (Nat.le_trans (Qas (show((k:Int)+90).natAbs<2 ^ 10 by omega)) (by decide))
   obtain⟨tp,t0,t1,ht⟩:∃ tp:Int, -1000000000000000<=tp/\tp<=1000000000000000/\dIx (.lst [.int (y / 4 % 121 - 60),.int (y / 4 % (2 * 1000000000000000) - 1000000000000000),.int 0,.int 1]) (.int (y % 4))=.ok (.int tp):=by
    rcases(by omega:y % 4=0∨y % 4=1∨y % 4=2∨y % 4=3) with e | e | e | e<;>rw[e]
    ·exact⟨y / 4 % 121 - 60,by omega,by omega,rfl⟩
    ·exact⟨y / 4 % (2 * 1000000000000000) - 1000000000000000,by omega,by omega,rfl⟩
    ·exact⟨0,by omega,by omega,rfl⟩
    ·exact⟨1,by omega,by omega,rfl⟩
   have bB:bitsI B<=7900:=Nat.le_trans (Qas (show B.natAbs<2 ^ 40 by omega)) (by decide)
   have hl:=QyL (a:=tp) B1 bB
   have ok:okW (pr tp B):=⟨Qkt (by omega),by
    rw[QuQ B1]
    exact QtJ (Qas (show tp.natAbs<2 ^ 100 by omega)),by
    rw[QuQ B1]
    exact Nat.le_trans (Int.natAbs_ediv_le_natAbs _ _) (by omega)⟩
   have ea:(List.range k).map (fun i=>fr (w i))++[fr (pr tp B)]=(List.range (k+1)).map (fun i=>fr ((fun i=>if i<k then w i else pr tp B) i)):=by
    rw[QDG]
    exact List.map_congr_left fun i _=>by show(if i<k then fr (w i) else fr (pr tp B))=fr (if i<k then w i else pr tp B);split<;>rfl
   have hle:((List.range k).map (fun i=>fr (w i))).length<=1000:=by rw[List.length_map,List.length_range];omega
   refine⟨[some (.k,.int cell),some (.k,.int (N:Int)),some (.o,rl (k+1) (fun i=>fr ((fun i=>if i<k then w i else pr tp B) i))),some (.k,.int B),some (.k,.int (k:Int)),some (.k,.int y),some (.k,.int tp)],?_,fun i=>if i<k then w i else pr tp B,_,_,_,rfl,fun i hi=>?_⟩
   ·show _=Out.ok (Fl.nx [_,_,some (.o,.lst ((List.range (k+1)).map (fun i=>fr ((fun i=>if i<k then w i else pr tp B) i)))),_,_,_,_])
    rw[← ea]
    refine r_gN (by walk_at "s") ?_
    unfold QgG
    (repeat walk_at "e")
   ·show okW (if i<k then w i else pr tp B)
    split
    ·rename_i z;exact hw i z
    ·exact ok)
  [some (.k,.int cell),some (.k,.int (N:Int)),some (.o,.lst []),some (.k,.int B),none,none,none] ⟨fun _=>zero1,_,_,_,rfl,fun i hi=>absurd hi (by omega)⟩
 have hR:itR1 (eVar 1) [some (.k,.int cell),some (.k,.int (N:Int)),some (.o,.lst []),some (.k,.int B),none,none,none]=.ok (QbB 0 N):=QcM N (by (repeat walk_at "e")) (by omega)
 have hfor:=QbV (g:=gN 4) (T:=QgG) hR hL
 refine⟨w,hw,?_⟩
 rw[QFN]
 unfold Qih
 (repeat walk_at "e")
theorem QQc{α β:Type}(f:α->β)(xs:List α)(a b:Option Int):cutD (xs.map f) a b=(cutD xs a b).map f:=by
 unfold cutD
 rw[List.length_map,List.map_take,List.map_drop]
theorem QQn{α:Type}(xs:List α)(a b:Option Int):(cutD xs a b).length<=xs.length:=by
 unfold cutD
 rw[List.length_take,List.length_drop];omega
theorem QPh(n k:Nat)(f:Nat->D):cutD ((List.range (n+k)).map f) none (some (n:Int))=(List.range n).map f:=by
 rw[QRC, ← List.map_take,List.take_range]
 congr 2;omega
theorem QO7(n k:Nat)(f:Nat->D):cutD ((List.range (n+k)).map f) (some (n:Int)) none=(List.range k).map fun i=>f (n+i):=by
 rw[QOC]
 apply List.ext_getElem?
 intro i
 rw[List.getElem?_drop,List.getElem?_map,List.getElem?_map]
 by_cases h:i<k
 ·rw[List.getElem?_range h,List.getElem?_range (show n+i<n+k by omega)];rfl
 ·have a:(List.range k)[i]?=none:=by simp;omega
  have b:(List.range (n+k))[n+i]?=none:=by simp;omega
  rw[a,b];rfl
theorem QEd{body:D->SD->Out Fl}{P:SD->Prop}:∀(l:List D),(∀ d∈l,∀ ς,P ς->∃ ς',body d ς=.ok (.nx ς')/\P ς')->∀ ς,P ς->∃ ς',loopD body l ς=.ok (.nx ς')/\P ς'
 | [],_,ς,p=>⟨ς,rfl,p⟩
 | d::l,h,ς,p=>by
  obtain⟨ς1,h1,p1⟩:=h d (List.mem_cons_self ..) ς p
  obtain⟨ς2,h2,p2⟩:=QEd l (fun d hd=>h d (List.mem_cons_of_mem _ hd)) ς1 p1
  exact⟨ς2,by rw[loopD,h1];exact h2,p2⟩
theorem the_law(ns:List Int)(hl:ns.length<=63)(hb:∀ z∈ns,bitsI z<=1048576):QnY [.lst (ns.map .int)]=.ok (.bl true):=by
 obtain⟨n,nd,kd,t,m,ld,st,n1,n5,d1,d3,pl,hplan⟩:=QPo ns
 obtain⟨c,sts,hoff⟩:=QL5 n1 n5 d1 d3 pl
 have h4:∀ k,k<n->(t k).length<=4/\m k<=4:=fun k h=>⟨(pl.kd k h).tb.2.1,(pl.kd k h).tb.2.2⟩
 have ask:=fun {wr dw:Nat->Int×Int} (hw:∀ i,i<n->okW (wr i)) (hd:∀ i,i<nd->okW (dw i)) {k:Nat} (hk:k<n)=>QOs sts h4 hw hd (kd:=kd) hk
 have hlen:=lenR n (planD kd t m ld st)
 generalize hP:rl n (planD kd t m ld st)=P at *
 generalize hO:offD n nd nmC dnC c t m ld st=O at *
 have cc:=QQc D.int ns (some 11) (some 19)
 have cl:=QQn ns (some 11) (some 19)
 generalize cutD ns (some 11) (some 19)=xs at cc cl
 have hcat:dCat (.lst [.int 0]) (.lst (xs.map .int))=.ok (.lst ((0::xs).map .int)):=by
  rw[QJy (by simp;omega)];rfl
 obtain⟨ς',hL,a4,a5,a6,rfl⟩:=QEd (body:=fun x ς=>gN 4 x ς>>=fun ς'=>QuH ς') (P:=fun ς=>∃(a4 a5 a6:Option (SM×D)),ς=[some (.k,.lst (ns.map .int)),some (.k,P),some (.k,.int (nd:Int)),some (.k,O),a4,a5,a6]) ((0::xs).map D.int)
  (by
   rintro d hd ς ⟨a4,a5,a6,rfl⟩
   obtain⟨cell,_,rfl⟩:=List.mem_map.mp hd
   obtain⟨w,hw,hws⟩:=QMZ cell (N:=n+nd) (by omega)
   have ecast:((n+nd:Nat):Int)=(n:Int)+(nd:Int):=by omega
   rw[ecast]at hws
   have c1:=QPh n nd (fun i=>fr (w i))
   have c2:=QO7 n nd (fun i=>fr (w i))
   obtain⟨ς2,hL2,b6,rfl⟩:=Qbz (body:=fun x ς=>gN 6 x ς>>=fun ς'=>QuC ς') (n:=n)
    (P:=fun k ς=>∃(b6:Option (SM×D)),ς=[some (.k,.lst (ns.map .int)),some (.k,P),some (.k,.int (nd:Int)),some (.k,O),some (.k,.int cell),some (.k,rl (n+nd) (fun i=>fr (w i))),b6])
    (by
     rintro k hk ς ⟨b6,rfl⟩
     have h:=ask (wr:=w) (dw:=fun i=>w (n+i)) (fun i hi=>hw i (by omega)) (fun i hi=>hw (n+i) (by omega)) hk
     refine⟨[some (.k,.lst (ns.map .int)),some (.k,P),some (.k,.int (nd:Int)),some (.k,O),some (.k,.int cell),some (.k,rl (n+nd) (fun i=>fr (w i))),some (.k,.int (k:Int))],?_,_,rfl⟩
     refine r_gN (by walk_at "s") ?_
     unfold QuC
     (repeat walk_at "e"))
    [some (.k,.lst (ns.map .int)),some (.k,P),some (.k,.int (nd:Int)),some (.k,O),some (.k,.int cell),some (.k,rl (n+nd) (fun i=>fr (w i))),a6] ⟨_,rfl⟩
   have hR:itR1 (eA fLen (aCons (eVar 1) aNil)) [some (.k,.lst (ns.map .int)),some (.k,P),some (.k,.int (nd:Int)),some (.k,O),some (.k,.int cell),some (.k,rl (n+nd) (fun i=>fr (w i))),a6]=.ok (QbB 0 n):=QcM n (by (repeat walk_at "e")) (by omega)
   have hfor:=QbV (g:=gN 6) (T:=QuC) hR hL2
   refine⟨[some (.k,.lst (ns.map .int)),some (.k,P),some (.k,.int (nd:Int)),some (.k,O),some (.k,.int cell),some (.k,rl (n+nd) (fun i=>fr (w i))),b6],?_,_,_,_,rfl⟩
   refine r_gN (by walk_at "s") ?_
   unfold QuH
   (repeat walk_at "e"))
  [some (.k,.lst (ns.map .int)),some (.k,P),some (.k,.int (nd:Int)),some (.k,O),none,none,none] ⟨_,_,_,rfl⟩
 have hfor:=QbV (g:=gN 4) (T:=QuH) (its:=itL (e2 dCat (eLst (aCons (eC (.int 0)) aNil)) (eSl (eVar 0) (oSome (eC (.int 11))) (oSome (eC (.int 19)))))) (xs:=(0::xs).map D.int) (ς:=[some (.k,.lst (ns.map .int)),some (.k,P),some (.k,.int (nd:Int)),some (.k,O),none,none,none]) (by (repeat walk_at "e")) hL
 rw[QSa]
 unfold QCW
 (repeat walk_at "e")
end My
namespace My
open PySem PySem.Spec L2 DL
theorem all_mk{l:W.OpenLaw}{w:World}{K:W.Frag}{h:Heap}{mg:Str->Option Value}{fa:Addr}(X:K.In h)(G:h.Ns mainGlobals mg)(hfa:mg "law"=some (.ref fa))
 {QF:Addr} {Qq:Addr} {QI:Addr} {QG:Addr} {QT:Addr} {Qa2:Addr} {QaF:Addr} {Qfu:Addr} {Qac:Addr} {Qhb:Addr} {Qhc:Addr} {Qfv:Addr} {Qhg:Addr} {QeO:Addr} {QaS:Addr} {QK:Addr} {Qa5:Addr} {Qew:Addr} {QqG:Addr} {QHd QII:Option Addr} {QH0:Array (Option Value)} {QGR QHj QHe QIj Qvo QIR:Value} {QpG:Addr} {QFI QF6:Option Addr} {QC2:Array (Option Value)} {QC6 QFZ QDf QC0 QtF QF2:Value} {QmF:Addr} {QCf QBK:Option Addr} {QBy:Array (Option Value)} {QCL QBM QCJ QCy Qr4 QCc:Value} {QqT:Addr} {QIQ QIk:Option Addr} {QHo:Array (Option Value)} {QH4 QGF QGS QHl Qvm QIJ:Value} {QqP:Addr} {QHA QGq:Option Addr} {QG5:Array (Option Value)} {QIc QHZ QHP QG1 QvH QHU:Value} {QoL:Addr} {QEU QFd:Option Addr} {QF9:Array (Option Value)} {QDN QED QFl QFc Qt5 QFz:Value} {Qug:Addr} {QKK QKZ:Option Addr} {QKH:Array (Option Value)} {QJT QLa QJ9 QKV QyM QLL:Value} {Qnq:Addr} {QB4 QBT:Option Addr} {QCK:Array (Option Value)} {QBS QCe QCl QBD Qr1 QBp:Value} {Qt7:Addr} {QLE QJJ:Option Addr} {QJM:Array (Option Value)} {QLj QJ4 QLp QKk Qx6 QK9:Value} {Qou:Addr} {QEc QDi:Option Addr} {QDW:Array (Option Value)} {QEQ QFn QFL QF7 Quo QDD:Value} {Qpc:Addr} {QDa QDE:Option Addr} {QFp:Array (Option Value)} {QC8 QFS QDS QFT Qtc QEr:Value} {Qrt:Addr} {QID QG0:Option Addr} {QIN:Array (Option Value)} {QHp QHa QHH QGw Qvw QGo:Value} {QoP:Addr} {QE4 QDn:Option Addr} {QFU:Array (Option Value)} {QEa QC7 QD3 QDL QsT QGa:Value} {Qrm:Addr} {QI5 QHk:Option Addr} {QHm:Array (Option Value)} {QH2 QIz QHg QHh Qvj QGt:Value} {QCA QB5:Option Addr} {QCi:Array (Option Value)} {QCH QBQ QCw QB3 QrW QCP:Value} {Qxc QyB:Option Addr} {Qxr:Array (Option Value)} {QxR Qw0 Qyi QyE Qn8 Qyz:Value} {Qud:Addr} {QKD QKs:Option Addr} {QJW:Array (Option Value)} {QLB QK6 QJS QKr Qw8 QLs:Value} {Qpz:Addr} {QEY QD2:Option Addr} {QFM:Array (Option Value)} {QEN QEw QDz QES QsZ QDY:Value} {QqA:Addr} {QHN QH8:Option Addr} {QHY:Array (Option Value)} {QHB QIh QHr QH1 Qvi QHb:Value} {Qkz:Addr} {QAa QAL:Option Addr} {Qz6:Array (Option Value)} {QzJ QAv Qz5 Qz1 QpP QAw:Value} {QqD:Addr} {QIy QIp:Option Addr} {QI8:Array (Option Value)} {QIm QGC QIT QHi Qvl QGz:Value} {QAh QAJ:Option Addr} {Qy4:Array (Option Value)} {Qzr Qzx Qzj QAl Qqi Qzt:Value} {Qt3:Addr} {QKe QK2:Option Addr} {QJ0:Array (Option Value)} {QLJ QK3 QJ7 QLA Qw5 QJQ:Value} {Qjh:Addr} {Qx0 Qxd:Option Addr} {QxB:Array (Option Value)} {Qxj Qxb QyS Qxs Qn9 Qyh:Value} {Qs0 Quj:Option Addr} {QtL:Array (Option Value)} {QtZ QtC Qur QtH Qkg Qtn:Value} {Qwv:Addr} {QMa QNr:Option Addr} {QMx:Array (Option Value)} {QMK QMY QM5 QNn QBm QMU:Value} {QrK:Addr} {QGm QId:Option Addr} {QHs:Array (Option Value)} {QGu QIw QGU QGs Qvq QGD:Value} {QEp QDh:Option Addr} {QDp:Array (Option Value)} {QDd QFo QFf QDX Qt9 QEt:Value} {QmP:Addr} {QCd QCE:Option Addr} {QCF:Array (Option Value)} {QBX QCa QCx QBC Qsa QCB:Value} {QFs QFY:Option Addr} {QDu:Array (Option Value)} {QFX QEW QF1 QDc Quv QDs:Value} {QzB Qzy:Option Addr} {QAQ:Array (Option Value)} {QzZ QyZ Qzs Qz8 Qqx Qy0:Value} {QDo QDg:Option Addr} {QEv:Array (Option Value)} {QFw QEV QFD QFg Qtd QDv:Value} {Qpa:Addr} {QFv QD5:Option Addr} {QFi:Array (Option Value)} {QFK QC5 QEG QD1 QtI QEf:Value} {Qnj:Addr} {QCC QBE:Option Addr} {QB1:Array (Option Value)} {QBx QB0 QBB QCs Qse QBU:Value} {QkE:Addr} {QAR QAj:Option Addr} {QAb:Array (Option Value)} {Qzb QAE QzI QAz Qqs Qza:Value} {Qtb:Addr} {QKC QKJ:Option Addr} {QLf:Array (Option Value)} {QLb QKp QKX QKL Qya QLl:Value} {Qmj:Addr} {QB8 QBG:Option Addr} {QCD:Array (Option Value)} {QCG QCT QBW QBv QrX QBz:Value} {Qw1 QyC:Option Addr} {Qxx:Array (Option Value)} {Qym QxL Qyl Qye Qod QyU:Value} {Qzz Qz0:Option Addr} {QzE:Array (Option Value)} {Qy6 QzG QzF QzT QpV QAf:Value} {Qm4 Qmz:Option Addr} {Qm6:Array (Option Value)} {Qmy Qnm Qnz Qnt Qgr Qnp:Value} {QBR QBP:Option Addr} {QCg:Array (Option Value)} {QCR QCN QBV QBt QrY QBJ:Value} {Qgo:Addr} {QsD Qst:Option Addr} {Qsz:Array (Option Value)} {Qsw Qsl Qsm Qsr Qjb QsA:Value} {QiP:Addr} {QwL Qwo:Option Addr} {Qwh:Array (Option Value)} {QvW QvM QwD QvS Qmp Qwj:Value} {QAF:Addr} {QNV QFu:Option Addr} {QOJ:Array (Option Value)} {QN2 QET QFy QEL QwZ QEi:Value} {QzR:Addr} {QNR:Tok} {QNo:Value} {QLW:Option Addr} {QNZ:Nat} {QNe:Array (Option Value)} {Qrb:Addr} {QIV QHn:Option Addr} {QGA:Array (Option Value)} {QGp QGO QIo QIA Qvy QI0:Value} {QxH Qxz:Option Addr} {Qyo:Array (Option Value)} {QxG Qxw Qx5 Qyx QnX Qxp:Value} {Qim:Addr} {Qwr Qv2:Option Addr} {QvQ:Array (Option Value)} {Qwf Qwy Qv4 Qwd Qnw Qwk:Value} {QDB:Addr} {QPg QQf:Option Addr} {QPj:Array (Option Value)} {QPl QQr QPK QOY QJI QPx:Value} {Qy5:Addr} {QOa QNN:Option Addr} {QOB:Array (Option Value)} {QOD QNE QOu QOb QEK QOl:Value} {QqQ:Addr} {QIS QIF:Option Addr} {QGl:Array (Option Value)} {QGv QIe QGn QHJ QvJ QGJ:Value} {QiF:Addr} {Qv0 Qwt:Option Addr} {QwG:Array (Option Value)} {Qwb QvP QwK QwH Qns QwJ:Value} {QrS:Addr} {QIX QI6:Option Addr} {QHR:Array (Option Value)} {QHM QGX QG6 QG9 QvG QG3:Value} {QoA:Addr} {QEZ QEu:Option Addr} {QGc:Array (Option Value)} {QDP QEk QEl QEM Que QDJ:Value} {QoY:Addr} {QC4 QDA:Option Addr} {QDl:Array (Option Value)} {QDC QDQ QEC QFk QtD QFe:Value} {Qrh:Addr} {QIK QG2:Option Addr} {QIv:Array (Option Value)} {QHQ QI1 QHq QGG QvL QI9:Value} {QpK:Addr} {QC9 QFV:Option Addr} {QFr:Array (Option Value)} {QFx QFW QDe QEj Qtx QGf:Value} {QKB:Addr} {QQ5 QMf:Option Addr} {QRa:Array (Option Value)} {QQu QMO QMN QMk QEy QMw:Value} {tk_MOST_SIGNS:Tok} {tk_LETTERS:Tok} {tk_MOST_CLERKS:Tok} {tk_MOST_ENTRIES:Tok} {tk_MOST_DOORS:Tok} {tk_MOST_OUTS:Tok} {tk_MOST_SENT:Tok} {tk_MOST_ROWS:Tok}
 (QxK:W.nsIn K mainGlobals "Deal"=some (some (.ref QF)))
 (Qzm:W.plainGet K QF Str.empty=true)
 (QAm:W.hasDictIn K QF=true)
 (Qz2:W.plainOver K QF=true)
 (Qy1:W.findIn K (.ref QF) "__setattr__"=some (some (.builtin "object.__setattr__")))
 (QkK:W.findIn K (.ref QF) "table"=some none)
 (QfE:W.findIn K (.ref QF) "clerk_names"=some none)
 (Qgs:W.findIn K (.ref QF) "door_names"=some none)
 (Qfp:W.findIn K (.ref QF) "entry_places"=some none)
 (Qk1:W.findIn K (.ref QF) "staff"=some none)
 (Qfk:W.findIn K (.ref QF) "first_states"=some none)
 (QmJ:W.findIn K (.ref QF) "ways"=some none)
 (QkD:W.findIn K (.ref QF) "heads"=some none)
 (QqU:W.nsIn K mainGlobals "Bundle"=some (some (.ref Qq)))
 (Qs3:W.plainGet K Qq Str.empty=true)
 (QsU:W.hasDictIn K Qq=true)
 (Qta:W.plainOver K Qq=true)
 (Quc:W.findIn K (.ref Qq) "__setattr__"=some (some (.builtin "object.__setattr__")))
 (Qif:W.findIn K (.ref Qq) "table"=some none)
 (QeT:W.findIn K (.ref Qq) "clerk_names"=some none)
 (QeX:W.findIn K (.ref Qq) "door_names"=some none)
 (QdX:W.findIn K (.ref Qq) "entry_places"=some none)
 (Qi1:W.findIn K (.ref Qq) "staff"=some none)
 (Qeh:W.findIn K (.ref Qq) "first_states"=some none)
 (QjC:W.findIn K (.ref Qq) "ways"=some none)
 (Qh3:W.findIn K (.ref Qq) "heads"=some none)
 (Qyd:W.nsIn K mainGlobals "Copy"=some (some (.ref QI)))
 (Qzi:W.plainGet K QI Str.empty=true)
 (QAs:W.hasDictIn K QI=true)
 (QzP:W.plainOver K QI=true)
 (QAq:W.findIn K (.ref QI) "__setattr__"=some (some (.builtin "object.__setattr__")))
 (QkF:W.findIn K (.ref QI) "table"=some none)
 (QfI:W.findIn K (.ref QI) "clerk_names"=some none)
 (Qgh:W.findIn K (.ref QI) "door_names"=some none)
 (Qfr:W.findIn K (.ref QI) "entry_places"=some none)
 (QkL:W.findIn K (.ref QI) "staff"=some none)
 (Qfa:W.findIn K (.ref QI) "first_states"=some none)
 (Qms:W.findIn K (.ref QI) "ways"=some none)
 (Qlm:W.findIn K (.ref QI) "heads"=some none)
 (QxS:W.nsIn K mainGlobals "Rows"=some (some (.ref QG)))
 (Qzn:W.plainGet K QG Str.empty=true)
 (QzY:W.hasDictIn K QG=true)
 (Qy8:W.plainOver K QG=true)
 (Qy3:W.findIn K (.ref QG) "__setattr__"=some (some (.builtin "object.__setattr__")))
 (Qk0:W.findIn K (.ref QG) "table"=some none)
 (QfF:W.findIn K (.ref QG) "clerk_names"=some none)
 (Qgi:W.findIn K (.ref QG) "door_names"=some none)
 (Qfd:W.findIn K (.ref QG) "entry_places"=some none)
 (QkI:W.findIn K (.ref QG) "staff"=some none)
 (QeZ:W.findIn K (.ref QG) "first_states"=some none)
 (Qmr:W.findIn K (.ref QG) "ways"=some none)
 (QkR:W.findIn K (.ref QG) "heads"=some none)
 (Qrj:W.nsIn K mainGlobals "Office"=some (some (.ref QT)))
 (Qs8:W.plainGet K QT Str.empty=true)
 (Qtp:W.hasDictIn K QT=true)
 (QtN:W.plainOver K QT=true)
 (Qui:W.findIn K (.ref QT) "__setattr__"=some (some (.builtin "object.__setattr__")))
 (Qio:W.findIn K (.ref QT) "table"=some none)
 (QeJ:W.findIn K (.ref QT) "clerk_names"=some none)
 (Qfs:W.findIn K (.ref QT) "door_names"=some none)
 (QdY:W.findIn K (.ref QT) "entry_places"=some none)
 (QiI:W.findIn K (.ref QT) "staff"=some none)
 (Qd4:W.findIn K (.ref QT) "first_states"=some none)
 (QjG:W.findIn K (.ref QT) "ways"=some none)
 (QiZ:W.findIn K (.ref QT) "heads"=some none)
 (QoO:W.findIn K (.ref QF) "outs"=some (some (.ref Qa2)))
 (QkQ:W.findIn K (.ref Qq) "outs"=some (some (.ref Qa2)))
 (Qpx:W.findIn K (.ref QI) "outs"=some (some (.ref Qa2)))
 (QoG:W.findIn K (.ref QG) "outs"=some (some (.ref Qa2)))
 (Qlb:W.findIn K (.ref QF) "period"=some (some (.ref QaF)))
 (Qh1:W.findIn K (.ref Qq) "period"=some (some (.ref QaF)))
 (QkO:W.findIn K (.ref QI) "period"=some (some (.ref QaF)))
 (Qld:W.findIn K (.ref QG) "period"=some (some (.ref QaF)))
 (Qm2:W.findIn K (.ref QF) "whole"=some (some (.ref QaS)))
 (Qjy:W.findIn K (.ref Qq) "whole"=some (some (.ref QaS)))
 (Qnb:W.findIn K (.ref QI) "whole"=some (some (.ref QaS)))
 (Qm8:W.findIn K (.ref QG) "whole"=some (some (.ref QaS)))
 (Qem:W.findIn K (.ref QF) "sent_from_start"=some (some (.ref QK)))
 (Qds:W.findIn K (.ref Qq) "sent_from_start"=some (some (.ref QK)))
 (Qeb:W.findIn K (.ref QI) "sent_from_start"=some (some (.ref QK)))
 (Qea:W.findIn K (.ref QG) "sent_from_start"=some (some (.ref QK)))
 (Qjp:W.findIn K (.ref QT) "leads"=some (some (.ref Qew)))
 (Qje:W.findIn K (.ref QT) "clerk"=some (some (.ref QeO)))
 (Qpj:W.findIn K (.ref QF) "sent"=some (some (.ref Qa5)))
 (Qll:W.findIn K (.ref Qq) "sent"=some (some (.ref Qa5)))
 (Qpq:W.findIn K (.ref QI) "sent"=some (some (.ref Qa5)))
 (QpJ:W.findIn K (.ref QG) "sent"=some (some (.ref Qa5)))
 (QhE:W.findIn K (.ref QF) "keep_rows"=some (some (.ref Qac)))
 (Qf8:W.findIn K (.ref Qq) "keep_rows"=some (some (.ref Qac)))
 (QhB:W.findIn K (.ref QI) "keep_rows"=some (some (.ref Qac)))
 (QhK:W.findIn K (.ref QG) "keep_rows"=some (some (.ref Qac)))
 (QpA:W.findIn K (.ref QF) "__init__"=some (some (.ref Qhc)))
 (QkH:W.findIn K (.ref Qq) "__init__"=some (some (.ref Qfv)))
 (QoT:W.findIn K (.ref QI) "__init__"=some (some (.ref Qhg)))
 (QoS:W.findIn K (.ref QG) "__init__"=some (some (.ref Qhb)))
 (QkP:W.findIn K (.ref QT) "__init__"=some (some (.ref Qfu)))
 (Qv5:W.makesIn K QF=true)
 (QwU:W.keepIn K (.ref QF)=true)
 (QrM:W.makesIn K Qq=true)
 (QrO:W.keepIn K (.ref Qq)=true)
 (QvX:W.makesIn K QI=true)
 (QvZ:W.keepIn K (.ref QI)=true)
 (QwO:W.makesIn K QG=true)
 (Qwi:W.keepIn K (.ref QG)=true)
 (Qrl:W.makesIn K QT=true)
 (Qq2:W.keepIn K (.ref QT)=true)
 (y1:W.specialIn K (.builtin "object.__class__") "__get__"=some (some (.builtin "getset_descriptor.__get__")))
 (y2:W.takesIn K (.builtin "object.__class__")=some true)
 (Qy2:W.findIn K (.ref QF) "__class__"=some (some (.builtin "object.__class__")))
 (QyY:W.mroIn K QF (.type "object")=some true)
 (QtK:W.findIn K (.ref Qq) "__class__"=some (some (.builtin "object.__class__")))
 (Qtl:W.mroIn K Qq (.type "object")=some true)
 (QAx:W.findIn K (.ref QI) "__class__"=some (some (.builtin "object.__class__")))
 (QAt:W.mroIn K QI (.type "object")=some true)
 (QzS:W.findIn K (.ref QG) "__class__"=some (some (.builtin "object.__class__")))
 (Qzv:W.mroIn K QG (.type "object")=some true)
 (Qtt:W.findIn K (.ref QT) "__class__"=some (some (.builtin "object.__class__")))
 (Qtu:W.mroIn K QT (.type "object")=some true)
 (QqS:W.nsIn K mainGlobals "_law_cell"=some (some (.ref QqG)))
 (QrN:K.lookup QqG=some ⟨QGR,QHd,.func (W.fnOf "_law_cell" "_law_cell" (Qn QcB) (Qm QcB) (Qa QcB) .none QHj QHe QIj QII Qvo QIR),QH0⟩)
 (Qrw:W.codeIn K Qvo "_law_cell"=true)
 (QlF:W.keepIn K (.ref QqG)=true)
 (Qpm:W.nsIn K mainGlobals "_law_mixed"=some (some (.ref QpG)))
 (QoU:K.lookup QpG=some ⟨QC6,QFI,.func (W.fnOf "_law_mixed" "_law_mixed" (Qn Qb2) (Qm Qb2) (Qa Qb2) .none QFZ QDf QC0 QF6 QtF QF2),QC2⟩)
 (Qol:W.codeIn K QtF "_law_mixed"=true)
 (QjV:W.keepIn K (.ref QpG)=true)
 (Qne:W.nsIn K mainGlobals "_law_counts"=some (some (.ref QmF)))
 (QmL:K.lookup QmF=some ⟨QCL,QCf,.func (W.fnOf "_law_counts" "_law_counts" (Qn QaQ) (Qm QaQ) (Qa QaQ) .none QBM QCJ QCy QBK Qr4 QCc),QBy⟩)
 (QmE:W.codeIn K Qr4 "_law_counts"=true)
 (QiQ:W.keepIn K (.ref QmF)=true)
 (QqL:W.nsIn K mainGlobals "_law_rows"=some (some (.ref QqT)))
 (QqB:K.lookup QqT=some ⟨QH4,QIQ,.func (W.fnOf "_law_rows" "_law_rows" (Qn Qad) (Qm Qad) (Qa Qad) .none QGF QGS QHl QIk Qvm QIJ),QHo⟩)
 (QqO:W.codeIn K Qvm "_law_rows"=true)
 (QlR:W.keepIn K (.ref QqT)=true)
 (QqZ:W.nsIn K mainGlobals "_law_plan"=some (some (.ref QqP)))
 (Qq7:K.lookup QqP=some ⟨QIc,QHA,.func (W.fnOf "_law_plan" "_law_plan" (Qn QN) (Qm QN) (Qa QN) .none QHZ QHP QG1 QGq QvH QHU),QG5⟩)
 (Qq3:W.codeIn K QvH "_law_plan"=true)
 (QlY:W.keepIn K (.ref QqP)=true)
 (QpF:W.nsIn K mainGlobals "places_of"=some (some (.ref QoL)))
 (Qpd:K.lookup QoL=some ⟨QDN,QEU,.func (W.fnOf "places_of" "places_of" (Qn QaA) (Qm QaA) (Qa QaA) .none QED QFl QFc QFd Qt5 QFz),QF9⟩)
 (Qo8:W.codeIn K Qt5 "places_of"=true)
 (Qj3:W.keepIn K (.ref QoL)=true)
 (QsR:W.nsIn K mainGlobals "is_list"=some (some (.ref Qug)))
 (QtA:K.lookup Qug=some ⟨QJT,QKK,.func (W.fnOf "is_list" "is_list" (Qn Qcn) (Qm Qcn) (Qa Qcn) .none QLa QJ9 QKV QKZ QyM QLL),QKH⟩)
 (QtV:W.codeIn K QyM "is_list"=true)
 (Qoj:W.keepIn K (.ref Qug)=true)
 (QmC:W.nsIn K mainGlobals "all_unlike"=some (some (.ref Qnq)))
 (QmV:K.lookup Qnq=some ⟨QBS,QB4,.func (W.fnOf "all_unlike" "all_unlike" (Qn Qby) (Qm Qby) (Qa Qby) .none QCe QCl QBD QBT Qr1 QBp),QCK⟩)
 (Qm1:W.codeIn K Qr1 "all_unlike"=true)
 (QiH:W.keepIn K (.ref Qnq)=true)
 (QtB:W.nsIn K mainGlobals "is_name"=some (some (.ref Qt7)))
 (Quz:K.lookup Qt7=some ⟨QLj,QLE,.func (W.fnOf "is_name" "is_name" (Qn QaW) (Qm QaW) (Qa QaW) .none QJ4 QLp QKk QJJ Qx6 QK9),QJM⟩)
 (QtP:W.codeIn K Qx6 "is_name"=true)
 (Qn1:W.keepIn K (.ref Qt7)=true)
 (Qow:W.nsIn K mainGlobals "are_names"=some (some (.ref Qou)))
 (QoQ:K.lookup Qou=some ⟨QEQ,QEc,.func (W.fnOf "are_names" "are_names" (Qn QaB) (Qm QaB) (Qa QaB) .none QFn QFL QF7 QDi Quo QDD),QDW⟩)
 (QoZ:W.codeIn K Quo "are_names"=true)
 (QjU:W.keepIn K (.ref Qou)=true)
 (Qoz:W.nsIn K mainGlobals "are_texts"=some (some (.ref Qpc)))
 (QoB:K.lookup Qpc=some ⟨QC8,QDa,.func (W.fnOf "are_texts" "are_texts" (Qn Qah) (Qm Qah) (Qa Qah) .none QFS QDS QFT QDE Qtc QEr),QFp⟩)
 (Qos:W.codeIn K Qtc "are_texts"=true)
 (QjL:W.keepIn K (.ref Qpc)=true)
 (Qq6:W.nsIn K mainGlobals "is_whole"=some (some (.ref Qrt)))
 (QrL:K.lookup Qrt=some ⟨QHp,QID,.func (W.fnOf "is_whole" "is_whole" (Qn Qcc) (Qm Qcc) (Qa Qcc) .none QHa QHH QGw QG0 Qvw QGo),QIN⟩)
 (Qrd:W.codeIn K Qvw "is_whole"=true)
 (QlM:W.keepIn K (.ref Qrt)=true)
 (Qps:W.nsIn K mainGlobals "is_within"=some (some (.ref QoP)))
 (QoE:K.lookup QoP=some ⟨QEa,QE4,.func (W.fnOf "is_within" "is_within" (Qn QbA) (Qm QbA) (Qa QbA) .none QC7 QD3 QDL QDn QsT QGa),QFU⟩)
 (Qpb:W.codeIn K QsT "is_within"=true)
 (QjY:W.keepIn K (.ref QoP)=true)
 (Qrz:W.nsIn K mainGlobals "is_clerk"=some (some (.ref Qrm)))
 (QqX:K.lookup Qrm=some ⟨QH2,QI5,.func (W.fnOf "is_clerk" "is_clerk" (Qn Qbg) (Qm Qbg) (Qa Qbg) .none QIz QHg QHh QHk Qvj QGt),QHm⟩)
 (Qq4:W.codeIn K Qvj "is_clerk"=true)
 (QlQ:W.keepIn K (.ref Qrm)=true)
 (QeA:W.isFn K (.ref Qa2)=true)
 (Qmh:K.lookup Qa2=some ⟨QCH,QCA,.func (W.fnOf "outs" "Clerk.outs" (Qn Qce) (Qm Qce) (Qa Qce) .none QBQ QCw QB3 QB5 QrW QCP),QCi⟩)
 (QmY:W.codeIn K QrW "Clerk.outs"=true)
 (Qdm:W.keepIn K (.ref Qa2)=true)
 (Qdi:W.isFn K (.ref QaF)=true)
 (Qjq:K.lookup QaF=some ⟨QxR,Qxc,.func (W.fnOf "period" "Clerk.period" (Qn Qba) (Qm Qba) (Qa Qba) .none Qw0 Qyi QyE QyB Qn8 Qyz),Qxr⟩)
 (QjA:W.codeIn K Qn8 "Clerk.period"=true)
 (Qcz:W.keepIn K (.ref QaF)=true)
 (QtG:W.nsIn K mainGlobals "is_seat"=some (some (.ref Qud)))
 (Qus:K.lookup Qud=some ⟨QLB,QKD,.func (W.fnOf "is_seat" "is_seat" (Qn QaZ) (Qm QaZ) (Qa QaZ) .none QK6 QJS QKr QKs Qw8 QLs),QJW⟩)
 (Quf:W.codeIn K Qw8 "is_seat"=true)
 (Qn4:W.keepIn K (.ref Qud)=true)
 (QpE:W.nsIn K mainGlobals "are_seats"=some (some (.ref Qpz)))
 (Qo7:K.lookup Qpz=some ⟨QEN,QEY,.func (W.fnOf "are_seats" "are_seats" (Qn Q9) (Qm Q9) (Qa Q9) .none QEw QDz QES QD2 QsZ QDY),QFM⟩)
 (QoM:W.codeIn K QsZ "are_seats"=true)
 (QjT:W.keepIn K (.ref Qpz)=true)
 (QqV:W.nsIn K mainGlobals "is_entry"=some (some (.ref QqA)))
 (QrT:K.lookup QqA=some ⟨QHB,QHN,.func (W.fnOf "is_entry" "is_entry" (Qn Qbf) (Qm Qbf) (Qa Qbf) .none QIh QHr QH1 QH8 Qvi QHb),QHY⟩)
 (Qrk:W.codeIn K Qvi "is_entry"=true)
 (Ql8:W.keepIn K (.ref QqA)=true)
 (Qkv:W.nsIn K mainGlobals "are_entries"=some (some (.ref Qkz)))
 (QkS:K.lookup Qkz=some ⟨QzJ,QAa,.func (W.fnOf "are_entries" "are_entries" (Qn QR) (Qm QR) (Qa QR) .none QAv Qz5 Qz1 QAL QpP QAw),Qz6⟩)
 (QkZ:W.codeIn K QpP "are_entries"=true)
 (Qhk:W.keepIn K (.ref Qkz)=true)
 (Qq8:W.nsIn K mainGlobals "leads_to"=some (some (.ref QqD)))
 (QrI:K.lookup QqD=some ⟨QIm,QIy,.func (W.fnOf "leads_to" "leads_to" (Qn Qcg) (Qm Qcg) (Qa Qcg) .none QGC QIT QHi QIp Qvl QGz),QI8⟩)
 (Qro:W.codeIn K Qvl "leads_to"=true)
 (QlI:W.keepIn K (.ref QqD)=true)
 (Qk5:W.isFn K (.ref Qfu)=true)
 (QkT:K.lookup Qfu=some ⟨Qzr,QAh,.func (W.fnOf "__init__" "Office.__init__" (Qn Ql) (Qm Ql) (Qa Ql) .none Qzx Qzj QAl QAJ Qqi Qzt),Qy4⟩)
 (Qk6:W.codeIn K Qqi "Office.__init__"=true)
 (QkU:W.keepIn K (.ref Qfu)=true)
 (QsK:W.nsIn K mainGlobals "sums_of"=some (some (.ref Qt3)))
 (QtU:K.lookup Qt3=some ⟨QLJ,QKe,.func (W.fnOf "sums_of" "sums_of" (Qn QbS) (Qm QbS) (Qa QbS) .none QK3 QJ7 QLA QK2 Qw5 QJQ),QJ0⟩)
 (Qtw:W.codeIn K Qw5 "sums_of"=true)
 (QnT:W.keepIn K (.ref Qt3)=true)
 (Qjc:W.nsIn K mainGlobals "running_sums"=some (some (.ref Qjh)))
 (QjF:K.lookup Qjh=some ⟨Qxj,Qx0,.func (W.fnOf "running_sums" "running_sums" (Qn Qak) (Qm Qak) (Qa Qak) .none Qxb QyS Qxs Qxd Qn9 Qyh),QxB⟩)
 (Qjo:W.codeIn K Qn9 "running_sums"=true)
 (QgB:W.keepIn K (.ref Qjh)=true)
 (Qci:W.isFn K (.ref Qac)=true)
 (QgU:K.lookup Qac=some ⟨QtZ,Qs0,.func (W.fnOf "keep_rows" "Clerk.keep_rows" (Qn QW) (Qm QW) (Qa QW) .none QtC Qur QtH Quj Qkg Qtn),QtL⟩)
 (QgT:W.codeIn K Qkg "Clerk.keep_rows"=true)
 (Qbr:W.keepIn K (.ref Qac)=true)
 (QwI:W.nsIn K mainGlobals "is_row"=some (some (.ref Qwv)))
 (QwN:K.lookup Qwv=some ⟨QMK,QMa,.func (W.fnOf "is_row" "is_row" (Qn Qa6) (Qm Qa6) (Qa Qa6) .none QMY QM5 QNn QNr QBm QMU),QMx⟩)
 (QwS:W.codeIn K QBm "is_row"=true)
 (Qrg:W.keepIn K (.ref Qwv)=true)
 (Qra:W.nsIn K mainGlobals "is_table"=some (some (.ref QrK)))
 (QqH:K.lookup QrK=some ⟨QGu,QGm,.func (W.fnOf "is_table" "is_table" (Qn Q6) (Qm Q6) (Qa Q6) .none QIw QGU QGs QId Qvq QGD),QHs⟩)
 (Qq9:W.codeIn K Qvq "is_table"=true)
 (Qma:W.keepIn K (.ref QrK)=true)
 (Qpy:W.isFn K (.ref Qhb)=true)
 (Qo0:K.lookup Qhb=some ⟨QDd,QEp,.func (W.fnOf "__init__" "Rows.__init__" (Qn Qb3) (Qm Qb3) (Qa Qb3) .none QFo QFf QDX QDh Qt9 QEt),QDp⟩)
 (Qo3:W.codeIn K Qt9 "Rows.__init__"=true)
 (Qo6:W.keepIn K (.ref Qhb)=true)
 (QmG:W.nsIn K mainGlobals "single_row"=some (some (.ref QmP)))
 (Qmn:K.lookup QmP=some ⟨QBX,QCd,.func (W.fnOf "single_row" "single_row" (Qn QaT) (Qm QaT) (Qa QaT) .none QCa QCx QBC QCE Qsa QCB),QCF⟩)
 (QnA:W.codeIn K Qsa "single_row"=true)
 (QiU:W.keepIn K (.ref QmP)=true)
 (Qov:W.isFn K (.ref Qhc)=true)
 (QoV:K.lookup Qhc=some ⟨QFX,QFs,.func (W.fnOf "__init__" "Deal.__init__" (Qn Qao) (Qm Qao) (Qa Qao) .none QEW QF1 QDc QFY Quv QDs),QDu⟩)
 (Qox:W.codeIn K Quv "Deal.__init__"=true)
 (Qpn:W.keepIn K (.ref Qhc)=true)
 (Qln:W.isFn K (.ref Qfv)=true)
 (QkX:K.lookup Qfv=some ⟨QzZ,QzB,.func (W.fnOf "__init__" "Bundle.__init__" (Qn Qaa) (Qm Qaa) (Qa Qaa) .none QyZ Qzs Qz8 Qzy Qqx Qy0),QAQ⟩)
 (Qk2:W.codeIn K Qqx "Bundle.__init__"=true)
 (Qk8:W.keepIn K (.ref Qfv)=true)
 (QoD:W.isFn K (.ref Qhg)=true)
 (Qo2:K.lookup Qhg=some ⟨QFw,QDo,.func (W.fnOf "__init__" "Copy.__init__" (Qn Qb1) (Qm Qb1) (Qa Qb1) .none QEV QFD QFg QDg Qtd QDv),QEv⟩)
 (Qpe:W.codeIn K Qtd "Copy.__init__"=true)
 (Qpt:W.keepIn K (.ref Qhg)=true)
 (QoX:W.nsIn K mainGlobals "_law_clerk"=some (some (.ref Qpa)))
 (Qom:K.lookup Qpa=some ⟨QFK,QFv,.func (W.fnOf "_law_clerk" "_law_clerk" (Qn Q8) (Qm Q8) (Qa Q8) .none QC5 QEG QD1 QD5 QtI QEf),QFi⟩)
 (QpI:W.codeIn K QtI "_law_clerk"=true)
 (QjX:W.keepIn K (.ref Qpa)=true)
 (QmW:W.nsIn K mainGlobals "_law_office"=some (some (.ref Qnj)))
 (QmU:K.lookup Qnj=some ⟨QBx,QCC,.func (W.fnOf "_law_office" "_law_office" (Qn Qv) (Qm Qv) (Qa Qv) .none QB0 QBB QCs QBE Qse QBU),QB1⟩)
 (Qnd:W.codeIn K Qse "_law_office"=true)
 (Qh7:W.keepIn K (.ref Qnj)=true)
 (Qlj:W.nsIn K mainGlobals "_law_divisor"=some (some (.ref QkE)))
 (Qlo:K.lookup QkE=some ⟨Qzb,QAR,.func (W.fnOf "_law_divisor" "_law_divisor" (Qn Qa8) (Qm Qa8) (Qa Qa8) .none QAE QzI QAz QAj Qqs Qza),QAb⟩)
 (QkG:W.codeIn K Qqs "_law_divisor"=true)
 (Qhr:W.keepIn K (.ref QkE)=true)
 (Qtm:W.nsIn K mainGlobals "_law_low"=some (some (.ref Qtb)))
 (Qub:K.lookup Qtb=some ⟨QLb,QKC,.func (W.fnOf "_law_low" "_law_low" (Qn QcU) (Qm QcU) (Qa QcU) .none QKp QKX QKL QKJ Qya QLl),QLf⟩)
 (Qtv:W.codeIn K Qya "_law_low"=true)
 (Qn3:W.keepIn K (.ref Qtb)=true)
 (Qnx:W.nsIn K mainGlobals "_law_worths"=some (some (.ref Qmj)))
 (Qmi:K.lookup Qmj=some ⟨QCG,QB8,.func (W.fnOf "_law_worths" "_law_worths" (Qn Q4) (Qm Q4) (Qa Q4) .none QCT QBW QBv QBG QrX QBz),QCD⟩)
 (QmO:W.codeIn K QrX "_law_worths"=true)
 (Qi3:W.keepIn K (.ref Qmj)=true)
 (Qju:W.isFn K (.ref QeO)=true)
 (Qjv:K.lookup QeO=some ⟨Qym,Qw1,.func (W.fnOf "clerk" "Office.clerk" (Qn Qbh) (Qm Qbh) (Qa Qbh) .none QxL Qyl Qye QyC Qod QyU),Qxx⟩)
 (Qjj:W.codeIn K Qod "Office.clerk"=true)
 (Qgx:W.keepIn K (.ref QeO)=true)
 (QdI:W.isFn K (.ref QaS)=true)
 (Qlf:K.lookup QaS=some ⟨Qy6,Qzz,.func (W.fnOf "whole" "Clerk.whole" (Qn QbF) (Qm QbF) (Qa QbF) .none QzG QzF QzT Qz0 QpV QAf),QzE⟩)
 (Qle:W.codeIn K QpV "Clerk.whole"=true)
 (Qc5:W.keepIn K (.ref QaS)=true)
 (QaN:W.isFn K (.ref QK)=true)
 (QdC:K.lookup QK=some ⟨Qmy,Qm4,.func (W.fnOf "sent_from_start" "Clerk.sent_from_start" (Qn Qr) (Qm Qr) (Qa Qr) .none Qnm Qnz Qnt Qmz Qgr Qnp),Qm6⟩)
 (QdE:W.codeIn K Qgr "Clerk.sent_from_start"=true)
 (Qar:W.keepIn K (.ref QK)=true)
 (QeQ:W.isFn K (.ref Qa5)=true)
 (Qng:K.lookup Qa5=some ⟨QCR,QBR,.func (W.fnOf "sent" "Clerk.sent" (Qn Qab) (Qm Qab) (Qa Qab) .none QCN QBV QBt QBP QrY QBJ),QCg⟩)
 (Qno:W.codeIn K QrY "Clerk.sent"=true)
 (Qdn:W.keepIn K (.ref Qa5)=true)
 (Qf6:W.nsIn K mainGlobals "greatest_divisor"=some (some (.ref Qgo)))
 (Qgt:K.lookup Qgo=some ⟨Qsw,QsD,.func (W.fnOf "greatest_divisor" "greatest_divisor" (Qn Qag) (Qm Qag) (Qa Qag) .none Qsl Qsm Qsr Qst Qjb QsA),Qsz⟩)
 (Qgb:W.codeIn K Qjb "greatest_divisor"=true)
 (QdS:W.keepIn K (.ref Qgo)=true)
 (Qik:W.nsIn K mainGlobals "common_bottom"=some (some (.ref QiP)))
 (QiG:K.lookup QiP=some ⟨QvW,QwL,.func (W.fnOf "common_bottom" "common_bottom" (Qn Qaw) (Qm Qaw) (Qa Qaw) .none QvM QwD QvS Qwo Qmp Qwj),Qwh⟩)
 (QiE:W.codeIn K Qmp "common_bottom"=true)
 (QfZ:W.keepIn K (.ref QiP)=true)
 (QAy:W.nsIn K mainGlobals "share"=some (some (.ref QAF)))
 (QzN:K.lookup QAF=some ⟨QN2,QNV,.func (W.fnOf "share" "share" (Qn Qcj) (Qm Qcj) (Qa Qcj) (.ref QzR) QET QFy QEL QFu QwZ QEi),QOJ⟩)
 (QzU:W.codeIn K QwZ "share"=true)
 (QuI:W.keepIn K (.ref QAF)=true)
 (t_shareh:K.lookup QzR=some ⟨QNo,QLW,.seq #[.int 1 QNR] QNZ,QNe⟩)
 (Qrx:W.nsIn K mainGlobals "worth_of"=some (some (.ref Qrb)))
 (QqN:K.lookup Qrb=some ⟨QGp,QIV,.func (W.fnOf "worth_of" "worth_of" (Qn Q1) (Qm Q1) (Qa Q1) .none QGO QIo QIA QHn Qvy QI0),QGA⟩)
 (Qq1:W.codeIn K Qvy "worth_of"=true)
 (Ql7:W.keepIn K (.ref Qrb)=true)
 (Qjs:W.isFn K (.ref Qew)=true)
 (Qjr:K.lookup Qew=some ⟨QxG,QxH,.func (W.fnOf "leads" "Office.leads" (Qn QaU) (Qm QaU) (Qa QaU) .none Qxw Qx5 Qyx Qxz QnX Qxp),Qyo⟩)
 (Qjl:W.codeIn K QnX "Office.leads"=true)
 (Qgv:W.keepIn K (.ref Qew)=true)
 (Qi0:W.nsIn K mainGlobals "worths_behind"=some (some (.ref Qim)))
 (QiX:K.lookup Qim=some ⟨Qwf,Qwr,.func (W.fnOf "worths_behind" "worths_behind" (Qn Q5) (Qm Q5) (Qa Q5) .none Qwy Qv4 Qwd Qv2 Qnw Qwk),QvQ⟩)
 (QiL:W.codeIn K Qnw "worths_behind"=true)
 (Qf0:W.keepIn K (.ref Qim)=true)
 (QGh:W.nsIn K mainGlobals "lean"=some (some (.ref QDB)))
 (QDU:K.lookup QDB=some ⟨QPl,QPg,.func (W.fnOf "lean" "lean" (Qn QaR) (Qm QaR) (Qa QaR) .none QQr QPK QOY QQf QJI QPx),QPj⟩)
 (QFB:W.codeIn K QJI "lean"=true)
 (Qxn:W.keepIn K (.ref QDB)=true)
 (QAd:W.nsIn K mainGlobals "leans"=some (some (.ref Qy5)))
 (QzM:K.lookup Qy5=some ⟨QOD,QOa,.func (W.fnOf "leans" "leans" (Qn QbW) (Qm QbW) (Qa QbW) .none QNE QOu QOb QNN QEK QOl),QOB⟩)
 (QAu:W.codeIn K QEK "leans"=true)
 (QuN:W.keepIn K (.ref Qy5)=true)
 (QqK:W.nsIn K mainGlobals "_law_plus"=some (some (.ref QqQ)))
 (QqY:K.lookup QqQ=some ⟨QGv,QIS,.func (W.fnOf "_law_plus" "_law_plus" (Qn QcG) (Qm QcG) (Qa QcG) .none QIe QGn QHJ QIF QvJ QGJ),QGl⟩)
 (Qrc:W.codeIn K QvJ "_law_plus"=true)
 (Qme:W.keepIn K (.ref QqQ)=true)
 (Qil:W.nsIn K mainGlobals "_law_row_worth"=some (some (.ref QiF)))
 (Qid:K.lookup QiF=some ⟨Qwb,Qv0,.func (W.fnOf "_law_row_worth" "_law_row_worth" (Qn QJ) (Qm QJ) (Qa QJ) .none QvP QwK QwH Qwt Qns QwJ),QwG⟩)
 (Qie:W.codeIn K Qns "_law_row_worth"=true)
 (QfU:W.keepIn K (.ref QiF)=true)
 (Qqz:W.nsIn K mainGlobals "_law_mean"=some (some (.ref QrS)))
 (Qrv:K.lookup QrS=some ⟨QHM,QIX,.func (W.fnOf "_law_mean" "_law_mean" (Qn Qaf) (Qm Qaf) (Qa Qaf) .none QGX QG6 QG9 QI6 QvG QG3),QHR⟩)
 (Qrr:W.codeIn K QvG "_law_mean"=true)
 (Ql3:W.keepIn K (.ref QrS)=true)
 (QpH:W.nsIn K mainGlobals "_law_leans"=some (some (.ref QoA)))
 (Qpg:K.lookup QoA=some ⟨QDP,QEZ,.func (W.fnOf "_law_leans" "_law_leans" (Qn QX) (Qm QX) (Qa QX) .none QEk QEl QEM QEu Que QDJ),QGc⟩)
 (Qot:W.codeIn K Que "_law_leans"=true)
 (QjM:W.keepIn K (.ref QoA)=true)
 (QoK:W.nsIn K mainGlobals "_law_whole"=some (some (.ref QoY)))
 (QpD:K.lookup QoY=some ⟨QDC,QC4,.func (W.fnOf "_law_whole" "_law_whole" (Qn QbD) (Qm QbD) (Qa QbD) .none QDQ QEC QFk QDA QtD QFe),QDl⟩)
 (QoH:W.codeIn K QtD "_law_whole"=true)
 (QjS:W.keepIn K (.ref QoY)=true)
 (QrD:W.nsIn K mainGlobals "_law_same"=some (some (.ref Qrh)))
 (QrR:K.lookup Qrh=some ⟨QHQ,QIK,.func (W.fnOf "_law_same" "_law_same" (Qn Qbj) (Qm Qbj) (Qa Qbj) .none QI1 QHq QGG QG2 QvL QI9),QIv⟩)
 (Qri:W.codeIn K QvL "_law_same"=true)
 (QlO:W.keepIn K (.ref Qrh)=true)
 (Qpk:W.nsIn K mainGlobals "_law_asked"=some (some (.ref QpK)))
 (Qo1:K.lookup QpK=some ⟨QFx,QC9,.func (W.fnOf "_law_asked" "_law_asked" (Qn Qw) (Qm Qw) (Qa Qw) .none QFW QDe QEj QFV Qtx QGf),QFr⟩)
 (QoJ:W.codeIn K Qtx "_law_asked"=true)
 (QjP:W.keepIn K (.ref QpK)=true)
 (QKN:W.nsIn K mainGlobals "law"=some (some (.ref QKB)))
 (QKf:K.lookup QKB=some ⟨QQu,QQ5,.func (W.fnOf "law" "law" (Qn Qcb) (Qm Qcb) (Qa Qcb) .none QMO QMN QMk QMf QEy QMw),QRa⟩)
 (QLz:W.codeIn K QEy "law"=true)
 (QJ1:W.keepIn K (.ref QKB)=true)
 (z_len:W.nsIn K mainGlobals "len"=some none)
 (z_range:W.nsIn K mainGlobals "range"=some none)
 (z_int:W.nsIn K mainGlobals "int"=some none)
 (z_enumerate:W.nsIn K mainGlobals "enumerate"=some none)
 (z_isinstance:W.nsIn K mainGlobals "isinstance"=some none)
 (z_list:W.nsIn K mainGlobals "list"=some none)
 (z_set:W.nsIn K mainGlobals "set"=some none)
 (z_str:W.nsIn K mainGlobals "str"=some none)
 (z_all:W.nsIn K mainGlobals "all"=some none)
 (z_bool:W.nsIn K mainGlobals "bool"=some none)
 (z_tuple:W.nsIn K mainGlobals "tuple"=some none)
 (z_any:W.nsIn K mainGlobals "any"=some none)
 (z_zip:W.nsIn K mainGlobals "zip"=some none)
 (z_abs:W.nsIn K mainGlobals "abs"=some none)
 (z_sum:W.nsIn K mainGlobals "sum"=some none)
 (c_MOST_SIGNS:W.nsIn K mainGlobals "MOST_SIGNS"=some (some (.int 6 tk_MOST_SIGNS)))
 (c_LETTERS:W.nsIn K mainGlobals "LETTERS"=some (some (.str "abcdefghijklmnopqrstuvwxyz" tk_LETTERS)))
 (c_MOST_CLERKS:W.nsIn K mainGlobals "MOST_CLERKS"=some (some (.int 60 tk_MOST_CLERKS)))
 (c_MOST_ENTRIES:W.nsIn K mainGlobals "MOST_ENTRIES"=some (some (.int 6 tk_MOST_ENTRIES)))
 (c_MOST_DOORS:W.nsIn K mainGlobals "MOST_DOORS"=some (some (.int 6 tk_MOST_DOORS)))
 (c_MOST_OUTS:W.nsIn K mainGlobals "MOST_OUTS"=some (some (.int 6 tk_MOST_OUTS)))
 (c_MOST_SENT:W.nsIn K mainGlobals "MOST_SENT"=some (some (.int 9 tk_MOST_SENT)))
 (c_MOST_ROWS:W.nsIn K mainGlobals "MOST_ROWS"=some (some (.int 12 tk_MOST_ROWS)))
 (QkM:W.kitOne K (.ref QT) (.ref QF)=some false)
 (Qpf:W.kitOne K (.ref QG) (.ref QF)=some false)
 (Qpl:W.kitOne K (.ref QI) (.ref QF)=some false)
 (Qli:W.kitOne K (.ref Qq) (.ref QF)=some false)
 (QpC:W.kitOne K (.ref QF) (.ref QF)=some true)
 (Qi7:W.kitOne K (.ref QT) (.ref Qq)=some false)
 (QkV:W.kitOne K (.ref QG) (.ref Qq)=some false)
 (Qla:W.kitOne K (.ref QI) (.ref Qq)=some false)
 (Qi6:W.kitOne K (.ref Qq) (.ref Qq)=some true)
 (Qk3:W.kitOne K (.ref QF) (.ref Qq)=some false)
 (Qlq:W.kitOne K (.ref QT) (.ref QI)=some false)
 (Qop:W.kitOne K (.ref QG) (.ref QI)=some false)
 (Qoy:W.kitOne K (.ref QI) (.ref QI)=some true)
 (Qky:W.kitOne K (.ref Qq) (.ref QI)=some false)
 (QoW:W.kitOne K (.ref QF) (.ref QI)=some false)
 (Qkw:W.kitOne K (.ref QT) (.ref QG)=some false)
 (Qo4:W.kitOne K (.ref QG) (.ref QG)=some true)
 (Qo9:W.kitOne K (.ref QI) (.ref QG)=some false)
 (QkA:W.kitOne K (.ref Qq) (.ref QG)=some false)
 (Qpr:W.kitOne K (.ref QF) (.ref QG)=some false):
 ∃ fd:FuncData,(∀(s:Shared)(v:Value),BindsTo s fd ⟨[v],[]⟩ [("_law_script",v)])/\∀ base:Heap,K.In base->base.Ns mainGlobals mg->FnOk l.prog w K mg base CX0 9 fa fd ["_law_script"] (SpD K (ctOf K) false QnY):=by
 have ee:=hfa.symm.trans (W.mg_of X G QKN)
 cases ee
 have QJE:=W.mg_of X G QxK
 have Qbk:=ct_of QxK
 have Qcu:Cls K QF:=⟨Qzm,QAm,Qz2,Qy1⟩
 have QAW:=W.mg_of X G QqU
 have Qau:=ct_of QqU
 have Qa1:Cls K Qq:=⟨Qs3,QsU,Qta,Quc⟩
 have QJi:=W.mg_of X G Qyd
 have Qa9:=ct_of Qyd
 have QcA:Cls K QI:=⟨Qzi,QAs,QzP,QAq⟩
 have QJv:=W.mg_of X G QxS
 have Qbb:=ct_of QxS
 have Qcv:Cls K QG:=⟨Qzn,QzY,Qy8,Qy3⟩
 have QL3:=W.mg_of X G Qrj
 have Qa0:=ct_of Qrj
 have QcP:Cls K QT:=⟨Qs8,Qtp,QtN,Qui⟩
 have fo_table:FldOk K (ctOf K) Qj "table":=by
  intro c hc A hA
  have hm:c∈Qj:=by simpa using hc
  simp only[Qj,List.mem_cons,List.not_mem_nil,or_false]at hm
  rcases hm with rfl | rfl | rfl | rfl | rfl
  ·rw[Qbk]at hA;cases hA;exact⟨Qcu,QkK⟩
  ·rw[Qau]at hA;cases hA;exact⟨Qa1,Qif⟩
  ·rw[Qa9]at hA;cases hA;exact⟨QcA,QkF⟩
  ·rw[Qbb]at hA;cases hA;exact⟨Qcv,Qk0⟩
  ·rw[Qa0]at hA;cases hA;exact⟨QcP,Qio⟩
 have fo_clerk_names:FldOk K (ctOf K) Qj "clerk_names":=by
  intro c hc A hA
  have hm:c∈Qj:=by simpa using hc
  simp only[Qj,List.mem_cons,List.not_mem_nil,or_false]at hm
  rcases hm with rfl | rfl | rfl | rfl | rfl
  ·rw[Qbk]at hA;cases hA;exact⟨Qcu,QfE⟩
  ·rw[Qau]at hA;cases hA;exact⟨Qa1,QeT⟩
  ·rw[Qa9]at hA;cases hA;exact⟨QcA,QfI⟩
  ·rw[Qbb]at hA;cases hA;exact⟨Qcv,QfF⟩
  ·rw[Qa0]at hA;cases hA;exact⟨QcP,QeJ⟩
 have fo_door_names:FldOk K (ctOf K) Qj "door_names":=by
  intro c hc A hA
  have hm:c∈Qj:=by simpa using hc
  simp only[Qj,List.mem_cons,List.not_mem_nil,or_false]at hm
  rcases hm with rfl | rfl | rfl | rfl | rfl
  ·rw[Qbk]at hA;cases hA;exact⟨Qcu,Qgs⟩
  ·rw[Qau]at hA;cases hA;exact⟨Qa1,QeX⟩
  ·rw[Qa9]at hA;cases hA;exact⟨QcA,Qgh⟩
  ·rw[Qbb]at hA;cases hA;exact⟨Qcv,Qgi⟩
  ·rw[Qa0]at hA;cases hA;exact⟨QcP,Qfs⟩
 have fo_entry_places:FldOk K (ctOf K) Qj "entry_places":=by
  intro c hc A hA
  have hm:c∈Qj:=by simpa using hc
  simp only[Qj,List.mem_cons,List.not_mem_nil,or_false]at hm
  rcases hm with rfl | rfl | rfl | rfl | rfl
  ·rw[Qbk]at hA;cases hA;exact⟨Qcu,Qfp⟩
  ·rw[Qau]at hA;cases hA;exact⟨Qa1,QdX⟩
  ·rw[Qa9]at hA;cases hA;exact⟨QcA,Qfr⟩
  ·rw[Qbb]at hA;cases hA;exact⟨Qcv,Qfd⟩
  ·rw[Qa0]at hA;cases hA;exact⟨QcP,QdY⟩
 have fo_staff:FldOk K (ctOf K) Qj "staff":=by
  intro c hc A hA
  have hm:c∈Qj:=by simpa using hc
  simp only[Qj,List.mem_cons,List.not_mem_nil,or_false]at hm
  rcases hm with rfl | rfl | rfl | rfl | rfl
  ·rw[Qbk]at hA;cases hA;exact⟨Qcu,Qk1⟩
  ·rw[Qau]at hA;cases hA;exact⟨Qa1,Qi1⟩
  ·rw[Qa9]at hA;cases hA;exact⟨QcA,QkL⟩
  ·rw[Qbb]at hA;cases hA;exact⟨Qcv,QkI⟩
  ·rw[Qa0]at hA;cases hA;exact⟨QcP,QiI⟩
 have fo_first_states:FldOk K (ctOf K) Qj "first_states":=by
  intro c hc A hA
  have hm:c∈Qj:=by simpa using hc
  simp only[Qj,List.mem_cons,List.not_mem_nil,or_false]at hm
  rcases hm with rfl | rfl | rfl | rfl | rfl
  ·rw[Qbk]at hA;cases hA;exact⟨Qcu,Qfk⟩
  ·rw[Qau]at hA;cases hA;exact⟨Qa1,Qeh⟩
  ·rw[Qa9]at hA;cases hA;exact⟨QcA,Qfa⟩
  ·rw[Qbb]at hA;cases hA;exact⟨Qcv,QeZ⟩
  ·rw[Qa0]at hA;cases hA;exact⟨QcP,Qd4⟩
 have fo_ways:FldOk K (ctOf K) Qj "ways":=by
  intro c hc A hA
  have hm:c∈Qj:=by simpa using hc
  simp only[Qj,List.mem_cons,List.not_mem_nil,or_false]at hm
  rcases hm with rfl | rfl | rfl | rfl | rfl
  ·rw[Qbk]at hA;cases hA;exact⟨Qcu,QmJ⟩
  ·rw[Qau]at hA;cases hA;exact⟨Qa1,QjC⟩
  ·rw[Qa9]at hA;cases hA;exact⟨QcA,Qms⟩
  ·rw[Qbb]at hA;cases hA;exact⟨Qcv,Qmr⟩
  ·rw[Qa0]at hA;cases hA;exact⟨QcP,QjG⟩
 have fo_heads:FldOk K (ctOf K) Qj "heads":=by
  intro c hc A hA
  have hm:c∈Qj:=by simpa using hc
  simp only[Qj,List.mem_cons,List.not_mem_nil,or_false]at hm
  rcases hm with rfl | rfl | rfl | rfl | rfl
  ·rw[Qbk]at hA;cases hA;exact⟨Qcu,QkD⟩
  ·rw[Qau]at hA;cases hA;exact⟨Qa1,Qh3⟩
  ·rw[Qa9]at hA;cases hA;exact⟨QcA,Qlm⟩
  ·rw[Qbb]at hA;cases hA;exact⟨Qcv,QkR⟩
  ·rw[Qa0]at hA;cases hA;exact⟨QcP,QiZ⟩
 have QuP:ClsD K QF:=⟨Qcu,Qy2,y1,y2,QyY⟩
 have Qn6:ClsD K Qq:=⟨Qa1,QtK,y1,y2,Qtl⟩
 have QuK:ClsD K QI:=⟨QcA,QAx,y1,y2,QAt⟩
 have QuL:ClsD K QG:=⟨Qcv,QzS,y1,y2,Qzv⟩
 have Qn0:ClsD K QT:=⟨QcP,Qtt,y1,y2,Qtu⟩
 have QxD:=Qp (st:=QcB) QrN Qrw QlF
 have QKx:=QxD.binds (ps:=["_law_script","_law_k"]) fun _ _ _ _ _ _ us hl=>match us,hl with | [_,_],_=>rfl
 have QvC:=Qp (st:=Qb2) QoU Qol QjV
 have QH3:=QvC.binds (ps:=["_law_cell_here","_law_k"]) fun _ _ _ _ _ _ us hl=>match us,hl with | [_,_],_=>rfl
 have Qtf:=Qp (st:=QaQ) QmL QmE QiQ
 have QEs:=Qtf.binds (ps:=["_law_number","_law_many"]) fun _ _ _ _ _ _ us hl=>match us,hl with | [_,_],_=>rfl
 have Qxl:=Qp (st:=Qad) QqB QqO QlR
 have QJ5:=Qxl.binds (ps:=["_law_number"]) fun _ _ _ _ _ _ us hl=>match us,hl with | [_],_=>rfl
 have QxF:=Qp (st:=QN) Qq7 Qq3 QlY
 have QK5:=QxF.binds (ps:=["_law_script"]) fun _ _ _ _ _ _ us hl=>match us,hl with | [_],_=>rfl
 have QvB:=Qp (st:=QaA) Qpd Qo8 Qj3
 have QHW:=QvB.binds (ps:=["names","doors"]) fun _ _ _ _ _ _ us hl=>match us,hl with | [_,_],_=>rfl
 have QBl:=Qp (st:=Qcn) QtA QtV Qoj
 have QMI:=QBl.binds (ps:=["thing","most"]) fun _ _ _ _ _ _ us hl=>match us,hl with | [_,_],_=>rfl
 have Quk:=Qp (st:=Qby) QmV Qm1 QiH
 have QDr:=Quk.binds (ps:=["names"]) fun _ _ _ _ _ _ us hl=>match us,hl with | [_],_=>rfl
 have QAX:=Qp (st:=QaW) Quz QtP Qn1
 have QLV:=QAX.binds (ps:=["thing"]) fun _ _ _ _ _ _ us hl=>match us,hl with | [_],_=>rfl
 have Qvv:=Qp (st:=QaB) QoQ QoZ QjU
 have QHI:=Qvv.binds (ps:=["thing","most"]) fun _ _ _ _ _ _ us hl=>match us,hl with | [_,_],_=>rfl
 have Qvh:=Qp (st:=Qah) QoB Qos QjL
 have QHK:=Qvh.binds (ps:=["thing","many"]) fun _ _ _ _ _ _ us hl=>match us,hl with | [_,_],_=>rfl
 have QyI:=Qp (st:=Qcc) QrL Qrd QlM
 have QLn:=QyI.binds (ps:=["thing"]) fun _ _ _ _ _ _ us hl=>match us,hl with | [_],_=>rfl
 have Qvg:=Qp (st:=QbA) QoE Qpb QjY
 have QHc:=Qvg.binds (ps:=["thing","least","most"]) fun _ _ _ _ _ _ us hl=>match us,hl with | [_,_,_],_=>rfl
 have QxV:=Qp (st:=Qbg) QqX Qq4 QlQ
 have QKR:=QxV.binds (ps:=["thing"]) fun _ _ _ _ _ _ us hl=>match us,hl with | [_],_=>rfl
 have Qun:=Qp (st:=Qce) Qmh QmY Qdm
 have QiM:=Qun.binds (ps:=["self"]) fun _ _ _ _ _ _ us hl=>match us,hl with | [_],_=>rfl
 have Qqj:=Qp (st:=Qba) Qjq QjA Qcz
 have QgI:=Qqj.binds (ps:=["self"]) fun _ _ _ _ _ _ us hl=>match us,hl with | [_],_=>rfl
 have QAZ:=Qp (st:=QaZ) Qus Quf Qn4
 have QNc:=QAZ.binds (ps:=["thing"]) fun _ _ _ _ _ _ us hl=>match us,hl with | [_],_=>rfl
 have QvE:=Qp (st:=Q9) Qo7 QoM QjT
 have QHC:=QvE.binds (ps:=["thing","doors"]) fun _ _ _ _ _ _ us hl=>match us,hl with | [_,_],_=>rfl
 have QxC:=Qp (st:=Qbf) QrT Qrk Ql8
 have QK7:=QxC.binds (ps:=["thing","names"]) fun _ _ _ _ _ _ us hl=>match us,hl with | [_,_],_=>rfl
 have Qr2:=Qp (st:=QR) QkS QkZ Qhk
 have QBF:=Qr2.binds (ps:=["thing","names"]) fun _ _ _ _ _ _ us hl=>match us,hl with | [_,_],_=>rfl
 have Qw2:=Qp (st:=Qcg) QrI Qro QlI
 have QLq:=Qw2.binds (ps:=["seat","places"]) fun _ _ _ _ _ _ us hl=>match us,hl with | [_,_],_=>rfl
 have Qr0:=Qp (st:=Ql) QkT Qk6 QkU
 have QCS:=Qr0.binds (ps:=["self","clerks","entries","doors"]) fun _ _ _ _ _ _ us hl=>match us,hl with | [_,_,_,_],_=>rfl
 have QBj:=Qp (st:=QbS) QtU Qtw QnT
 have QMX:=QBj.binds (ps:=["one","other"]) fun _ _ _ _ _ _ us hl=>match us,hl with | [_,_],_=>rfl
 have Qqg:=Qp (st:=Qak) QjF Qjo QgB
 have Qzl:=Qqg.binds (ps:=["rows"]) fun _ _ _ _ _ _ us hl=>match us,hl with | [_],_=>rfl
 have Qly:=Qp (st:=QW) QgU QgT Qbr
 have Qes:=Qly.binds (ps:=["self","rows"]) fun _ _ _ _ _ _ us hl=>match us,hl with | [_,_],_=>rfl
 have QFq:=Qp (st:=Qa6) QwN QwS Qrg
 have QNL:=QFq.binds (ps:=["thing"]) fun _ _ _ _ _ _ us hl=>match us,hl with | [_],_=>rfl
 have QxY:=Qp (st:=Q6) QqH Qq9 Qma
 have QK1:=QxY.binds (ps:=["thing"]) fun _ _ _ _ _ _ us hl=>match us,hl with | [_],_=>rfl
 have Qvp:=Qp (st:=Qb3) Qo0 Qo3 Qo6
 have QIB:=Qvp.binds (ps:=["self","rows"]) fun _ _ _ _ _ _ us hl=>match us,hl with | [_,_],_=>rfl
 have Qs9:=Qp (st:=QaT) Qmn QnA QiU
 have QDm:=Qs9.binds (ps:=["many","place"]) fun _ _ _ _ _ _ us hl=>match us,hl with | [_,_],_=>rfl
 have QvK:=Qp (st:=Qao) QoV Qox Qpn
 have QHO:=QvK.binds (ps:=["self","many"]) fun _ _ _ _ _ _ us hl=>match us,hl with | [_,_],_=>rfl
 have Qr3:=Qp (st:=Qaa) QkX Qk2 Qk8
 have QBw:=Qr3.binds (ps:=["self","size"]) fun _ _ _ _ _ _ us hl=>match us,hl with | [_,_],_=>rfl
 have Qvn:=Qp (st:=Qb1) Qo2 Qpe Qpt
 have QGN:=Qvn.binds (ps:=["self","counts"]) fun _ _ _ _ _ _ us hl=>match us,hl with | [_,_],_=>rfl
 have Qvr:=Qp (st:=Q8) Qom QpI QjX
 have QHz:=Qvr.binds (ps:=["_law_kind","_law_rows_here"]) fun _ _ _ _ _ _ us hl=>match us,hl with | [_,_],_=>rfl
 have QtX:=Qp (st:=Qv) QmU Qnd Qh7
 have QCY:=QtX.binds (ps:=["_law_plan_here","_law_doors"]) fun _ _ _ _ _ _ us hl=>match us,hl with | [_,_],_=>rfl
 have Qsd:=Qp (st:=Qa8) Qlo QkG Qhr
 have QCp:=Qsd.binds (ps:=["_law_one","_law_other"]) fun _ _ _ _ _ _ us hl=>match us,hl with | [_,_],_=>rfl
 have QBa:=Qp (st:=QcU) Qub Qtv Qn3
 have QM1:=QBa.binds (ps:=["_law_top","_law_bottom"]) fun _ _ _ _ _ _ us hl=>match us,hl with | [_,_],_=>rfl
 have Qs6:=Qp (st:=Q4) Qmi QmO Qi3
 have QD6:=Qs6.binds (ps:=["_law_cell_here","_law_many"]) fun _ _ _ _ _ _ us hl=>match us,hl with | [_,_],_=>rfl
 have Qp5:=Qp (st:=Qbh) Qjv Qjj Qgx
 have QyX:=Qp5.binds (ps:=["self","k"]) fun _ _ _ _ _ _ us hl=>match us,hl with | [_,_],_=>rfl
 have Qsf:=Qp (st:=QbF) Qlf Qle Qc5
 have Qhz:=Qsf.binds (ps:=["self"]) fun _ _ _ _ _ _ us hl=>match us,hl with | [_],_=>rfl
 have QgJ:=Qp (st:=Qr) QdC QdE Qar
 have Qcq:=QgJ.binds (ps:=["self","count"]) fun _ _ _ _ _ _ us hl=>match us,hl with | [_,_],_=>rfl
 have QsS:=Qp (st:=Qab) Qng Qno Qdn
 have QiJ:=QsS.binds (ps:=["self","state","count"]) fun _ _ _ _ _ _ us hl=>match us,hl with | [_,_,_],_=>rfl
 have Qkq:=Qp (st:=Qag) Qgt Qgb QdS
 have Quu:=Qkq.binds (ps:=["one","other"]) fun _ _ _ _ _ _ us hl=>match us,hl with | [_,_],_=>rfl
 have Qn7:=Qp (st:=Qaw) QiG QiE QfZ
 have QyJ:=Qn7.binds (ps:=["fractions"]) fun _ _ _ _ _ _ us hl=>match us,hl with | [_],_=>rfl
 have QPB:=Qp (st:=Qcj) QzN QzU QuI
 have Qyy:=Qp (st:=Q1) QqN Qq1 Ql7
 have QJU:=Qyy.binds (ps:=["shares","worths"]) fun _ _ _ _ _ _ us hl=>match us,hl with | [_,_],_=>rfl
 have QpM:=Qp (st:=QaU) Qjr Qjl Qgv
 have QAB:=QpM.binds (ps:=["self","k"]) fun _ _ _ _ _ _ us hl=>match us,hl with | [_,_],_=>rfl
 have QnN:=Qp (st:=Q5) QiX QiL Qf0
 have Qyp:=QnN.binds (ps:=["office","k","worths","door_worths"]) fun _ _ _ _ _ _ us hl=>match us,hl with | [_,_,_,_],_=>rfl
 have QLO:=Qp (st:=QaR) QDU QFB Qxn
 have QQT:=QLO.binds (ps:=["office","k","state","worths","door_worths"]) fun _ _ _ _ _ _ us hl=>match us,hl with | [_,_,_,_,_],_=>rfl
 have QJg:=Qp (st:=QbW) QzM QAu QuN
 have QPH:=QJg.binds (ps:=["office","k","worths","door_worths"]) fun _ _ _ _ _ _ us hl=>match us,hl with | [_,_,_,_],_=>rfl
 have QxW:=Qp (st:=QcG) QqY Qrc Qme
 have QKM:=QxW.binds (ps:=["_law_one","_law_other"]) fun _ _ _ _ _ _ us hl=>match us,hl with | [_,_],_=>rfl
 have QnR:=Qp (st:=QJ) Qid Qie QfU
 have QyR:=QnR.binds (ps:=["_law_plan_here","_law_k","_law_state","_law_worths_here","_law_door_worths"]) fun _ _ _ _ _ _ us hl=>match us,hl with | [_,_,_,_,_],_=>rfl
 have Qx4:=Qp (st:=Qaf) Qrv Qrr Ql3
 have QLC:=Qx4.binds (ps:=["_law_plan_here","_law_k","_law_worths_here","_law_door_worths"]) fun _ _ _ _ _ _ us hl=>match us,hl with | [_,_,_,_],_=>rfl
 have Qvt:=Qp (st:=QX) Qpg Qot QjM
 have QGY:=Qvt.binds (ps:=["_law_plan_here","_law_k","_law_worths_here","_law_door_worths"]) fun _ _ _ _ _ _ us hl=>match us,hl with | [_,_,_,_],_=>rfl
 have QvD:=Qp (st:=QbD) QpD QoH QjS
 have QGM:=QvD.binds (ps:=["_law_found"]) fun _ _ _ _ _ _ us hl=>match us,hl with | [_],_=>rfl
 have Qxi:=Qp (st:=Qbj) QrR Qri QlO
 have QLr:=Qxi.binds (ps:=["_law_found","_law_due"]) fun _ _ _ _ _ _ us hl=>match us,hl with | [_,_],_=>rfl
 have QvI:=Qp (st:=Qw) Qo1 QoJ QjP
 have QIq:=QvI.binds (ps:=["_law_office_here","_law_plan_here","_law_k","_law_worths_here","_law_door_worths"]) fun _ _ _ _ _ _ us hl=>match us,hl with | [_,_,_,_,_],_=>rfl
 have QOL:=Qp (st:=Qcb) QKf QLz QJ1
 have QSe:=QOL.binds (ps:=["_law_script"]) fun _ _ _ _ _ _ us hl=>match us,hl with | [_],_=>rfl
 have zz_len:mg "len"=none:=W.mg_none_of X G z_len
 have zz_range:mg "range"=none:=W.mg_none_of X G z_range
 have zz_int:mg "int"=none:=W.mg_none_of X G z_int
 have zz_enumerate:mg "enumerate"=none:=W.mg_none_of X G z_enumerate
 have zz_isinstance:mg "isinstance"=none:=W.mg_none_of X G z_isinstance
 have zz_list:mg "list"=none:=W.mg_none_of X G z_list
 have zz_set:mg "set"=none:=W.mg_none_of X G z_set
 have zz_str:mg "str"=none:=W.mg_none_of X G z_str
 have zz_all:mg "all"=none:=W.mg_none_of X G z_all
 have zz_bool:mg "bool"=none:=W.mg_none_of X G z_bool
 have zz_tuple:mg "tuple"=none:=W.mg_none_of X G z_tuple
 have zz_any:mg "any"=none:=W.mg_none_of X G z_any
 have zz_zip:mg "zip"=none:=W.mg_none_of X G z_zip
 have zz_abs:mg "abs"=none:=W.mg_none_of X G z_abs
 have zz_sum:mg "sum"=none:=W.mg_none_of X G z_sum
 have cc_MOST_SIGNS:=W.mg_of X G c_MOST_SIGNS
 have cc_LETTERS:=W.mg_of X G c_LETTERS
 have cc_MOST_CLERKS:=W.mg_of X G c_MOST_CLERKS
 have cc_MOST_ENTRIES:=W.mg_of X G c_MOST_ENTRIES
 have cc_MOST_DOORS:=W.mg_of X G c_MOST_DOORS
 have cc_MOST_OUTS:=W.mg_of X G c_MOST_OUTS
 have cc_MOST_SENT:=W.mg_of X G c_MOST_SENT
 have cc_MOST_ROWS:=W.mg_of X G c_MOST_ROWS
 have QAD:KitI K (ctOf K) (.ref QF) [("Deal",true),("Bundle",false),("Copy",false),("Rows",false),("Office",false)]:=(Qan Qbk QuP QpC (Qan Qau Qn6 Qli (Qan Qa9 QuK Qpl (Qan Qbb QuL Qpf (Qan Qa0 Qn0 QkM QrB)))))
 have QtO:KitI K (ctOf K) (.ref Qq) [("Deal",false),("Bundle",true),("Copy",false),("Rows",false),("Office",false)]:=(Qan Qbk QuP Qk3 (Qan Qau Qn6 Qi6 (Qan Qa9 QuK Qla (Qan Qbb QuL QkV (Qan Qa0 Qn0 Qi7 QrB)))))
 have QAN:KitI K (ctOf K) (.ref QI) [("Deal",false),("Bundle",false),("Copy",true),("Rows",false),("Office",false)]:=(Qan Qbk QuP QoW (Qan Qau Qn6 Qky (Qan Qa9 QuK Qoy (Qan Qbb QuL Qop (Qan Qa0 Qn0 Qlq QrB)))))
 have QAp:KitI K (ctOf K) (.ref QG) [("Deal",false),("Bundle",false),("Copy",false),("Rows",true),("Office",false)]:=(Qan Qbk QuP Qpr (Qan Qau Qn6 QkA (Qan Qa9 QuK Qo9 (Qan Qbb QuL Qo4 (Qan Qa0 Qn0 Qkw QrB)))))
 refine⟨W.fnOf "law" "law" (Qn Qcb) (Qm Qcb) (Qa Qcb) .none QMO QMN QMk QMf QEy QMw,fun s v=>.of_eq rfl,fun base _ _=>?_⟩
 have QKa:FnOk l.prog w K mg base CX0 1 _ _ ["_law_script","_law_k"] (SpD K (ctOf K) false QbJ):=QJ8 QxD zz_len
 have QKG:DefOk l.prog w K mg base (ctOf K) "_law_cell" 1 false [] QbJ:=⟨_,_,_,_,QKa,W.mg_of X G QqS,QlF,QKx,.nil⟩
 have QIn:FnOk l.prog w K mg base CX0 1 _ _ ["_law_cell_here","_law_k"] (SpD K (ctOf K) false QP):=QHL QvC
 have QvA:DefOk l.prog w K mg base (ctOf K) "_law_mixed" 1 false [] QP:=⟨_,_,_,_,QIn,W.mg_of X G Qpm,QjV,QH3,.nil⟩
 have QE7:FnOk l.prog w K mg base CX0 1 _ _ ["_law_number","_law_many"] (SpD K (ctOf K) true QcV):=QEo Qtf zz_range
 have QF0:DefOk l.prog w K mg base (ctOf K) "_law_counts" 1 true [] QcV:=⟨_,_,_,_,QE7,W.mg_of X G Qne,QiQ,QEs,.nil⟩
 have QLH:FnOk l.prog w K mg base CX0 2 _ _ ["_law_number"] (SpD K (ctOf K) false QdN):=QLF Qxl QF0 zz_range zz_int
 have QKd:DefOk l.prog w K mg base (ctOf K) "_law_rows" 2 false [] QdN:=⟨_,_,_,_,QLH,W.mg_of X G QqL,QlR,QJ5,.nil⟩
 have QJK:FnOk l.prog w K mg base CX0 3 _ _ ["_law_script"] (SpD K (ctOf K) false Qfo):=QLw QxF QKG QvA QKd zz_range zz_len
 have QKu:DefOk l.prog w K mg base (ctOf K) "_law_plan" 3 false [] Qfo:=⟨_,_,_,_,QJK,W.mg_of X G QqZ,QlY,QK5,.nil⟩
 have QHV:FnOk l.prog w K mg base CX0 1 _ _ ["names","doors"] (SpD K (ctOf K) true Qd2):=QGr QvB zz_enumerate
 have QGQ:DefOk l.prog w K mg base (ctOf K) "places_of" 1 true [] Qd2:=⟨_,_,_,_,QHV,W.mg_of X G QpF,Qj3,QHW,.nil⟩
 have QMC:FnOk l.prog w K mg base CX0 1 _ _ ["thing","most"] (SpD K (ctOf K) false Qco):=QNs QBl zz_isinstance zz_list zz_len
 have Quh:DefOk l.prog w K mg base (ctOf K) "is_list" 1 false [] Qco:=⟨_,_,_,_,QMC,W.mg_of X G QsR,Qoj,QMI,.nil⟩
 have QDZ:FnOk l.prog w K mg base CX0 1 _ _ ["names"] (SpD K (ctOf K) false Qam):=QEH Quk zz_len zz_set
 have Qmt:DefOk l.prog w K mg base (ctOf K) "all_unlike" 1 false [] Qam:=⟨_,_,_,_,QDZ,W.mg_of X G QmC,QiH,QDr,.nil⟩
 have QM6:FnOk l.prog w K mg base CX0 1 _ _ ["thing"] (SpD K (ctOf K) false Qa4):=QM8 QAX zz_isinstance zz_str zz_len zz_all cc_MOST_SIGNS ⟨_,rfl⟩ cc_LETTERS ⟨_,rfl⟩
 have Qti:DefOk l.prog w K mg base (ctOf K) "is_name" 1 false [] Qa4:=⟨_,_,_,_,QM6,W.mg_of X G QtB,Qn1,QLV,.nil⟩
 have QIa:FnOk l.prog w K mg base CX0 2 _ _ ["thing","most"] (SpD K (ctOf K) false Qd0):=QH6 Qvv Quh Qti Qmt zz_all
 have QIu:DefOk l.prog w K mg base (ctOf K) "are_names" 2 false [] Qd0:=⟨_,_,_,_,QIa,W.mg_of X G Qow,QjU,QHI,.nil⟩
 have QH5:FnOk l.prog w K mg base CX0 1 _ _ ["thing","many"] (SpD K (ctOf K) false Qd6):=QI3 Qvh zz_isinstance zz_list zz_len zz_all zz_str
 have QGB:DefOk l.prog w K mg base (ctOf K) "are_texts" 1 false [] Qd6:=⟨_,_,_,_,QH5,W.mg_of X G Qoz,QjL,QHK,.nil⟩
 have QLh:FnOk l.prog w K mg base CX0 1 _ _ ["thing"] (SpD K (ctOf K) false QbK):=QKy QyI zz_isinstance zz_int zz_bool
 have Qyn:DefOk l.prog w K mg base (ctOf K) "is_whole" 1 false [] QbK:=⟨_,_,_,_,QLh,W.mg_of X G Qq6,QlM,QLn,.nil⟩
 have QHE:FnOk l.prog w K mg base CX0 2 _ _ ["thing","least","most"] (SpD K (ctOf K) false QaV):=QGZ Qvg Qyn
 have Qj4:DefOk l.prog w K mg base (ctOf K) "is_within" 2 false [] QaV:=⟨_,_,_,_,QHE,W.mg_of X G Qps,QjY,QHc,.nil⟩
 have QLu:FnOk l.prog w K mg base CX0 1 _ _ ["thing"] (SpD K (ctOf K) false Qfc):=QKv QxV zz_isinstance QJE QAW QJi QJv QAD QtO QAN QAp
 have QKI:DefOk l.prog w K mg base (ctOf K) "is_clerk" 1 false [] Qfc:=⟨_,_,_,_,QLu,W.mg_of X G Qrz,QlQ,QKR,.nil⟩
 have QiO:FnOk l.prog w K mg base CX0 1 _ _ ["self"] (SpD K (ctOf K) false QcL):=QF3 Qun zz_len fo_table
 have mt_outs:MtOk l.prog w K mg base (ctOf K) CX0 "outs" 1 Qd (fun c=>SpD K (ctOf K) false ((fun _=>QcL) c)):=by
  intro c hc
  have hm:c∈Qd:=by simpa using hc
  simp only[Qd,List.mem_cons,List.not_mem_nil,or_false]at hm
  rcases hm with rfl | rfl | rfl | rfl
  ·exact⟨QF,Qa2,_,_,Qbk,Qcu,⟨QoO,QeA,Qdm⟩,QiO.mono (by decide),QiM⟩
  ·exact⟨Qq,Qa2,_,_,Qau,Qa1,⟨QkQ,QeA,Qdm⟩,QiO.mono (by decide),QiM⟩
  ·exact⟨QI,Qa2,_,_,Qa9,QcA,⟨Qpx,QeA,Qdm⟩,QiO.mono (by decide),QiM⟩
  ·exact⟨QG,Qa2,_,_,Qbb,Qcv,⟨QoG,QeA,Qdm⟩,QiO.mono (by decide),QiM⟩
 have QgH:FnOk l.prog w K mg base CX0 1 _ _ ["self"] (SpD K (ctOf K) false QA):=Qzu Qqj zz_len fo_table
 have mt_period:MtOk l.prog w K mg base (ctOf K) CX0 "period" 1 Qd (fun c=>SpD K (ctOf K) false ((fun _=>QA) c)):=by
  intro c hc
  have hm:c∈Qd:=by simpa using hc
  simp only[Qd,List.mem_cons,List.not_mem_nil,or_false]at hm
  rcases hm with rfl | rfl | rfl | rfl
  ·exact⟨QF,QaF,_,_,Qbk,Qcu,⟨Qlb,Qdi,Qcz⟩,QgH.mono (by decide),QgI⟩
  ·exact⟨Qq,QaF,_,_,Qau,Qa1,⟨Qh1,Qdi,Qcz⟩,QgH.mono (by decide),QgI⟩
  ·exact⟨QI,QaF,_,_,Qa9,QcA,⟨QkO,Qdi,Qcz⟩,QgH.mono (by decide),QgI⟩
  ·exact⟨QG,QaF,_,_,Qbb,Qcv,⟨Qld,Qdi,Qcz⟩,QgH.mono (by decide),QgI⟩
 have QNu:FnOk l.prog w K mg base CX0 3 _ _ ["thing"] (SpD K (ctOf K) false Qgp):=QMV QAZ Qti QKI QGB Qj4 zz_isinstance zz_tuple zz_len mt_outs mt_period
 have QNd:DefOk l.prog w K mg base (ctOf K) "is_seat" 3 false [] Qgp:=⟨_,_,_,_,QNu,W.mg_of X G QtG,Qn4,QNc,.nil⟩
 have QG8:FnOk l.prog w K mg base CX0 4 _ _ ["thing","doors"] (SpD K (ctOf K) false Qeg):=QGP QvE Quh QNd Qmt zz_all cc_MOST_CLERKS ⟨_,rfl⟩
 have QIZ:DefOk l.prog w K mg base (ctOf K) "are_seats" 4 false [] Qeg:=⟨_,_,_,_,QG8,W.mg_of X G QpE,QjT,QHC,.nil⟩
 have QJX:FnOk l.prog w K mg base CX0 2 _ _ ["thing","names"] (SpD K (ctOf K) false Qe5):=QLe QxC Qti zz_isinstance zz_tuple zz_len
 have QKW:DefOk l.prog w K mg base (ctOf K) "is_entry" 2 false [] Qe5:=⟨_,_,_,_,QJX,W.mg_of X G QqV,Ql8,QK7,.nil⟩
 have QCh:FnOk l.prog w K mg base CX0 3 _ _ ["thing","names"] (SpD K (ctOf K) false Qc8):=QCI Qr2 Quh QKW Qmt zz_all cc_MOST_ENTRIES ⟨_,rfl⟩
 have QCm:DefOk l.prog w K mg base (ctOf K) "are_entries" 3 false [] Qc8:=⟨_,_,_,_,QCh,W.mg_of X G Qkv,Qhk,QBF,.nil⟩
 have QJL:FnOk l.prog w K mg base CX0 1 _ _ ["seat","places"] (SpD K (ctOf K) true Qff):=QKo Qw2
 have QKU:DefOk l.prog w K mg base (ctOf K) "leads_to" 1 true [] Qff:=⟨_,_,_,_,QJL,W.mg_of X G Qq8,QlI,QLq,.nil⟩
 have QCv:FnOk l.prog w K mg base (CXR l.prog w) 5 _ _ ["self","clerks","entries","doors"] (SpI K (ctOf K) Qa7):=QBZ Qr0 QIu QIZ QCm QGQ QKU zz_any zz_list cc_MOST_DOORS ⟨_,rfl⟩ fo_clerk_names fo_door_names fo_entry_places fo_staff fo_first_states fo_ways
 have QsQ:MkOk l.prog w K mg base (ctOf K) "Office" 5 Qa7:=⟨QT,Qfu,_,_,Qa0,QL3,⟨Qrl,QkP,Qk5,Qq2⟩,QCv,QCS⟩
 have QMn:FnOk l.prog w K mg base CX0 1 _ _ ["one","other"] (SpD K (ctOf K) true QeV):=QMj QBj zz_zip
 have QMu:DefOk l.prog w K mg base (ctOf K) "sums_of" 1 true [] QeV:=⟨_,_,_,_,QMn,W.mg_of X G QsK,QnT,QMX,.nil⟩
 have Qz3:FnOk l.prog w K mg base CX0 2 _ _ ["rows"] (SpD K (ctOf K) true Qbc):=QAK Qqg QMu
 have Qzk:DefOk l.prog w K mg base (ctOf K) "running_sums" 2 true [] Qbc:=⟨_,_,_,_,Qz3,W.mg_of X G Qjc,QgB,Qzl,.nil⟩
 have Qep:FnOk l.prog w K mg base (CXR l.prog w) 3 _ _ ["self","rows"] (SpI K (ctOf K) QO):=Qvd Qly Qzk zz_list fo_table fo_heads
 have ms_keep_rows:MtOk l.prog w K mg base (ctOf K) (CXR l.prog w) "keep_rows" 3 Qd (fun _=>SpI K (ctOf K) QO):=by
  intro c hc
  have hm:c∈Qd:=by simpa using hc
  simp only[Qd,List.mem_cons,List.not_mem_nil,or_false]at hm
  rcases hm with rfl | rfl | rfl | rfl
  ·exact⟨QF,Qac,_,_,Qbk,Qcu,⟨QhE,Qci,Qbr⟩,Qep.mono (by decide),Qes⟩
  ·exact⟨Qq,Qac,_,_,Qau,Qa1,⟨Qf8,Qci,Qbr⟩,Qep.mono (by decide),Qes⟩
  ·exact⟨QI,Qac,_,_,Qa9,QcA,⟨QhB,Qci,Qbr⟩,Qep.mono (by decide),Qes⟩
  ·exact⟨QG,Qac,_,_,Qbb,Qcv,⟨QhK,Qci,Qbr⟩,Qep.mono (by decide),Qes⟩
 have QNH:FnOk l.prog w K mg base CX0 3 _ _ ["thing"] (SpD K (ctOf K) false Qe8):=QOv QFq Qj4 zz_isinstance zz_list zz_len zz_all cc_MOST_OUTS ⟨_,rfl⟩ cc_MOST_SENT ⟨_,rfl⟩
 have QEn:DefOk l.prog w K mg base (ctOf K) "is_row" 3 false [] Qe8:=⟨_,_,_,_,QNH,W.mg_of X G QwI,Qrg,QNL,.nil⟩
 have QJO:FnOk l.prog w K mg base CX0 4 _ _ ["thing"] (SpD K (ctOf K) false Qfl):=QJ3 QxY QEn zz_isinstance zz_list zz_len zz_all cc_MOST_ROWS ⟨_,rfl⟩
 have QLG:DefOk l.prog w K mg base (ctOf K) "is_table" 4 false [] Qfl:=⟨_,_,_,_,QJO,W.mg_of X G Qra,Qma,QK1,.nil⟩
 have QIY:FnOk l.prog w K mg base (CXR l.prog w) 5 _ _ ["self","rows"] (SpI K (ctOf K) Qej):=QIL Qvp QLG ms_keep_rows
 have QAk:MkOk l.prog w K mg base (ctOf K) "Rows" 5 Qej:=⟨QG,Qhb,_,_,Qbb,QJv,⟨QwO,QoS,Qpy,Qwi⟩,QIY,QIB⟩
 have QE0:FnOk l.prog w K mg base CX0 1 _ _ ["many","place"] (SpD K (ctOf K) true Qdw):=QEJ Qs9 zz_range
 have QE9:DefOk l.prog w K mg base (ctOf K) "single_row" 1 true [] Qdw:=⟨_,_,_,_,QE0,W.mg_of X G QmG,QiU,QDm,.nil⟩
 have QHF:FnOk l.prog w K mg base (CXR l.prog w) 4 _ _ ["self","many"] (SpI K (ctOf K) Qed):=QGx QvK Qj4 QE9 zz_range cc_MOST_OUTS ⟨_,rfl⟩ ms_keep_rows
 have Qze:MkOk l.prog w K mg base (ctOf K) "Deal" 4 Qed:=⟨QF,Qhc,_,_,Qbk,QJE,⟨Qv5,QpA,Qov,QwU⟩,QHF,QHO⟩
 have QCj:FnOk l.prog w K mg base (CXR l.prog w) 4 _ _ ["self","size"] (SpI K (ctOf K) Qc4):=QCo Qr3 Qj4 zz_range cc_MOST_ROWS ⟨_,rfl⟩ ms_keep_rows
 have Qt6:MkOk l.prog w K mg base (ctOf K) "Bundle" 4 Qc4:=⟨Qq,Qfv,_,_,Qau,QAW,⟨QrM,QkH,Qln,QrO⟩,QCj,QBw⟩
 have QIM:FnOk l.prog w K mg base (CXR l.prog w) 4 _ _ ["self","counts"] (SpI K (ctOf K) Qei):=QHv Qvn QEn ms_keep_rows
 have QAH:MkOk l.prog w K mg base (ctOf K) "Copy" 4 Qei:=⟨QI,Qhg,_,_,Qa9,QJi,⟨QvX,QoT,QoD,QvZ⟩,QIM,QGN⟩
 have QIs:FnOk l.prog w K mg base CX0 7 _ _ ["_law_kind","_law_rows_here"] (SpD K (ctOf K) true QcI):=QIE Qvr zz_len zz_list Qze Qt6 QAH QAk
 have QI2:DefOk l.prog w K mg base (ctOf K) "_law_clerk" 7 true [] QcI:=⟨_,_,_,_,QIs,W.mg_of X G QoX,QjX,QHz,.nil⟩
 have QDF:FnOk l.prog w K mg base CX0 8 _ _ ["_law_plan_here","_law_doors"] (SpD K (ctOf K) true Qdl):=QDM QtX QI2 zz_range zz_len QsQ
 have QF5:DefOk l.prog w K mg base (ctOf K) "_law_office" 8 true [] Qdl:=⟨_,_,_,_,QDF,W.mg_of X G QmW,Qh7,QCY,.nil⟩
 have QCV:FnOk l.prog w K mg base CX0 1 _ _ ["_law_one","_law_other"] (SpD K (ctOf K) false Qc7):=QB9 Qsd zz_abs
 have QBA:DefOk l.prog w K mg base (ctOf K) "_law_divisor" 1 false [] Qc7:=⟨_,_,_,_,QCV,W.mg_of X G Qlj,Qhr,QCp,.nil⟩
 have QMd:FnOk l.prog w K mg base CX0 2 _ _ ["_law_top","_law_bottom"] (SpD K (ctOf K) false QcJ):=QNb QBa QBA
 have QtR:DefOk l.prog w K mg base (ctOf K) "_law_low" 2 false [] QcJ:=⟨_,_,_,_,QMd,W.mg_of X G Qtm,Qn3,QM1,.nil⟩
 have QFA:FnOk l.prog w K mg base CX0 3 _ _ ["_law_cell_here","_law_many"] (SpD K (ctOf K) true Qdt):=QFO Qs6 QvA QtR zz_range
 have QDT:DefOk l.prog w K mg base (ctOf K) "_law_worths" 3 true [] Qdt:=⟨_,_,_,_,QFA,W.mg_of X G Qnx,Qi3,QD6,.nil⟩
 have QzQ:FnOk l.prog w K mg base CX0 1 _ _ ["self","k"] (SpD K (ctOf K) false Qaj):=Qzg Qp5 fo_staff
 have mt_clerk:MtOk l.prog w K mg base (ctOf K) CX0 "clerk" 1 Q0 (fun c=>SpD K (ctOf K) false ((fun _=>Qaj) c)):=by
  intro c hc
  have hm:c∈Q0:=by simpa using hc
  simp only[Q0,List.mem_cons,List.not_mem_nil,or_false]at hm
  rcases hm with rfl
  ·exact⟨QT,QeO,_,_,Qa0,QcP,⟨Qje,Qju,Qgx⟩,QzQ.mono (by decide),QyX⟩
 have Qht:FnOk l.prog w K mg base CX0 2 _ _ ["self"] (SpD K (ctOf K) true QaE):=QBY Qsf zz_list fo_heads mt_period
 have mt_whole:MtOk l.prog w K mg base (ctOf K) CX0 "whole" 2 Qd (fun c=>SpD K (ctOf K) true ((fun _=>QaE) c)):=by
  intro c hc
  have hm:c∈Qd:=by simpa using hc
  simp only[Qd,List.mem_cons,List.not_mem_nil,or_false]at hm
  rcases hm with rfl | rfl | rfl | rfl
  ·exact⟨QF,QaS,_,_,Qbk,Qcu,⟨Qm2,QdI,Qc5⟩,Qht.mono (by decide),Qhz⟩
  ·exact⟨Qq,QaS,_,_,Qau,Qa1,⟨Qjy,QdI,Qc5⟩,Qht.mono (by decide),Qhz⟩
  ·exact⟨QI,QaS,_,_,Qa9,QcA,⟨Qnb,QdI,Qc5⟩,Qht.mono (by decide),Qhz⟩
  ·exact⟨QG,QaS,_,_,Qbb,Qcv,⟨Qm8,QdI,Qc5⟩,Qht.mono (by decide),Qhz⟩
 have Qct:FnOk l.prog w K mg base CX0 3 _ _ ["self","count"] (SpD K (ctOf K) true QQ):=QnF QgJ zz_zip fo_heads mt_period mt_whole
 have mt_sent_from_start:MtOk l.prog w K mg base (ctOf K) CX0 "sent_from_start" 3 Qd (fun c=>SpD K (ctOf K) true ((fun _=>QQ) c)):=by
  intro c hc
  have hm:c∈Qd:=by simpa using hc
  simp only[Qd,List.mem_cons,List.not_mem_nil,or_false]at hm
  rcases hm with rfl | rfl | rfl | rfl
  ·exact⟨QF,QK,_,_,Qbk,Qcu,⟨Qem,QaN,Qar⟩,Qct.mono (by decide),Qcq⟩
  ·exact⟨Qq,QK,_,_,Qau,Qa1,⟨Qds,QaN,Qar⟩,Qct.mono (by decide),Qcq⟩
  ·exact⟨QI,QK,_,_,Qa9,QcA,⟨Qeb,QaN,Qar⟩,Qct.mono (by decide),Qcq⟩
  ·exact⟨QG,QK,_,_,Qbb,Qcv,⟨Qea,QaN,Qar⟩,Qct.mono (by decide),Qcq⟩
 have Qh2:FnOk l.prog w K mg base CX0 4 _ _ ["self","state","count"] (SpD K (ctOf K) true QcR):=QFm QsS zz_zip mt_sent_from_start
 have mt_sent:MtOk l.prog w K mg base (ctOf K) CX0 "sent" 4 Qd (fun c=>SpD K (ctOf K) true ((fun _=>QcR) c)):=by
  intro c hc
  have hm:c∈Qd:=by simpa using hc
  simp only[Qd,List.mem_cons,List.not_mem_nil,or_false]at hm
  rcases hm with rfl | rfl | rfl | rfl
  ·exact⟨QF,Qa5,_,_,Qbk,Qcu,⟨Qpj,QeQ,Qdn⟩,Qh2.mono (by decide),QiJ⟩
  ·exact⟨Qq,Qa5,_,_,Qau,Qa1,⟨Qll,QeQ,Qdn⟩,Qh2.mono (by decide),QiJ⟩
  ·exact⟨QI,Qa5,_,_,Qa9,QcA,⟨Qpq,QeQ,Qdn⟩,Qh2.mono (by decide),QiJ⟩
  ·exact⟨QG,Qa5,_,_,Qbb,Qcv,⟨QpJ,QeQ,Qdn⟩,Qh2.mono (by decide),QiJ⟩
 have QsO:FnOk l.prog w K mg base CX0 1 _ _ ["one","other"] (SpD K (ctOf K) false Qai):=Qt2 Qkq
 have Qki:DefOk l.prog w K mg base (ctOf K) "greatest_divisor" 1 false [] Qai:=⟨_,_,_,_,QsO,W.mg_of X G Qf6,QdS,Quu,.nil⟩
 have QxI:FnOk l.prog w K mg base CX0 2 _ _ ["fractions"] (SpD K (ctOf K) false Qbv):=Qyk Qn7 Qki
 have Qxf:DefOk l.prog w K mg base (ctOf K) "common_bottom" 2 false [] Qbv:=⟨_,_,_,_,QxI,W.mg_of X G Qik,QfZ,QyJ,.nil⟩
 have QQg:FnOk l.prog w K mg base CX0 2 _ _ ["top","bottom"] (SpD K (ctOf K) false QfC):=QP2 QPB Qyn Qki zz_abs
 have B_share_0:Binds K (W.fnOf "share" "share" (Qn Qcj) (Qm Qcj) (Qa Qcj) (.ref QzR) QET QFy QEL QFu QwZ QEi) ["top","bottom"] []:=fun s us kin hl=>by
  match us,hl with
  | [],hh=>exact absurd hh (by simp)
  | [_],hh=>exact absurd hh (by simp)
  | [_,_],_=>exact W.binds_K kin rfl t_shareh rfl rfl rfl
  | _::_::_::_,hh=>exact absurd hh (by simp<;>omega)
 have QJl:DefOk l.prog w K mg base (ctOf K) "share" 2 false [] QfC:=⟨_,_,_,_,QQg,W.mg_of X G QAy,QuI,B_share_0,.nil⟩
 have QJN:FnOk l.prog w K mg base CX0 3 _ _ ["shares","worths"] (SpD K (ctOf K) false Qe3):=QKg Qyy Qxf QJl zz_zip zz_sum
 have QKh:DefOk l.prog w K mg base (ctOf K) "worth_of" 3 false [] Qe3:=⟨_,_,_,_,QJN,W.mg_of X G Qrx,Ql7,QJU,.nil⟩
 have QAC:FnOk l.prog w K mg base CX0 1 _ _ ["self","k"] (SpD K (ctOf K) true Qbe):=QAI QpM zz_list fo_ways
 have mt_leads:MtOk l.prog w K mg base (ctOf K) CX0 "leads" 1 Q0 (fun c=>SpD K (ctOf K) true ((fun _=>Qbe) c)):=by
  intro c hc
  have hm:c∈Q0:=by simpa using hc
  simp only[Q0,List.mem_cons,List.not_mem_nil,or_false]at hm
  rcases hm with rfl
  ·exact⟨QT,Qew,_,_,Qa0,QcP,⟨Qjp,Qjs,Qgv⟩,QAC.mono (by decide),QAB⟩
 have Qyr:FnOk l.prog w K mg base CX0 2 _ _ ["office","k","worths","door_worths"] (SpD K (ctOf K) true Qb9):=Qx9 QnN mt_leads
 have Qxe:DefOk l.prog w K mg base (ctOf K) "worths_behind" 2 true [] Qb9:=⟨_,_,_,_,Qyr,W.mg_of X G Qi0,Qf0,Qyp,.nil⟩
 have QR5:FnOk l.prog w K mg base CX0 5 _ _ ["office","k","state","worths","door_worths"] (SpD K (ctOf K) false QiD):=QQO QLO QJl QKh Qxe zz_zip mt_clerk mt_period mt_sent mt_whole
 have QRd:DefOk l.prog w K mg base (ctOf K) "lean" 5 false [] QiD:=⟨_,_,_,_,QR5,W.mg_of X G QGh,Qxn,QQT,.nil⟩
 have QP5:FnOk l.prog w K mg base CX0 6 _ _ ["office","k","worths","door_worths"] (SpD K (ctOf K) true Qjt):=QPL QJg QRd zz_range mt_period mt_clerk
 have QPi:DefOk l.prog w K mg base (ctOf K) "leans" 6 true [] Qjt:=⟨_,_,_,_,QP5,W.mg_of X G QAd,QuN,QPH,.nil⟩
 have QKb:FnOk l.prog w K mg base CX0 3 _ _ ["_law_one","_law_other"] (SpD K (ctOf K) false Qax):=QLK QxW QtR
 have QlT:DefOk l.prog w K mg base (ctOf K) "_law_plus" 3 false [] Qax:=⟨_,_,_,_,QKb,W.mg_of X G QqK,Qme,QKM,.nil⟩
 have QxO:FnOk l.prog w K mg base CX0 4 _ _ ["_law_plan_here","_law_k","_law_state","_law_worths_here","_law_door_worths"] (SpD K (ctOf K) false Qay):=QyA QnR QlT zz_zip
 have Qib:DefOk l.prog w K mg base (ctOf K) "_law_row_worth" 4 false [] Qay:=⟨_,_,_,_,QxO,W.mg_of X G Qil,QfU,QyR,.nil⟩
 have QLD:FnOk l.prog w K mg base CX0 5 _ _ ["_law_plan_here","_law_k","_law_worths_here","_law_door_worths"] (SpD K (ctOf K) false Qdb):=QLk Qx4 QlT Qib QtR zz_len zz_range
 have Qyf:DefOk l.prog w K mg base (ctOf K) "_law_mean" 5 false [] Qdb:=⟨_,_,_,_,QLD,W.mg_of X G Qqz,Ql3,QLC,.nil⟩
 have QIP:FnOk l.prog w K mg base CX0 6 _ _ ["_law_plan_here","_law_k","_law_worths_here","_law_door_worths"] (SpD K (ctOf K) true Qee):=QHx Qvt Qyf Qib QlT zz_range zz_len
 have QHw:DefOk l.prog w K mg base (ctOf K) "_law_leans" 6 true [] Qee:=⟨_,_,_,_,QIP,W.mg_of X G QpH,QjM,QGY,.nil⟩
 have QGE:FnOk l.prog w K mg base CX0 1 _ _ ["_law_found"] (SpD K (ctOf K) false Qdg):=QIG QvD zz_isinstance zz_int zz_bool
 have QGT:DefOk l.prog w K mg base (ctOf K) "_law_whole" 1 false [] Qdg:=⟨_,_,_,_,QGE,W.mg_of X G QoK,QjS,QGM,.nil⟩
 have QKS:FnOk l.prog w K mg base CX0 2 _ _ ["_law_found","_law_due"] (SpD K (ctOf K) false Qe7):=QLi Qxi QGT zz_isinstance zz_tuple zz_len
 have QJZ:DefOk l.prog w K mg base (ctOf K) "_law_same" 2 false [] Qe7:=⟨_,_,_,_,QKS,W.mg_of X G QrD,QlO,QLr,.nil⟩
 have QHX:FnOk l.prog w K mg base CX0 7 _ _ ["_law_office_here","_law_plan_here","_law_k","_law_worths_here","_law_door_worths"] (SpD K (ctOf K) false Qd7):=QI7 QvI QPi QHw QJZ Qib Qyf QlT zz_list zz_isinstance zz_len zz_range
 have QGy:DefOk l.prog w K mg base (ctOf K) "_law_asked" 7 false [] Qd7:=⟨_,_,_,_,QHX,W.mg_of X G Qpk,QjP,QIq,.nil⟩
 have QR8:FnOk l.prog w K mg base CX0 9 _ _ ["_law_script"] (SpD K (ctOf K) false QnY):=QR9 QOL QKu QF5 QDT QGy zz_len zz_range
 exact QR8
theorem walk{l:W.OpenLaw}{q:Program}{loose:List Str}{XP:(Str->Option Value)->Heap->Prop}{YP:World->Heap->Prop}{d:DefRec}{K:Params->W.Frag}(hn:l.most=some 63)(hdf:d.params.defaults=[])
 (hY:∀(w:World)(h:Heap),YP w h->(K w.params).In h) (hlaw:∀ ns:List Int,ns.length<=63->(∀ z∈ns,bitsI z<=1048576)->QnY [.lst (ns.map .int)]=.ok (.bl true))
 (F:∀(w:World)(mg:Str->Option Value)(fa:Addr)(h:Heap),(K w.params).In h->h.Ns mainGlobals mg->mg d.name=some (.ref fa)->
  ∃ fd:FuncData,(∀(s:Shared)(u:Value),BindsTo s fd ⟨[u],[]⟩ [("_law_script",u)])/\∀ base:Heap,(K w.params).In base->base.Ns mainGlobals mg->FnOk l.prog w (K w.params) mg base CX0 9 fa fd ["_law_script"] (SpD (K w.params) (ctOf (K w.params)) false QnY)):
 W.WalkO q loose XP YP l.row.toRowW d [] (fun f vs=>PySem.call f vs):=
 DL.walk_of (n:=63) (k:=9) (x:="_law_script") (CX:=fun _=>CX0) (sp:=fun w=>SpD (K w.params) (ctOf (K w.params)) false QnY) hn (by decide) hdf ⟨rfl,by decide,by decide⟩ hY F
  (fun w H a ns hl hbits _ hS=>⟨[.lst (ns.map .int)],H,Same.refl H,⟨.ref a,[],rfl,⟨a,_,rfl,hS,RepL.map_int ns⟩,rfl⟩,by rw[hlaw ns hl hbits];exact fun v H' G' _ _ _ _ r=>r⟩) fun _ _ _ _ _ z=>z
end My
open PySem PySem.W PyProof.Rows
set_option maxRecDepth 100000 in
set_option maxHeartbeats 0 in
theorem PySem.Challenge.cw_dockethall_k56_leans_holds : PySem.Challenge.rw_dockethall_k56_leans.Holds := by
 w_on;o_law;k_head;(case hw=>w_witness2)
 k_fill
 refine My.walk (l:=PySem.Challenge.rw_dockethall_k56_leans) rfl rfl (fun w h Y=>PySem.W.kIn_of Y) My.the_law ?F
 case F=>
  intro w mg fa h KX G hmg
  refine' My.all_mk KX G hmg ?QxK ?Qzm ?QAm ?Qz2 ?Qy1 ?QkK ?QfE ?Qgs ?Qfp ?Qk1 ?Qfk ?QmJ ?QkD ?QqU ?Qs3 ?QsU ?Qta ?Quc ?Qif ?QeT ?QeX ?QdX ?Qi1 ?Qeh ?QjC ?Qh3 ?Qyd ?Qzi ?QAs ?QzP ?QAq ?QkF ?QfI ?Qgh ?Qfr ?QkL ?Qfa ?Qms ?Qlm ?QxS ?Qzn ?QzY ?Qy8 ?Qy3 ?Qk0 ?QfF ?Qgi ?Qfd ?QkI ?QeZ ?Qmr ?QkR ?Qrj ?Qs8 ?Qtp ?QtN ?Qui ?Qio ?QeJ ?Qfs ?QdY ?QiI ?Qd4 ?QjG ?QiZ ?QoO ?QkQ ?Qpx ?QoG ?Qlb ?Qh1 ?QkO ?Qld ?Qm2 ?Qjy ?Qnb ?Qm8 ?Qem ?Qds ?Qeb ?Qea ?Qjp ?Qje ?Qpj ?Qll ?Qpq ?QpJ ?QhE ?Qf8 ?QhB ?QhK ?QpA ?QkH ?QoT ?QoS ?QkP ?Qv5 ?QwU ?QrM ?QrO ?QvX ?QvZ ?QwO ?Qwi ?Qrl ?Qq2 ?y1 ?y2 ?Qy2 ?QyY ?QtK ?Qtl ?QAx ?QAt ?QzS ?Qzv ?Qtt ?Qtu ?QqS ?QrN ?Qrw ?QlF ?Qpm ?QoU ?Qol ?QjV ?Qne ?QmL ?QmE ?QiQ ?QqL ?QqB ?QqO ?QlR ?QqZ ?Qq7 ?Qq3 ?QlY ?QpF ?Qpd ?Qo8 ?Qj3 ?QsR ?QtA ?QtV ?Qoj ?QmC ?QmV ?Qm1 ?QiH ?QtB ?Quz ?QtP ?Qn1 ?Qow ?QoQ ?QoZ ?QjU ?Qoz ?QoB ?Qos ?QjL ?Qq6 ?QrL ?Qrd ?QlM ?Qps ?QoE ?Qpb ?QjY ?Qrz ?QqX ?Qq4 ?QlQ ?QeA ?Qmh ?QmY ?Qdm ?Qdi ?Qjq ?QjA ?Qcz ?QtG ?Qus ?Quf ?Qn4 ?QpE ?Qo7 ?QoM ?QjT ?QqV ?QrT ?Qrk ?Ql8 ?Qkv ?QkS ?QkZ ?Qhk ?Qq8 ?QrI ?Qro ?QlI ?Qk5 ?QkT ?Qk6 ?QkU ?QsK ?QtU ?Qtw ?QnT ?Qjc ?QjF ?Qjo ?QgB ?Qci ?QgU ?QgT ?Qbr ?QwI ?QwN ?QwS ?Qrg ?Qra ?QqH ?Qq9 ?Qma ?Qpy ?Qo0 ?Qo3 ?Qo6 ?QmG ?Qmn ?QnA ?QiU ?Qov ?QoV ?Qox ?Qpn ?Qln ?QkX ?Qk2 ?Qk8 ?QoD ?Qo2 ?Qpe ?Qpt ?QoX ?Qom ?QpI ?QjX ?QmW ?QmU ?Qnd ?Qh7 ?Qlj ?Qlo ?QkG ?Qhr ?Qtm ?Qub ?Qtv ?Qn3 ?Qnx ?Qmi ?QmO ?Qi3 ?Qju ?Qjv ?Qjj ?Qgx ?QdI ?Qlf ?Qle ?Qc5 ?QaN ?QdC ?QdE ?Qar ?QeQ ?Qng ?Qno ?Qdn ?Qf6 ?Qgt ?Qgb ?QdS ?Qik ?QiG ?QiE ?QfZ ?QAy ?QzN ?QzU ?QuI ?t_shareh ?Qrx ?QqN ?Qq1 ?Ql7 ?Qjs ?Qjr ?Qjl ?Qgv ?Qi0 ?QiX ?QiL ?Qf0 ?QGh ?QDU ?QFB ?Qxn ?QAd ?QzM ?QAu ?QuN ?QqK ?QqY ?Qrc ?Qme ?Qil ?Qid ?Qie ?QfU ?Qqz ?Qrv ?Qrr ?Ql3 ?QpH ?Qpg ?Qot ?QjM ?QoK ?QpD ?QoH ?QjS ?QrD ?QrR ?Qri ?QlO ?Qpk ?Qo1 ?QoJ ?QjP ?QKN ?QKf ?QLz ?QJ1 ?z_len ?z_range ?z_int ?z_enumerate ?z_isinstance ?z_list ?z_set ?z_str ?z_all ?z_bool ?z_tuple ?z_any ?z_zip ?z_abs ?z_sum ?c_MOST_SIGNS ?c_LETTERS ?c_MOST_CLERKS ?c_MOST_ENTRIES ?c_MOST_DOORS ?c_MOST_OUTS ?c_MOST_SENT ?c_MOST_ROWS ?QkM ?Qpf ?Qpl ?Qli ?QpC ?Qi7 ?QkV ?Qla ?Qi6 ?Qk3 ?Qlq ?Qop ?Qoy ?Qky ?QoW ?Qkw ?Qo4 ?Qo9 ?QkA ?Qpr
  (case QxK=>k_is)
  (case Qzm=>k_is)
  (case QAm=>k_is)
  (case Qz2=>k_is)
  (case Qy1=>k_is)
  (case QkK=>k_is)
  (case QfE=>k_is)
  (case Qgs=>k_is)
  (case Qfp=>k_is)
  (case Qk1=>k_is)
  (case Qfk=>k_is)
  (case QmJ=>k_is)
  (case QkD=>k_is)
  (case QqU=>k_is)
  (case Qs3=>k_is)
  (case QsU=>k_is)
  (case Qta=>k_is)
  (case Quc=>k_is)
  (case Qif=>k_is)
  (case QeT=>k_is)
  (case QeX=>k_is)
  (case QdX=>k_is)
  (case Qi1=>k_is)
  (case Qeh=>k_is)
  (case QjC=>k_is)
  (case Qh3=>k_is)
  (case Qyd=>k_is)
  (case Qzi=>k_is)
  (case QAs=>k_is)
  (case QzP=>k_is)
  (case QAq=>k_is)
  (case QkF=>k_is)
  (case QfI=>k_is)
  (case Qgh=>k_is)
  (case Qfr=>k_is)
  (case QkL=>k_is)
  (case Qfa=>k_is)
  (case Qms=>k_is)
  (case Qlm=>k_is)
  (case QxS=>k_is)
  (case Qzn=>k_is)
  (case QzY=>k_is)
  (case Qy8=>k_is)
  (case Qy3=>k_is)
  (case Qk0=>k_is)
  (case QfF=>k_is)
  (case Qgi=>k_is)
  (case Qfd=>k_is)
  (case QkI=>k_is)
  (case QeZ=>k_is)
  (case Qmr=>k_is)
  (case QkR=>k_is)
  (case Qrj=>k_is)
  (case Qs8=>k_is)
  (case Qtp=>k_is)
  (case QtN=>k_is)
  (case Qui=>k_is)
  (case Qio=>k_is)
  (case QeJ=>k_is)
  (case Qfs=>k_is)
  (case QdY=>k_is)
  (case QiI=>k_is)
  (case Qd4=>k_is)
  (case QjG=>k_is)
  (case QiZ=>k_is)
  (case QoO=>k_is)
  (case QkQ=>k_is)
  (case Qpx=>k_is)
  (case QoG=>k_is)
  (case Qlb=>k_is)
  (case Qh1=>k_is)
  (case QkO=>k_is)
  (case Qld=>k_is)
  (case Qm2=>k_is)
  (case Qjy=>k_is)
  (case Qnb=>k_is)
  (case Qm8=>k_is)
  (case Qem=>k_is)
  (case Qds=>k_is)
  (case Qeb=>k_is)
  (case Qea=>k_is)
  (case Qjp=>k_is)
  (case Qje=>k_is)
  (case Qpj=>k_is)
  (case Qll=>k_is)
  (case Qpq=>k_is)
  (case QpJ=>k_is)
  (case QhE=>k_is)
  (case Qf8=>k_is)
  (case QhB=>k_is)
  (case QhK=>k_is)
  (case QpA=>k_is)
  (case QkH=>k_is)
  (case QoT=>k_is)
  (case QoS=>k_is)
  (case QkP=>k_is)
  (case Qv5=>k_is)
  (case QwU=>k_is)
  (case QrM=>k_is)
  (case QrO=>k_is)
  (case QvX=>k_is)
  (case QvZ=>k_is)
  (case QwO=>k_is)
  (case Qwi=>k_is)
  (case Qrl=>k_is)
  (case Qq2=>k_is)
  (case y1=>k_is)
  (case y2=>k_is)
  (case Qy2=>k_is)
  (case QyY=>k_is)
  (case QtK=>k_is)
  (case Qtl=>k_is)
  (case QAx=>k_is)
  (case QAt=>k_is)
  (case QzS=>k_is)
  (case Qzv=>k_is)
  (case Qtt=>k_is)
  (case Qtu=>k_is)
  (case QqS=>k_is)
  (case QrN=>k_is)
  (case Qrw=>k_is)
  (case QlF=>k_is)
  (case Qpm=>k_is)
  (case QoU=>k_is)
  (case Qol=>k_is)
  (case QjV=>k_is)
  (case Qne=>k_is)
  (case QmL=>k_is)
  (case QmE=>k_is)
  (case QiQ=>k_is)
  (case QqL=>k_is)
  (case QqB=>k_is)
  (case QqO=>k_is)
  (case QlR=>k_is)
  (case QqZ=>k_is)
  (case Qq7=>k_is)
  (case Qq3=>k_is)
  (case QlY=>k_is)
  (case QpF=>k_is)
  (case Qpd=>k_is)
  (case Qo8=>k_is)
  (case Qj3=>k_is)
  (case QsR=>k_is)
  (case QtA=>k_is)
  (case QtV=>k_is)
  (case Qoj=>k_is)
  (case QmC=>k_is)
  (case QmV=>k_is)
  (case Qm1=>k_is)
  (case QiH=>k_is)
  (case QtB=>k_is)
  (case Quz=>k_is)
  (case QtP=>k_is)
  (case Qn1=>k_is)
  (case Qow=>k_is)
  (case QoQ=>k_is)
  (case QoZ=>k_is)
  (case QjU=>k_is)
  (case Qoz=>k_is)
  (case QoB=>k_is)
  (case Qos=>k_is)
  (case QjL=>k_is)
  (case Qq6=>k_is)
  (case QrL=>k_is)
  (case Qrd=>k_is)
  (case QlM=>k_is)
  (case Qps=>k_is)
  (case QoE=>k_is)
  (case Qpb=>k_is)
  (case QjY=>k_is)
  (case Qrz=>k_is)
  (case QqX=>k_is)
  (case Qq4=>k_is)
  (case QlQ=>k_is)
  (case QeA=>k_is)
  (case Qmh=>k_is)
  (case QmY=>k_is)
  (case Qdm=>k_is)
  (case Qdi=>k_is)
  (case Qjq=>k_is)
  (case QjA=>k_is)
  (case Qcz=>k_is)
  (case QtG=>k_is)
  (case Qus=>k_is)
  (case Quf=>k_is)
  (case Qn4=>k_is)
  (case QpE=>k_is)
  (case Qo7=>k_is)
  (case QoM=>k_is)
  (case QjT=>k_is)
  (case QqV=>k_is)
  (case QrT=>k_is)
  (case Qrk=>k_is)
  (case Ql8=>k_is)
  (case Qkv=>k_is)
  (case QkS=>k_is)
  (case QkZ=>k_is)
  (case Qhk=>k_is)
  (case Qq8=>k_is)
  (case QrI=>k_is)
  (case Qro=>k_is)
  (case QlI=>k_is)
  (case Qk5=>k_is)
  (case QkT=>k_is)
  (case Qk6=>k_is)
  (case QkU=>k_is)
  (case QsK=>k_is)
  (case QtU=>k_is)
  (case Qtw=>k_is)
  (case QnT=>k_is)
  (case Qjc=>k_is)
  (case QjF=>k_is)
  (case Qjo=>k_is)
  (case QgB=>k_is)
  (case Qci=>k_is)
  (case QgU=>k_is)
  (case QgT=>k_is)
  (case Qbr=>k_is)
  (case QwI=>k_is)
  (case QwN=>k_is)
  (case QwS=>k_is)
  (case Qrg=>k_is)
  (case Qra=>k_is)
  (case QqH=>k_is)
  (case Qq9=>k_is)
  (case Qma=>k_is)
  (case Qpy=>k_is)
  (case Qo0=>k_is)
  (case Qo3=>k_is)
  (case Qo6=>k_is)
  (case QmG=>k_is)
  (case Qmn=>k_is)
  (case QnA=>k_is)
  (case QiU=>k_is)
  (case Qov=>k_is)
  (case QoV=>k_is)
  (case Qox=>k_is)
  (case Qpn=>k_is)
  (case Qln=>k_is)
  (case QkX=>k_is)
  (case Qk2=>k_is)
  (case Qk8=>k_is)
  (case QoD=>k_is)
  (case Qo2=>k_is)
  (case Qpe=>k_is)
  (case Qpt=>k_is)
  (case QoX=>k_is)
  (case Qom=>k_is)
  (case QpI=>k_is)
  (case QjX=>k_is)
  (case QmW=>k_is)
  (case QmU=>k_is)
  (case Qnd=>k_is)
  (case Qh7=>k_is)
  (case Qlj=>k_is)
  (case Qlo=>k_is)
  (case QkG=>k_is)
  (case Qhr=>k_is)
  (case Qtm=>k_is)
  (case Qub=>k_is)
  (case Qtv=>k_is)
  (case Qn3=>k_is)
  (case Qnx=>k_is)
  (case Qmi=>k_is)
  (case QmO=>k_is)
  (case Qi3=>k_is)
  (case Qju=>k_is)
  (case Qjv=>k_is)
  (case Qjj=>k_is)
  (case Qgx=>k_is)
  (case QdI=>k_is)
  (case Qlf=>k_is)
  (case Qle=>k_is)
  (case Qc5=>k_is)
  (case QaN=>k_is)
  (case QdC=>k_is)
  (case QdE=>k_is)
  (case Qar=>k_is)
  (case QeQ=>k_is)
  (case Qng=>k_is)
  (case Qno=>k_is)
  (case Qdn=>k_is)
  (case Qf6=>k_is)
  (case Qgt=>k_is)
  (case Qgb=>k_is)
  (case QdS=>k_is)
  (case Qik=>k_is)
  (case QiG=>k_is)
  (case QiE=>k_is)
  (case QfZ=>k_is)
  (case QAy=>k_is)
  (case QzN=>k_is)
  (case QzU=>k_is)
  (case QuI=>k_is)
  (case t_shareh=>k_is)
  (case Qrx=>k_is)
  (case QqN=>k_is)
  (case Qq1=>k_is)
  (case Ql7=>k_is)
  (case Qjs=>k_is)
  (case Qjr=>k_is)
  (case Qjl=>k_is)
  (case Qgv=>k_is)
  (case Qi0=>k_is)
  (case QiX=>k_is)
  (case QiL=>k_is)
  (case Qf0=>k_is)
  (case QGh=>k_is)
  (case QDU=>k_is)
  (case QFB=>k_is)
  (case Qxn=>k_is)
  (case QAd=>k_is)
  (case QzM=>k_is)
  (case QAu=>k_is)
  (case QuN=>k_is)
  (case QqK=>k_is)
  (case QqY=>k_is)
  (case Qrc=>k_is)
  (case Qme=>k_is)
  (case Qil=>k_is)
  (case Qid=>k_is)
  (case Qie=>k_is)
  (case QfU=>k_is)
  (case Qqz=>k_is)
  (case Qrv=>k_is)
  (case Qrr=>k_is)
  (case Ql3=>k_is)
  (case QpH=>k_is)
  (case Qpg=>k_is)
  (case Qot=>k_is)
  (case QjM=>k_is)
  (case QoK=>k_is)
  (case QpD=>k_is)
  (case QoH=>k_is)
  (case QjS=>k_is)
  (case QrD=>k_is)
  (case QrR=>k_is)
  (case Qri=>k_is)
  (case QlO=>k_is)
  (case Qpk=>k_is)
  (case Qo1=>k_is)
  (case QoJ=>k_is)
  (case QjP=>k_is)
  (case QKN=>k_is)
  (case QKf=>k_is)
  (case QLz=>k_is)
  (case QJ1=>k_is)
  (case z_len=>k_is)
  (case z_range=>k_is)
  (case z_int=>k_is)
  (case z_enumerate=>k_is)
  (case z_isinstance=>k_is)
  (case z_list=>k_is)
  (case z_set=>k_is)
  (case z_str=>k_is)
  (case z_all=>k_is)
  (case z_bool=>k_is)
  (case z_tuple=>k_is)
  (case z_any=>k_is)
  (case z_zip=>k_is)
  (case z_abs=>k_is)
  (case z_sum=>k_is)
  (case c_MOST_SIGNS=>k_is)
  (case c_LETTERS=>k_is)
  (case c_MOST_CLERKS=>k_is)
  (case c_MOST_ENTRIES=>k_is)
  (case c_MOST_DOORS=>k_is)
  (case c_MOST_OUTS=>k_is)
  (case c_MOST_SENT=>k_is)
  (case c_MOST_ROWS=>k_is)
  (case QkM=>kit_is)
  (case Qpf=>kit_is)
  (case Qpl=>kit_is)
  (case Qli=>kit_is)
  (case QpC=>kit_is)
  (case Qi7=>kit_is)
  (case QkV=>kit_is)
  (case Qla=>kit_is)
  (case Qi6=>kit_is)
  (case Qk3=>kit_is)
  (case Qlq=>kit_is)
  (case Qop=>kit_is)
  (case Qoy=>kit_is)
  (case Qky=>kit_is)
  (case QoW=>kit_is)
  (case Qkw=>kit_is)
  (case Qo4=>kit_is)
  (case Qo9=>kit_is)
  (case QkA=>kit_is)
  (case Qpr=>kit_is)
