import PyProof.Rows.All
import Wide.All
import OpenK.AllK
import Wide.FinOn
import Lean
import PyProof.EqAt
import PyProof.EqKinds
import PyProof.TupleCall
import PyProof.ListRange
import PyProof.PureStr
import PyProof.MeetsStr3
import PyProof.Draws
import PySem.Challenge.RW_dockethall_k58_one_handling_in_the_book
namespace PySem.W.Fast
def tw760392956997857122:=0
def tw14407839034654665775:=0
def tw9668544299160304316:=0
def tw47999263968315268:=0
def tw15086854995871175023:=0
def tw6956974582363042865:=0
def tw11976155250118137770:=0
def tw3433818487230173014:=0
def tw16999583700083032653:=0
def tw11946503779580774389:=0
def tw3736179179271488073:=0
def tw17456196276808530459:=0
def tw7094635993102606033:=0
def tw6402813650484738940:=0
def tw9979505817225600912:=0
def tw6349852553665429582:=0
def tw15110878479363069073:=0
def tw54392207356565712:=0
def tw1756744825663715285:=0
def tw17715194464882063413:=0
def tw3576964274394983294:=0
def tw8963238713576839214:=0
def tw13914392846761851877:=0
def tw4456207659980447573:=0
def tw3729547421943407953:=0
def tw10702452610319730690:=0
def tw4868382928116927210:=0
def tw12365838009510990797:=0
def tw10824476870751883757:=0
def tw10288612158333549459:=0
def tw5267585394347052934:=0
def tw15853927964146023282:=0
def tw11673061737306486224:=0
def tw2668944309680273404:=0
def tw15031929731051652664:=0
def tw9724252017691423842:=0
def tw9548419472998665403:=0
def tw9910971361450275647:=0
def tw16961484350481525233:=0
def tw13766021873624210787:=0
def tw12807963060550917962:=0
def tw3749797628009229471:=0
def tw5728919624303292384:=0
def tw3191920886620256608:=0
def tw17561534306489049056:=0
def tw15487016845041419356:=0
def tw9940525395085941786:=0
def tw9889973206940253433:=0
def tw15382936194690997762:=0
def tw4555041232611242329:=0
def tw3035721584376787544:=0
def tw8946296959150398197:=0
def tw7698993845397370532:=0
def tw6035356885116893345:=0
def tw14660603701600459592:=0
def tw7358892169555442162:=0
def tw14520157502333599408:=0
def tw8093904128164758989:=0
def tw7412962964989092472:=0
def tw2193507094540498039:=0
def tw13201563593877472055:=0
def tw17816896476866131189:=0
def tw537107195650807183:=0
def tw15340758376527334553:=0
def tw17091778595971719524:=0
def tw16391271435707261099:=0
def tw1825114163942343393:=0
def tw6120029570961665165:=0
def tw2217530648326984883:=0
def tw881270302985268848:=0
def tw14298877429215262247:=0
def tw16302739629344380661:=0
def tw8106245266916000666:=0
def tw8434382415084585471:=0
def tw7458755095930263203:=0
def tw5292222960768235151:=0
def tw4870908588292605678:=0
def tw9536413417060660394:=0
def tw18366926304598555144:=0
def tw7926725976362506134:=0
def tw5015163147041561180:=0
def tw10307806589235242798:=0
def tw15821408967677783868:=0
def tw14429257129472624831:=0
def tw10152471986863073476:=0
def tw17535636491307960682:=0
def tw16614079885960243899:=0
def tw10098657364816191300:=0
def tw14779988326063048729:=0
def tw4526087128558504125:=0
def tw6757476872033460791:=0
def tw6309815180674928445:=0
def tw4141926842719839440:=0
def tw2339266846092747615:=0
def tw9040101696642974495:=0
def tw15606713498076294742:=0
def tw5115415260693698674:=0
def tw5804671909259071886:=0
def tw6687032106990515407:=0
def tw16483940338298266787:=0
def tw12321437570444278853:=0
def tw12240862579947051514:=0
def tw8854221283655921416:=0
def tw3756597397907178793:=0
def tw2697409118067641134:=0
def tw3040948202430679873:=0
def tw4339704059798555182:=0
def tw3463152799944856334:=0
def tw6680993233800917777:=0
def tw12928957181982881551:=0
def tw17498143959788673432:=0
def tw12211615023345239494:=0
def tw50704928634740483:=0
def tw15306069751451069251:=0
def tw2587758178833504046:=0
def tw17769118282853095527:=0
def tw9616600997392570799:=0
def tw8057588630684648763:=0
def tw4098631100010676962:=0
def tw15447488430336712707:=0
def tw7793137651529027994:=0
def tw7972246356509395867:=0
def tw5614801744794065306:=0
def tw13182024149323472279:=0
def tw13955492466060999832:=0
def tw2688830033837160091:=0
def tw6549649537087962756:=0
def tw12305052783298188083:=0
def tw1768724397732591785:=0
def tw14795352568924996882:=0
def tw16685995137949271429:=0
def tw3071294242134291891:=0
end PySem.W.Fast
set_option hygiene false
local macro_rules
 | `(‹"a"›) => `(fun ys=>(if fits (acc++ys).length=true then Out.ok (D.lst (acc++ys)) else .stuck).post (fun d=>∀ H' G',StR C G' H' σ ς->Same H H'->Same G G'->G' p=none->Own C.X.K C.CT G' H' p d->Q (.ref p) H') C.XD)
 | `(‹"b"›) => `(starEach (e::es) C.X.env=(false,eval e C.X.env)::starEach es C.X.env)
 | `(‹"c"›) => `([some (.k,P),some (.k,.int (k:Int)),some (.k,.int (s:Int)),some (.k,rl n (fun i=>fr (wr i))),some (.k,rl nd (fun i=>fr (dw i))),some (.k,fr zero1),none,none,none])
 | `(‹"d"›) => `((x == ("__debug__":Str))=false)
 | `(‹"e"›) => `(de_ix (Qa 0) (DE.db Qe))
 | `(‹"f"›) => `(fun ς=>QN (Qr rfl ς))
 | `(‹"g"›) => `(Inv X pins σ H s)
 | `(‹"h"›) => `(planD kd t m ld st)
 | `(‹"i"›) => `(model X.prog X.w)
 | `(‹"j"›) => `([some (.k,S),some (.k,.int f0),some (.k,.int (n:Int)),some (.k,.int (nd:Int)),some (.k,.bl ring),some (.o,PL),some (.k,.int (k:Int)),some (.k,.int num),some (.k,.int kd),some (.k,tbD t),some (.o,.lst []),a11,a12])
 | `(‹"k"›) => `(DE.db (Qak rfl z_len (Qv (DE.db (Qa 0)) Qz)))
 | `(‹"l"›) => `(eMake "Office" QaF (aCons (eVar 3) (aCons (eLst (aCons (eTup (aCons (eC (.str "in")) (aCons (eC (.str "ca")) aNil))) aNil)) (aCons (eComp [none,some 2] (itR1 (eVar 1)) (gN 0) cTrue QcU) aNil))))
 | `(‹"m"›) => `(Value->Shared->Prop)
 | `(‹"n"›) => `(starEach (e::es) X.env=(false,eval e X.env)::starEach es X.env)
 | `(‹"o"›) => `(.builtin "object.__class__")
 | `(‹"p"›) => `(e2 dIx (eVar 0) (eC (.int 1)))
 | `(‹"q"›) => `(aCons (eVar 1) aNil)
 | `(‹"r"›) => `(0+dkt (m k) (ld k) (rw' (t k) (sk k)) (-1 - (i:Int)))
 | `(‹"s"›) => `(.ListComp elt [⟨tg,iter,ifs,0⟩] scope pos)
 | `(‹"t"›) => `(e2 dIx (eVar 0) (eC (.int 0)))
 | `(‹"u"›) => `([some (.k,d0),some (.k,d1)])
 | `(‹"v"›) => `(List (Addr×Obj))
 | `(‹"w"›) => `(aCons (eVar 0) aNil)
 | `(‹"x"›) => `(e2 dMod (e2 dFdiv (eA (fun xs=>QH (xs++[])) (aCons (eVar 0) (aCons (eC (.int 89)) aNil))) (eC (.int 2))) (e2 dIx (eLst (aCons (eC (.int 12)) (aCons (e2 dPow (eC (.int 10)) (eC (.int 9))) aNil))) (e2 dMod (eA (fun xs=>QH (xs++[])) (aCons (eVar 0) (aCons (eC (.int 89)) aNil))) (eC (.int 2)))))
 | `(‹"y"›) => `(MtOk P w K mg base CT CX0 "period" 1 Qc (fun c=>SpD K CT false ((fun _=>QI) c)))
 | `(‹"z"›) => `(eTup (aCons (eVar 8) (aCons (eVar 9) (aCons (eVar 10) (aCons (e2 dMod (e2 dMod (eVar 7) (eC (.int 7))) (eA fLen (aCons (eVar 9) aNil))) aNil)))))
 | `(‹"A"›) => `(ccOf C N' scope fp s H G p)
 | `(‹"B"›) => `([some (.k,S),some (.k,.int v),some (.k,.int (n:Int)),some (.k,.int (nd:Int)),some (.k,.bl ring),some (.o,.lst ((List.range k).map ‹"h"›++[.tup [.int w',tbD t',rl m' (fun j=>.int (ld' j)),.int (num % 7 % (t'.length:Int))]])),some (.k,.int (k:Int)),some (.k,.int num),some (.k,.int w'),some (.k,tbD t'),some (.k,rl m' (fun j=>.int (ld' j))),b11,b12])
 | `(‹"C"›) => `([some (.k,S),some (.k,rl n ‹"h"›),some (.k,.int (nd:Int)),some (.k,rl n (fun i=>.int (sk i))),some (.k,rl n (fun i=>.int (de i))),some (.k,offD n nd nm dn c t m ld st),a6,some (.k,rl n (fun i=>fr (wr i))),some (.k,rl nd (fun i=>fr (dw i))),some (.k,rl nd (fun i=>.int (ou i))),some (.k,fr p),some (.k,.int cell),a12,a13,a14,a15])
 | `(‹"D"›) => `([some (.k,.lst (ns.map .int)),some (.k,rl n ‹"h"›),some (.k,.int (nd:Int)),some (.k,rl n (fun i=>.int (st i))),some (.k,rl n (fun i=>.int (K i))),some (.k,offD n nd nmC dnC c t m ld st),some (.k,SO),some (.k,W),some (.k,DW),some (.k,rl nd (fun i=>.int 0)),some (.k,fr p),none,none,none,none,none])
 | `(‹"E"›) => `(if i<n then wr i else dw (i - n))
 | `(‹"F"›) => `([some (.k,S),some (.k,.int f0),some (.k,.int (n:Int)),some (.k,.int (nd:Int)),some (.k,.bl ring),some (.o,PL),some (.k,.int (k:Int)),some (.k,.int num),some (.k,.int kd),some (.k,tbD t),some (.o,rl j (fun j=>.int (ld j))),some (.k,.int (j:Int)),some (.k,.int z)])
 | `(‹"G"›) => `((.k,rl nd (fun d=>.str (dn d))))
 | `(‹"H"›) => `(List (List Int))
 | `(‹"I"›) => `((x == ("__classdict__":Str))=false)
 | `(‹"J"›) => `(fun j=>.int (ld k j))
 | `(‹"K"›) => `(fun c hc=>⟨(fp c hc).2.2.2.1,(fp c hc).2.1,(fp c hc).2.2.2.2.1,(fp c hc).2.2.2.2.2⟩)
 | `(‹"L"›) => `(QaC (DE.db ‹"e"›) (DE.db (de_ix (Qa 1) (DE.db Qe))))
 | `(‹"M"›) => `(fun i=>.int (dn1 K k i+dkt (m k) (ld k) (rw' (t k) (S k)) (i:Int)))
 | `(‹"N"›) => `(QbY "list" QjI rfl z_list PyProof.Rows.Boot.«list» rfl z_isinstance (DE.db (Qa 0)))
set_option hygiene true
set_option Elab.async false
set_option linter.all false
set_option maxRecDepth 100000
theorem oi{a b:Prop}(h:a):a∨b:=Or.inl h
theorem dk{p:Prop}(h:p:=by decide +kernel):p:=h
namespace L2
open PySem PySem.Spec PyProof.Rows
abbrev Key:=Sum Int Str
def keyIs:Key->Value->Bool
 | .inl k,v=>Value.isInt k v
 | .inr x,v=>Value.isStrOf x v
def keyH(w:World):Key->Int
 | .inl k=>hashInt k
 | .inr x=>hashStr w x
theorem QbB:∀{k:Key}{v:Value},keyIs k v=true->(∃ i t,k=Sum.inl i/\v=Value.int i t)∨(∃ x t,k=Sum.inr x/\v=Value.str x t)
 | .inl i,v,h=>by
  obtain⟨t,e⟩:=Value.isInt_shape (k:=i) (v:=v) h
  exact .inl ⟨i,t,rfl,e⟩
 | .inr x,v,h=>by
  obtain⟨t,e⟩:=Value.isStrOf_shape (x:=x) (v:=v) h
  exact .inr ⟨x,t,rfl,e⟩
theorem QJP(i:Int)(t:Tok):keyIs (.inl i) (.int i t)=true:=by simp[keyIs,Value.isInt]
theorem QKl(x:Str)(t:Tok):keyIs (.inr x) (.str x t)=true:=by simp[keyIs,Value.isStrOf]
theorem QPm(a b:Int):decide ((Sum.inl a:Key)=Sum.inl b)=(a == b):=by
 by_cases e:a=b
 ·subst e;simp
 ·have h:¬ (Sum.inl a:Key)=Sum.inl b:=fun q=>e (Sum.inl.inj q)
  rw[decide_eq_false h]
  exact(beq_eq_false_iff_ne.mpr e).symm
theorem QPz(a b:Str):decide ((Sum.inr a:Key)=Sum.inr b)=decide (a=b):=by
 by_cases e:a=b
 ·subst e;simp
 ·have h:¬ (Sum.inr a:Key)=Sum.inr b:=fun q=>e (Sum.inr.inj q)
  rw[decide_eq_false h,decide_eq_false e]
theorem QPl(a:Int)(b:Str):decide ((Sum.inl a:Key)=Sum.inr b)=false:=decide_eq_false (fun q=>nomatch q)
theorem QPq(a:Str)(b:Int):decide ((Sum.inr a:Key)=Sum.inl b)=false:=decide_eq_false (fun q=>nomatch q)
def Qbq(prog:Program)(w:World):PySem.KeyKind prog w Key where
 is:=keyIs
 hash:=keyH w
 inj:=fun v a b ha hb=>by
  rcases QbB ha with⟨i,t,rfl,rfl⟩ | ⟨x,t,rfl,rfl⟩
  ·rcases QbB hb with⟨j,u,rfl,e⟩ | ⟨y,u,rfl,e⟩
   ·injection e with e1 _;rw[e1]
   ·exact nomatch e
  ·rcases QbB hb with⟨j,u,rfl,e⟩ | ⟨y,u,rfl,e⟩
   ·exact nomatch e
   ·injection e with e1 _;rw[e1]
 byValue:=fun k v h=>by
  rcases QbB h with⟨i,t,rfl,rfl⟩ | ⟨x,t,rfl,rfl⟩<;>rfl
 pyHash:=fun hv h=>by
  rcases QbB hv with⟨i,t,rfl,rfl⟩ | ⟨x,t,rfl,rfl⟩
  ·exact wpAny_pyHash_int h
  ·exact wpAny_pyHash_str h
 eqBool:=fun hu hv h=>by
  rcases QbB hu with⟨i,t,rfl,rfl⟩ | ⟨x,t,rfl,rfl⟩
  ·rcases QbB hv with⟨j,u,rfl,rfl⟩ | ⟨y,u,rfl,rfl⟩
   ·rw[QPm]at h;exact wpAny_eqBool_int h
   ·rw[QPl]at h;exact SeqAt.EqAt.int_str i t y u _ _ _ _ h
  ·rcases QbB hv with⟨j,u,rfl,rfl⟩ | ⟨y,u,rfl,rfl⟩
   ·rw[QPq]at h;exact SeqAt.EqAt.str_int x t j u _ _ _ _ h
   ·rw[QPz]at h;exact wpAny_eqBool_str h
 «strs»:=fun k x t v h=>by
  rcases QbB h with⟨i,u,rfl,e⟩ | ⟨y,u,rfl,e⟩
  ·exact nomatch e
  ·injection e with e1 _
   subst e1
   cases v<;>rfl
theorem QDe(prog:Program)(w:World)(i:Int)(t:Tok):(Qbq prog w).is (.inl i) (.int i t)=true:=QJP i t
theorem QA1(prog:Program)(w:World)(x:Str)(t:Tok):(Qbq prog w).is (.inr x) (.str x t)=true:=QKl x t
end L2
namespace L2
open PySem PySem.Spec PyProof.Rows
inductive V where
 | non | bl (b:Bool) | int (i:Int) | str (x:Str) | byt (b:Array UInt8) | flt (b:UInt64) | ref (a:Addr) | ty (n:String)
 deriving DecidableEq
def RelV:V->Value->Prop
 | .non,u=>u=Value.none
 | .bl b,u=>u=Value.bool b
 | .int i,u=>∃ t,u=Value.int i t
 | .str x,u=>∃ t,u=Value.str x t
 | .byt b,u=>∃ t,u=Value.bytes b t
 | .flt b,u=>∃ t,u=Value.float b t
 | .ref a,u=>u=Value.ref a
 | .ty n,u=>u=Value.type n
abbrev Vals:List V->List Value->Prop:=Paired RelV
theorem Vals.length{xs:List V}{us:List Value}(r:Vals xs us):xs.length=us.length:=Paired.length r
theorem Vals.get:∀{xs:List V}{us:List Value}{i:Nat}{x:V},Vals xs us->xs[i]?=some x->∃ u,us[i]?=some u/\RelV x u
 | _,_,_,_,.nil,e=>by simp at e
 | _,_,0,_,.cons r _,e=>by simp at e;subst e;exact⟨_,rfl,r⟩
 | _,_,i+1,x,.cons _ t,e=>by
  obtain⟨u,h1,h2⟩:=Vals.get (i:=i) (x:=x) t (by simpa using e)
  exact⟨u,by simpa using h1,h2⟩
theorem Vals.set{x:V}{u:Value}(r:RelV x u):∀{xs:List V}{us:List Value}(i:Nat),Vals xs us->Vals (xs.set i x) (us.set i u)
 | _,_,_,.nil=>.nil
 | _,_,0,.cons _ t=>.cons r t
 | _,_,i+1,.cons q t=>.cons q (Vals.set r i t)
theorem Vals.append:∀{xs ys:List V}{us ws:List Value},Vals xs us->Vals ys ws->Vals (xs++ys) (us++ws)
 | _,_,_,_,.nil,s=>s
 | _,_,_,_,.cons r t,s=>.cons r (Vals.append t s)
theorem Vals.take:∀{xs:List V}{us:List Value}(n:Nat),Vals xs us->Vals (xs.take n) (us.take n)
 | _,_,0,_=>.nil
 | _,_,_+1,.nil=>.nil
 | _,_,n+1,.cons r t=>.cons r (Vals.take n t)
theorem Vals.drop:∀{xs:List V}{us:List Value}(n:Nat),Vals xs us->Vals (xs.drop n) (us.drop n)
 | _,_,0,r=>r
 | _,_,_+1,.nil=>.nil
 | _,_,n+1,.cons _ t=>Vals.drop n t
def RelO:Option V->Option Value->Prop
 | some v,some u=>RelV v u
 | none,none=>True
 | _,_=>False
def KV{κ:Type}:List (κ×V)->List (κ×Value)->Prop:=Paired fun(p:κ×V) (q:κ×Value)=>p.1=q.1/\RelV p.2 q.2
def kV:Key->V
 | .inl i=>.int i
 | .inr x=>.str x
inductive HO where
 /-- a list -/
 | lst (xs:List V)
 /-- a tuple (never changes) -/
 | tup (xs:List V)
 /-- a dict whose keys are ints and texts;one whose keys are tuples of ints and texts (the empty one is both) -/
 | dK (kvs:List (Key×V)) | dT (kvs:List (List Key×V))
 /-- a set of ints: its members,its size -/
 | set (S:Int->Bool) (n:Nat)
 /-- an instance of the class at C,its dict at dx,its attributes -/
 | ins (C dx:Addr) (fs:List (Str×V))
 /-- the dict of the instance at x -/
 | own (x:Addr)
 /-- the dict of an exception -/
 | xd (fs:List (Str×V))
 /-- a bound method,f of x -/
 | met (f x:Addr)
 /-- a range object lo,lo+1, .. below hi -/
 | rng (lo hi:Int)
 /-- a thing that is known to the object (the script;a dict while a loop walks it): read,never written while it is so -/
 | frz (o:Obj) (u:HO)
 /-- a code object's table -/
 | tbl (ps:Array Value)
 /-- any other thing,by what is true of its one object (a def of one's own: SetO a S n:=HO.ext fun h => ..) -/
 | ext (φ : Heap->Prop)
abbrev Hp:=Addr->Option HO
def upd(H:Hp)(a:Addr)(o:HO):Hp:=fun b=>if b=a then some o else H b
theorem QP{H:Hp}{a:Addr}{o:HO}:upd H a o a=some o:=by unfold upd;rw[if_pos rfl]
theorem Qn{H:Hp}{a b:Addr}{o:HO}(h:b≠a):upd H a o b=H b:=by unfold upd;rw[if_neg h]
theorem QNi{H:Hp}{a:Addr}{o u:HO}:upd (upd H a o) a u=upd H a u:=by
 funext b;unfold upd;split<;>rfl
theorem ne_of{H:Hp}{a b:Addr}{o u:HO}(h:H a=some o)(h':H b=some u)(d:o≠u):a≠b:=by
 intro e;subst e;rw[h]at h';exact d (Option.some.inj h')
theorem QW{H:Hp}{a b:Addr}{o:HO}(h:H a=some o)(h':H b=none):a≠b:=by
 intro e;subst e;rw[h]at h';cases h'
section
variable(P:Program)(w:World)
def ObjOk(H:Hp)(h:Heap)(a:Addr):HO->Prop
 | .lst xs=>xs.length<=sizeLine/\∃(its:List Value)(n:Nat),Vals xs its/\h.get? a=some { cls:=.type "list",data:=.seq its.toArray n }
 | .tup xs=>xs.length<=sizeLine/\∃ its:List Value,Vals xs its/\IsTup h a its.toArray
 | .dK kvs=>kvs.length<=sizeLine/\(a == sysModules)=false/\∃ vs,KV kvs vs/\h.DictOf (Qbq P w) a vs
 | .dT kvs=>kvs.length<=sizeLine/\(a == sysModules)=false/\∃ xs:List (List Key×Addr×Value),
  Paired (fun(p:List Key×V) (q:List Key×Addr×Value)=>p.1=q.1/\H q.2.1=some (.tup (p.1.map kV))/\RelV p.2 q.2.2) kvs xs/\
  ∃ o es ep,h.get? a=some o/\o.ExactDict/\o.data=.dict es ep/\es.toList=xs.map (entryOfKey (tupleKind (Qbq P w)))/\(xs.map (·.1)).Nodup
 | .set S n=>h.SetOf (intKind P w) a S n
 | .ins C dx fs=>H dx=some (.own a)/\fs.length<=1000/\dx≠a/\h.get? a=some (W.instObj C dx)/\
  ∃ mA,h.Ns1 dx mA/\(∀ f,RelO (fs.lookup f) (mA f))/\PySem.Within mA (fs.map (·.1))
 | .own _=>∃ o,h.get? a=some o
 | .xd fs=>∃ mA,h.Ns1 a mA/\∀ f,RelO (fs.lookup f) (mA f)
 | .rng lo hi=>∃ t u v,h.get? a=some { cls:=.type "range",data:=.fields #[.int lo t,.int hi u,.int 1 v] }
 | .frz o u=>h.get? a=some o/\ObjOk H h a u
 | .tbl ps=>h.get? a=some { cls:=.none,data:=.fields ps }
 | .met f x=>h.get? a=some (W.methodObj (.ref f) (.ref x))
 | .ext φ => φ h/\(∃ o,h.get? a=some o)/\∀ h1 h2:Heap, φ h1->(∀ o,h1.get? a=some o->h2.get? a=some o) -> φ h2
def HOk(H:Hp)(h:Heap):Prop:=∀ a o,H a=some o->ObjOk P w H h a o
end
section
variable{P:Program}{w:World}{H H':Hp}{h h':Heap}{a:Addr}{o:HO}
theorem ObjOk.lt(x:ObjOk P w H h a o):a<h.objs.size:=by
 cases o with
 | lst xs=>obtain⟨_,_,_,_,e⟩:=x;exact Heap.lt_size e
 | tup xs=>obtain⟨_,_,_,p⟩:=x;exact p.lt
 | dK kvs=>obtain⟨_,_,_,_,o,_,_,e,_⟩:=x;exact Heap.lt_size e
 | dT kvs=>obtain⟨_,_,_,_,o,_,_,e,_⟩:=x;exact Heap.lt_size e
 | set S n=>obtain⟨o,_,_,_,e,_⟩:=x;exact Heap.lt_size e
 | ins C dx fs=>obtain⟨_,_,_,e,_⟩:=x;exact Heap.lt_size e
 | own y=>obtain⟨_,e⟩:=x;exact Heap.lt_size e
 | xd fs=>obtain⟨_,⟨_,_,_,e,_⟩,_⟩:=x;exact Heap.lt_size e
 | rng lo hi=>obtain⟨_,_,_,e⟩:=x;exact Heap.lt_size e
 | frz ob u=>obtain⟨e,_⟩:=x;exact Heap.lt_size e
 | tbl ps=>exact Heap.lt_size (show h.get? a=some _ from x)
 | met f y=>exact Heap.lt_size (show h.get? a=some _ from x)
 | ext φ => obtain⟨_,⟨_,e⟩,_⟩:=x;exact Heap.lt_size e
theorem Paired.mapP{α β:Type}{F G:α->β->Prop}:∀{l₁:List α}{l₂ : List β},Paired F l₁ l₂ -> (∀ a b,F a b->G a b)->Paired G l₁ l₂
 | _,_,.nil,_=>.nil
 | _,_,.cons r t,f=>.cons (f _ _ r) (Paired.mapP t f)
theorem ObjOk.stay(x:ObjOk P w H h a o)(k:∀ b u,(b=a∨H b=some (.own a))->h.get? b=some u->h'.get? b=some u)
 (ho:∀ b,H b=some (.own a)->H' b=some (.own a)) (ht:∀ b xs,H b=some (.tup xs)->H' b=some (.tup xs)):ObjOk P w H' h' a o:=by
 induction o with
 | lst xs=>obtain⟨z,its,n,r,e⟩:=x;exact⟨z,its,n,r,k _ _ (.inl rfl) e⟩
 | tup xs=>obtain⟨z,its,r,ob,e,c⟩:=x;exact⟨z,its,r,ob,k _ _ (.inl rfl) e,c⟩
 | dK kvs=>obtain⟨z,y,vs,r,ob,es,ep,e,c⟩:=x;exact⟨z,y,vs,r,ob,es,ep,k _ _ (.inl rfl) e,c⟩
 | dT kvs=>
  obtain⟨z,y,xs,r,ob,es,ep,e,c⟩:=x
  exact⟨z,y,xs,Paired.mapP r fun p q z=>⟨z.1,ht _ _ z.2.1,z.2.2⟩,ob,es,ep,k _ _ (.inl rfl) e,c⟩
 | set S n=>obtain⟨ob,es,ep,t,e,c⟩:=x;exact⟨ob,es,ep,t,k _ _ (.inl rfl) e,c⟩
 | ins C dx fs=>
  obtain⟨d,z,ne,e,mA,⟨od,es,ep,e2,c⟩,r⟩:=x
  exact⟨ho _ d,z,ne,k _ _ (.inl rfl) e,mA,⟨od,es,ep,k _ _ (.inr d) e2,c⟩,r⟩
 | own y=>obtain⟨ob,e⟩:=x;exact⟨ob,k _ _ (.inl rfl) e⟩
 | xd fs=>obtain⟨mA,⟨od,es,ep,e,c⟩,r⟩:=x;exact⟨mA,⟨od,es,ep,k _ _ (.inl rfl) e,c⟩,r⟩
 | rng lo hi=>obtain⟨t,u,v,e⟩:=x;exact⟨t,u,v,k _ _ (.inl rfl) e⟩
 | frz ob u ih=>obtain⟨e,q⟩:=x;exact⟨k _ _ (.inl rfl) e,ih q⟩
 | tbl ps=>
  have e:h.get? a=some { cls:=.none,data:=.fields ps }:=x
  show h'.get? a=some { cls:=.none,data:=.fields ps }
  exact k a _ (.inl rfl) e
 | met f y=>
  have e:h.get? a=some (W.methodObj (.ref f) (.ref y)):=x
  show h'.get? a=some (W.methodObj (.ref f) (.ref y))
  exact k a _ (.inl rfl) e
 | ext φ => obtain⟨p,⟨o,e⟩,st⟩:=x;exact⟨st _ _ p fun o q=>k _ _ (.inl rfl) q,⟨o,k _ _ (.inl rfl) e⟩,st⟩
theorem HOk.lt(x:HOk P w H h)(e:H a=some o):a<h.objs.size:=(x a o e).lt
theorem HOk.fresh(x:HOk P w H h)(e:h.objs.size<=a):H a=none:=by
 cases q:H a with
 | none=>rfl
 | some u=>exact absurd (Nat.lt_of_lt_of_le (x.lt q) e) (Nat.lt_irrefl _)
theorem HOk.kept(x:HOk P w H h)(k:∀ b u,h.get? b=some u->h'.get? b=some u):HOk P w H h':=fun a o e=>
 (x a o e).stay (fun b u _ q=>k b u q) (fun _ q=>q) fun _ _ q=>q
theorem HOk.laid(x:HOk P w H h)(k:∀ b u,h.get? b=some u->h'.get? b=some u)(hp:h.objs.size<=a)(new:ObjOk P w (upd H a o) h' a o):HOk P w (upd H a o) h':=fun b u e=>by
 have hn:=x.fresh hp
 by_cases hb:b=a
 ·subst hb;rw[QP]at e;cases e;exact new
 ·rw[Qn hb]at e
  exact(x b u e).stay (fun c v _ q=>k c v q) (fun c q=>by rw[Qn (QW q hn)];exact q) fun c xs q=>by rw[Qn (QW q hn)];exact q
end
def Rd(H:Hp)(a:Addr)(u:HO):Prop:=H a=some u∨∃ o,H a=some (.frz o u)
theorem Rd.of{H:Hp}{a:Addr}{u:HO}(h:H a=some u):Rd H a u:=.inl h
theorem Rd.ok{P:Program}{w:World}{H:Hp}{h:Heap}{a:Addr}{u:HO}(r:Rd H a u)(x:HOk P w H h):ObjOk P w H h a u:=by
 rcases r with r | ⟨o,r⟩
 ·exact x a u r
 ·obtain⟨_,q⟩:=x a _ r
  exact q
def Mut:Option HO->Prop
 | some (.lst _)=>True
 | some (.dK _)=>True
 | some (.dT _)=>True
 | some (.set _ _)=>True
 | some (.ins _ _ _)=>True
 | some (.ext _)=>True
 | _=>False
section
variable{P:Program}{w:World}{H:Hp}{h h':Heap}{x e:Addr}{o':HO}
theorem HOk.write(ok:HOk P w H h)(mu:Mut (H x))(he:e=x∨H e=some (.own x))(k:∀ b u,b≠e->h.get? b=some u->h'.get? b=some u)(heo:∃ u,h'.get? e=some u)
 (new:ObjOk P w (upd H x o') h' x o'):HOk P w (upd H x o') h':=fun b u q=>by
 have nown:∀ c y,H c=some (.own y)->c≠x:=fun c y r z=>by subst z;rw[r]at mu;exact mu
 have ntup:∀ c xs,H c=some (.tup xs)->c≠x:=fun c xs r z=>by subst z;rw[r]at mu;exact mu
 by_cases hb:b=x
 ·subst hb;rw[QP]at q;cases q;exact new
 ·rw[Qn hb]at q
  by_cases hbe:b=e
  ·have q':H b=some (.own x):=by
    rcases he with z | z
    ·exact absurd (hbe.trans z) hb
    ·rw[hbe];exact z
   rw[q]at q';cases q'
   obtain⟨v,hv⟩:=heo
   exact⟨v,by rw[hbe];exact hv⟩
  ·refine(ok b u q).stay (fun c v hc r=>k c v ?_ r) (fun c r=>by rw[Qn (nown c b r)];exact r) fun c xs r=>by rw[Qn (ntup c xs r)];exact r
   rcases hc with rfl | hc
   ·exact hbe
   ·rintro rfl
    rcases he with z | z
    ·exact nown c b hc z
    ·rw[hc]at z;cases z;exact hb rfl
end
structure Un(fs ex:List Addr)(H H':Hp)(h h':Heap):Prop where
 keep:∀ b o,h.get? b=some o->H b=none->b∉fs->b∉ex->h'.get? b=some o
 slot:∀ b o,h.get? b=some o->H b=none->b∈fs->b∉ex->∃ sl,h'.get? b=some { o with slots:=sl }
 free:∀ b o,h.get? b=some o->H b=none->b∉ex->H' b=none
 there:∀ b o,h.get? b=some o->b∉ex->∃ o',h'.get? b=some o'
 tups:∀ b xs,H b=some (.tup xs)->H' b=some (.tup xs)
 frzs:∀ b o u,H b=some (.frz o u)->H' b=some (.frz o u)
 tbls:∀ b ps,H b=some (.tbl ps)->∃ more,H' b=some (.tbl (ps++more))
section
variable{fs fs' ex ex':List Addr}{H H1 H2:Hp}{h h1 h2 h':Heap}{a x e:Addr}{o:HO}
theorem Un.any(u:Un fs ex H H1 h h1){b:Addr}{ob:Obj}(q:h.get? b=some ob)(n:H b=none)(hx:b∉ex):∃ sl,h1.get? b=some { ob with slots:=sl }:=by
 by_cases hb:b∈fs
 ·exact u.slot b ob q n hb hx
 ·exact⟨ob.slots,u.keep b ob q n hb hx⟩
theorem Un.trans(a:Un fs ex H H1 h h1)(b:Un fs ex H1 H2 h1 h2):Un fs ex H H2 h h2 where
 keep:=fun c ob q n hc hx=>b.keep c ob (a.keep c ob q n hc hx) (a.free c ob q n hx) hc hx
 slot:=fun c ob q n hc hx=>by
  obtain⟨sl,e1⟩:=a.slot c ob q n hc hx
  obtain⟨sl',e2⟩:=b.slot c _ e1 (a.free c ob q n hx) hc hx
  exact⟨sl',e2⟩
 free:=fun c ob q n hx=>by
  obtain⟨o',e1⟩:=a.there c ob q hx
  exact b.free c o' e1 (a.free c ob q n hx) hx
 there:=fun c ob q hx=>by
  obtain⟨o',e1⟩:=a.there c ob q hx
  exact b.there c o' e1 hx
 tups:=fun c xs q=>b.tups c xs (a.tups c xs q)
 frzs:=fun c ob xs q=>b.frzs c ob xs (a.frzs c ob xs q)
 tbls:=fun c ps q=>by
  obtain⟨m1,e1⟩:=a.tbls c ps q
  obtain⟨m2,e2⟩:=b.tbls c _ e1
  exact⟨m1++m2,by rw[e2,Array.append_assoc]⟩
theorem Un.kept(k:∀ b u,h.get? b=some u->h'.get? b=some u):Un fs ex H H h h':=
 ⟨fun b ob q _ _ _=>k b ob q,fun b ob q _ _ _=>⟨ob.slots,k b ob q⟩,fun _ _ _ n _=>n,fun b ob q _=>⟨ob,k b ob q⟩,fun _ _ q=>q,fun _ _ _ q=>q,fun _ ps q=>⟨#[],by rw[q];simp⟩⟩
theorem Un.refl:Un fs ex H H h h:=Un.kept fun _ _ q=>q
theorem Un.laid(k:∀ b u,h.get? b=some u->h'.get? b=some u)(hp:h.objs.size<=a)(hn:H a=none):Un fs ex H (upd H a o) h h' where
 keep:=fun b u q _ _ _=>k b u q
 slot:=fun b u q _ _ _=>⟨u.slots,k b u q⟩
 free:=fun b u q n _=>by rw[Qn (Nat.ne_of_lt (Nat.lt_of_lt_of_le (Heap.lt_size q) hp))];exact n
 there:=fun b u q _=>⟨u,k b u q⟩
 tups:=fun b xs q=>by rw[Qn (QW q hn)];exact q
 frzs:=fun b u xs q=>by rw[Qn (QW q hn)];exact q
 tbls:=fun b ps q=>⟨#[],by rw[Qn (QW q hn),q];simp⟩
theorem Un.write(mu:Mut (H x))(he:e=x∨H e=some (.own x))(k:∀ b u,b≠e->h.get? b=some u->h'.get? b=some u)(heo:∃ u,h'.get? e=some u):Un fs ex H (upd H x o) h h':=by
 have hx:∀ b,H b=none->b≠x:=fun b n z=>by subst z;rw[n]at mu;exact mu
 have hb:∀ b,H b=none->b≠e:=fun b n z=>by
  subst z
  rcases he with r | r
  ·exact hx b n r
  ·rw[n]at r;cases r
 have hm:∀ b u,H b=some u->¬ Mut (some u)->b≠x:=fun b u q nm z=>by subst z;rw[q]at mu;exact nm mu
 refine⟨fun b u q n _ _=>k b u (hb b n) q,fun b u q n _ _=>⟨u.slots,k b u (hb b n) q⟩,fun b u q n _=>by rw[Qn (hx b n)];exact n,fun b u q _=>?_,
  fun b xs q=>by rw[Qn (hm b _ q fun z=>z)];exact q,fun b u xs q=>by rw[Qn (hm b _ q fun z=>z)];exact q,fun b ps q=>⟨#[],by rw[Qn (hm b _ q fun z=>z),q];simp⟩⟩
 by_cases hbe:b=e
 ·subst hbe;exact heo
 ·exact⟨u,k b u hbe q⟩
end
def trk(h:Heap)(H:Hp):List Addr:=(List.range h.objs.size).filter fun a=>(H a).isSome
def hidT(h:Heap)(H:Hp):Heap:=W.hideAll h (trk h H)
theorem QJF(h:Heap)(H:Hp):(hidT h H).objs.size=h.objs.size:=W.hideAll_size _ _
theorem QKN{h:Heap}{H:Hp}{b:Addr}{o:Obj}(e:h.get? b=some o)(n:H b=none):(hidT h H).get? b=some o:=
 W.hideAll_get _ e fun hm=>by
  have q:(H b).isSome=true:=(List.mem_filter.mp hm).2
  rw[n]at q;simp at q
theorem QNd{h:Heap}{H:Hp}{b:Addr}{o:Obj}(e:(hidT h H).get? b=some o):h.get? b=some o/\H b=none:=by
 have e':h.get? b=some o:=W.of_hideAll (trk h H) e
 refine⟨e',?_⟩
 cases q:H b with
 | none=>rfl
 | some x=>
  have hm:b∈trk h H:=List.mem_filter.mpr ⟨List.mem_range.mpr (Heap.lt_size e'),by simp[q]⟩
  have z:(hidT h H).get? b=none:=W.hideAll_none (trk h H) hm
  rw[z]at e;cases e
def QNv(g h:Heap)(L:Addr):List (Addr×Obj):=(List.range h.objs.size).filterMap fun a=>if a=L∨(g.get? a).isSome=true then none else(h.get? a).map fun o=>(a,o)
def rest(g h:Heap)(L d:Addr):List (Addr×Obj):=(QNv g h L).filter fun p=>decide (p.1≠d)
end L2
namespace L2
open PySem PySem.Spec PyProof.Rows
structure Mod(K:W.Frag)(mg:Str->Option Value)(base:Heap):Prop where
 kin:K.In base
 glob:base.Ns mainGlobals mg
 blt:∃ mb,base.Ns builtinsNs mb/\∀ x:Str,x≠"__name__"->mb x=bootBuiltins x
 nolimit:base.NoLimit
structure Cx where
 prog:Program
 w:World
 K:W.Frag
 mg:Str->Option Value
 base:Heap
 A:Around
 N:List Str
 s₀:Shared
 H₀:Hp
 env:Env
 outer:List Env
 stack:List Env
 ex:List Addr
 fn:Str->Bool
 calm:Bool
 pn:List (Addr×Obj)
 xe:Value->Shared->Prop
def frs(l:List Env):List Addr:=l.filterMap (·.frame)
abbrev Cx.fs(X:Cx):List Addr:=frs X.outer
def Vis(sc:Scope)(x:Str):Prop:=sc.names.lookup x=some .local∨sc.names.lookup x=some .cell∨sc.names.lookup x=some .free
def Loc(sc:Scope)(x:Str):Prop:=sc.names.lookup x=some .local∨sc.names.lookup x=some .cell
def Look(env:Env)(h:Heap)(m:Str->Option Value)(x:Str)(u:Value):Prop:=
 (env.kindOf x=some .local/\m x=some u)∨((env.kindOf x=some .cell∨env.kindOf x=some .free)/\∃ c,env.cells.lookup x=some c/\h.IsCell c (some u))
structure Cx.Ok(X:Cx):Prop where
 mod:Mod X.K X.mg X.base
 kind:X.env.scope.kind=.function
 glob:X.env.globals=mainGlobals
 blt:X.env.builtins=builtinsNs
 above:X.s₀.heap.objs.size<=X.env.locals
 inj:∀ x y c,X.env.cells.lookup x=some c->X.env.cells.lookup y=some c->x=y
 has:∀ x,(X.env.kindOf x=some .cell∨X.env.kindOf x=some .free)->∃ c,X.env.cells.lookup x=some c
 cab:∀ x c,X.fn x=true->X.env.cells.lookup x=some c->X.s₀.heap.objs.size<=c
 hd:X.calm=true->X.A.handled=none
 frames:X.A.frames=some X.stack
 stk:X.stack=X.outer∨(X.stack=X.env::X.outer/\X.env.frame=some X.env.locals)
 exf:∀ b∈X.ex,b≠X.env.locals/\∀ x c,X.env.cells.lookup x=some c->c≠b
 bs:∀ b o,X.base.get? b=some o->X.s₀.heap.get? b=some o/\X.H₀ b=none
 bsz:X.base.objs.size<=X.s₀.heap.objs.size
 noex:∀ b o,X.base.get? b=some o->b∉X.ex
 exfs:∀ b∈X.ex,b∉X.fs
 funs:X.s₀.heap.FunFrames X.base X.outer
 frf:∀ b∈X.fs,X.H₀ b=none
structure Inv(X:Cx)(pins:List (Addr×Obj))(σ:List (Option V))(H:Hp)(s:Shared):Prop where
 ok:X.Ok
 os:s.os=X.s₀.os
 bare:AllBare s.gens
 base:Un X.fs X.ex X.H₀ H X.s₀.heap s.heap
 loc:∃ m,s.heap.Ns X.env.locals m/\∀(i:Nat)(x:Str)(v:V),X.N[i]?=some x->σ[i]?=some (some v)->Vis X.env.scope x->∃ u,RelV v u/\Look X.env s.heap m x u
 cell:∀ x c,X.env.cells.lookup x=some c->∃ v,s.heap.IsCell c v
 free:H X.env.locals=none
 freeC:∀ x c,X.env.cells.lookup x=some c->H c=none
 pin:∀ p∈X.pn++pins,s.heap.get? p.1=some p.2/\H p.1=none/\p.1≠X.env.locals/\p.1∉X.fs/\∀ v,p.2.data≠.cell v
 hok:HOk X.prog X.w H s.heap
 len:σ.length=X.N.length
section
variable{X:Cx}{pins:List (Addr×Obj)}{σ:List (Option V)}{H H':Hp}{s:Shared}{h':Heap}
theorem Cx.Ok.nofr(ok:X.Ok){b:Addr}{o:Obj}(e:X.base.get? b=some o):b∉X.fs:=fun hb=>by
 have:=(ok.funs.mem hb).1
 rw[e]at this;cases this
theorem Inv.bs(I:‹"g"›):∀ b o,X.base.get? b=some o->s.heap.get? b=some o/\H b=none:=fun b o e=>
 ⟨I.base.keep b o (I.ok.bs b o e).1 (I.ok.bs b o e).2 (I.ok.nofr e) (I.ok.noex b o e),I.base.free b o (I.ok.bs b o e).1 (I.ok.bs b o e).2 (I.ok.noex b o e)⟩
theorem Inv.bk(I:‹"g"›):∀ b o,X.base.get? b=some o->s.heap.get? b=some o:=fun b o e=>(I.bs b o e).1
theorem Inv.mod(I:‹"g"›):Mod X.K X.mg X.base:=I.ok.mod
theorem Inv.kIn(I:‹"g"›):X.K.In s.heap:=I.ok.mod.kin.keeps I.bk
theorem Inv.fr(I:‹"g"›):∃ m,Fr X.base X.env.locals s.heap m:=
 let ⟨m,hn,_⟩:=I.loc
 ⟨m,hn,I.bk,Nat.le_trans I.ok.bsz I.ok.above⟩
theorem Inv.lt(I:‹"g"›):X.env.locals<s.heap.objs.size:=let ⟨_,hn,_⟩:=I.loc;hn.lt
theorem Inv.sz(I:‹"g"›):X.s₀.heap.objs.size<=s.heap.objs.size:=Nat.le_trans I.ok.above (Nat.le_of_lt I.lt)
theorem Inv.nofs(I:‹"g"›){a:Addr}(h:s.heap.objs.size<=a):a∉X.fs:=fun hb=>by
 obtain⟨_,o,ho,_⟩:=I.ok.funs.mem hb
 exact absurd (Nat.lt_of_lt_of_le (Heap.lt_size ho) (Nat.le_trans I.sz h)) (Nat.lt_irrefl _)
theorem Inv.cne(I:‹"g"›):∀ x c,X.env.cells.lookup x=some c->c≠X.env.locals:=fun x c e z=>by
 obtain⟨v,o,ho,hd⟩:=I.cell x c e
 obtain⟨m,⟨o',es,ep,ho',hd',_⟩,_⟩:=I.loc
 rw[z,ho']at ho;cases ho;rw[hd']at hd;cases hd
theorem Inv.funs(I:‹"g"›):s.heap.FunFrames X.base X.outer:=by
 have all:∀(l:List Env),(∀ b∈frs l,b∈X.fs)->X.s₀.heap.FunFrames X.base l->s.heap.FunFrames X.base l:=by
  intro l
  induction l with
  | nil=>intro _ _;trivial
  | cons env r ih=>
   intro hs hl
   obtain⟨hk,⟨L,o,hf,hn,ho,hd⟩,hr⟩:=hl
   have hL:L∈X.fs:=hs L (by unfold frs;rw[List.filterMap_cons,hf];exact List.mem_cons_self)
   obtain⟨sl,e⟩:=I.base.slot L o ho (I.ok.frf L hL) hL fun z=>I.ok.exfs L z hL
   exact⟨hk,⟨L,_,hf,hn,e,hd⟩,ih (fun b hb=>hs b (by unfold frs;rw[List.filterMap_cons,hf];exact List.mem_cons_of_mem _ hb)) hr⟩
 exact all X.outer (fun _ hb=>hb) I.ok.funs
theorem Inv.stack(I:‹"g"›):s.heap.FunFrames X.base X.stack:=by
 rcases I.ok.stk with e | ⟨e,hf⟩
 ·rw[e];exact I.funs
 ·rw[e]
  obtain⟨m,hn,_⟩:=I.loc
  refine .cons (by rw[I.ok.kind];decide) hf hn ?_ I.funs
  exact Heap.get?_none_of_le (Nat.le_trans I.ok.bsz I.ok.above)
theorem Inv.stkSub(I:‹"g"›):∀ b∈frs X.stack,b∈X.env.locals::X.fs:=fun b hb=>by
 rcases I.ok.stk with e | ⟨e,hf⟩
 ·rw[e]at hb;exact List.mem_cons_of_mem _ hb
 ·rw[e]at hb
  unfold frs at hb
  rw[List.filterMap_cons,hf]at hb
  exact hb
theorem Inv.stkFree(I:‹"g"›):∀ b∈frs X.stack,H b=none:=fun b hb=>by
 rcases List.mem_cons.mp (I.stkSub b hb) with e | hb
 ·rw[e];exact I.free
 ·obtain⟨_,o,ho,_⟩:=I.ok.funs.mem hb
  exact I.base.free b o ho (I.ok.frf b hb) fun z=>I.ok.exfs b z hb
theorem Inv.step{g':Array GenState}{t':Nat}{d':Drawn}{ch:List Addr}(I:‹"g"›)
 (hch:∀ b∈ch,(b∈X.ex∨X.s₀.heap.objs.size<=b)/\b≠X.env.locals/\(∀ x c,X.env.cells.lookup x=some c->c≠b)/\∀ p∈X.pn++pins,p.1≠b)
 (keep:∀ b o,b≠X.env.locals->b∉X.fs->b∉ch->s.heap.get? b=some o->H b=none->h'.get? b=some o)
 (slot:∀ b o,b≠X.env.locals->b∈X.fs->b∉ch->s.heap.get? b=some o->H b=none->∃ sl,h'.get? b=some { o with slots:=sl }) (free:∀ b o,b∉ch->s.heap.get? b=some o->H b=none->H' b=none)
 (there:∀ b o,b∉ch->s.heap.get? b=some o->∃ o',h'.get? b=some o')
 (tups:∀ b xs,H b=some (.tup xs)->H' b=some (.tup xs)) (frzs:∀ b o u,H b=some (.frz o u)->H' b=some (.frz o u)) (tbls:∀ b ps,H b=some (.tbl ps)->∃ more,H' b=some (.tbl (ps++more)))
 (ns:∀ m,s.heap.Ns X.env.locals m->h'.Ns X.env.locals m) (hok:HOk X.prog X.w H' h') (hg:AllBare g'):
 Inv X pins σ H' { s with heap:=h',gens:=g',drawn:=d',toks:=t' }:=by
 have neL:∀ b o,X.s₀.heap.get? b=some o->b≠X.env.locals:=fun b o e=>Nat.ne_of_lt (Nat.lt_of_lt_of_le (Heap.lt_size e) I.ok.above)
 have neC:∀ b o,X.s₀.heap.get? b=some o->b∉X.ex->b∉ch:=fun b o e hx hb=>by
  rcases(hch b hb).1 with z | z
  ·exact hx z
  ·exact absurd (Nat.lt_of_lt_of_le (Heap.lt_size e) z) (Nat.lt_irrefl _)
 have cellK:∀ x c,X.env.cells.lookup x=some c->∀ v,s.heap.IsCell c v->h'.IsCell c v:=fun x c e v ⟨o,ho,hd⟩=>by
  have nch:c∉ch:=fun z=>(hch c z).2.2.1 x c e rfl
  by_cases hc:c∈X.fs
  ·obtain⟨sl,q⟩:=slot c o (I.cne x c e) hc nch ho (I.freeC x c e)
   exact⟨_,q,hd⟩
  ·exact⟨o,keep c o (I.cne x c e) hc nch ho (I.freeC x c e),hd⟩
 refine⟨I.ok,I.os,hg,⟨fun b o e n hb hx=>?_,fun b o e n hb hx=>?_,fun b o e n hx=>?_,fun b o e hx=>?_,fun b xs e=>tups b xs (I.base.tups b xs e),fun b o xs e=>frzs b o xs (I.base.frzs b o xs e),fun b ps e=>?_⟩,?_,fun x c e=>?_,?_,fun x c e=>?_,fun p hp=>?_,hok,I.len⟩
 ·exact keep b o (neL b o e) hb (neC b o e hx) (I.base.keep b o e n hb hx) (I.base.free b o e n hx)
 ·obtain⟨sl,e1⟩:=I.base.slot b o e n hb hx
  obtain⟨sl',e2⟩:=slot b _ (neL b o e) hb (neC b o e hx) e1 (I.base.free b o e n hx)
  exact⟨sl',e2⟩
 ·obtain⟨o',e1⟩:=I.base.there b o e hx
  exact free b o' (neC b o e hx) e1 (I.base.free b o e n hx)
 ·obtain⟨o',e1⟩:=I.base.there b o e hx
  exact there b o' (neC b o e hx) e1
 ·obtain⟨m1,e1⟩:=I.base.tbls b ps e
  obtain⟨m2,e2⟩:=tbls b _ e1
  exact⟨m1++m2,by rw[e2,Array.append_assoc]⟩
 ·obtain⟨m,hn,hl⟩:=I.loc
  refine⟨m,ns m hn,fun i x v e1 e2 e3=>?_⟩
  obtain⟨u,r,l⟩:=hl i x v e1 e2 e3
  refine⟨u,r,?_⟩
  rcases l with l | ⟨k,c,e,z⟩
  ·exact .inl l
  ·exact .inr ⟨k,c,e,cellK x c e _ z⟩
 ·obtain⟨v,z⟩:=I.cell x c e
  exact⟨v,cellK x c e v z⟩
 ·obtain⟨m,⟨o,_,_,ho,_⟩,_⟩:=I.loc
  exact free _ o (fun z=>(hch _ z).2.1 rfl) ho I.free
 ·obtain⟨v,o,ho,hd⟩:=I.cell x c e
  exact free c o (fun z=>(hch c z).2.2.1 x c e rfl) ho (I.freeC x c e)
 ·obtain⟨e,n,ne,nf,d⟩:=I.pin p hp
  have nch:p.1∉ch:=fun z=>(hch p.1 z).2.2.2 p hp rfl
  exact⟨keep p.1 p.2 ne nf nch e n,free p.1 p.2 nch e n,ne,nf,d⟩
theorem Inv.un{t':Nat}(I:‹"g"›)(u:Un X.fs [] H H' s.heap h')(hok:HOk X.prog X.w H' h'):Inv X pins σ H' { s with heap:=h',toks:=t' }:=by
 obtain⟨m,⟨o,es,ep,ho,r⟩,_⟩:=id I.loc
 obtain⟨sl,hL⟩:=u.any ho I.free (by simp)
 exact I.step (g':=s.gens) (d':=s.drawn) (ch:=[]) (fun _ z=>nomatch z) (fun b o _ hb _ e n=>u.keep b o e n hb (by simp)) (fun b o _ hb _ e n=>u.slot b o e n hb (by simp)) (fun b o _ e n=>u.free b o e n (by simp)) (fun b o _ e=>u.there b o e (by simp)) u.tups u.frzs u.tbls (fun m' hm=>by
  obtain⟨o',es',ep',ho',r'⟩:=hm
  rw[ho]at ho';cases ho'
  exact⟨_,es',ep',hL,r'⟩) hok I.bare
theorem Inv.call{g':Array GenState}{t':Nat}{d':Drawn}{ch:List Addr}(I:‹"g"›)(u:Un (frs X.stack) ch H H' s.heap h')(hok:HOk X.prog X.w H' h')(hg:AllBare g')
 (hch:∀ b∈ch,(b∈X.ex∨X.s₀.heap.objs.size<=b)/\b≠X.env.locals/\(∀ x c,X.env.cells.lookup x=some c->c≠b)/\∀ p∈X.pn++pins,p.1≠b):
 Inv X pins σ H' { s with heap:=h',gens:=g',drawn:=d',toks:=t' }:=by
 obtain⟨m,⟨o,es,ep,ho,r⟩,_⟩:=id I.loc
 obtain⟨sl,hL⟩:=u.any ho I.free fun z=>(hch _ z).2.1 rfl
 exact I.step (ch:=ch) hch (fun b o hL hb hc e n=>u.keep b o e n (fun z=>(List.mem_cons.mp (I.stkSub b z)).elim hL hb) hc) (fun b o _ _ hc e n=>u.any e n hc) (fun b o hc e n=>u.free b o e n hc) (fun b o hc e=>u.there b o e hc) u.tups u.frzs u.tbls (fun m' hm=>by
  obtain⟨o',es',ep',ho',r'⟩:=hm
  rw[ho]at ho';cases ho'
  exact⟨_,es',ep',hL,r'⟩) hok hg
theorem Inv.turned{t':Nat}{it:Addr}(I:‹"g"›)(k:∀ b o,b≠it->s.heap.get? b=some o->h'.get? b=some o)(hn:H it=none)(hL:it≠X.env.locals)
 (h1:it∈X.ex∨X.s₀.heap.objs.size<=it) (h2:∀ x c,X.env.cells.lookup x=some c->c≠it) (h3:∀ p∈X.pn++pins,p.1≠it):Inv X pins σ H { s with heap:=h',toks:=t' }:=by
 have nit:∀ b u,H b=some u->b≠it:=fun b u e z=>by rw[z,hn]at e;cases e
 refine I.step (g':=s.gens) (d':=s.drawn) (ch:=[it]) (fun b hb=>?_) (fun b o _ _ hc e _=>k b o (fun z=>hc (by simp[z])) e) (fun b o _ _ hc e _=>⟨o.slots,k b o (fun z=>hc (by simp[z])) e⟩) (fun _ _ _ _ n=>n)
  (fun b o hc e=>⟨o,k b o (fun z=>hc (by simp[z])) e⟩) (fun _ _ e=>e) (fun _ _ _ e=>e) (fun b ps e=>⟨#[],by rw[e];simp⟩) (fun m hm=>?_) (fun b u e=>?_) I.bare
 ·have e:b=it:=by simpa using hb
  subst e
  exact⟨h1,hL,h2,h3⟩
 ·obtain⟨o,es,ep,ho,r⟩:=hm
  exact⟨o,es,ep,k _ o (Ne.symm hL) ho,r⟩
 ·refine(I.hok b u e).stay (fun c v hc q=>k c v ?_ q) (fun _ q=>q) fun _ _ q=>q
  rcases hc with z | z
  ·rw[z];exact nit b u e
  ·exact nit c _ z
theorem Inv.tok(I:‹"g"›)(t:Nat):Inv X pins σ H { s with toks:=t }:=I.un (h':=s.heap) (t':=t) Un.refl I.hok
theorem Inv.kept{t':Nat}(I:‹"g"›)(k:∀ b u,s.heap.get? b=some u->h'.get? b=some u):Inv X pins σ H { s with heap:=h',toks:=t' }:=I.un (Un.kept k) (I.hok.kept k)
theorem Inv.laid{a:Addr}{o:HO}{t':Nat}(I:‹"g"›)(k:∀ b u,s.heap.get? b=some u->h'.get? b=some u)(hp:s.heap.objs.size<=a)(new:ObjOk X.prog X.w (upd H a o) h' a o):
 Inv X pins σ (upd H a o) { s with heap:=h',toks:=t' }:=I.un (Un.laid k hp (I.hok.fresh hp)) (I.hok.laid k hp new)
theorem Inv.write{x e:Addr}{o:HO}{t':Nat}(I:‹"g"›)(mu:Mut (H x))(he:e=x∨H e=some (.own x))(k:∀ b u,b≠e->s.heap.get? b=some u->h'.get? b=some u)(heo:∃ u,h'.get? e=some u)
 (new:ObjOk X.prog X.w (upd H x o) h' x o):Inv X pins σ (upd H x o) { s with heap:=h',toks:=t' }:=I.un (Un.write mu he k heo) (I.hok.write mu he k heo new)
theorem Inv.pins_of{pins':‹"v"›}(I:‹"g"›)(h:∀ p∈pins',s.heap.get? p.1=some p.2/\H p.1=none/\p.1≠X.env.locals/\p.1∉X.fs/\∀ v,p.2.data≠.cell v):Inv X pins' σ H s:=
 ⟨I.ok,I.os,I.bare,I.base,I.loc,I.cell,I.free,I.freeC,fun p hp=>(List.mem_append.mp hp).elim (fun z=>I.pin p (List.mem_append_left _ z)) (h p),I.hok,I.len⟩
theorem Qz5{N:List Str}(hN:N.Nodup){i j:Nat}{x:Str}(a:N[i]?=some x)(b:N[j]?=some x):i=j:=by
 obtain⟨h1,e1⟩:=List.getElem?_eq_some_iff.mp a
 obtain⟨h2,e2⟩:=List.getElem?_eq_some_iff.mp b
 exact(List.getElem_inj hN).mp (e1.trans e2.symm)
theorem Qtc{M:Model}{A:Around}{E:‹"m"›}{i:Nat}{x:Str}{v:V}{u:Value}{Q:Unit->Shared->Prop}(I:‹"g"›)(hN:X.N.Nodup)(hi:X.N[i]?=some x)(hx:Loc X.env.scope x)(r:RelV v u)
 (h:∀ s',Inv X pins (σ.set i (some v)) H s'->(∃ a,Heap.SameBut a s.heap s'.heap/\(a=X.env.locals∨X.env.cells.lookup x=some a))->Q () s') (hf:X.fn x=true∨X.env.scope.names.lookup x=some .local:=by first | exact .inl rfl | exact .inr rfl | assumption):wpAny M A (storeName X.env x u) Q E s:=by
 obtain⟨m,hn,hl⟩:=id I.loc
 have hcls:(X.env.scope.kind == .class||(X.env.scope.kind == .module&&X.env.locals != X.env.globals))=false:=by rw[I.ok.kind];rfl
 have hiσ:i<σ.length:=by rw[I.len];exact(List.getElem?_eq_some_iff.mp hi).1
 have cne:=I.cne
 have tracked:∀{a:Addr}{h':Heap},(∃ o,s.heap.get? a=some o/\H a=none)->Heap.SameBut a s.heap h'->HOk X.prog X.w H h':=fun {a h'} ha hs b ob e=>by
  obtain⟨_,_,hfree⟩:=ha
  refine(I.hok b ob e).stay (fun c w' hc q=>(hs.2 c ?_).trans q) (fun _ q=>q) fun _ _ q=>q
  rintro rfl
  rcases hc with rfl | hc
  ·rw[hfree]at e;cases e
  ·rw[hfree]at hc;cases hc
 rcases hx with hk | hk
 ·refine wpAny_storeName_local hk hn (fun h' hn' hs=>?_) hcls
  obtain⟨oL,_,_,hoL,_⟩:=id hn
  refine h _ ⟨I.ok,I.os,I.bare,⟨fun b o e n hb hx=>?_,fun b o e n hb hx=>?_,I.base.free,fun b o e hx=>?_,I.base.tups,I.base.frzs,I.base.tbls⟩,⟨_,hn',fun j y v' e1 e2 e3=>?_⟩,fun y c e=>?_,I.free,I.freeC,fun p hp=>?_,tracked ⟨oL,hoL,I.free⟩ hs,by simpa using I.len⟩ ⟨_,hs,.inl rfl⟩
  ·exact(hs.2 b (Nat.ne_of_lt (Nat.lt_of_lt_of_le (Heap.lt_size e) I.ok.above))).trans (I.base.keep b o e n hb hx)
  ·obtain⟨sl,e1⟩:=I.base.slot b o e n hb hx
   exact⟨sl,(hs.2 b (Nat.ne_of_lt (Nat.lt_of_lt_of_le (Heap.lt_size e) I.ok.above))).trans e1⟩
  ·obtain⟨o',e1⟩:=I.base.there b o e hx
   exact⟨o',(hs.2 b (Nat.ne_of_lt (Nat.lt_of_lt_of_le (Heap.lt_size e) I.ok.above))).trans e1⟩
  ·by_cases hj:j=i
   ·subst hj
    rw[hi]at e1;cases e1
    rw[List.getElem?_set_self hiσ]at e2
    cases e2
    exact⟨u,r,.inl ⟨hk,by simp⟩⟩
   ·rw[List.getElem?_set_ne (Ne.symm hj)]at e2
    obtain⟨u',r',q⟩:=hl j y v' e1 e2 e3
    refine⟨u',r',?_⟩
    rcases q with⟨k,e⟩ | ⟨k,c,e,z⟩
    ·refine .inl ⟨k,?_⟩
     have:y≠x:=fun e=>hj (Qz5 hN e1 (e ▸ hi))
     simp[this,e]
    ·exact .inr ⟨k,c,e,z.sameBut hs (cne y c e)⟩
  ·obtain⟨w',z⟩:=I.cell y c e
   exact⟨w',z.sameBut hs (cne y c e)⟩
  ·obtain⟨e,n,ne,nf,d⟩:=I.pin p hp
   exact⟨(hs.2 p.1 ne).trans e,n,ne,nf,d⟩
 ·have hfn:X.fn x=true:=by
   rcases hf with z | z
   ·exact z
   ·rw[z]at hk;cases hk
  obtain⟨c,hc⟩:=I.ok.has x (.inl hk)
  obtain⟨w',z⟩:=I.cell x c hc
  refine wpAny_storeName_cell I.ok.kind hk hc z (fun h' hc' hs=>?_)
  obtain⟨oc,hoc,hocd⟩:=id z
  refine h { s with heap:=h' } ⟨I.ok,I.os,I.bare,⟨fun b o e n hb hx=>?_,fun b o e n hb hx=>?_,I.base.free,fun b o e hx=>?_,I.base.tups,I.base.frzs,I.base.tbls⟩,⟨m,hn.sameBut hs (Ne.symm (cne x c hc)),fun j y v' e1 e2 e3=>?_⟩,fun y c' e=>?_,I.free,I.freeC,fun p hp=>?_,tracked ⟨oc,hoc,I.freeC x c hc⟩ hs,by simpa using I.len⟩ ⟨c,hs,.inr hc⟩
  ·exact(hs.2 b (Nat.ne_of_lt (Nat.lt_of_lt_of_le (Heap.lt_size e) (I.ok.cab x c hfn hc)))).trans (I.base.keep b o e n hb hx)
  ·obtain⟨sl,e1⟩:=I.base.slot b o e n hb hx
   exact⟨sl,(hs.2 b (Nat.ne_of_lt (Nat.lt_of_lt_of_le (Heap.lt_size e) (I.ok.cab x c hfn hc)))).trans e1⟩
  ·obtain⟨o',e1⟩:=I.base.there b o e hx
   exact⟨o',(hs.2 b (Nat.ne_of_lt (Nat.lt_of_lt_of_le (Heap.lt_size e) (I.ok.cab x c hfn hc)))).trans e1⟩
  ·by_cases hj:j=i
   ·subst hj
    rw[hi]at e1;cases e1
    rw[List.getElem?_set_self hiσ]at e2
    cases e2
    exact⟨u,r,.inr ⟨.inl hk,c,hc,hc'⟩⟩
   ·rw[List.getElem?_set_ne (Ne.symm hj)]at e2
    obtain⟨u',r',q⟩:=hl j y v' e1 e2 e3
    refine⟨u',r',?_⟩
    rcases q with q | ⟨k,c',e,z'⟩
    ·exact .inl q
    ·refine .inr ⟨k,c',e,z'.sameBut hs ?_⟩
     rintro rfl
     exact hj (Qz5 hN e1 (I.ok.inj _ _ _ e hc ▸ hi))
  ·by_cases hcc:c'=c
   ·subst hcc;exact⟨_,hc'⟩
   ·obtain⟨w2,z2⟩:=I.cell y c' e
    exact⟨w2,z2.sameBut hs hcc⟩
  ·obtain⟨e,n,ne,nf,d⟩:=I.pin p hp
   refine⟨(hs.2 p.1 ?_).trans e,n,ne,nf,d⟩
   intro q
   rw[q,hoc]at e
   have q':oc=p.2:=Option.some.inj e
   exact d w' (by rw[← q'];exact hocd)
theorem QjL{M:Model}{A:Around}{E:‹"m"›}{i:Nat}{x:Str}{v:V}{u:Value}{Q:Unit->Shared->Prop}(I:‹"g"›)(hN:X.N.Nodup)(hi:X.N[i]?=some x)(hx:Loc X.env.scope x)(r:RelV v u)
 (h:∀ s',Inv X pins (σ.set i (some v)) H s'->Q () s') (hf:X.fn x=true∨X.env.scope.names.lookup x=some .local:=by first | exact .inl rfl | exact .inr rfl | assumption):wpAny M A (storeName X.env x u) Q E s:=
 Qtc I hN hi hx r (fun s' I' _=>h s' I') hf
theorem Inv.call'{s':Shared}{ch:List Addr}(I:‹"g"›)(ho:s'.os=s.os)(u:Un (frs X.stack) ch H H' s.heap s'.heap)(hok:HOk X.prog X.w H' s'.heap)(hg:AllBare s'.gens)
 (hch:∀ b∈ch,(b∈X.ex∨X.s₀.heap.objs.size<=b)/\b≠X.env.locals/\(∀ x c,X.env.cells.lookup x=some c->c≠b)/\∀ p∈X.pn++pins,p.1≠b):Inv X pins σ H' s':=by
 obtain⟨h',g',d',t',o'⟩:=s'
 have e:o'=s.os:=ho
 subst e
 exact I.call (g':=g') (t':=t') (d':=d') u hok hg hch
end
abbrev XK:=Value->Option Addr->Hp->Prop
abbrev St:=List (Option V)
abbrev VK:=V->Hp->Prop
abbrev TE:=St->Hp->VK->Prop
abbrev TT:=St->Hp->(Bool->Hp->Prop)->Prop
abbrev TA:=St->Hp->(List V->Hp->Prop)->Prop
structure Ends where
 nx:St->Hp->Prop
 rt:VK
 bk:St->Hp->Prop:=fun _ _=>False
 ct:St->Hp->Prop:=fun _ _=>False
abbrev TS:=Ends->St->Hp->Prop
def EP(X:Cx)(pins:‹"v"›)(σ:St)(Q:VK)(u:Value)(s':Shared):Prop:=∃ v H',Inv X pins σ H' s'/\RelV v u/\Q v H'
def TP(X:Cx)(pins:‹"v"›)(σ:St)(Q:Bool->Hp->Prop)(b:Bool)(s':Shared):Prop:=∃ H',Inv X pins σ H' s'/\Q b H'
def AP(X:Cx)(pins:‹"v"›)(σ:St)(Q:List V->Hp->Prop)(us:List Value)(s':Shared):Prop:=∃ vs H',Inv X pins σ H' s'/\Vals vs us/\Q vs H'
def SP(X:Cx)(pins:‹"v"›)(D:Ends)(f:Flow)(s':Shared):Prop:=
 match f with
 | .next=>∃ σ' H',Inv X pins σ' H' s'/\D.nx σ' H'
 | .brk=>∃ σ' H',Inv X pins σ' H' s'/\D.bk σ' H'
 | .cont=>∃ σ' H',Inv X pins σ' H' s'/\D.ct σ' H'
 | .ret u=>∃ v σ' H',Inv X pins σ' H' s'/\RelV v u/\D.rt v H'
def PE(X:Cx)(e:Expr)(t:TE):Prop:=
 ∀(pins:‹"v"›)(s:Shared)(σ:St)(H:Hp)(Q:VK),Inv X pins σ H s->t σ H Q->wpAny ‹"i"› X.A (eval e X.env) (EP X pins σ Q) X.xe s
def PT(X:Cx)(e:Expr)(t:TT):Prop:=
 ∀(pins:‹"v"›)(s:Shared)(σ:St)(H:Hp)(Q:Bool->Hp->Prop),Inv X pins σ H s->t σ H Q->wpAny ‹"i"› X.A (isTrue e X.env (eval e X.env)) (TP X pins σ Q) X.xe s
def PW(X:Cx)(e:Expr)(t:TT):Prop:=
 ∀(whole:Sem Value)(pins:‹"v"›)(s:Shared)(σ:St)(H:Hp)(Q:Bool->Hp->Prop),Inv X pins σ H s->t σ H Q->wpAny ‹"i"› X.A (isTrue e X.env whole) (TP X pins σ Q) X.xe s
theorem PW.pt{X:Cx}{e:Expr}{t:TT}(h:PW X e t):PT X e t:=h _
def PA(X:Cx)(es:List Expr)(t:TA):Prop:=
 ∀(pos:Pos)(pins:‹"v"›)(s:Shared)(σ:St)(H:Hp)(Q:List V->Hp->Prop),Inv X pins σ H s->t σ H Q->wpAny ‹"i"› X.A (spliced (backTo pos (starEach es X.env))) (AP X pins σ Q) X.xe s
def PS(X:Cx)(st:Stmt)(t:TS):Prop:=
 ∀(pins:‹"v"›)(s:Shared)(σ:St)(H:Hp)(D:Ends),Inv X pins σ H s->t D σ H->wpAny ‹"i"› X.A (exec st X.env) (SP X pins D) X.xe s
def PSs(X:Cx)(st:List Stmt)(t:TS):Prop:=
 ∀(pins:‹"v"›)(s:Shared)(σ:St)(H:Hp)(D:Ends),Inv X pins σ H s->t D σ H->wpAny ‹"i"› X.A (execs st X.env) (SP X pins D) X.xe s
theorem thn{α:Type}{t:Sem α}{Q Q':α->Shared->Prop}{M:Model}{A:Around}{E:‹"m"›}{s:Shared}(h:wpAny M A t Q E s)(hQ:∀ a s,Q a s->Q' a s):wpAny M A t Q' E s:=wpAny_mono h hQ fun _ _ x=>x
end L2
namespace L2
open PySem PySem.Spec PyProof.Rows
section
variable{X:Cx}
def tVar(i:Nat):TE:=fun σ H Q=>∃ v,σ[i]?=some (some v)/\Q v H
def tC(v:V):TE:=fun _ H Q=>Q v H
theorem Qex{i:Nat}{x:Str}{pos:Pos}(hN:X.N[i]?=some x)(hv:Vis X.env.scope x)(hd:‹"d"›:=by decide)(hcd:‹"I"›:=by decide):PE X (.Name x pos) (tVar i):=by
 intro pins s σ H Q I h
 obtain⟨v,e,h⟩:=h
 obtain⟨m,hn,hl⟩:=I.loc
 obtain⟨u,r,l⟩:=hl i x v hN e hv
 have fin:EP X pins σ Q u s:=⟨v,H,I,r,h⟩
 rcases l with⟨hk,hm⟩ | ⟨hk,c,hc,hcell⟩
 ·exact wpAny_Name (wpAny_loadName_local I.ok.kind hk hn hm fin) hd
 ·rcases hk with hk | hk
  ·exact wpAny_Name (wpAny_loadName_cell I.ok.kind hk hc hcell fin) hd
  ·exact wpAny_Name (wpAny_loadName_free I.ok.kind hk hc hcell fin hcd) hd
theorem QPI{i j pos}:PE X (.Constant (.int i) j pos) (tC (.int i)):=fun _ _ _ H _ I h=>wpAny_Constant_int ⟨.int i,H,I.tok _,⟨_,rfl⟩,h⟩
theorem pe_bl{b j pos}:PE X (.Constant (.bool b) j pos) (tC (.bl b)):=fun _ _ _ H _ I h=>Constant_bool ⟨.bl b,H,I,rfl,h⟩
theorem QPL{j pos}:PE X (.Constant .none j pos) (tC .non):=fun _ _ _ H _ I h=>Constant_none ⟨.non,H,I,rfl,h⟩
theorem QOz{x j pos}:PE X (.Constant (.str x) j pos) (tC (.str x)):=fun _ _ _ H _ I h=>Calls.Constant_str ⟨.str x,H,I.tok _,⟨_,rfl⟩,h⟩
def Gl(X:Cx)(x:Str):Prop:=X.env.kindOf x=some .globalImplicit
theorem Qri{E:‹"m"›}{pins:‹"v"›}{s:Shared}{σ:St}{H:Hp}{x:Str}{u:Value}{pos:Pos}{Q:‹"m"›}(I:‹"g"›)(hg:Gl X x)(hm:X.mg x=some u)(h:Q u s)
 (hd:‹"d"›:=by decide):wpAny ‹"i"› X.A (eval (.Name x pos) X.env) Q E s:=
 Calls.Name_function_global I.ok.kind hg (Calls.loadGlobal_global (by rw[I.ok.glob];exact I.mod.glob.keeps I.bk) hm h) hd
theorem Qgg{E:‹"m"›}{pins:‹"v"›}{s:Shared}{σ:St}{H:Hp}{x:Str}{u:Value}{pos:Pos}{Q:‹"m"›}(I:‹"g"›)(hg:Gl X x)(hm:X.mg x=none)(hv:bootBuiltins x=some u)(h:Q u s)
 (hn:x≠"__name__":=by decide) (hd:‹"d"›:=by decide):wpAny ‹"i"› X.A (eval (.Name x pos) X.env) Q E s:=by
 obtain⟨mb,h1,h2⟩:=I.mod.blt
 exact Calls.Name_function_global I.ok.kind hg (Calls.loadGlobal_builtin (by rw[I.ok.glob];exact I.mod.glob.keeps I.bk) hm (by rw[I.ok.blt];exact h1.keeps I.bk) ((h2 x hn).trans hv) h) hd
theorem QiJ{x:Str}{v:V}{u:Value}{pos:Pos}(hg:Gl X x)(hm:X.mg x=some u)(r:RelV v u)(hd:‹"d"›:=by decide):PE X (.Name x pos) (tC v):=
 fun _ _ _ H _ I h=>Qri I hg hm ⟨v,H,I,r,h⟩ hd
theorem QNF{x:Str}{v:V}{u:Value}{pos:Pos}(hg:Gl X x)(hm:X.mg x=none)(hv:bootBuiltins x=some u)(r:RelV v u)(hn:x≠"__name__":=by decide)(hd:‹"d"›:=by decide):PE X (.Name x pos) (tC v):=
 fun _ _ _ H _ I h=>Qgg I hg hm hv ⟨v,H,I,r,h⟩ hn hd
variable{a b:Expr}{ta tb:TE}{pos:Pos}
def tB(t:TE):TT:=fun σ H Q=>t σ H fun x H1=>∃ c,x=.bl c/\Q c H1
theorem QPx{e:Expr}{t:TE}(h:PE X e t)(he:∀ whole,isTrue e X.env whole=(do let v ← whole;standAt e.pos;holding [v] (truthy v)):=by intro _;rfl):PT X e (tB t):=by
 intro pins s σ H Q I hw
 refine isTrue_plain (thn (h pins s σ H _ I hw) fun v s1 ⟨x,H1,I1,r1,q1⟩=>?_) (he _)
 obtain⟨d,rfl,q⟩:=q1
 cases r1
 exact wpAny_truthy_bool ⟨H1,I1,q⟩
variable{tA tB':TT}{rest:List Expr}
def tAnd(t u:TT):TT:=fun σ H Q=>t σ H fun c H1=>if c=true then u σ H1 Q else Q false H1
def tOr(t u:TT):TT:=fun σ H Q=>t σ H fun c H1=>if c=true then Q true H1 else u σ H1 Q
def tNot(t:TT):TT:=fun σ H Q=>t σ H fun c H1=>Q (!c) H1
theorem QNu(ha:PT X a tA):PW X (.BoolOp .And [a] pos) tA:=by
 intro wh pins s σ H Q I h
 refine isTrue_and (thn (ha pins s σ H Q I h) fun c s1 e=>?_)
 cases c with
 | true=>exact isTrue_and_nil e
 | false=>exact e
theorem QP8(ha:PT X a tA):PW X (.BoolOp .Or [a] pos) tA:=by
 intro wh pins s σ H Q I h
 refine isTrue_or (thn (ha pins s σ H Q I h) fun c s1 e=>?_)
 cases c with
 | false=>exact isTrue_or_nil e
 | true=>exact e
theorem QQr(ha:PT X a tA)(hb:PW X (.BoolOp .And (b::rest) pos) tB'):PW X (.BoolOp .And (a::b::rest) pos) (tAnd tA tB'):=by
 intro wh pins s σ H Q I h
 refine isTrue_and (thn (ha pins s σ H _ I h) fun c s1 ⟨H1,I1,q1⟩=>?_)
 cases c with
 | true=>exact hb wh pins s1 σ H1 Q I1 q1
 | false=>exact⟨H1,I1,q1⟩
theorem pw_or(ha:PT X a tA)(hb:PW X (.BoolOp .Or (b::rest) pos) tB'):PW X (.BoolOp .Or (a::b::rest) pos) (tOr tA tB'):=by
 intro wh pins s σ H Q I h
 refine isTrue_or (thn (ha pins s σ H _ I h) fun c s1 ⟨H1,I1,q1⟩=>?_)
 cases c with
 | true=>exact⟨H1,I1,q1⟩
 | false=>exact hb wh pins s1 σ H1 Q I1 q1
theorem QOR(ha:PT X a tA):PT X (.UnaryOp .Not a pos) (tNot tA):=by
 intro pins s σ H Q I h
 exact isTrue_not (ha pins s σ H (fun c H1=>Q (!c) H1) I h)
def tAndV(ta tb:TE):TE:=fun σ H Q=>ta σ H fun x H1=>∃ c,x=.bl c/\if c=true then tb σ H1 Q else Q (.bl false) H1
def tNotV(ta:TE):TE:=fun σ H Q=>ta σ H fun x H1=>∃ c,x=.bl c/\Q (.bl (!c)) H1
theorem QOF{op}{t:TE}(h:PE X a t):PE X (.BoolOp op [a] pos) t:=fun pins s σ H Q I hw=>BoolOp_one (h pins s σ H Q I hw)
theorem QPY(ha:PE X a ta)(hb:PE X (.BoolOp .And (b::rest) pos) tb):PE X (.BoolOp .And (a::b::rest) pos) (tAndV ta tb):=by
 intro pins s σ H Q I h
 refine BoolOp_and (thn (ha pins s σ H _ I h) fun v s1 ⟨x,H1,I1,r1,q1⟩=>?_)
 obtain⟨c,rfl,q1⟩:=q1
 cases r1
 refine wpAny_truthy_bool ?_
 cases c with
 | true=>exact hb pins s1 σ H1 Q I1 q1
 | false=>exact⟨.bl false,H1,I1,rfl,q1⟩
theorem QPg(ha:PE X a ta):PE X (.UnaryOp .Not a pos) (tNotV ta):=by
 intro pins s σ H Q I h
 refine UnaryOp_ (thn (ha pins s σ H _ I h) fun v s1 ⟨x,H1,I1,r1,q1⟩=>?_)
 obtain⟨c,rfl,q1⟩:=q1
 cases r1
 exact not_of (wpAny_truthy_bool ⟨.bl (!c),H1,I1,rfl,q1⟩)
def tIf(t:TT)(ta tb:TE):TE:=fun σ H Q=>t σ H fun c H1=>if c=true then ta σ H1 Q else tb σ H1 Q
theorem QLn{c:Expr}(hc:PT X c tA)(ha:PE X a ta)(hb:PE X b tb):PE X (.IfExp c a b pos) (tIf tA ta tb):=by
 intro pins s σ H Q I h
 refine wpAny_IfExp (thn (hc pins s σ H _ I h) fun d s1 ⟨H1,I1,q1⟩=>?_)
 cases d with
 | true=>exact ha pins s1 σ H1 Q I1 q1
 | false=>exact hb pins s1 σ H1 Q I1 q1
end
end L2
namespace L2
open PySem PySem.Spec PyProof.Rows
def SqL(K:W.Frag)(H:Hp)(a:Addr)(xs:List V):Prop:=
 Rd H a (.lst xs)∨
  ∃(o:Obj)(its:Array Value)(n:Nat),K.lookup a=some o/\o.cls=.type "list"/\o.dict=none/\o.data=.seq its n/\its.size<=sizeLine/\Vals xs its.toList
def SqT(K:W.Frag)(H:Hp)(a:Addr)(xs:List V):Prop:=
 Rd H a (.tup xs)∨
  ∃(o:Obj)(its:Array Value)(n:Nat),K.lookup a=some o/\o.cls=.type "tuple"/\o.data=.seq its n/\its.size<=sizeLine/\Vals xs its.toList
def absV:Value->Option V
 | .none=>some .non
 | .bool b=>some (.bl b)
 | .int i _=>some (.int i)
 | .str x _=>some (.str x)
 | .bytes b _=>some (.byt b)
 | .float b _=>some (.flt b)
 | .ref a=>some (.ref a)
 | .type n=>some (.ty n)
 | _=>none
theorem RelV.abs{x:V}{u:Value}(r:RelV x u):absV u=some x:=by
 cases x with
 | non=>cases r;rfl
 | bl _=>cases r;rfl
 | int _=>obtain⟨t,rfl⟩:=r;rfl
 | str _=>obtain⟨t,rfl⟩:=r;rfl
 | byt _=>obtain⟨t,rfl⟩:=r;rfl
 | flt _=>obtain⟨t,rfl⟩:=r;rfl
 | ref _=>cases r;rfl
 | ty _=>cases r;rfl
theorem RelV.inj{x y:V}{u:Value}(r:RelV x u)(q:RelV y u):x=y:=Option.some.inj (r.abs.symm.trans q.abs)
theorem Vals.inj:∀{xs ys:List V}{us:List Value},Vals xs us->Vals ys us->xs=ys
 | _,_,_,.nil,.nil=>rfl
 | _,_,_,.cons r t,.cons r' t'=>by rw[r.inj r',Vals.inj t t']
section
variable{X:Cx}{pins:List (Addr×Obj)}{σ:St}{H:Hp}{s:Shared}{a:Addr}{xs ys:List V}
theorem SqL.of{K:W.Frag}(h:H a=some (.lst xs)):SqL K H a xs:=.inl (.inl h)
theorem SqT.of{K:W.Frag}(h:H a=some (.tup xs)):SqT K H a xs:=.inl (.inl h)
theorem Inv.list(I:‹"g"›)(h:SqL X.K H a xs):∃ its:List Value,Vals xs its/\PlainL s.heap a its.toArray/\xs.length<=sizeLine:=by
 rcases h with h | ⟨o,its,n,hk,hc,hd,hs,hz,r⟩
 ·obtain⟨z,its,n,r,e⟩:=h.ok I.hok
  exact⟨its,r,⟨_,n,e,rfl,rfl,rfl⟩,z⟩
 ·refine⟨its.toList,r,⟨o,n,I.kIn a o hk,hc,hd,by simpa using hs⟩,?_⟩
  have e:=r.length
  simp only[Array.length_toList]at e
  omega
theorem Inv.tuple(I:‹"g"›)(h:SqT X.K H a xs):∃ its:List Value,Vals xs its/\IsTup s.heap a its.toArray/\xs.length<=sizeLine:=by
 rcases h with h | ⟨o,its,n,hk,hc,hs,hz,r⟩
 ·obtain⟨z,its,r,p⟩:=h.ok I.hok
  exact⟨its,r,p,z⟩
 ·refine⟨its.toList,r,⟨o,I.kIn a o hk,hc,n,by simpa using hs⟩,?_⟩
  have e:=r.length
  simp only[Array.length_toList]at e
  omega
theorem Inv.list_inj(I:‹"g"›)(h:SqL X.K H a xs)(h':SqL X.K H a ys):xs=ys:=by
 obtain⟨its,r,⟨o,n,e,_,_,d⟩,_⟩:=I.list h
 obtain⟨its',r',⟨o',n',e',_,_,d'⟩,_⟩:=I.list h'
 rw[e]at e';cases e'
 rw[d]at d'
 injection d' with d1 _
 have:its=its':=by simpa using congrArg Array.toList d1
 subst this
 exact r.inj r'
end
abbrev Cx.wish(X:Cx)(E:‹"m"›):Cx:={ X with xe:=E }
abbrev Cx.nox(X:Cx):Cx:=X.wish fun _ _=>False
theorem Cx.Ok.wish{X:Cx}(ok:X.Ok)(E:‹"m"›):(X.wish E).Ok:=
 ⟨ok.mod,ok.kind,ok.glob,ok.blt,ok.above,ok.inj,ok.has,ok.cab,ok.hd,ok.frames,ok.stk,ok.exf,ok.bs,ok.bsz,ok.noex,ok.exfs,ok.funs,ok.frf⟩
theorem Cx.Ok.unwish{X:Cx}{E:‹"m"›}(ok:(X.wish E).Ok):X.Ok:=
 ⟨ok.mod,ok.kind,ok.glob,ok.blt,ok.above,ok.inj,ok.has,ok.cab,ok.hd,ok.frames,ok.stk,ok.exf,ok.bs,ok.bsz,ok.noex,ok.exfs,ok.funs,ok.frf⟩
section
variable{X:Cx}{pins:List (Addr×Obj)}{σ:St}{H:Hp}{s:Shared}{E:Value->Shared->Prop}
theorem Inv.wish(I:‹"g"›)(E:‹"m"›):Inv (X.wish E) pins σ H s:=⟨I.ok.wish E,I.os,I.bare,I.base,I.loc,I.cell,I.free,I.freeC,I.pin,I.hok,I.len⟩
theorem Inv.unwish(I:Inv (X.wish E) pins σ H s):Inv X pins σ H s:=⟨I.ok.unwish,I.os,I.bare,I.base,I.loc,I.cell,I.free,I.freeC,I.pin,I.hok,I.len⟩
theorem SP.unwish{D:Ends}{f:Flow}{s':Shared}(h:SP (X.wish E) pins D f s'):SP X pins D f s':=by
 cases f with
 | next=>obtain⟨σ',H',I,q⟩:=h;exact⟨σ',H',I.unwish,q⟩
 | brk=>obtain⟨σ',H',I,q⟩:=h;exact⟨σ',H',I.unwish,q⟩
 | cont=>obtain⟨σ',H',I,q⟩:=h;exact⟨σ',H',I.unwish,q⟩
 | ret u=>obtain⟨v,σ',H',I,r,q⟩:=h;exact⟨v,σ',H',I.unwish,r,q⟩
theorem PE.nox{e:Expr}{t:TE}(h:PE X.nox e t):PE X e t:=fun pins s σ H Q I hw=>
 wpAny_mono (h pins s σ H Q (I.wish _) hw) (fun _ _ ⟨v,H',I',r,q⟩=>⟨v,H',I'.unwish,r,q⟩) fun _ _ z=>False.elim z
theorem PT.nox{e:Expr}{t:TT}(h:PT X.nox e t):PT X e t:=fun pins s σ H Q I hw=>
 wpAny_mono (h pins s σ H Q (I.wish _) hw) (fun _ _ ⟨H',I',q⟩=>⟨H',I'.unwish,q⟩) fun _ _ z=>False.elim z
theorem PSs.nox{st:List Stmt}{t:TS}(h:PSs X.nox st t):PSs X st t:=fun pins s σ H D I hw=>
 wpAny_mono (h pins s σ H D (I.wish _) hw) (fun _ _ q=>q.unwish) fun _ _ z=>False.elim z
end
section
variable{X:Cx}{st:Stmt}{rest:List Stmt}{t u:TS}{e:Expr}{te:TE}{pos:Pos}
def tNext:TS:=fun D σ H=>D.nx σ H
def tSeq(t u:TS):TS:=fun D σ H=>t { D with nx:=u D } σ H
theorem QMt:PSs X [] tNext:=fun _ _ σ H _ I h=>wpAny_execs_nil ⟨σ,H,I,h⟩
theorem QK5(h1:PS X st t)(h2:PSs X rest u):PSs X (st::rest) (tSeq t u):=by
 intro pins s σ H D I h
 refine wpAny_execs_cons (thn (h1 pins s σ H { D with nx:=u D } I h) fun f s1 q=>?_)
 cases f with
 | next=>
  obtain⟨σ',H',I',q⟩:=q
  exact h2 pins s1 σ' H' D I' q
 | ret v=>exact q
 | brk=>exact q
 | cont=>exact q
theorem QMy(h1:PS X st t):PSs X [st] t:=by
 intro pins s σ H D I h
 refine wpAny_execs_cons (thn (h1 pins s σ H D I h) fun f s1 q=>?_)
 cases f with
 | next=>exact wpAny_execs_nil q
 | ret v=>exact q
 | brk=>exact q
 | cont=>exact q
theorem Inv.quiet{pins:‹"v"›}{σ:St}{H:Hp}{s:Shared}(I:‹"g"›):interactive X.env=false:=by simp[interactive,I.ok.kind]
def tDrop(te:TE):TS:=fun D σ H=>te σ H fun _ H1=>D.nx σ H1
theorem QsJ(he:PE X e te)(hs:swapsWith e none pos.line X.env=pure false:=by rfl):PS X (.Expr e pos) (tDrop te):=by
 intro pins s σ H D I h
 exact wpAny_Expr_any (thn (he pins s σ H _ I h) fun v s1 ⟨x,H1,I1,r1,q1⟩=>⟨σ,H1,I1,q1⟩) I.quiet hs
def tRet(te:TE):TS:=fun D σ H=>te σ H D.rt
theorem QzG(he:PE X e te):PS X (.Return (some e) pos) (tRet te):=by
 intro pins s σ H D I h
 exact wpAny_Return_some (thn (he pins s σ H _ I h) fun v s1 ⟨x,H1,I1,r1,q1⟩=>⟨x,σ,H1,I1,r1,q1⟩)
def tIfS(c:TT)(t u:TS):TS:=fun D σ H=>c σ H fun b H1=>if b=true then t D σ H1 else u D σ H1
theorem ps_if{c:Expr}{a b:List Stmt}{tc:TT}(hc:PT X c tc)(ha:PSs X a t)(hb:PSs X b u):PS X (.If c a b pos) (tIfS tc t u):=by
 intro pins s σ H D I h
 refine wpAny_If (thn (hc pins s σ H _ I h) fun d s1 ⟨H1,I1,q1⟩=>?_)
 cases d with
 | true=>exact ha pins s1 σ H1 D I1 q1
 | false=>exact hb pins s1 σ H1 D I1 q1
def QPp:TS:=fun _ _ _=>False
theorem QLj:PS X st QPp:=fun _ _ _ _ _ _ h=>h.elim
end
abbrev TG:=V->St->Hp->(St->Hp->Prop)->Prop
abbrev TGs:=List V->St->Hp->(St->Hp->Prop)->Prop
def PG(X:Cx)(target:Expr)(t:TG):Prop:=
 ∀(pins:‹"v"›)(s:Shared)(σ:St)(H:Hp)(v:V)(u:Value)(Q:St->Hp->Prop),Inv X pins σ H s->RelV v u->t v σ H Q->
  wpAny ‹"i"› X.A (assign target X.env u) (fun _ s'=>∃ σ' H',Inv X pins σ' H' s'/\Q σ' H') X.xe s
def PGs(X:Cx)(ts:List Expr)(t:TGs):Prop:=
 ∀(pins:‹"v"›)(s:Shared)(σ:St)(H:Hp)(vs:List V)(us:List Value)(Q:St->Hp->Prop),Inv X pins σ H s->Vals vs us->t vs σ H Q->
  wpAny ‹"i"› X.A (assignInOrder ((assignEach ts X.env).map (·.2)) us) (fun _ s'=>∃ σ' H',Inv X pins σ' H' s'/\Q σ' H') X.xe s
abbrev TSet:=V->V->V->Hp->(Hp->Prop)->Prop
def PSet(X:Cx)(t:TSet):Prop:=
 ∀(pins:‹"v"›)(s:Shared)(σ:St)(H:Hp)(o i v:V)(ov iv u:Value)(Q:Hp->Prop),Inv X pins σ H s->RelV o ov->RelV i iv->RelV v u->t o i v H Q->
  wpAny ‹"i"› X.A (setItem ov iv u) (fun _ s'=>∃ H',Inv X pins σ H' s'/\Q H') X.xe s
section
variable{X:Cx}{pos:Pos}
def gName(i:Nat):TG:=fun v σ H Q=>Q (σ.set i (some v)) H
theorem QEJ{i:Nat}{x:Str}(hN:X.N.Nodup)(hi:X.N[i]?=some x)(hx:Loc X.env.scope x)(hf:X.fn x=true∨X.env.scope.names.lookup x=some .local:=by first | exact .inl rfl | exact .inr rfl | assumption):PG X (.Name x pos) (gName i):=by
 intro pins s σ H v u Q I r h
 exact wpAny_assign_Name (QjL I hN hi hx r (fun s' I'=>⟨_,H,I',h⟩) hf)
def gNil:TGs:=fun vs σ H Q=>vs=[]/\Q σ H
def gCons(t:TG)(u:TGs):TGs:=fun vs σ H Q=>∃ v r,vs=v::r/\t v σ H fun σ' H'=>u r σ' H' Q
theorem QNx:PGs X [] gNil:=by
 intro pins s σ H vs us Q I r h
 obtain⟨e,h⟩:=h
 subst e
 cases r
 exact assignInOrder_nil ⟨σ,H,I,h⟩
theorem QLL{e:Expr}{es:List Expr}{t:TG}{u:TGs}(h1:PG X e t)(h2:PGs X es u)
 (hs:(assignEach (e::es) X.env).map (·.2)=assign e X.env::(assignEach es X.env).map (·.2):=by rfl):PGs X (e::es) (gCons t u):=by
 intro pins s σ H vs us Q I r h
 obtain⟨v,vr,e1,h⟩:=h
 subst e1
 cases r with
 | cons r rr=>
  rw[hs]
  refine assignInOrder_cons (thn (h1 pins s σ H _ _ _ I r h) fun _ s1 ⟨σ1,H1,I1,q1⟩=>?_)
  exact h2 pins s1 σ1 H1 _ _ Q I1 rr q1
def gTup(K:W.Frag)(n:Nat)(t:TGs):TG:=fun v σ H Q=>∃ a xs,v=.ref a/\SqT K H a xs/\xs.length=n/\t xs σ H Q
theorem QIz{es:List Expr}{k:Nat}{t:TGs}{n:Nat}(hc:X.calm=true)(h:PGs X es t)
 (hn:(assignEach es X.env).length=n:=by rfl) (hst:(assignEach es X.env).findIdx? (·.1)=none:=by rfl):PG X (.Tuple es k pos) (gTup X.K n t):=by
 intro pins s σ H v u Q I r hw
 obtain⟨a,xs,e1,hq,hl,hw⟩:=hw
 subst e1
 cases r
 obtain⟨its,rv,ht,hz⟩:=I.tuple hq
 refine assign_Tuple_tuple (I.ok.hd hc) ht (by simp[hn, ← hl,rv.length]) hst fun h' hx=>?_
 have I1:Inv X pins σ H { s with heap:=h' }:=I.kept (t':=s.toks) fun b o e=>hx b o (Nat.ne_of_lt (Heap.lt_size e)) e
 exact h pins _ σ H xs _ Q I1 (by simpa using rv) hw
def gSub(to ti:TE)(t:TSet):TG:=fun v σ H Q=>to σ H fun o H1=>ti σ H1 fun i H2=>t o i v H2 fun H3=>Q σ H3
theorem QOG{o i:Expr}{to ti:TE}{t:TSet}(ho:PE X o to)(hi:PE X i ti)(hs:PSet X t)
 (ha:∀ v,assign (.Subscript o i pos) X.env v=(do
  let ov ← holding [v] (eval o X.env)
  let iv ← holding [v,ov] (eval i X.env)
  standAt pos
  holding [v,ov,iv] (setItem ov iv v)
  release [v,ov,iv] []):=by intro _;rfl):PG X (.Subscript o i pos) (gSub to ti t):=by
 intro pins s σ H v u Q I r h
 rw[ha]
 refine wpAny_bind (wpAny_holding (thn (ho pins s σ H _ I h) fun ov s1 ⟨x,H1,I1,r1,q1⟩=>?_))
 refine wpAny_bind (wpAny_holding (thn (hi pins s1 σ H1 _ I1 q1) fun iv s2 ⟨y,H2,I2,r2,q2⟩=>?_))
 refine wpAny_bind (wpAny_standAt (wpAny_bind (wpAny_holding (thn (hs pins s2 σ H2 x y v ov iv u _ I2 r1 r2 r q2) fun _ s3 ⟨H3,I3,q3⟩=>?_))))
 exact wpAny_release ⟨σ,H3,I3,q3⟩
def tAsg(te:TE)(g:TG):TS:=fun D σ H=>te σ H fun x H1=>g x σ H1 D.nx
theorem QJk{tg e:Expr}{te:TE}{g:TG}(he:PE X e te)(hg:PG X tg g)(hs:swapsWithSole [tg] e pos.line X.env=pure false:=by rfl)(hw:swappedStores [tg] e X.env=pure none:=by rfl)
 (h1:(assignEach [tg] X.env).map (·.2)=[assign tg X.env]:=by rfl):PS X (.Assign [tg] e pos) (tAsg te g):=by
 intro pins s σ H D I h
 refine wpAny_Assign_stores (thn (he pins s σ H _ I h) fun v s1 ⟨x,H1,I1,r1,q1⟩=>?_) hs hw
 rw[h1]
 exact thn (hg pins s1 σ H1 x v _ I1 r1 q1) fun _ s2 q=>q
theorem QJA{i:Nat}{x:Str}{e:Expr}{te:TE}{pos':Pos}(hN:X.N.Nodup)(hi:X.N[i]?=some x)(hx:Loc X.env.scope x)(he:PE X e te)(hs:swapsWith e (some (.Name x pos')) pos.line X.env=pure false:=by rfl)(hf:X.fn x=true∨X.env.scope.names.lookup x=some .local:=by first | exact .inl rfl | exact .inr rfl | assumption):
 PS X (.Assign [.Name x pos'] e pos) (tAsg te (gName i)):=by
 intro pins s σ H D I h
 refine wpAny_Assign_Name (thn (he pins s σ H _ I h) fun v s1 ⟨y,H1,I1,r1,q1⟩=>?_) hs
 exact QjL I1 hN hi hx r1 (fun s2 I2=>⟨_,H1,I2,q1⟩) hf
def tPar(i j:Nat)(ta:TA):TS:=fun D σ H=>ta σ H fun vs H1=>∃ v w,vs=[v,w]/\D.nx ((σ.set i (some v)).set j (some w)) H1
theorem QPf{i j:Nat}{x y:Str}{a b:Expr}{ta:TA}{px py pt:Pos}{kt k2 pt2}(hc:X.calm=true)(hN:X.N.Nodup)(hi:X.N[i]?=some x)(hj:X.N[j]?=some y)(hij:i≠j)
 (hx:X.env.scope.names.lookup x=some .local) (hy:X.env.scope.names.lookup y=some .local) (ha:PA X [a,b] ta)
 (hw:swappedStores [.Tuple [.Name x px,.Name y py] kt pt] (.Tuple [a,b] k2 pt2) X.env=pure (some [x,y]))
 (hs:swapsWithSole [.Tuple [.Name x px,.Name y py] kt pt] (.Tuple [a,b] k2 pt2) pos.line X.env=pure false:=by rfl):
 PS X (.Assign [.Tuple [.Name x px,.Name y py] kt pt] (.Tuple [a,b] k2 pt2) pos) (tPar i j ta):=by
 intro pins s σ H D I h
 rw[exec_Assign_arm]
 refine wpAny_bind (wpAny_standAt ?_)
 rw[hs]
 refine wpAny_bind (wpAny_pure ?_)
 rw[if_neg (by decide)]
 refine wpAny_bind (Tuple_ (thn (ha _ pins s σ H _ I h) fun us s1 ⟨vs,H1,I1,r1,q1⟩=>?_))
 obtain⟨v,w,e1,q1⟩:=q1
 subst e1
 obtain⟨u1,u2,rfl,rv,rw'⟩:∃ u1 u2,us=[u1,u2]/\RelV v u1/\RelV w u2:=by
  cases r1 with
  | cons p q=>
   cases q with
   | cons p' q'=>
    cases q'
    exact⟨_,_,rfl,p,p'⟩
 refine wpAny_newObj_type ?_ (by show 2<=sizeLine;decide)
 have I2:Inv X pins σ H1 { s1 with heap:=s1.heap.push { cls:=.type "tuple",data:=.seq [u1,u2].toArray } }:=I1.kept (t':=s1.toks) fun b o e=>Heap.get?_push_of_some _ e
 rw[hw]
 refine wpAny_bind (wpAny_pure ?_)
 show wpAny ‹"i"› X.A (do rule "assign.swapped-stores";let items ← unpackItems (.ref s1.heap.objs.size) 2 none;assignInOrder [fun v=>bindName X.env y v,fun v=>bindName X.env x v] items.reverse;pure Flow.next) _ _ _
 refine wpAny_bind (wpAny_rule (wpAny_bind (unpackItems_tuple (items := #[u1,u2]) (I.ok.hd hc) (IsTup.new s1.heap _) fun h' hx'=>?_)))
 have I3:=I2.kept (h':=h') (t':=s1.toks) fun b o e=>hx' b o (Nat.ne_of_lt (Heap.lt_size e)) e
 show wpAny _ _ (assignInOrder [fun v=>bindName X.env y v,fun v=>bindName X.env x v] [u2,u1]>>=fun _=>pure Flow.next) _ _ _
 refine wpAny_bind (assignInOrder_cons (wpAny_bindName (QjL I3 hN hj (.inl hy) rw' (fun s2 I4=>?_) (.inr hy))))
 refine assignInOrder_cons (wpAny_bindName (QjL I4 hN hi (.inl hx) rv (fun s3 I5=>assignInOrder_nil (wpAny_pure ?_)) (.inr hx)))
 rw[List.set_comm _ _ (Ne.symm hij)]at I5
 exact⟨_,H1,I5,q1⟩
end
section
variable{X:Cx}{pos:Pos}
def QPc(c:TT)(tb:TS):TS:=fun D σ H=>∃ W:Nat->St->Hp->Prop,(∃ m,W m σ H)/\∀ m σ H,W m σ H->
 c σ H fun b H1=>if b=true then ∃ N:St->Hp->Prop,(∀ σ' H',N σ' H'->∃ m',m'<m/\W m' σ' H')/\tb { D with nx:=N,ct:=N,bk:=D.nx } σ H1 else D.nx σ H1
theorem QL2{c:Expr}{body:List Stmt}{tc:TT}{tb:TS}(hp:PassesOwn ‹"i"› X.A X.env X.xe)(hc:PT X c tc)(hb:PSs X body tb):PS X (.While c body [] pos) (QPc tc tb):=by
 intro pins s σ H D I h
 obtain⟨W,⟨m0,w0⟩,turn⟩:=h
 refine wpAny_While (codeAny_whileLoop (fun n s'=>∃ σ' H',Inv X pins σ' H' s'/\W n σ' H') ?_ m0 ⟨σ,H,I,w0⟩)
 rintro n s1 ⟨σ1,H1,I1,w1⟩
 refine wpAny_passesOwn hp (thn (hc pins s1 σ1 H1 _ I1 (turn n σ1 H1 w1)) fun b s2 ⟨H2,I2,q2⟩=>?_)
 cases b with
 | true=>
  obtain⟨N,hN,q2⟩:=q2
  rw[if_pos rfl]
  refine wpAny_passesOwn hp (thn (hb pins s2 σ1 H2 _ I2 q2) fun f s3 q3=>?_)
  cases f with
  | next=>
   obtain⟨σ3,H3,I3,n3⟩:=q3
   obtain⟨m',hm,w3⟩:=hN σ3 H3 n3
   exact⟨m',hm,σ3,H3,I3,w3⟩
  | cont=>
   obtain⟨σ3,H3,I3,n3⟩:=q3
   obtain⟨m',hm,w3⟩:=hN σ3 H3 n3
   exact⟨m',hm,σ3,H3,I3,w3⟩
  | brk=>exact q3
  | ret v=>exact q3
 | false=>
  rw[if_neg Bool.false_ne_true]
  exact wpAny_execs_nil ⟨σ1,H2,I2,q2⟩
end
structure It where
 go:Nat->Hp->Prop
 yld:Nat->Hp->V->Hp->Prop
 stop:Nat->Hp->Prop
def FpOk(X:Cx)(pins:‹"v"›)(H:Hp)(b:Addr):Prop:=
 H b=none/\b≠X.env.locals/\b∉X.fs/\(b∈X.ex∨X.s₀.heap.objs.size<=b)/\(∀ x c,X.env.cells.lookup x=some c->c≠b)/\∀ p∈X.pn++pins,p.1≠b
theorem Inv.fpOk{X:Cx}{pins:‹"v"›}{σ:St}{H H':Hp}{s:Shared}{b:Addr}(I:‹"g"›)(hb:s.heap.objs.size<=b)(hn:H' b=none):FpOk X pins H' b:=by
 refine⟨hn,Nat.ne_of_gt (Nat.lt_of_lt_of_le I.lt hb),I.nofs hb,.inr (Nat.le_trans I.sz hb),fun x c e z=>?_,fun p hp z=>?_⟩
 ·obtain⟨v,q⟩:=I.cell x c e
  exact absurd (Nat.lt_of_lt_of_le q.lt (by rw[z];exact hb)) (Nat.lt_irrefl _)
 ·exact absurd (Nat.lt_of_lt_of_le (Heap.lt_size (I.pin p hp).1) (by rw[z];exact hb)) (Nat.lt_irrefl _)
structure Turn(P:Program)(w:World)(K:W.Frag)(tg:Expr)(J:It)(fp:List Addr)(it:Addr)(tn:Nat->Heap->Prop):Prop where
 mem:it∈fp
 obj:∀ i h,tn i h->∀ b∈fp,∃ o,h.get? b=some o/\∀ v,o.data≠.cell v
 keep:∀ i h h',tn i h->(∀ b∈fp,∀ o,h.get? b=some o->h'.get? b=some o)->tn i h'
 item:∀(X:Cx),X.prog=P->X.w=w->X.K=K->X.calm=true->∀(i:Nat)(pins:‹"v"›)(s:Shared)(σ:St)(H:Hp)(E:‹"m"›),Inv X pins σ H s->(∀ b∈fp,FpOk X pins H b)->tn i s.heap->J.go i H->
  wpAny (model P w) X.A (pyNext (.ref it)) (fun r s1=>∃ u,r=some u/\
   wpAny (model P w) X.A (letOwnedTupleGo tg (.ref it) u) (fun _ s2=>∃ x H',Inv X pins σ H' s2/\RelV x u/\J.yld i H x H'/\tn (i+1) s2.heap/\∀ b∈fp,H' b=none) E s1) E s
 done:∀(X:Cx),X.prog=P->X.w=w->X.K=K->X.calm=true->∀(i:Nat)(pins:‹"v"›)(s:Shared)(σ:St)(H:Hp)(E:‹"m"›),Inv X pins σ H s->(∀ b∈fp,FpOk X pins H b)->tn i s.heap->J.stop i H->
  wpAny (model P w) X.A (pyNext (.ref it)) (fun r s1=>r=none/\Inv X pins σ H s1) E s
 self:∀(A:Around)(i:Nat)(s:Shared)(Q:‹"m"›)(E:‹"m"›),tn i s.heap->Q (.ref it) s->wpAny (model P w) A (pyIter (.ref it)) Q E s
abbrev TI:=St->Hp->(It->Hp->Prop)->Prop
def PIE(X:Cx)(pins:‹"v"›)(σ:St)(tg:Expr)(R:It->Hp->Prop)(itv:Value)(s2:Shared):Prop:=
 ∃(it:Addr)(fp:List Addr)(tn:Nat->Heap->Prop)(J:It)(H':Hp),itv=.ref it/\Inv X pins σ H' s2/\Turn X.prog X.w X.K tg J fp it tn/\tn 0 s2.heap/\(∀ b∈fp,FpOk X pins H' b)/\R J H'
def PI(X:Cx)(tg iter:Expr)(wi:TI):Prop:=
 ∀(pins:‹"v"›)(s:Shared)(σ:St)(H:Hp)(R:It->Hp->Prop),Inv X pins σ H s->wi σ H R->
  wpAny ‹"i"› X.A (eval iter X.env) (fun v s1=>wpAny ‹"i"› X.A (pyIter v) (PIE X pins σ tg R) X.xe s1) X.xe s
theorem go_of{M:Model}{A:Around}{E:‹"m"›}{s:Shared}{tg:Expr}{it:Addr}{u:Value}{o:Obj}{n:String}{vs:Array Value}{Q:Unit->Shared->Prop}(ho:s.heap.get? it=some o)(hc:o.cls=.type n)(hd:o.data=.fields vs)
 (hn:["enumerate","zip","dict_itemiterator","dict_reverseitemiterator","odict_iterator","itertools.zip_longest","itertools.pairwise"].contains n=false) (hQ:Q () s):wpAny M A (letOwnedTupleGo tg (.ref it) u) Q E s:=by
 unfold letOwnedTupleGo
 cases tg<;>first
  | exact wpAny_pure hQ
  | (cases u<;>first
   | exact wpAny_pure hQ
   | (refine wpAny_bind (wpAny_load ho ?_)
      rw[hc,hd]
      show wpAny M A (if (["enumerate","zip","dict_itemiterator","dict_reverseitemiterator","odict_iterator","itertools.zip_longest","itertools.pairwise"].contains n&&vs[0]? == some (rawInt _))=true then _ else _) Q E s
      rw[if_neg (by intro h;rw[hn,Bool.false_and]at h;cases h)]
      exact wpAny_pure hQ))
def Itl(K:W.Frag)(a:Addr):It:=
 ⟨fun i H=>∃ xs x,SqL K H a xs/\xs[i]?=some x,fun i H x H'=>H'=H/\∀ xs,SqL K H a xs->xs[i]?=some x,fun i H=>∃ xs,SqL K H a xs/\xs.length<=i⟩
def Itr(lo:Int)(n:Nat):It:=⟨fun i _=>i<n,fun i H x H'=>H'=H/\x=.int (lo+i),fun i _=>n<=i⟩
theorem QIi{P:Program}{w:World}{K:W.Frag}{tg:Expr}(a it:Addr):Turn P w K tg (Itl K a) [it] it (fun i h=>h.IsListIter it a i) where
 mem:=by simp
 obj:=fun i h st b hb=>by
  have e:b=it:=by simpa using hb
  subst e
  obtain⟨o,e,c,d⟩:=st
  exact⟨o,e,fun v z=>by rw[d]at z;cases z⟩
 keep:=fun i h h' st k=>st.at fun o e=>k it (by simp) o e
 item:=by
  intro X hP hw hK hc i pins s σ H E I hf st hg
  subst hP hw hK
  obtain⟨xs,x,hq,hx⟩:=hg
  obtain⟨its,rv,p,hz⟩:=I.list hq
  obtain⟨u,hu,ru⟩:=rv.get hx
  obtain⟨f0,f1,f2,f3,f4,f5⟩:=hf it (by simp)
  refine wpAny_pyNext_list_item st p.isList (x:=u) (by simpa using hu) fun h' st' sb=>?_
  have I1:Inv X pins σ H { s with heap:=h' }:=I.turned (t':=s.toks) (fun b o hb e=>(sb.2 b hb).trans e) f0 f1 f3 f4 f5
  obtain⟨o,e,c,d⟩:=id st'
  exact⟨u,rfl,go_of (s:={ s with heap:=h' }) e c d (by decide) ⟨x,H,I1,ru,⟨rfl,fun ys hy=>by rw[I.list_inj hy hq];exact hx⟩,st',fun b hb=>(hf b hb).1⟩⟩
 done:=by
  intro X hP hw hK hc i pins s σ H E I hf st hg
  subst hP hw hK
  obtain⟨xs,hq,hx⟩:=hg
  obtain⟨its,rv,p,hz⟩:=I.list hq
  obtain⟨f0,f1,f2,f3,f4,f5⟩:=hf it (by simp)
  have hl:=rv.length
  exact wpAny_pyNext_list_end (I.ok.hd hc) st p.isList (by simp;omega) fun h' eb=>⟨rfl,I.turned (t':=s.toks) (fun b o hb e=>eb b o hb e) f0 f1 f3 f4 f5⟩
 self:=fun _ _ _ _ _ st h=>wpAny_pyIter_listiter st h
theorem QGh{P:Program}{w:World}{K:W.Frag}{tg:Expr}(it:Addr)(lo:Int)(n:Nat):Turn P w K tg (Itr lo n) [it] it (fun i h=>IsRangeIter h it (lo+(i:Nat) * 1) ((n:Int) - (i:Nat)) 1) where
 mem:=by simp
 obj:=fun i h st b hb=>by
  have e:b=it:=by simpa using hb
  subst e
  exact⟨_,st,fun v z=>by
   have z':Data.fields _=Data.cell v:=z
   cases z'⟩
 keep:=fun i h h' st k=>k it (by simp) _ st
 item:=by
  intro X hP hw hK hc i pins s σ H E I hf st hg
  subst hP hw hK
  obtain⟨f0,f1,f2,f3,f4,f5⟩:=hf it (by simp)
  have W:=Walks.range (prog:=X.prog) (w:=X.w) (I.ok.hd hc) it lo 1 n
  refine W.item i s _ _ hg st fun v h' tk hv st' kk=>?_
  obtain⟨t,rfl⟩:=hv
  have I1:Inv X pins σ H { s with heap:=h',toks:=tk }:=I.turned (fun b o hb e=>kk b o (by simpa using hb) e) f0 f1 f3 f4 f5
  refine⟨_,rfl,go_of (s:={ s with heap:=h',toks:=tk }) (n:="range_iterator") st' rfl rfl (by decide) ⟨.int (lo+i),H,I1,⟨t,?_⟩,⟨rfl,rfl⟩,st',fun b hb=>(hf b hb).1⟩⟩
  rw[Int.mul_one]
 done:=by
  intro X hP hw hK hc i pins s σ H E I hf st hg
  subst hP hw hK
  obtain⟨f0,f1,f2,f3,f4,f5⟩:=hf it (by simp)
  exact wpAny_pyNext_range_end (I.ok.hd hc) st (by have:n<=i:=hg;omega) fun h' eb=>⟨rfl,I.turned (t':=s.toks) (fun b o hb e=>eb b o hb e) f0 f1 f3 f4 f5⟩
 self:=fun _ _ _ _ _ st h=>wpAny_pyIter_rangeiter st h
end L2
namespace L2
open PySem PySem.Spec PyProof.Rows
section
variable{X:Cx}{tg:Expr}
def iList(K:W.Frag)(tl:TE):TI:=fun σ H R=>tl σ H fun x H1=>∃ a,x=.ref a/\(∃ xs,SqL K H1 a xs)/\R (Itl K a) H1
theorem QN6{l:Expr}{tl:TE}(hl:PE X l tl):PI X tg l (iList X.K tl):=by
 intro pins s σ H R I h
 refine thn (hl pins s σ H _ I h) fun v s1 ⟨x,H1,I1,r1,q1⟩=>?_
 obtain⟨a,e,⟨xs,hq⟩,q⟩:=q1
 subst e
 cases r1
 obtain⟨its,rv,p,hz⟩:=I1.list hq
 refine wpAny_pyIter_list p.isList ?_
 refine⟨s1.heap.objs.size,[s1.heap.objs.size],_,_,H1,rfl,I1.kept (t':=s1.toks) fun b o e=>Heap.get?_push_of_some _ e,QIi a _,⟨_,Heap.get?_push_size _ rfl,rfl,rfl⟩,fun b hb=>?_,q⟩
 have e:b=s1.heap.objs.size:=by simpa using hb
 subst e
 exact I1.fpOk (Nat.le_refl _) (I1.hok.fresh (Nat.le_refl _))
theorem QLC{pins:‹"v"›}{σ:St}{H:Hp}{s:Shared}{R:It->Hp->Prop}{E:‹"m"›}{lo hi:Int}{t u v:Tok}{tk:Nat}(I:‹"g"›)(h1 : -(2 ^ 62)<=lo)(h2:lo<2 ^ 62)(h3 : -(2 ^ 62)<=hi)(h4:hi<2 ^ 62)
 (q:R (Itr lo (hi - lo).toNat) H):wpAny ‹"i"› X.A (pyIter (.ref s.heap.objs.size)) (PIE X pins σ tg R) E { s with heap:=s.heap.push { cls:=.type "range",data:=.fields #[.int lo t,.int hi u,.int 1 v] },toks:=tk }:=by
 refine wpAny_pyIter_range (IsRange.new ..) (small_one h1 h2 h3 h4) ?_
 have I1:Inv X pins σ H { s with heap:=s.heap.push { cls:=.type "range",data:=.fields #[.int lo t,.int hi u,.int 1 v] },toks:=tk }:=I.kept fun b o e=>Heap.get?_push_of_some _ e
 refine⟨(s.heap.push { cls:=.type "range",data:=.fields #[.int lo t,.int hi u,.int 1 v] }).objs.size,[(s.heap.push { cls:=.type "range",data:=.fields #[.int lo t,.int hi u,.int 1 v] }).objs.size],_,_,H,rfl,
  I1.kept (t':=tk) fun b o e=>Heap.get?_push_of_some _ e,QGh _ lo (hi - lo).toNat,?_,fun b hb=>?_,q⟩
 ·have e1:lo+((0:Nat):Int) * 1=lo:=by simp
  have e2:(((hi - lo).toNat:Nat):Int) - ((0:Nat):Int)=Builtin.Range.rangeSize lo hi 1:=by rw[rangeSize_one];split<;>omega
  show IsRangeIter _ _ (lo+((0:Nat):Int) * 1) ((((hi - lo).toNat:Nat):Int) - ((0:Nat):Int)) 1
  rw[e1,e2]
  exact Heap.get?_push_size _ rfl
 ·have e:b=(s.heap.push { cls:=.type "range",data:=.fields #[.int lo t,.int hi u,.int 1 v] }).objs.size:=by simpa using hb
  subst e
  exact I1.fpOk (Nat.le_refl _) (I1.hok.fresh (Nat.le_refl _))
def iRng1(ta:TA):TI:=fun σ H R=>ta σ H fun vs H1=>∃ j:Int,vs=[.int j] /\ -(2 ^ 62)<=j/\j<2 ^ 62/\R (Itr 0 j.toNat) H1
theorem QIE{a:Expr}{ta:TA}{p pos:Pos}(hg:Gl X "range")(hm:X.mg "range"=none)(ha:PA X [a] ta)(hs:starEach [a] X.env=[(false,eval a X.env)]:=by rfl):PI X tg (.Call (.Name "range" p) [a] [] pos) (iRng1 ta):=by
 intro pins s σ H R I h
 refine Call_ (Qgg I hg hm boot_range (PyProof.Rows.callWith_type1 (thn (ha pos pins s σ H _ I h) fun us s1 ⟨vs,H1,I1,r1,q1⟩=>?_) hs rfl))
 obtain⟨j,e,q1,q2,q⟩:=q1
 subst e
 cases r1 with
 | cons r rr=>
  cases rr
  obtain⟨t,rfl⟩:=r
  exact call_range_1 (QLC I1 (by omega) (by omega) q1 q2 (by simpa using q))
def tFor(wi:TI)(g:TG)(tb:TS):TS:=fun D σ H=>wi σ H fun J H1=>∃ W:Nat->Nat->St->Hp->Prop,(∃ m,W 0 m σ H1)/\∀ i m σ H,W i m σ H->
 (J.stop i H/\D.nx σ H)∨(J.go i H/\∃ N:St->Hp->Prop,(∀ σ' H',N σ' H'->∃ m',m'<m/\W (i+1) m' σ' H')/\∀ x H',J.yld i H x H'->g x σ H' fun σ2 H2=>tb { D with nx:=N,ct:=N,bk:=D.nx } σ2 H2)
def QkW(fp:List Addr)(h:Heap):List (Addr×Obj):=fp.filterMap fun b=>(h.get? b).map fun o=>(b,o)
theorem QgL{fp:List Addr}{h:Heap}{b:Addr}{o:Obj}(hb:b∈fp)(e:h.get? b=some o):(b,o)∈QkW fp h:=List.mem_filterMap.mpr ⟨b,hb,by rw[e];rfl⟩
theorem QI6{fp:List Addr}{h:Heap}{p:Addr×Obj}(hp:p∈QkW fp h):p.1∈fp/\h.get? p.1=some p.2:=by
 obtain⟨b,hb,e⟩:=List.mem_filterMap.mp hp
 cases q:h.get? b with
 | none=>rw[q]at e;cases e
 | some o=>
  rw[q]at e
  have e':(b,o)=p:=Option.some.inj e
  subst e'
  exact⟨hb,q⟩
theorem Inv.pinned{pins:‹"v"›}{σ:St}{H:Hp}{s:Shared}{fp:List Addr}(I:‹"g"›)(hf:∀ b∈fp,FpOk X pins H b)(ho:∀ b∈fp,∃ o,s.heap.get? b=some o/\∀ v,o.data≠.cell v):Inv X (pins++QkW fp s.heap) σ H s:=
 I.pins_of fun p hp=>(List.mem_append.mp hp).elim (fun z=>I.pin p (List.mem_append_right _ z)) fun z=>by
  obtain⟨hb,e⟩:=QI6 z
  obtain⟨f0,f1,f2,_⟩:=hf p.1 hb
  obtain⟨o,e',d⟩:=ho p.1 hb
  rw[e]at e';cases e'
  exact⟨e,f0,f1,f2,d⟩
theorem Inv.unpinned{pins pl:‹"v"›}{σ:St}{H:Hp}{s:Shared}(I:Inv X (pins++pl) σ H s):Inv X pins σ H s:=I.pins_of fun p hp=>I.pin p (List.mem_append_right _ (List.mem_append_left _ hp))
theorem QPv{iter:Expr}{body:List Stmt}{wi:TI}{g:TG}{tb:TS}{pos:Pos}(hp:PassesOwn ‹"i"› X.A X.env X.xe)(hc:X.calm=true)(hi:PI X tg iter wi)(hg:PG X tg g)(hb:PSs X body tb)
 (hs:∀ x,foldedSetIterable iter X.env x=pure x:=by intro _;rfl):PS X (.For tg iter body [] pos) (tFor wi g tb):=by
 intro pins s σ H D I h
 refine wpAny_For (thn (hi pins s σ H _ I h) fun v s1 h1=>thn h1 fun itv s2 h2=>?_) hs
 obtain⟨it,fp,tn,J,H2,e,I2,T,st2,f2,W,⟨m0,w0⟩,turn⟩:=h2
 subst e
 -- what stays true of the iterator's objects through the loop
 have stat:∀{H':Hp},(∀ b∈fp,H' b=none)->∀ b∈fp,FpOk X pins H' b:=fun hn b hb=>⟨hn b hb,(f2 b hb).2⟩
 refine codeAny_forLoop_any (fun n s'=>∃ i σ' H',Inv X pins σ' H' s'/\tn i s'.heap/\(∀ b∈fp,H' b=none)/\W i n σ' H') ?_ m0 ⟨0,σ,H2,I2,st2,fun b hb=>(f2 b hb).1,w0⟩
 rintro n s3 ⟨i,σ3,H3,I3,st3,fr3,w3⟩
 rcases turn i n σ3 H3 w3 with⟨stop,qn⟩ | ⟨go,N,hN,step⟩
 ·refine wpAny_passesOwn hp (thn (T.done X rfl rfl rfl hc i pins s3 σ3 H3 X.xe I3 (stat fr3) st3 stop) fun r s4 ⟨hr,I4⟩=>?_)
  subst hr
  exact wpAny_execs_nil ⟨σ3,H3,I4,qn⟩
 ·refine wpAny_passesOwn hp (thn (T.item X rfl rfl rfl hc i pins s3 σ3 H3 X.xe I3 (stat fr3) st3 go) fun r s4 ⟨u,hr,h4⟩=>?_)
  subst hr
  refine wpAny_passesOwn hp (thn h4 fun _ s5 ⟨x,H5,I5,r5,y5,st5,fr5⟩=>?_)
  have I5':=I5.pinned (stat fr5) (T.obj _ _ st5)
  refine wpAny_passesOwn hp (thn (hg _ s5 σ3 H5 x u _ I5' r5 (step x H5 y5)) fun _ s6 ⟨σ6,H6,I6,q6⟩=>?_)
  refine wpAny_passesOwn hp (thn (hb _ s6 σ6 H6 _ I6 q6) fun f s7 q7=>?_)
  have again:∀{σ7:St}{H7:Hp},Inv X (pins++QkW fp s5.heap) σ7 H7 s7->N σ7 H7->∃ m,m<n/\∃ i σ' H',Inv X pins σ' H' s7/\tn i s7.heap/\(∀ b∈fp,H' b=none)/\W i m σ' H':=fun {σ7 H7} I7 n7=>by
   obtain⟨m',hm,w7⟩:=hN σ7 H7 n7
   refine⟨m',hm,i+1,σ7,H7,I7.unpinned,T.keep _ _ _ st5 fun b hb o e=>(I7.pin (b,o) (List.mem_append_right _ (List.mem_append_right _ (QgL hb e)))).1,fun b hb=>?_,w7⟩
   obtain⟨o,e,d⟩:=T.obj _ _ st5 b hb
   exact(I7.pin (b,o) (List.mem_append_right _ (List.mem_append_right _ (QgL hb e)))).2.1
  cases f with
  | next=>obtain⟨σ7,H7,I7,n7⟩:=q7;exact again I7 n7
  | cont=>obtain⟨σ7,H7,I7,n7⟩:=q7;exact again I7 n7
  | brk=>obtain⟨σ7,H7,I7,q7⟩:=q7;exact⟨σ7,H7,I7.unpinned,q7⟩
  | ret v=>obtain⟨x7,σ7,H7,I7,r7,q7⟩:=q7;exact⟨x7,σ7,H7,I7.unpinned,r7,q7⟩
end
end L2
namespace L2
open PySem PySem.Spec PyProof.Rows
abbrev R2:=V->V->Hp->VK->Prop
def OpR(X:Cx)(f:Value->Value->Sem Value)(r:R2):Prop:=
 ∀(pins:‹"v"›)(s:Shared)(σ:St)(H:Hp)(x y:V)(v u:Value)(Q:VK),Inv X pins σ H s->RelV x v->RelV y u->r x y H Q->
  wpAny ‹"i"› X.A (f v u) (EP X pins σ Q) X.xe s
def UnR(X:Cx)(f:Value->Sem Value)(r:V->Hp->VK->Prop):Prop:=
 ∀(pins:‹"v"›)(s:Shared)(σ:St)(H:Hp)(x:V)(v:Value)(Q:VK),Inv X pins σ H s->RelV x v->r x H Q->
  wpAny ‹"i"› X.A (f v) (EP X pins σ Q) X.xe s
def CallR(X:Cx)(f:Value)(r:List V->Hp->VK->Prop):Prop:=
 ∀(pins:‹"v"›)(s:Shared)(σ:St)(H:Hp)(xs:List V)(us:List Value)(Q:VK),Inv X pins σ H s->Vals xs us->r xs H Q->
  wpAny ‹"i"› X.A (call f us) (EP X pins σ Q) X.xe s
def tOp(r:R2)(ta tb:TE):TE:=fun σ H Q=>ta σ H fun x H1=>tb σ H1 fun y H2=>r x y H2 Q
def tUn(r:V->Hp->VK->Prop)(ta:TE):TE:=fun σ H Q=>ta σ H fun x H1=>r x H1 Q
def rI(C:Int->Int->Prop)(g:Int->Int->V):R2:=fun x y H Q=>∃ i j,x=.int i/\y=.int j/\C i j/\Q (g i j) H
def rI0(g:Int->Int->V):R2:=fun x y H Q=>∃ i j,x=.int i/\y=.int j/\Q (g i j) H
def rU(g:Int->V):V->Hp->VK->Prop:=fun x H Q=>∃ i,x=.int i/\Q (g i) H
section
variable{X:Cx}{a b c:Expr}{ta tb tc:TE}{pos:Pos}
theorem binT(ha:PE X a ta)(hb:PE X b tb){pins:‹"v"›}{s:Shared}{σ:St}{H:Hp}{R:V->V->Hp->Prop}(I:‹"g"›)
 (h:ta σ H fun x H1=>tb σ H1 fun y H2=>R x y H2) {Q:‹"m"›} {f:Value->Value->Sem Value}
 (hf:∀ v u s2 x y H2,Inv X pins σ H2 s2->RelV x v->RelV y u->R x y H2->wpAny ‹"i"› X.A (f v u) Q X.xe s2):
 wpAny ‹"i"› X.A (eval a X.env) (fun v s₁=>wpAny ‹"i"› X.A (eval b X.env) (fun u s₂ => wpAny ‹"i"› X.A (f v u) Q X.xe s₂) X.xe s₁) X.xe s:=by
 refine thn (ha pins s σ H _ I h) fun v s1 ⟨x,H1,I1,r1,q1⟩=>?_
 refine thn (hb pins s1 σ H1 _ I1 q1) fun u s2 ⟨y,H2,I2,r2,q2⟩=>?_
 exact hf v u s2 x y H2 I2 r1 r2 q2
theorem pe_op{op:Operator}{r:R2}(ho:OpR X (binaryOp op) r)(ha:PE X a ta)(hb:PE X b tb):PE X (.BinOp a op b pos) (tOp r ta tb):=by
 intro pins s σ H Q I h
 exact wpAny_BinOp (binT ha hb I h fun v u s2 x y H2 I2 rx ry q=>ho pins s2 σ H2 x y v u Q I2 rx ry q)
theorem pe_un{op:UnaryOp}{r:V->Hp->VK->Prop}(ho:UnR X (unaryOp op) r)(ha:PE X a ta):PE X (.UnaryOp op a pos) (tUn r ta):=by
 intro pins s σ H Q I h
 exact UnaryOp_ (thn (ha pins s σ H _ I h) fun v s1 ⟨x,H1,I1,r1,q1⟩=>ho pins s1 σ H1 x v Q I1 r1 q1)
theorem opI{f:Value->Value->Sem Value}{C:Int->Int->Prop}{g:Int->Int->Int}
 (rule:∀(i j:Int)(t u:Tok)(s:Shared)(Q:‹"m"›)(E:‹"m"›),C i j->Q (.int (g i j) s.toks) { s with toks:=s.toks+1 }->wpAny ‹"i"› X.A (f (.int i t) (.int j u)) Q E s):
 OpR X f (rI C fun i j=>.int (g i j)):=by
 intro pins s σ H x y v u Q I rx ry h
 obtain⟨i,j,rfl,rfl,hc,q⟩:=h
 obtain⟨t,rfl⟩:=rx
 obtain⟨t',rfl⟩:=ry
 exact rule i j t t' s _ _ hc ⟨.int (g i j),H,I.tok _,⟨_,rfl⟩,q⟩
theorem opI0{f:Value->Value->Sem Value}{g:Int->Int->Int}
 (rule:∀(i j:Int)(t u:Tok)(s:Shared)(Q:‹"m"›)(E:‹"m"›),Q (.int (g i j) s.toks) { s with toks:=s.toks+1 }->wpAny ‹"i"› X.A (f (.int i t) (.int j u)) Q E s):
 OpR X f (rI0 fun i j=>.int (g i j)):=by
 intro pins s σ H x y v u Q I rx ry h
 obtain⟨i,j,rfl,rfl,q⟩:=h
 obtain⟨t,rfl⟩:=rx
 obtain⟨t',rfl⟩:=ry
 exact rule i j t t' s _ _ ⟨.int (g i j),H,I.tok _,⟨_,rfl⟩,q⟩
theorem opB0{f:Value->Value->Sem Value}{g:Int->Int->Bool}
 (rule:∀(i j:Int)(t u:Tok)(s:Shared)(Q:‹"m"›)(E:‹"m"›),Q (.bool (g i j)) s->wpAny ‹"i"› X.A (f (.int i t) (.int j u)) Q E s):
 OpR X f (rI0 fun i j=>.bl (g i j)):=by
 intro pins s σ H x y v u Q I rx ry h
 obtain⟨i,j,rfl,rfl,q⟩:=h
 obtain⟨t,rfl⟩:=rx
 obtain⟨t',rfl⟩:=ry
 exact rule i j t t' s _ _ ⟨.bl (g i j),H,I,rfl,q⟩
def CPow(i j:Int):Prop:=0<=j/\j<=1000000/\i.natAbs<2 ^ 64
def CMul(i j:Int):Prop:=(-(2 ^ 64)<i/\i<2 ^ 64)∨(-(2 ^ 64)<j/\j<2 ^ 64)
theorem CMul.ok{i j:Int}(h:CMul i j):IntMulOk i j:=by
 rcases h with⟨h1,h2⟩ | ⟨h1,h2⟩
 ·exact .of_left (intBits_le_64 h1 h2)
 ·exact .of_right (intBits_le_64 h1 h2)
theorem QP9:OpR X (binaryOp .Add) (rI0 fun i j=>.int (i+j)):=opI0 fun _ _ _ _ _ _ _ q=>add_int q
theorem QQg:OpR X (binaryOp .Sub) (rI0 fun i j=>.int (i - j)):=opI0 fun _ _ _ _ _ _ _ q=>sub_int q
theorem QNq:OpR X (binaryOp .Mod) (rI (fun _ j=>j≠0) fun i j=>.int (i.fmod j)):=opI fun _ _ _ _ _ _ _ hc q=>mod_int' hc q
theorem QPe:OpR X (binaryOp .Pow) (rI CPow fun i j=>.int (i ^ j.toNat)):=opI fun _ _ _ _ _ _ _ hc q=>pow_int_small hc.1 hc.2.1 hc.2.2 q
theorem unI{f:Value->Sem Value}{g:Int->Int}
 (rule:∀(i:Int)(t:Tok)(s:Shared)(Q:‹"m"›)(E:‹"m"›),Q (.int (g i) s.toks) { s with toks:=s.toks+1 }->wpAny ‹"i"› X.A (f (.int i t)) Q E s):
 UnR X f (rU fun i=>.int (g i)):=by
 intro pins s σ H x v Q I rx h
 obtain⟨i,rfl,q⟩:=h
 obtain⟨t,rfl⟩:=rx
 exact rule i t s _ _ ⟨.int (g i),H,I.tok _,⟨_,rfl⟩,q⟩
theorem QPR:UnR X (unaryOp .USub) (rU fun i=>.int (-i)):=unI fun _ _ _ _ _ q=>neg_int q
end
def scal:V->V->Bool
 | .non,.non=>true | .non,.int _=>true | .int _,.non=>true | .non,.bl _=>true | .bl _,.non=>true | .non,.str _=>true | .str _,.non=>true
 | .int _,.int _=>true | .bl _,.bl _=>true | .str _,.str _=>true | .byt _,.byt _=>true
 | .int _,.str _=>true | .str _,.int _=>true | .bl _,.str _=>true | .str _,.bl _=>true
 | _,_=>false
section
variable{X:Cx}{a b c:Expr}{ta tb tc:TE}{pos:Pos}
theorem QOB{pins:‹"v"›}{σ:St}{H:Hp}{s:Shared}{Q:VK}{k k':Bool}(I:‹"g"›)(q:Q (.bl k) H)(e:k=k'):EP X pins σ Q (.bool k') s:=by
 subst e
 exact⟨.bl k,H,I,rfl,q⟩
theorem op_lt:OpR X (compareOp .Lt) (rI0 fun i j=>.bl (decide (i<j))):=opB0 fun _ _ _ _ _ _ _ q=>lt_int q
theorem op_le:OpR X (compareOp .LtE) (rI0 fun i j=>.bl (decide (i<=j))):=opB0 fun _ _ _ _ _ _ _ q=>le_int q
theorem op_gt:OpR X (compareOp .Gt) (rI0 fun i j=>.bl (decide (j<i))):=opB0 fun _ _ _ _ _ _ _ q=>gt_int q
theorem op_ge:OpR X (compareOp .GtE) (rI0 fun i j=>.bl (decide (j<=i))):=opB0 fun _ _ _ _ _ _ _ q=>ge_int q
theorem QJn:OpR X (compareOp .In) (fun x y H Q=>∃ i j,x=.str i/\y=.str j/\Q (.bl (!(Builtin.Str.occurrences j i 0 j.length 1).isEmpty)) H):=by
 intro pins s σ H x y v u Q I rx ry h
 obtain⟨i,j,rfl,rfl,q⟩:=h
 obtain⟨t,rfl⟩:=rx
 obtain⟨t',rfl⟩:=ry
 exact in_str (QOB I q rfl)
theorem OpR.or{f:Value->Value->Sem Value}{r r':R2}(h:OpR X f r)(h':OpR X f r'):OpR X f (fun x y H Q=>r x y H Q∨r' x y H Q):=by
 intro pins s σ H x y v u Q I rx ry q
 rcases q with q | q
 ·exact h pins s σ H x y v u Q I rx ry q
 ·exact h' pins s σ H x y v u Q I rx ry q
theorem Qhx(b:Expr){op:CmpOp}(h:op≠.In:=by decide)(h2:op≠.NotIn:=by decide):behindInMarks op b=false:=by
 have e1:(op == CmpOp.In)=false:=by cases op<;>first | rfl | exact absurd rfl h
 have e2:(op == CmpOp.NotIn)=false:=by cases op<;>first | rfl | exact absurd rfl h2
 cases b<;>simp[behindInMarks,e1,e2]
theorem QNK{op:CmpOp}{r:R2}(ho:OpR X (compareOp op) r)(ha:PE X a ta)(hb:PE X b tb)(hm:behindInMarks op b=false):PE X (.Compare a [op] [b] pos) (tOp r ta tb):=by
 intro pins s σ H Q I h
 exact wpAny_Compare1 (binT ha hb I h fun v u s2 x y H2 I2 rx ry q=>ho pins s2 σ H2 x y v u Q I2 rx ry q) hm
def tTest(t:TE):TT:=fun σ H Q=>t σ H fun x H'=>∃ k,x=.bl k/\Q k H'
theorem QND{op:CmpOp}{r:R2}(ho:OpR X (compareOp op) r)(ha:PE X a ta)(hb:PE X b tb)(hm:behindInMarks op b=false):PT X (.Compare a [op] [b] pos) (tTest (tOp r ta tb)):=by
 intro pins s σ H Q I h
 refine wpAny_isTrue_Compare1 (thn (ha pins s σ H _ I h) fun v s1 ⟨x,H1,I1,r1,q1⟩=>thn (hb pins s1 σ H1 _ I1 q1) fun u s2 ⟨y,H2,I2,r2,q2⟩=>
  thn (ho pins s2 σ H2 x y v u _ I2 r1 r2 q2) fun c s3 ⟨z,H3,I3,r3,k,e,q3⟩=>?_) hm
 subst e
 cases r3
 exact wpAny_truthy_bool ⟨H3,I3,q3⟩
def QxR(r r':R2)(ta tb tc:TE):TE:=fun σ H Q=>ta σ H fun x H1=>tb σ H1 fun y H2=>r x y H2 fun z H3=>∃ k,z=.bl k/\
 (if k=true then tc σ H3 fun w' H4=>r' y w' H4 Q else Q (.bl false) H3)
theorem QLd{op op':CmpOp}{r r':R2}(ho:OpR X (compareOp op) r)(ho':OpR X (compareOp op') r')(ha:PE X a ta)(hb:PE X b tb)(hc:PE X c tc)
 (hm:lastMarks [op,op'] [b,c]=false:=by with_unfolding_all rfl):PE X (.Compare a [op,op'] [b,c] pos) (QxR r r' ta tb tc):=by
 intro pins s σ H Q I h
 refine Compare_chain (thn (ha pins s σ H _ I h) fun v s1 ⟨x,H1,I1,r1,q1⟩=>chain_link (thn (hb pins s1 σ H1 _ I1 q1) fun u s2 ⟨y,H2,I2,r2,q2⟩=>
  thn (ho pins s2 σ H2 x y v u _ I2 r1 r2 q2) fun d s3 ⟨z,H3,I3,r3,k,e,q3⟩=>?_)) hm
 subst e
 cases r3
 refine wpAny_truthy_bool ?_
 cases k with
 | false=>exact ite_ff ⟨.bl false,H3,I3,rfl,q3⟩
 | true=>exact ite_tt (chain_last (thn (hc pins s3 σ H3 _ I3 q3) fun w' s4 ⟨z',H4,I4,r4,q4⟩=>ho' pins s4 σ H4 y z' u w' Q I4 r2 r4 q4))
theorem QKY{op op':CmpOp}{r r':R2}(ho:OpR X (compareOp op) r)(ho':OpR X (compareOp op') r')(ha:PE X a ta)(hb:PE X b tb)(hc:PE X c tc)
 (hm:lastMarks [op,op'] [b,c]=false:=by with_unfolding_all rfl):PT X (.Compare a [op,op'] [b,c] pos) (tTest (QxR r r' ta tb tc)):=by
 intro pins s σ H Q I h
 refine isTrue_chain (thn (ha pins s σ H _ I h) fun v s1 ⟨x,H1,I1,r1,q1⟩=>test_link (thn (hb pins s1 σ H1 _ I1 q1) fun u s2 ⟨y,H2,I2,r2,q2⟩=>
  thn (ho pins s2 σ H2 x y v u _ I2 r1 r2 q2) fun d s3 ⟨z,H3,I3,r3,k,e,q3⟩=>?_)) hm
 subst e
 cases r3
 refine wpAny_truthy_bool ?_
 cases k with
 | false=>
  obtain⟨k',e',q'⟩:=q3
  cases e'
  exact ite_ff ⟨H3,I3,q'⟩
 | true=>
  refine ite_tt (test_last (thn (hc pins s3 σ H3 _ I3 q3) fun w' s4 ⟨z',H4,I4,r4,q4⟩=>thn (ho' pins s4 σ H4 y z' u w' _ I4 r2 r4 q4) fun d' s5 ⟨z2,H5,I5,r5,k2,e2,q5⟩=>?_))
  subst e2
  cases r5
  exact wpAny_truthy_bool ⟨H5,I5,q5⟩
theorem Qi4:(sizeLine:Nat)<2 ^ 63:=by rw[sizeLine_eq];decide
theorem QFP:OpR X (binaryOp .Add) (fun x y H Q=>∃ i j,x=.str i/\y=.str j/\i.length+j.length<=sizeLine/\Q (.str (i++j)) H):=by
 intro pins s σ H x y v u Q I rx ry h
 obtain⟨i,j,rfl,rfl,hz,q⟩:=h
 obtain⟨t,rfl⟩:=rx
 obtain⟨t',rfl⟩:=ry
 exact add_str (fun t' tk=>⟨.str (i++j),H,I.tok _,⟨_,rfl⟩,q⟩) hz
theorem vals1{x:V}{us:List Value}(r:Vals [x] us):∃ u,us=[u]/\RelV x u:=by
 cases r with
 | cons r1 r2=>cases r2;exact⟨_,rfl,r1⟩
theorem vals2{x y:V}{us:List Value}(r:Vals [x,y] us):∃ u w',us=[u,w']/\RelV x u/\RelV y w':=by
 cases r with
 | cons r1 r2=>
  cases r2 with
  | cons r3 r4=>cases r4;exact⟨_,_,rfl,r1,r3⟩
theorem QLQ:CallR X (.builtin "abs") (fun xs H Q=>∃ i,xs=[.int i]/\Q (.int (if i<0 then -i else i)) H):=by
 intro pins s σ H xs us Q I r h
 obtain⟨i,rfl,q⟩:=h
 obtain⟨u,rfl,t,rfl⟩:=vals1 r
 exact call_abs_int fun u tk=>⟨.int (if i<0 then -i else i),H,I.tok _,⟨_,rfl⟩,q⟩
theorem QKg:CallR X (.type "int") (fun xs H Q=>(∃ i,xs=[.int i]/\Q (.int i) H)∨∃ k,xs=[.bl k]/\Q (.int (if k then 1 else 0)) H):=by
 intro pins s σ H xs us Q I r h
 rcases h with⟨i,rfl,q⟩ | ⟨k,rfl,q⟩
 ·obtain⟨u,rfl,t,rfl⟩:=vals1 r
  exact call_int_int ⟨.int i,H,I,⟨_,rfl⟩,q⟩
 ·obtain⟨u,rfl,r1⟩:=vals1 r
  cases r1
  exact call_int_bool ⟨.int (if k then 1 else 0),H,I.tok _,⟨_,rfl⟩,q⟩
end
end L2
namespace L2
open PySem PySem.Spec PyProof.Rows
structure ObjM(h:Heap)(x dx C:Addr)(mA:Str->Option Value):Prop where
 obj:h.get? x=some (W.instObj C dx)
 ns:h.Ns1 dx mA
 ne:dx≠x
theorem QIt{h:Heap}{dx:Addr}{mA:Str->Option Value}(n:h.Ns1 dx mA):∃ od,h.get? dx=some od/\∀ name,W.lookIn name od=some (mA name):=by
 obtain⟨o,es,ep,ho,hd,hk,_,hm⟩:=n
 refine⟨o,ho,fun name=>?_⟩
 have e:=hm name
 unfold nsFind findBy at e
 rw[← Array.find?_toList]at e
 unfold W.lookIn
 rw[hd]
 dsimp only
 split
 ·rename_i y q
  rw[q]at e
  exact congrArg some e
 ·rename_i q
  rw[q]at e
  have a:es.toList.any (·.refKey)=false:=by
   rw[List.any_eq_false]
   intro y hy
   obtain⟨z,t,hkey⟩:=hk y (Array.mem_toList_iff.mp hy)
   simp[DictEntry.refKey,hkey]
  have a':¬ es.toList.any (·.refKey)=true:=by rw[a];exact Bool.false_ne_true
  rw[if_neg a']
  exact congrArg some e
theorem ObjM.look{h:Heap}{x dx C:Addr}{mA:Str->Option Value}(I:ObjM h x dx C mA):∃ od,W.InstAt h x (W.instObj C dx) C (some od)/\∀ name,W.lookIn name od=some (mA name):=
 let ⟨od,ho,hl⟩:=QIt I.ns
 ⟨od,⟨I.obj,rfl,rfl,ho⟩,hl⟩
section
variable{prog:Program}{w:World}{A:Around}{E:Value->Shared->Prop}{s:Shared}{K:W.Frag}{x dx C f:Addr}{mA:Str->Option Value}{name:Str}{v:Value}
theorem QNY{expr:Bool}{Q:‹"m"›}(X:K.In s.heap)(I:ObjM s.heap x dx C mA)(hg:W.plainGet K C name=true)(hh:W.hasDictIn K C=true)
 (ha:W.findIn K (.ref C) name=some none) (hv:mA name=some v) (hv':W.handedIn v=true) (h:Q v { s with toks:=s.toks+1 }):
 wpAny (model prog w) A (getAttr (.ref x) name expr) Q E s:=by
 obtain⟨od,J,hl⟩:=I.look
 exact W.get_value X J (W.plainGet_of hg).1 (W.findObj_own hh ha rfl (by rw[hl,hv])) hv' h
theorem QLT{pl:Sem Bool}{Q:Value×List Value->Shared->Prop}(X:K.In s.heap)(I:ObjM s.heap x dx C mA)(hg:W.plainGet K C name=true)
 (hf:W.findIn K (.ref C) name=some (some (.ref f))) (ht:W.isFn K (.ref f)=true) (hv:mA name=none) (h:Q (.ref f,[.ref x]) s):
 wpAny (model prog w) A (getMethod (.ref x) name pl) Q E s:=by
 obtain⟨od,J,hl⟩:=I.look
 exact W.method_fn X J (W.plainGet_of hg).1 (W.plainGet_of hg).2 hf (beq_iff_eq.mp ht) (by show(W.lookIn name od).map (·.isSome)=some false;rw[hl,hv];rfl) h
theorem QM0{ns:List Str}{Q:Unit->Shared->Prop}(X:K.In s.heap)(I:ObjM s.heap x dx C mA)
 (hs:W.findIn K (.ref C) "__setattr__"=some (some (.builtin "object.__setattr__"))) (hp:W.plainOver K C=true) (ht:W.takerIn K C name=some none) (hh:W.hasDictIn K C=true)
 (hw:PySem.Within mA ns) (hsz:ns.length<=sizeLine)
 (h:∀ h',ObjM h' x dx C (fun y=>if y=name then some v else mA y)->Heap.SameBut dx s.heap h'->Q () { s with heap:=h',toks:=s.toks+2 }):
 wpAny (model prog w) A (setAttr (.ref x) name v) Q E s:=by
 obtain⟨od,J,hl⟩:=I.look
 refine W.set_plain X J hs (W.osa_open (s:={ s with toks:=s.toks+1 }) (r:=none) X J hp ht fun b=>?_)
 obtain⟨cd,hc,hd'⟩:=W.any_some hh
 have hx:s.heap.get? x=some ⟨.ref C,some dx,.plain, #[]⟩:=I.obj
 refine wpAny_bind (wpAny_pure (wpAny_bind (wpAny_bind (wpAny_loadPart hx (wpAny_bind (W.Looks.here (s:={ s with toks:=s.toks+1 }) (W.looks_clsIn X hc) ?_))))))
 rw[hd']
 refine wpAny_pure (a:=some dx) (wpAny_bind (wpAny_pure (wpAny_bind ?_)))
 refine wpAny_nsSet1 (s:={ s with toks:=s.toks+1 }) I.ns fun h' hn2 hs2=>?_
 obtain⟨oD,esD,epD,hoD,hdD,hcD⟩:=hn2.count (PySem.Within.cons name v hw)
 refine wpAny_bind (wpAny_lookBehind hoD (by rw[hdD];exact pastItsLine_dict (Nat.le_trans hcD (by rw[List.length_cons];omega))) ?_)
 exact wpAny_pure (h _ ⟨(hs2.2 _ (Ne.symm I.ne)).trans I.obj,hn2,I.ne⟩ hs2)
theorem QLN{R:Result->Shared->Prop}{vs:List Value}{kw:List (Str×Value)}(X:K.In s.heap)(hm:W.makesIn K C=true)
 (hi:W.findIn K (.ref C) "__init__"=some (some (.ref f))) (hf:W.typeIn K (.ref f)=some (.type "function"))
 (h:codeAny (model prog w) (A.under (.builtin "type.__call__" ⟨.ref C::vs,kw⟩)) (.call (.ref f) ⟨.ref (s.heap.objs.size+1)::vs,kw⟩) (W.InitBack (s.heap.objs.size+1) R)
  { s with heap:=(s.heap.push W.emptyDict).push (W.instObj C s.heap.objs.size) }):
 codeAny (model prog w) A (.call (.ref C) ⟨vs,kw⟩) R s:=by
 obtain⟨hh,g,d,t,os⟩:=s
 exact W.make_core (W.makes_of X hm) (W.looks_findIn X hi) (fun self=>W.bind_fn X self hf) (.inl rfl) h
end
def putF(f:Str)(v:V):List (Str×V)->List (Str×V)
 | []=>[(f,v)]
 | (g,x)::r=>if g=f then(g,v)::r else(g,x)::putF f v r
theorem Qm5(f g:Str)(v:V):∀ fs:List (Str×V),(putF f v fs).lookup g=if g=f then some v else fs.lookup g
 | []=>by
  show List.lookup g [(f,v)]=_
  by_cases h:g=f
  ·have hb:(g == f)=true:=beq_iff_eq.mpr h
   simp only[List.lookup,hb,if_pos h]
  ·have hb:(g == f)=false:=beq_eq_false_iff_ne.mpr h
   simp only[List.lookup,hb,if_neg h]
 | (k,x)::r=>by
  have ih:=Qm5 f g v r
  rw[show putF f v ((k,x)::r)=(if k=f then(k,v)::r else(k,x)::putF f v r) from rfl]
  by_cases hk:k=f
  ·rw[if_pos hk]
   by_cases h:g=k
   ·have hb:(g == k)=true:=beq_iff_eq.mpr h
    simp only[List.lookup,hb,if_pos (h.trans hk)]
   ·have hb:(g == k)=false:=beq_eq_false_iff_ne.mpr h
    simp only[List.lookup,hb,if_neg (fun e:g=f=>h (e.trans hk.symm))]
  ·rw[if_neg hk]
   by_cases h:g=k
   ·have hb:(g == k)=true:=beq_iff_eq.mpr h
    simp only[List.lookup,hb,if_neg (fun e:g=f=>hk (h.symm.trans e))]
   ·have hb:(g == k)=false:=beq_eq_false_iff_ne.mpr h
    simp only[List.lookup,hb]
    exact ih
theorem QkK(f:Str)(v:V):∀ fs:List (Str×V),f∈(putF f v fs).map (·.1)/\∀ g,g∈fs.map (·.1)->g∈(putF f v fs).map (·.1)
 | []=>⟨by simp[putF],fun g h=>by simp at h⟩
 | (k,x)::r=>by
  obtain⟨i1,i2⟩:=QkK f v r
  rw[show putF f v ((k,x)::r)=(if k=f then(k,v)::r else(k,x)::putF f v r) from rfl]
  by_cases hk:k=f
  ·rw[if_pos hk]
   subst hk
   exact⟨by simp,fun g h=>by simpa using h⟩
  ·rw[if_neg hk]
   refine⟨?_,fun g h=>?_⟩
   ·rw[List.map_cons]
    exact List.mem_cons_of_mem _ i1
   ·rw[List.map_cons]at h ⊢
    rcases List.mem_cons.mp h with e | e
    ·exact List.mem_cons.mpr (.inl e)
    ·exact List.mem_cons_of_mem _ (i2 g e)
theorem QmM(f:Str)(v:V):∀ fs:List (Str×V),(putF f v fs).length<=fs.length+1
 | []=>by simp[putF]
 | (k,x)::r=>by
  have ih:=QmM f v r
  rw[show putF f v ((k,x)::r)=(if k=f then(k,v)::r else(k,x)::putF f v r) from rfl]
  by_cases hk:k=f
  ·rw[if_pos hk,List.length_cons,List.length_cons];omega
  ·rw[if_neg hk,List.length_cons,List.length_cons];omega
theorem RelO.some_of{v:V}{o:Option Value}(r:RelO (some v) o):∃ u,o=some u/\RelV v u:=by
 cases o with
 | none=>exact(show False from r).elim
 | some u=>exact⟨u,rfl,r⟩
theorem RelO.none_of{o:Option Value}(r:RelO none o):o=none:=by
 cases o with
 | none=>rfl
 | some u=>exact(show False from r).elim
theorem QIR{v:V}{u:Value}(r:RelV v u):W.handedIn u=true:=by
 cases v with
 | non=>cases (show u=Value.none from r);rfl
 | bl b=>cases (show u=Value.bool b from r);rfl
 | int i=>obtain⟨t,e⟩:=(show ∃ t,u=Value.int i t from r);cases e;rfl
 | str x=>obtain⟨t,e⟩:=(show ∃ t,u=Value.str x t from r);cases e;rfl
 | byt b=>obtain⟨t,e⟩:=(show ∃ t,u=Value.bytes b t from r);cases e;rfl
 | flt b=>obtain⟨t,e⟩:=(show ∃ t,u=Value.float b t from r);cases e;rfl
 | ref a=>cases (show u=Value.ref a from r);rfl
 | ty n=>cases (show u=Value.type n from r);rfl
section
variable{P:Program}{w:World}{H H':Hp}{h h':Heap}{a C dx:Addr}{fs fs':List (Str×V)}
theorem QiY(hok:HOk P w H h)(e:H a=some (.ins C dx fs)):∃ mA,ObjM h a dx C mA/\(∀ f,RelO (fs.lookup f) (mA f))/\PySem.Within mA (fs.map (·.1))/\fs.length<=1000/\H dx=some (.own a):=by
 obtain⟨d,z,ne,ob,mA,n,r,q⟩:=(show ObjOk P w H h a (.ins C dx fs) from hok a _ e)
 exact⟨mA,⟨ob,n,ne⟩,r,q,z,d⟩
end
structure Cls(K:W.Frag)(C:Addr):Prop where
 pg:W.plainGet K C Str.empty=true
 hd:W.hasDictIn K C=true
 po:W.plainOver K C=true
 sa:W.findIn K (.ref C) "__setattr__"=some (some (.builtin "object.__setattr__"))
theorem Cls.get{K:W.Frag}{C:Addr}(c:Cls K C)(f:Str):W.plainGet K C f=true:=c.pg
def Qhj(K:W.Frag)(C:Addr)(f:Str):Prop:=W.findIn K (.ref C) f=some none
theorem Qhj.taker{K:W.Frag}{C:Addr}{f:Str}(n:Qhj K C f):W.takerIn K C f=some none:=by
 unfold W.takerIn
 rw[show W.findIn K (.ref C) f=some none from n]
 rfl
structure Meth(K:W.Frag)(C:Addr)(m:Str)(f:Addr):Prop where
 at_:W.findIn K (.ref C) m=some (some (.ref f))
 fn:W.isFn K (.ref f)=true
 kp:W.keepIn K (.ref f)=true
section
variable{X:Cx}{pins:List (Addr×Obj)}{σ:St}{H:Hp}{s:Shared}{a C dx:Addr}{fs:List (Str×V)}{f:Str}{v:V}{A:Around}{E:Value->Shared->Prop}
theorem QEQ{b:Bool}{Q:‹"m"›}(I:‹"g"›)(e:H a=some (.ins C dx fs))(c:Cls X.K C)(n:Qhj X.K C f)(l:fs.lookup f=some v)
 (h:∀ u s',Inv X pins σ H s'->RelV v u->Q u s'):wpAny ‹"i"› A (getAttr (.ref a) f b) Q E s:=by
 obtain⟨mA,O,r,_,_,_⟩:=QiY I.hok e
 obtain⟨u,hu,ru⟩:=RelO.some_of (v:=v) (o:=mA f) (by rw[← l];exact r f)
 exact QNY I.kIn O (c.get f) c.hd n hu (QIR ru) (h u _ (I.tok _) ru)
theorem Qo3{m:Str}{g:Addr}{pl:Sem Bool}{Q:Value×List Value->Shared->Prop}(I:‹"g"›)(e:H a=some (.ins C dx fs))(c:Cls X.K C)(k:Meth X.K C m g)(l:fs.lookup m=none)
 (h:Q (.ref g,[.ref a]) s):wpAny ‹"i"› A (getMethod (.ref a) m pl) Q E s:=by
 obtain⟨mA,O,r,_,_,_⟩:=QiY I.hok e
 have hn:mA m=none:=RelO.none_of (by rw[← l];exact r m)
 exact QLT I.kIn O (c.get m) k.at_ k.fn hn h
theorem QFX{y:V}{u:Value}{Q:Unit->Shared->Prop}(I:‹"g"›)(e:H a=some (.ins C dx fs))(c:Cls X.K C)(n:Qhj X.K C f)(hl:fs.length<1000)(ry:RelV y u)
 (h:∀ s',Inv X pins σ (upd H a (.ins C dx (putF f y fs))) s'->Q () s'):wpAny ‹"i"› A (setAttr (.ref a) f u) Q E s:=by
 obtain⟨mA,O,r,wi,_,ho⟩:=QiY I.hok e
 have hz:(fs.map (·.1)).length<=sizeLine:=by rw[List.length_map,sizeLine_eq];omega
 refine QM0 I.kIn O c.sa c.po n.taker c.hd wi hz fun h' O' sb=>h _ ?_
 have hd:∃ o,h'.get? dx=some o:=let ⟨o,_,_,e',_⟩:=O'.ns;⟨o,e'⟩
 refine I.write (x:=a) (e:=dx) (by rw[e];exact True.intro) (.inr ho) (fun b q hb z=>(sb.2 b hb).trans z) hd ?_
 refine⟨by rw[Qn O.ne];exact ho,?_,O.ne,O'.obj,_,O'.ns,fun g=>?_,fun g hg=>?_⟩
 ·have:=QmM f y fs;omega
 ·show RelO ((putF f y fs).lookup g) (if g=f then some u else mA g)
  rw[Qm5]
  by_cases q:g=f
  ·rw[if_pos q,if_pos q];exact ry
  ·rw[if_neg q,if_neg q];exact r g
 ·by_cases q:g=f
  ·rw[q];exact(QkK f y fs).1
  ·refine(QkK f y fs).2 g (wi g fun z=>hg ?_)
   show(if g=f then some u else mA g)=none
   rw[if_neg q];exact z
theorem Inv.made(I:‹"g"›):Inv X pins σ (upd (upd H s.heap.objs.size (.own (s.heap.objs.size+1))) (s.heap.objs.size+1) (.ins C s.heap.objs.size []))
 { s with heap:=(s.heap.push W.emptyDict).push (W.instObj C s.heap.objs.size) }:=by
 have e1:(s.heap.push W.emptyDict).get? s.heap.objs.size=some W.emptyDict:=Heap.get?_push_size s.heap rfl
 have e2:((s.heap.push W.emptyDict).push (W.instObj C s.heap.objs.size)).get? (s.heap.objs.size+1)=some (W.instObj C s.heap.objs.size):=by
  have:=Heap.get?_push_size (s.heap.push W.emptyDict) (o:=W.instObj C s.heap.objs.size) rfl
  rwa [Heap.size_push]at this
 have e3:(s.heap.push W.emptyDict).Ns s.heap.objs.size (fun _=>none):=⟨W.emptyDict, #[],_,e1,rfl,(fun e he=>absurd he (by simp)),fun _=>rfl⟩
 have I1:=I.laid (a:=s.heap.objs.size) (o:=.own (s.heap.objs.size+1)) (h':=s.heap.push W.emptyDict) (t':=s.toks) (fun b u q=>Heap.get?_push_of_some _ q) (Nat.le_refl _) ⟨_,e1⟩
 refine I1.laid (a:=s.heap.objs.size+1) (o:=.ins C s.heap.objs.size []) (t':=s.toks) (fun b u q=>Heap.get?_push_of_some _ q) (Nat.le_of_eq (Heap.size_push _ _)) ?_
 have ne:s.heap.objs.size≠s.heap.objs.size+1:=Nat.ne_of_lt (Nat.lt_succ_self _)
 refine⟨by rw[Qn ne,QP],Nat.zero_le _,ne,e2,fun _=>none,(Heap.Ns1.of_empty e3).at fun o q=>Heap.get?_push_of_some _ q,fun _=>True.intro,fun y hy=>absurd rfl hy⟩
theorem QOp{prog:Program}{w:World}{env:Env}{e:Expr}{f:Str}{pos:Pos}{s:Shared}{Q:‹"m"›}(hb:attributeBase e f env (eval e env)=eval e env)
 (h:wpAny (model prog w) A (eval e env) (fun o s₁=>wpAny (model prog w) A (getAttr o f true) Q E s₁) E s):wpAny (model prog w) A (eval (.Attribute e f pos) env) Q E s:=
 Attribute_any_ h (by rw[arm_eval_Attribute,hb])
end
def tFld(K:W.Frag)(ta:TE)(f:Str):TE:=fun σ H Q=>ta σ H fun x H1=>∃ a C dx fs v,x=.ref a/\H1 a=some (.ins C dx fs)/\Cls K C/\Qhj K C f/\fs.lookup f=some v/\Q v H1
def sFld(K:W.Frag)(ta tv:TE)(f:Str):TS:=fun D σ H=>tv σ H fun y H1=>ta σ H1 fun x H2=>∃ a C dx fs,x=.ref a/\H2 a=some (.ins C dx fs)/\Cls K C/\Qhj K C f/\fs.length<1000/\
 D.nx σ (upd H2 a (.ins C dx (putF f y fs)))
section
variable{X:Cx}{o e value:Expr}{f:Str}{pos pos' tpos:Pos}{ta tv:TE}
theorem QPA(he:PE X e ta)(hb:attributeBase e f X.env (eval e X.env)=eval e X.env):PE X (.Attribute e f pos) (tFld X.K ta f):=by
 intro pins s σ H Q I h
 refine QOp hb (thn (he pins s σ H _ I h) fun u s1 ⟨x,H1,I1,rx,a,C,dx,fs,v,ex,ea,c,n,l,q⟩=>?_)
 subst ex
 obtain rfl:u=Value.ref a:=rx
 exact QEQ I1 ea c n l fun u' s2 I2 ru=>⟨v,H1,I2,ru,q⟩
theorem QP0(ha:PE X o ta)(hv:PE X value tv)(hs:swapsWith value (some (.Attribute o f pos')) pos.line X.env=pure false):PS X (.Assign [.Attribute o f pos'] value pos) (sFld X.K ta tv f):=by
 intro pins s σ H D I h
 refine plainObj_wpAny_Assign_Attribute (thn (hv pins s σ H _ I h) fun u s1 ⟨y,H1,I1,ry,q⟩=>thn (ha pins s1 σ H1 _ I1 q) fun ov s2 ⟨x,H2,I2,rx,a,C,dx,fs,ex,ea,c,n,l,q2⟩=>?_) hs
 subst ex
 obtain rfl:ov=Value.ref a:=rx
 exact QFX I2 ea c n l ry fun s3 I3=>⟨σ,_,I3,q2⟩
end
section
variable{X:Cx}{pins:List (Addr×Obj)}{σ:St}{H:Hp}{s:Shared}{A:Around}{E:Value->Shared->Prop}{Q:Value->Shared->Prop}{c:Value}{b:Bool}
end
end L2
namespace L2
open PySem PySem.Spec PyProof.Rows
structure Room(k:Nat)(A:Around):Prop where
 hd:A.handled=none
 dp:A.depth+3 * k+5<recursionLimit
 un:A.units+16 * k+200<cLine
theorem Room.mono{j k:Nat}{A:Around}(r:Room k A)(h:j<=k):Room j A:=⟨r.hd,by have:=r.dp;omega,by have:=r.un;omega⟩
theorem Room.deeper{k:Nat}{A:Around}(r:Room (k+1) A)(env:Env):Room k (A.deeper env):=
 ⟨r.hd,by have:=r.dp;show A.depth+1+3 * k+5<_;omega,by have:=r.un;show A.units+3+16 * k+200<_;omega⟩
theorem QGK{A:Around}{C:Addr}{us:List Value}{kw:List (Str×Value)}:(A.under (.builtin "type.__call__" ⟨.ref C::us,kw⟩)).depth=A.depth+1:=by
 first | rfl | simp[Around.under,Code.weight,Code.isCreation,Code.isGuard,Code.isCaller,Code.frames,Code.isFrame,guardIds]
theorem QFA{A:Around}{C:Addr}{us:List Value}{kw:List (Str×Value)}:(A.under (.builtin "type.__call__" ⟨.ref C::us,kw⟩)).units=A.units+1:=by
 first | rfl | simp[Around.under,Code.cUnits,Code.frames,Code.isFrame]
theorem Room.make{k:Nat}{A:Around}(r:Room (k+1) A)(C:Addr)(us:List Value)(kw:List (Str×Value)):Room k (A.under (.builtin "type.__call__" ⟨.ref C::us,kw⟩)):=
 ⟨r.hd,by have:=r.dp;rw[QGK];omega,by have:=r.un;rw[QFA];omega⟩
theorem Room.depth{k:Nat}{A:Around}(r:Room k A):A.depth<recursionLimit:=by have:=r.dp;omega
theorem Room.units{k:Nat}{A:Around}(r:Room k A):A.units+64<cLine:=by have:=r.un;omega
def tNil:TA:=fun _ H Q=>Q [] H
def tCons(ta:TE)(tr:TA):TA:=fun σ H Q=>ta σ H fun x H1=>tr σ H1 fun xs H2=>Q (x::xs) H2
section
variable{X:Cx}{e:Expr}{es:List Expr}{te:TE}{t:TA}{pos:Pos}
theorem Qdo:PA X [] tNil:=fun _ _ _ _ H Q I h=>Calls.spliced_nil ⟨[],H,I,.nil,h⟩
theorem Qbc(ha:PE X e te)(hr:PA X es t)(hs:‹"n"›:=by rfl):PA X (e::es) (tCons te t):=by
 intro pos pins s σ H Q I h
 rw[hs]
 show wpAny _ _ (spliced ((false,eval e X.env)::backTo pos (starEach es X.env))) _ _ s
 refine Calls.spliced_cons (thn (ha pins s σ H _ I h) fun u s1 ⟨x,H1,I1,r1,q1⟩=>?_)
 exact thn (hr pos pins s1 σ H1 _ I1 q1) fun us s2 ⟨xs,H2,I2,r2,q2⟩=>⟨x::xs,H2,I2,.cons r1 r2,q2⟩
def tTup(t:TA):TE:=fun σ H Q=>t σ H fun xs H1=>xs.length<=sizeLine/\∀ p,H1 p=none->Q (.ref p) (upd H1 p (.tup xs))
def tLst(t:TA):TE:=fun σ H Q=>t σ H fun xs H1=>xs.length<=sizeLine/\∀ p,H1 p=none->Q (.ref p) (upd H1 p (.lst xs))
theorem QJh{x1}(h:PA X es t):PE X (.Tuple es x1 pos) (tTup t):=by
 intro pins s σ H Q I hq
 refine wpAny_Tuple_spliced (thn (h pos pins s σ H _ I hq) fun us s1 ⟨xs,H1,I1,r,z,q⟩=>⟨by rw[← r.length];exact z,?_⟩)
 have hf:H1 s1.heap.objs.size=none:=I1.hok.fresh (Nat.le_refl _)
 refine⟨.ref s1.heap.objs.size,upd H1 s1.heap.objs.size (.tup xs),I1.laid (t':=s1.toks) (fun b u e=>Heap.get?_push_of_some _ e) (Nat.le_refl _) ?_,rfl,q _ hf⟩
 exact⟨z,us,r,⟨_,Heap.get?_push_size _ rfl,rfl,_,rfl⟩⟩
theorem QPF(h:PA X es t):PE X (.List es pos) (tLst t):=by
 intro pins s σ H Q I hq
 refine wpAny_List_spliced (thn (h pos pins s σ H _ I hq) fun us s1 ⟨xs,H1,I1,r,z,q⟩=>⟨by rw[← r.length];exact z,?_⟩)
 have hf:H1 s1.heap.objs.size=none:=I1.hok.fresh (Nat.le_refl _)
 refine⟨.ref s1.heap.objs.size,upd H1 s1.heap.objs.size (.lst xs),I1.laid (t':=s1.toks) (fun b u e=>Heap.get?_push_of_some _ e) (Nat.le_refl _) ?_,rfl,q _ hf⟩
 exact⟨z,us,0,r,Heap.get?_push_size _ rfl⟩
end
abbrev Sp:=List V->Hp->VK->XK->Prop
abbrev CXT:=List Env->Hp->Shared->XK->Value->Shared->Prop
structure Env0(P:Program)(w:World)(K:W.Frag)(mg:Str->Option Value)(base:Heap)(A:Around)(outer:List Env)(s:Shared)(H:Hp):Prop where
 frames:A.frames=some outer
 mod:Mod K mg base
 bs:∀ b o,base.get? b=some o->s.heap.get? b=some o/\H b=none
 bsz:base.objs.size<=s.heap.objs.size
 funs:s.heap.FunFrames base outer
 frf:∀ b∈frs outer,H b=none
 hok:HOk P w H s.heap
 bare:AllBare s.gens
def CE(outer:List Env)(P:Program)(w:World)(H:Hp)(s:Shared)(Q:VK)(u:Value)(s':Shared):Prop:=
 ∃ v H',s'.os=s.os/\AllBare s'.gens/\Un (frs outer) [] H H' s.heap s'.heap/\HOk P w H' s'.heap/\RelV v u/\Q v H'
def CR(CX:CXT)(outer:List Env)(P:Program)(w:World)(H:Hp)(s:Shared)(Q:VK)(E:XK)(r:Result)(s':Shared):Prop:=
 match r with
 | .ok (.ret u)=>CE outer P w H s Q u s'
 | .ok _=>False
 | .error e=>CX outer H s E e s'
structure FnOk(P:Program)(w:World)(K:W.Frag)(mg:Str->Option Value)(base:Heap)(CX:CXT)(k:Nat)(f:Addr)(fd:FuncData)(ps:List Str)(sp:Sp):Prop where
 len:∀ vs H Q E,sp vs H Q E->vs.length=ps.length
 run:∀(A:Around)(outer:List Env)(s:Shared)(H:Hp)(args:Args)(us:List Value)(vs:List V)(Q:VK)(E:XK),Room k A->Env0 P w K mg base A outer s H->BindsTo s fd args (ps.zip us)->Vals vs us->sp vs H Q E->
  codeAny (model P w) A (.call (.ref f) args) (CR CX outer P w H s Q E) s
theorem FnOk.mono{P:Program}{w:World}{K:W.Frag}{mg:Str->Option Value}{base:Heap}{CX:CXT}{j k:Nat}{f:Addr}{fd:FuncData}{ps:List Str}{sp:Sp}(F:FnOk P w K mg base CX j f fd ps sp)(h:j<=k):
 FnOk P w K mg base CX k f fd ps sp:=⟨F.len,fun A outer s H args us vs Q E hr=>F.run A outer s H args us vs Q E (hr.mono h)⟩
theorem Env0.make{P:Program}{w:World}{K:W.Frag}{mg:Str->Option Value}{base:Heap}{A:Around}{outer:List Env}{s:Shared}{H:Hp}(e:Env0 P w K mg base A outer s H)(C:Addr)(us:List Value)(kw:List (Str×Value)):
 Env0 P w K mg base (A.under (.builtin "type.__call__" ⟨.ref C::us,kw⟩)) outer s H:=⟨by first | exact e.frames | (simpa [Around.under,Code.envs,Code.isFrame,pushEnvs] using e.frames),e.mod,e.bs,e.bsz,e.funs,e.frf,e.hok,e.bare⟩
section
variable{X:Cx}{pins:List (Addr×Obj)}{σ:St}{H:Hp}{s s':Shared}
theorem Inv.env0(I:‹"g"›):Env0 X.prog X.w X.K X.mg X.base X.A X.stack s H:=
 ⟨I.ok.frames,I.ok.mod,I.bs,Nat.le_trans I.ok.bsz I.sz,I.stack,I.stkFree,I.hok,I.bare⟩
theorem Inv.after{Q:VK}{u:Value}(I:‹"g"›)(h:CE X.stack X.prog X.w H s Q u s'):EP X pins σ Q u s':=by
 obtain⟨v,H',os,bare,un,hok,r,q⟩:=h
 obtain⟨hh,g,d,t,os'⟩:=s'
 obtain rfl:os'=s.os:=os
 exact⟨v,H',I.call (h':=hh) (g':=g) (d':=d) (t':=t) (ch:=[]) un hok bare (fun b z=>absurd z (by simp)),r,q⟩
end
def tCall(sp:Sp)(dvs:List V)(E:XK)(t:TA):TE:=fun σ H Q=>t σ H fun vs H1=>sp (vs++dvs) H1 Q E
def tMake(C:Addr)(sp:Sp)(dvs:List V)(E:XK)(t:TA):TE:=fun σ H Q=>t σ H fun vs H1=>∀ x dx,H1 x=none->H1 dx=none->dx≠x->
 sp (.ref x::(vs++dvs)) (upd (upd H1 dx (.own x)) x (.ins C dx [])) (fun v H2=>v=.non/\Q (.ref x) H2) E
def Binds(K:W.Frag)(fd:FuncData)(ps:List Str)(ds:List Value):Prop:=
 ∀(s:Shared)(us:List Value),K.In s.heap->(us++ds).length=ps.length->BindsTo s fd ⟨us,[]⟩ (ps.zip (us++ds))
theorem Binds.all{K:W.Frag}{fd:FuncData}{ps:List Str}(h:∀ us:List Value,us.length=ps.length->bindArgs fd ⟨us,[]⟩=pure (ps.zip us)):Binds K fd ps []:=fun s us _ hl=>by
 rw[List.append_nil]at hl ⊢
 exact .of_eq (h us hl)
def Qfp(CX:CXT)(X:Cx)(E:XK):Prop:=∀(pins:‹"v"›)(σ:St)(H:Hp)(s:Shared)(e:Value)(s':Shared),Inv X pins σ H s->CX X.stack H s E e s'->X.xe e s'
section
variable{X:Cx}{CX:CXT}{k:Nat}{f C:Addr}{fd:FuncData}{ps:List Str}{sp:Sp}{dvs:List V}{ds:List Value}{E:XK}{x m:Str}{p pos apos:Pos}{e o:Expr}{es:List Expr}{ta:TE}{t:TA}
theorem Qwk{pins:‹"v"›}{σ:St}{H:Hp}{s:Shared}{Q:VK}{us:List Value}{vs:List V}(F:FnOk X.prog X.w X.K X.mg X.base CX k f fd ps sp)(hr:Room k X.A)(hb:Binds X.K fd ps ds)(hd:Vals dvs ds)(hx:Qfp CX X E)
 (I:‹"g"›) (r:Vals vs us) (h:sp (vs++dvs) H Q E):wpAny ‹"i"› X.A (call (.ref f) us) (EP X pins σ Q) X.xe s:=by
 have r2:Vals (vs++dvs) (us++ds):=r.append hd
 have hl:(us++ds).length=ps.length:=by rw[← r2.length];exact F.len _ _ _ _ h
 refine wpAny_call (codeAny_mono (F.run X.A X.stack s H ⟨us,[]⟩ (us++ds) (vs++dvs) Q E hr I.env0 (hb s us I.kIn hl) r2 h) fun r s' hq=>?_)
 cases r with
 | error e=>exact hx pins σ H s e s' I hq
 | ok fl=>
  cases fl with
  | ret u=>exact I.after hq
  | next=>exact False.elim hq
  | brk=>exact False.elim hq
  | cont=>exact False.elim hq
theorem QrW(F:FnOk X.prog X.w X.K X.mg X.base CX k f fd ps sp)(hr:Room k X.A)(hg:Gl X x)(hm:X.mg x=some (.ref f))(hk:W.keepIn X.K (.ref f)=true)(hb:Binds X.K fd ps ds)(hd:Vals dvs ds)(hx:Qfp CX X E)
 (ha:PA X (e::es) t) (hdb:‹"d"›:=by decide) (he:‹"n"›:=by rfl) (hpl:(backTo pos (starEach es X.env)).any (·.1)=false:=by rfl):
 PE X (.Call (.Name x p) (e::es) [] pos) (tCall sp dvs E t):=by
 intro pins s σ H Q I h
 refine wpAny_Call_Name_kw (Qri I hg hm ?_ hdb)
 refine W.callWith_K (h₀:=X.base) I.ok.mod.kin hk (thn (ha pos pins s σ H _ I h) fun us s1 ⟨vs,H1,I1,r,q⟩=>⟨I1.kIn,?_⟩) he hpl
 exact Qwk F hr hb hd hx I1 r q
structure Mk(K:W.Frag)(C f:Addr):Prop where
 makes:W.makesIn K C=true
 init:W.findIn K (.ref C) "__init__"=some (some (.ref f))
 fn:W.isFn K (.ref f)=true
 kp:W.keepIn K (.ref C)=true
theorem QK0{pins:‹"v"›}{σ:St}{H:Hp}{s:Shared}{Q:VK}{us:List Value}{vs:List V}(M:Mk X.K C f)(F:FnOk X.prog X.w X.K X.mg X.base CX k f fd ps sp)(hr:Room (k+1) X.A)(hb:Binds X.K fd ps ds)(hd:Vals dvs ds)
 (hx:Qfp CX X E) (I:‹"g"›) (r:Vals vs us)
 (h:∀ x dx,H x=none->H dx=none->dx≠x->sp (.ref x::(vs++dvs)) (upd (upd H dx (.own x)) x (.ins C dx [])) (fun v H2=>v=.non/\Q (.ref x) H2) E):
 wpAny ‹"i"› X.A (call (.ref C) us) (EP X pins σ Q) X.xe s:=by
 have hq:=h (s.heap.objs.size+1) s.heap.objs.size (I.hok.fresh (Nat.le_succ _)) (I.hok.fresh (Nat.le_refl _)) (Nat.ne_of_lt (Nat.lt_succ_self _))
 have I2:=Inv.made (C:=C) I
 have r2:Vals (V.ref (s.heap.objs.size+1)::(vs++dvs)) (Value.ref (s.heap.objs.size+1)::(us++ds)):=.cons rfl (r.append hd)
 have hl:(Value.ref (s.heap.objs.size+1)::us++ds).length=ps.length:=by
  have e:=r2.length
  rw[F.len _ _ _ _ hq]at e
  exact e.symm
 refine wpAny_call (QLN (f:=f) I.kIn M.makes M.init (beq_iff_eq.mp M.fn) (codeAny_mono (F.run _ X.stack _ _ ⟨Value.ref (s.heap.objs.size+1)::us,[]⟩ (Value.ref (s.heap.objs.size+1)::(us++ds)) _ _ E (hr.make C us [])
  (I2.env0.make C us []) (hb _ (Value.ref (s.heap.objs.size+1)::us) I2.kIn hl) r2 hq) fun r s' hq'=>?_))
 cases r with
 | error e=>exact hx pins σ _ _ e s' I2 hq'
 | ok fl=>
  cases fl with
  | ret u=>
   obtain⟨v,H',I3,rv,ev,q3⟩:=I2.after hq'
   subst ev
   exact⟨rv,⟨V.ref (s.heap.objs.size+1),H',I3,rfl,q3⟩⟩
  | next=>exact False.elim hq'
  | brk=>exact False.elim hq'
  | cont=>exact False.elim hq'
theorem QNm(M:Mk X.K C f)(F:FnOk X.prog X.w X.K X.mg X.base CX k f fd ps sp)(hr:Room (k+1) X.A)(hg:Gl X x)(hm:X.mg x=some (.ref C))(hb:Binds X.K fd ps ds)(hd:Vals dvs ds)(hx:Qfp CX X E)
 (ha:PA X (e::es) t) (hdb:‹"d"›:=by decide) (he:‹"n"›:=by rfl) (hpl:(backTo pos (starEach es X.env)).any (·.1)=false:=by rfl):
 PE X (.Call (.Name x p) (e::es) [] pos) (tMake C sp dvs E t):=by
 intro pins s σ H Q I h
 refine wpAny_Call_Name_kw (Qri I hg hm ?_ hdb)
 refine W.callWith_K (h₀:=X.base) I.ok.mod.kin M.kp (thn (ha pos pins s σ H _ I h) fun us s1 ⟨vs,H1,I1,r,q⟩=>⟨I1.kIn,?_⟩) he hpl
 exact QK0 M F hr hb hd hx I1 r q
end
section
variable{X:Cx}{CX:CXT}{k:Nat}{f C:Addr}{fd:FuncData}{ps ks:List Str}{sp:Sp}{E:XK}{x m:Str}{p pos apos kpos:Pos}{e o:Expr}{es:List Expr}{kws:List Keyword}{te ta:TE}{t tk:TA}{nm:Option Str}
variable{g:List Value->List Value->List Value}{gV:List V->List V->List V}
end
structure Qm(N P:List Str)(sc:Scope):Prop where
 kind:sc.kind=.function
 co:sc.isCoroutine=false
 gen:sc.isGenerator=false
 nd:N.Nodup
 pre:N.take P.length=P
 par:∀ x∈P,sc.names.lookup x=some .local∨sc.names.lookup x=some .cell
 nofree:∀ y∈sc.names,y.2≠.free
theorem QtI{kindOf:Str->Option NameKind}{x:Str}:∀{binds:List (Str×Value)}{m:Str->Option Value},(∀ v,(x,v)∉binds)->bindL kindOf binds m x=m x
 | [],_,_=>rfl
 | (n,v)::r,m,h=>by
  unfold bindL
  rw[QtI fun w hw=>h w (List.mem_cons_of_mem _ hw)]
  split
  ·have:x≠n:=by rintro rfl;exact h v List.mem_cons_self
   simp[this]
  ·rfl
theorem Qtb{kindOf:Str->Option NameKind}{x:Str}:∀{binds:List (Str×Value)}{m:Str->Option Value},(∀ v,(x,v)∉binds)->bindC kindOf binds m x=m x
 | [],_,_=>rfl
 | (n,v)::r,m,h=>by
  unfold bindC
  rw[Qtb fun w hw=>h w (List.mem_cons_of_mem _ hw)]
  split
  ·rfl
  ·have:x≠n:=by rintro rfl;exact h v List.mem_cons_self
   simp[this]
theorem QtC{kindOf:Str->Option NameKind}{x:Str}{v:Value}:∀{P:List Str}{vs:List Value}{i:Nat}{m:Str->Option Value},P.Nodup->P[i]?=some x->vs[i]?=some v->kindOf x=some .local->
 bindL kindOf (P.zip vs) m x=some v
 | [],_,_,_,_,h,_,_=>by simp at h
 | _::_,[],_,_,_,_,h,_=>by simp at h
 | p::P,w::vs,0,m,nd,h1,h2,hk=>by
  simp at h1 h2;subst h1;subst h2
  show bindL kindOf ((p,w)::P.zip vs) m p=_
  unfold bindL
  rw[QtI fun v hv=>(List.nodup_cons.mp nd).1 (List.of_mem_zip hv).1,if_pos hk]
  simp
 | p::P,w::vs,i+1,m,nd,h1,h2,hk=>by
  show bindL kindOf ((p,w)::P.zip vs) m x=_
  unfold bindL
  exact QtC (i:=i) (List.nodup_cons.mp nd).2 (by simpa using h1) (by simpa using h2) hk
theorem QtD{kindOf:Str->Option NameKind}{x:Str}{v:Value}:∀{P:List Str}{vs:List Value}{i:Nat}{m:Str->Option Value},P.Nodup->P[i]?=some x->vs[i]?=some v->kindOf x≠some .local->
 bindC kindOf (P.zip vs) m x=some v
 | [],_,_,_,_,h,_,_=>by simp at h
 | _::_,[],_,_,_,_,h,_=>by simp at h
 | p::P,w::vs,0,m,nd,h1,h2,hk=>by
  simp at h1 h2;subst h1;subst h2
  show bindC kindOf ((p,w)::P.zip vs) m p=_
  unfold bindC
  rw[Qtb fun v hv=>(List.nodup_cons.mp nd).1 (List.of_mem_zip hv).1,if_neg hk]
  simp
 | p::P,w::vs,i+1,m,nd,h1,h2,hk=>by
  show bindC kindOf ((p,w)::P.zip vs) m x=_
  unfold bindC
  exact QtD (i:=i) (List.nodup_cons.mp nd).2 (by simpa using h1) (by simpa using h2) hk
def start(N:List Str)(vs:List V):St:=vs.map some++List.replicate (N.length - vs.length) none
def cxOf(CX:CXT)(P:Program)(w:World)(K:W.Frag)(mg:Str->Option Value)(base:Heap)(N:List Str)(qual:Str)(scope:Scope)(f:Addr)(cd:Value)(A:Around)(outer:List Env)(s:Shared)(H:Hp)(E:XK):Cx where
 prog:=P
 w:=w
 K:=K
 mg:=mg
 base:=base
 A:=A.deeper (envOfC qual scope s.heap.objs.size f cd)
 N:=N
 s₀:=s
 H₀:=H
 env:=envOfC qual scope s.heap.objs.size f cd
 outer:=outer
 stack:=envOfC qual scope s.heap.objs.size f cd::outer
 ex:=[]
 calm:=true
 fn:=fun _=>true
 pn:=[]
 xe:=fun e s'=>wpAny (model P w) (A.deeper (envOfC qual scope s.heap.objs.size f cd)) (leaving (envOfC qual scope s.heap.objs.size f cd) e) (fun _ s''=>CX outer H s E e s'') (fun e' s''=>CX outer H s E e' s'') s'
theorem QwK{sc:Scope}{n:Nat}{x:Str}(h:sc.names.lookup x=some .cell):∃ c,(cellsFrom n sc.names []).lookup x=some c:=by
 have q:=W.cellsFrom_some sc.names n [] (.inl h)
 exact Option.isSome_iff_exists.mp q
theorem QJz{CX:CXT}{P:Program}{w:World}{K:W.Frag}{mg:Str->Option Value}{base:Heap}{N ps:List Str}{qual:Str}{scope:Scope}{f:Addr}{cd:Value}{A:Around}{outer:List Env}{s s1:Shared}{H:Hp}{E:XK}{us:List Value}{vs:List V}
 (S:Qm N ps scope) (hd:A.handled=none) (e0:Env0 P w K mg base A outer s H) (hl:vs.length=ps.length) (r:Vals vs us)
 (x:InCallC s s.heap.objs.size (bindL (envOfC qual scope s.heap.objs.size f cd).kindOf (ps.zip us) fun _=>none) (cellsFrom (s.heap.objs.size+1) scope.names []) (bindC (envOfC qual scope s.heap.objs.size f cd).kindOf (ps.zip us) fun _=>none) s1):
 Inv (cxOf CX P w K mg base N qual scope f cd A outer s H E) [] (start N vs) H s1:=by
 have hpl:ps.length<=N.length:=by have:=congrArg List.length S.pre;rw[List.length_take]at this;omega
 obtain⟨h1,tk,rfl,hk⟩:=x.done
 have noA:∀ b:Addr,b∉(cxOf CX P w K mg base N qual scope f cd A outer s H E).ex:=fun b z=>absurd (show b∈([]:List Addr) from z) (by simp)
 refine⟨⟨e0.mod,S.kind,rfl,rfl,Nat.le_refl _,fun y z c h1 h2=>?_,fun y hy=>?_,fun y c _ h=>?_,fun _=>hd,Around.frames_deeper e0.frames,.inr ⟨rfl,rfl⟩,fun b z=>absurd z (noA b),e0.bs,e0.bsz,fun b _ _=>noA b,fun b z=>absurd z (noA b),e0.funs,e0.frf⟩,
  rfl,e0.bare,Un.kept hk,⟨_,x.toInCall.ns,fun i y v h1 h2 h3=>?_⟩,fun y c h=>⟨_,x.cell y c h⟩,e0.hok.fresh (Nat.le_refl _),fun y c h=>?_,fun p hp=>absurd (show p∈([]:List (Addr×Obj)) from hp) (by simp),e0.hok.kept hk,?_⟩
 ·exact name_of_addr x.apart (PySem.mem_of_lookup h1) (PySem.mem_of_lookup h2)
 ·have hy:scope.names.lookup y=some .cell∨scope.names.lookup y=some .free:=hy
  rcases hy with hy | hy
  ·exact QwK hy
  ·exact absurd rfl (S.nofree _ (PySem.mem_of_lookup hy))
 ·exact Nat.le_of_lt (x.above y c (PySem.mem_of_lookup h))
 ·have hi:i<vs.length:=by
   unfold start at h2
   by_cases hi:i<vs.length
   ·exact hi
   ·rw[List.getElem?_append_right (by simpa using hi)]at h2
    rw[List.getElem?_replicate]at h2
    split at h2<;>cases h2
  have ha:vs[i]?=some v:=by
   unfold start at h2
   rw[List.getElem?_append_left (by simpa using hi),List.getElem?_map]at h2
   cases e:vs[i]? with
   | none=>rw[e]at h2;cases h2
   | some a=>rw[e]at h2;cases h2;rfl
  obtain⟨u,hu,rv⟩:=r.get ha
  have hp:ps[i]?=some y:=by
   rw[← S.pre,List.getElem?_take_of_lt (by omega)];exact h1
  have ndP:ps.Nodup:=by rw[← S.pre];exact S.nd.sublist (List.take_sublist _ _)
  refine⟨u,rv,?_⟩
  rcases S.par y (List.mem_of_getElem? hp) with k | k
  ·exact .inl ⟨k,QtC ndP hp hu k⟩
  ·obtain⟨c,e⟩:=QwK (n:=s.heap.objs.size+1) k
   refine .inr ⟨.inl k,c,e,?_⟩
   have q:=x.cell y c e
   rw[QtD ndP hp hu (by show scope.names.lookup y≠_;rw[k];decide)]at q
   exact q
 ·exact e0.hok.fresh (Nat.le_of_lt (x.above y c (PySem.mem_of_lookup h)))
 ·unfold start
  show _=N.length
  rw[List.length_append,List.length_map,List.length_replicate]
  omega
theorem fn_of{CX:CXT}{P:Program}{w:World}{K:W.Frag}{mg:Str->Option Value}{base:Heap}{k:Nat}{f:Addr}{name qual:Str}{params:Arguments}{body:List Stmt}{scope:Scope}{dV kV doc pm cdv ct oc:Value}{an od:Option Addr}
 {osl:Array (Option Value)} {N ps:List Str} {sp:Sp} (lk:K.lookup f=some ⟨oc,od,.func (W.fnOf name qual params body scope dV kV doc pm an cdv ct),osl⟩) (hcd:W.codeIn K cdv qual=true) (S:Qm N ps scope)
 (len:∀ vs H Q E,sp vs H Q E->vs.length=ps.length)
 (hbody:∀(A:Around)(outer:List Env)(s:Shared)(H:Hp)(vs:List V)(Q:VK)(E:XK),Room k (A.deeper (envOfC qual scope s.heap.objs.size f cdv))->sp vs H Q E->
  ∃ t,PSs (cxOf CX P w K mg base N qual scope f cdv A outer s H E) body t/\t { nx:=fun _ H'=>Q .non H',rt:=Q } (start N vs) H):
 FnOk P w K mg base CX (k+1) f (W.fnOf name qual params body scope dV kV doc pm an cdv ct) ps sp:=by
 refine⟨len,fun A outer s H args us vs Q E hr e0 hb r hsp=>?_⟩
 have hl:=len _ _ _ _ hsp
 have KX:K.In s.heap:=e0.mod.kin.keeps fun b o e=>(e0.bs b o e).1
 have lim:s.heap.NoLimit:=e0.mod.nolimit.keeps fun b o e=>(e0.bs b o e).1
 have hkind:∀ y∈ps.zip us,scope.names.lookup y.1=some .local∨(scope.names.lookup y.1=some .cell/\((cellsFrom (s.heap.objs.size+1) scope.names []).lookup y.1).isSome=true):=fun⟨n,v⟩ hy=>by
  rcases S.par n (List.of_mem_zip hy).1 with q | q
  ·exact .inl q
  ·exact .inr ⟨q,W.cellsFrom_some _ _ _ (.inl q)⟩
 refine codeAny_call_function hr.depth (KX _ _ lk) rfl S.co S.gen rfl (W.codeRec_of KX hcd) (hb _ _ _ _ ?_)
 refine wpAny_newFunctionEnv_cells S.kind hkind fun env he s1 x=>?_
 subst he
 refine⟨lim.keeps x.toInCall.keep,codeAny_func ?_⟩
 obtain⟨t,ht,hq⟩:=hbody A outer s H vs Q E (hr.deeper _) hsp
 have I:Inv (cxOf CX P w K mg base N qual scope f cdv A outer s H E) [] (start N vs) H s1:=QJz S hr.hd e0 hl r x
 refine wpAny_mono (ht [] s1 (start N vs) H _ I hq) (fun fl s' hs=>?_) fun e s' hs=>hs
 have fin:∀{σ':St}{H':Hp}{v:V}{u:Value},Inv (cxOf CX P w K mg base N qual scope f cdv A outer s H E) [] σ' H' s'->RelV v u->Q v H'->CE outer P w H s Q u s':=
  fun {σ' H' v u} J rv q=>⟨v,H',J.os,J.bare,J.base,J.hok,rv,q⟩
 cases fl with
 | ret u=>
  obtain⟨v,σ',H',J,rv,q⟩:=hs
  exact fin J rv q
 | next=>
  obtain⟨σ',H',J,q⟩:=hs
  exact fin (v:=V.non) (u:=Value.none) J rfl q
 | brk=>
  obtain⟨_,_,_,q⟩:=hs
  exact False.elim q
 | cont=>
  obtain⟨_,_,_,q⟩:=hs
  exact False.elim q
end L2
namespace L2
open PySem PySem.Spec PyProof.Rows
section
variable{X:Cx}{x:Str}{p pos:Pos}{e:Expr}{es:List Expr}{t:TA}{id T:String}{r:List V->Hp->VK->Prop}
def tCB(r:List V->Hp->VK->Prop)(t:TA):TE:=fun σ H Q=>t σ H fun vs H1=>r vs H1 Q
theorem Qnk(hc:CallR X (.builtin id) r)(hg:Gl X x)(hm:X.mg x=none)(hv:bootBuiltins x=some (.builtin id))(ha:PA X (e::es) t)(hn:x≠"__name__":=by decide)(hdb:‹"d"›:=by decide)
 (he:‹"n"›:=by rfl) (hpl:(backTo pos (starEach es X.env)).any (·.1)=false:=by rfl):PE X (.Call (.Name x p) (e::es) [] pos) (tCB r t):=by
 intro pins s σ H Q I h
 refine wpAny_Call_Name_kw (Qgg I hg hm hv ?_ hn hdb)
 exact PyProof.Rows.callWith_builtin1 (thn (ha pos pins s σ H _ I h) fun us s1 ⟨vs,H1,I1,r1,q1⟩=>hc pins s1 σ H1 vs us Q I1 r1 q1) he hpl
theorem Qtr(hc:CallR X (.type T) r)(hg:Gl X x)(hm:X.mg x=none)(hv:bootBuiltins x=some (.type T))(ha:PA X (e::es) t)(hn:x≠"__name__":=by decide)(hdb:‹"d"›:=by decide)
 (he:‹"n"›:=by rfl) (hpl:(backTo pos (starEach es X.env)).any (·.1)=false:=by rfl):PE X (.Call (.Name x p) (e::es) [] pos) (tCB r t):=by
 intro pins s σ H Q I h
 refine wpAny_Call_Name_kw (Qgg I hg hm hv ?_ hn hdb)
 exact PyProof.Rows.callWith_type1 (thn (ha pos pins s σ H _ I h) fun us s1 ⟨vs,H1,I1,r1,q1⟩=>hc pins s1 σ H1 vs us Q I1 r1 q1) he hpl
end
end L2
namespace HT
open PySem PyProof.Rows
section
open PySem.SeqAt
open PySem.AutoSeq1 (wpAny_loadPart')
open PySem.MeetsSeq PySem.MeetsSeq2 PySem.MeetsSeq3
end
section
variable{prog:Program}{w:World}{A:Around}{E:Value->Shared->Prop}{s:Shared}
def sIx(n d:Nat):Option Int->Nat
 | none=>d
 | some v=>if v<0 then(v+(n:Int)).toNat else min v.toNat n
theorem sIx_none(n d:Nat):sIx n d none=d:=rfl
theorem sIx_nat(n d k:Nat):sIx n d (some (k:Int))=min k n:=by
 show(if (k:Int)<0 then((k:Int)+(n:Int)).toNat else min (k:Int).toNat n)=min k n
 rw[if_neg (by omega),Int.toNat_natCast]
end
end HT
namespace L2
open PySem PySem.Spec PyProof.Rows
abbrev TO:=St->Hp->(Option Int->Hp->Prop)->Prop
def PO(X:Cx)(e:Option Expr)(t:TO):Prop:=
 ∀(pins:‹"v"›)(s:Shared)(σ:St)(H:Hp)(Q:Option Int->Hp->Prop),Inv X pins σ H s->t σ H Q->
  wpAny ‹"i"› X.A (evalPart e X.env) (fun u s'=>∃ o H',Inv X pins σ H' s'/\IsPart u o/\Q o H') X.xe s
def QMK:TO:=fun _ H Q=>Q none H
def tPart(t:TE):TO:=fun σ H Q=>t σ H fun x H1=>∃ i,x=.int i/\Q (some i) H1
section
variable{X:Cx}{e:Expr}{te:TE}{lo hi:Option Expr}{tl th:TO}{pos p2:Pos}
theorem QMT:PO X none QMK:=by
 intro pins s σ H Q I h
 rw[evalPart_none]
 exact wpAny_pure ⟨none,H,I,.none,h⟩
theorem QOi(h:PE X e te):PO X (some e) (tPart te):=by
 intro pins s σ H Q I hw
 rw[evalPart_some]
 refine thn (h pins s σ H _ I hw) fun u s1 ⟨x,H1,I1,r1,q1⟩=>?_
 obtain⟨i,rfl,q⟩:=q1
 obtain⟨t,rfl⟩:=r1
 exact⟨some i,H1,I1,.int i t,q⟩
def SlR(X:Cx)(r:V->Option Int->Option Int->Hp->VK->Prop):Prop:=
 ∀(pins:‹"v"›)(s:Shared)(σ:St)(H:Hp)(x:V)(v vl vu:Value)(lo hi:Option Int)(sl:Addr)(Q:VK),Inv X pins σ H s->RelV x v->s.heap.IsSliceOf sl vl vu .none->IsPart vl lo->IsPart vu hi->r x lo hi H Q->
  ∃ T id,typeLookup (.type T) "__getitem__"=pure (some (.builtin id))/\s.TypeIs v T/\wpAny ‹"i"› X.A (getItem v (.ref sl)) (EP X pins σ Q) X.xe s
def tSl(r:V->Option Int->Option Int->Hp->VK->Prop)(te:TE)(tl th:TO):TE:=fun σ H Q=>te σ H fun x H1=>tl σ H1 fun l H2=>th σ H2 fun u H3=>r x l u H3 Q
theorem QKI{r:V->Option Int->Option Int->Hp->VK->Prop}(hr:SlR X r)(he:PE X e te)(hl:PO X lo tl)(hu:PO X hi th):PE X (.Subscript e (.Slice lo hi none p2) pos) (tSl r te tl th):=by
 intro pins s σ H Q I h
 refine Subscript_ (thn (he pins s σ H _ I h) fun v s1 ⟨x,H1,I1,r1,q1⟩=>?_)
 refine wpAny_Slice (thn (hl pins s1 σ H1 _ I1 q1) fun vl s2 ⟨l,H2,I2,pl,q2⟩=>thn (hu pins s2 σ H2 _ I2 q2) fun vu s3 ⟨u,H3,I3,pu,q3⟩=>?_)
 rw[evalPart_none]
 refine wpAny_pure ?_
 have I4:Inv X pins σ H3 { s3 with heap:=s3.heap.push { cls:=.type "slice",data:=.fields #[vl,vu,.none] } }:=I3.kept (t':=s3.toks) fun b ob q=>Heap.get?_push_of_some _ q
 obtain⟨T,id,hT,ht,hg⟩:=hr pins { s3 with heap:=s3.heap.push { cls:=.type "slice",data:=.fields #[vl,vu,.none] } } σ H3 x v vl vu l u s3.heap.objs.size Q I4 r1 (Heap.IsSliceOf.new ..) pl pu q3
 show wpAny ‹"i"› X.A (subscriptTail e (.Slice lo hi none p2) v (.ref s3.heap.objs.size)) (EP X pins σ Q) X.xe { s3 with heap:=s3.heap.push { cls:=.type "slice",data:=.fields #[vl,vu,.none] } }
 exact tail_any (ops:=[.ref s3.heap.objs.size,v]) ht hT hg (by with_unfolding_all rfl)
def cutV(xs:List V)(lo hi:Option Int):List V:=(xs.drop (HT.sIx xs.length 0 lo)).take (HT.sIx xs.length xs.length hi - HT.sIx xs.length 0 lo)
theorem QCe(xs:List V)(lo hi:Option Int):(cutV xs lo hi).length<=xs.length:=by
 unfold cutV
 rw[List.length_take,List.length_drop]
 omega
end
end L2
namespace L2
open PySem PySem.Spec PyProof.Rows
def ixN(n:Nat)(i:Int):Option Nat:=if 0<=i then(if i<n then some i.toNat else none) else if -(n:Int)<=i then some (i+n).toNat else none
def atI{α:Type}(xs:List α)(i:Int):Option α:=(ixN xs.length i).bind fun j=>xs[j]?
theorem QEm{n:Nat}{i:Int}{j:Nat}(h:ixN n i=some j):seqIndex? i n=some j/\j<n /\ -(n:Int)<=i/\i<n:=by
 unfold ixN at h
 by_cases h0:0<=i
 ·rw[if_pos h0]at h
  by_cases h1:i<n
  ·rw[if_pos h1]at h
   have e:i.toNat=j:=Option.some.inj h
   exact⟨by rw[seqIndex_of h0 h1,e],by omega,by omega,h1⟩
  ·rw[if_neg h1]at h;cases h
 ·rw[if_neg h0]at h
  by_cases h1 : -(n:Int)<=i
  ·rw[if_pos h1]at h
   have e:(i+n).toNat=j:=Option.some.inj h
   exact⟨by rw[seqIndex_neg (by omega) h1,e],by omega,h1,by omega⟩
  ·rw[if_neg h1]at h;cases h
theorem QsU{α:Type}{xs:List α}{i:Int}{v:α}(h:atI xs i=some v):∃ j,seqIndex? i xs.length=some j/\xs[j]?=some v/\j<xs.length /\ -(xs.length:Int)<=i/\i<xs.length:=by
 unfold atI at h
 cases e:ixN xs.length i with
 | none=>rw[e]at h;cases h
 | some j=>
  rw[e]at h
  obtain⟨h1,h2,h3,h4⟩:=QEm e
  exact⟨j,h1,h,h2,h3,h4⟩
theorem QEg{α:Type}{xs:List α}{j:Nat}{v:α}(h:xs[j]?=some v):atI xs (j:Int)=some v:=by
 have hj:j<xs.length:=(List.getElem?_eq_some_iff.mp h).1
 have e:ixN xs.length (j:Int)=some j:=by
  unfold ixN
  rw[if_pos (by omega),if_pos (by omega)];simp
 unfold atI;rw[e];exact h
def Ql2(b:Expr):Prop:=∀ o i,subscripted b false o i=operate [o,i] (getItem o i)
def IxR(X:Cx)(r:R2):Prop:=
 ∀(value slice:Expr)(pins:‹"v"›)(s:Shared)(σ:St)(H:Hp)(x y:V)(v u:Value)(Q:VK),Inv X pins σ H s->RelV x v->RelV y u->r x y H Q->
  subscripted slice false v u=operate [v,u] (getItem v u)->wpAny ‹"i"› X.A (subscriptTail value slice v u) (EP X pins σ Q) X.xe s
def MtR(X:Cx)(id:String)(r:V->List V->Hp->VK->Prop):Prop:=
 ∀(pins:‹"v"›)(s:Shared)(σ:St)(H:Hp)(x:V)(xs:List V)(v:Value)(us:List Value)(Q:VK),Inv X pins σ H s->RelV x v->Vals xs us->r x xs H Q->
  wpAny ‹"i"› X.A (call (.builtin id) (v::us)) (EP X pins σ Q) X.xe s
section
variable{X:Cx}{a b:Expr}{ta tb:TE}{pos:Pos}
theorem IxR.or{r r':R2}(h:IxR X r)(h':IxR X r'):IxR X (fun x y H Q=>r x y H Q∨r' x y H Q):=by
 intro value slice pins s σ H x y v u Q I rx ry q hs
 rcases q with q | q
 ·exact h value slice pins s σ H x y v u Q I rx ry q hs
 ·exact h' value slice pins s σ H x y v u Q I rx ry q hs
theorem pe_ix{r:R2}(hr:IxR X r)(ha:PE X a ta)(hb:PE X b tb)(hs:Ql2 b):PE X (.Subscript a b pos) (tOp r ta tb):=by
 intro pins s σ H Q I h
 exact Subscript_ (binT ha hb I h fun v u s2 x y H2 I2 rx ry q=>hr a b pins s2 σ H2 x y v u Q I2 rx ry q (hs _ _))
def rIxL(K:W.Frag):R2:=fun x y H Q=>∃ p xs i v,x=.ref p/\y=.int i/\SqL K H p xs/\atI xs i=some v/\Q v H
def rIxT(K:W.Frag):R2:=fun x y H Q=>∃ p xs i v,x=.ref p/\y=.int i/\SqT K H p xs/\atI xs i=some v/\Q v H
def rIxS:R2:=fun x y H Q=>∃ z i c,x=.str z/\y=.int i/\z.length<=sizeLine/\atI z.cps.toList i=some c/\Q (.str ⟨#[c]⟩) H
theorem QMR:IxR X (rIxL X.K):=by
 intro value slice pins s σ H x y v u Q I rx ry h hs
 obtain⟨p,xs,i,z,rfl,rfl,hq,he,q⟩:=h
 cases rx
 obtain⟨t,rfl⟩:=ry
 obtain⟨its,r,pl,hz⟩:=I.list hq
 obtain⟨j,h1,h2,h3,h4,h5⟩:=QsU he
 obtain⟨w,ew,rw'⟩:=r.get h2
 have hl:=r.length
 have hn:=Qi4
 have fin:EP X pins σ Q w s:=⟨z,H,I,rw',q⟩
 by_cases h0:0<=i
 ·have hj:i.toNat=j:=by
   rw[seqIndex_of h0 h5]at h1
   exact Option.some.inj h1
  exact item_listR pl.isList h0 (by omega) (by rw[hj];simpa using ew) fin hs
 ·have hj:(i+(its.toArray.size:Int)).toNat=j:=by
   rw[seqIndex_neg (by omega) h4]at h1
   rw[List.size_toArray, ← hl]
   exact Option.some.inj h1
  exact subscriptTail_builtinR (x:=w) pl.isList.typeIs slot_list_getitem.lookup
   (wpAny_getItem_list_neg (Q:=fun r s'=>r=w/\EP X pins σ Q r s') pl.isList (by omega) (by rw[List.size_toArray]<;>omega) (by omega) (by rw[hj];simpa using ew) ⟨rfl,fin⟩) hs
theorem QOA:IxR X (rIxT X.K):=by
 intro value slice pins s σ H x y v u Q I rx ry h hs
 obtain⟨p,xs,i,z,rfl,rfl,hq,he,q⟩:=h
 cases rx
 obtain⟨t,rfl⟩:=ry
 obtain⟨its,r,pl,hz⟩:=I.tuple hq
 obtain⟨j,h1,h2,h3,h4,h5⟩:=QsU he
 obtain⟨w,ew,rw'⟩:=r.get h2
 have hl:=r.length
 have hn:=Qi4
 have fin:EP X pins σ Q w s:=⟨z,H,I,rw',q⟩
 exact subscriptTail_builtinR (x:=w) pl.typeIs slot_tuple_getitem.lookup
  (getItem_tuple (j:=j) (Q:=fun r s'=>r=w/\EP X pins σ Q r s') pl (by omega) (by omega) (by rw[List.size_toArray, ← hl];exact h1) (by simpa using ew) ⟨rfl,fin⟩) hs
theorem QPU:IxR X rIxS:=by
 intro value slice pins s σ H x y v u Q I rx ry h hs
 obtain⟨z,i,c,rfl,rfl,hz,he,q⟩:=h
 obtain⟨t,rfl⟩:=rx
 obtain⟨t',rfl⟩:=ry
 obtain⟨j,h1,h2,h3,h4,h5⟩:=QsU he
 have hl:z.cps.toList.length=z.length:=by simp[Str.length]
 rw[hl]at h1 h4 h5
 have hn:=Qi4
 exact tail_any (typeIs_str s z t) slot_str_getitem.lookup (getItem_str (c:=c) (by
  have e1:decide (i < -(2 ^ 63:Int))=false:=decide_eq_false (by omega)
  have e2:decide (i ≥ 2 ^ 63)=false:=decide_eq_false (by omega)
  rw[e1,e2,Bool.or_false]) (by rw[h1];simpa using h2) ⟨.str ⟨#[c]⟩,H,I.tok _,⟨_,rfl⟩,q⟩) hs
def rIx(K:W.Frag):R2:=fun x y H Q=>rIxL K x y H Q∨rIxT K x y H Q∨rIxS x y H Q
theorem QwA:IxR X (rIx X.K):=QMR.or (QOA.or QPU)
theorem QGa(its:List Value)(n j:Nat)(u:Value):Obj.mapSeq (·.setIfInBounds j u) { cls:=.type "list",data:=.seq its.toArray n }={ cls:=.type "list",data:=.seq (its.set j u).toArray n }:=by
 simp[Obj.mapSeq]
theorem Inv.lst{pins:‹"v"›}{σ:St}{H:Hp}{s:Shared}{p:Addr}{xs:List V}(I:‹"g"›)(h:H p=some (.lst xs)):
 ∃(its:List Value)(n:Nat),Vals xs its/\s.heap.get? p=some { cls:=.type "list",data:=.seq its.toArray n }/\xs.length<=sizeLine:=by
 obtain⟨z,its,n,r,e⟩:=I.hok p _ h
 exact⟨its,n,r,e,z⟩
theorem Inv.lstUpd{pins:‹"v"›}{σ:St}{H:Hp}{s:Shared}{p:Addr}{xs ys:List V}{its its':List Value}{n n':Nat}{f:Obj->Obj}(I:‹"g"›)(h:H p=some (.lst xs))
 (ho:s.heap.get? p=some { cls:=.type "list",data:=.seq its.toArray n }) (hf:f { cls:=.type "list",data:=.seq its.toArray n }={ cls:=.type "list",data:=.seq its'.toArray n' }) (r:Vals ys its') (hz:ys.length<=sizeLine) (t:Nat):
 Inv X pins σ (upd H p (.lst ys)) { s with heap:=s.heap.update p f,toks:=t }:=by
 have e:(s.heap.update p f).get? p=some { cls:=.type "list",data:=.seq its'.toArray n' }:=by
  rw[Heap.get?_update_self f ho (by rw[hf]<;>rfl),hf]
 refine I.write (x:=p) (e:=p) (by rw[h];trivial) (.inl rfl) (fun b u hb q=>(Heap.get?_update_other _ _ (Ne.symm hb)).trans q) ⟨_,e⟩ ?_
 exact⟨hz,its',n',r,e⟩
def rSetL:V->V->V->Hp->(Hp->Prop)->Prop:=fun o i v H Q=>∃ p xs k j,o=.ref p/\i=.int k/\H p=some (.lst xs)/\ixN xs.length k=some j/\Q (upd H p (.lst (xs.set j v)))
theorem QKH:PSet X rSetL:=by
 intro pins s σ H o i v ov iv u Q I ro ri rv h
 obtain⟨p,xs,k,j,rfl,rfl,hp,hj,q⟩:=h
 cases ro
 obtain⟨t,rfl⟩:=ri
 obtain⟨its,n,r,ho,hz⟩:=I.lst hp
 obtain⟨h1,h2,h3,h4⟩:=QEm hj
 have hl:=r.length
 have hn:=Qi4
 have I':Inv X pins σ (upd H p (.lst (xs.set j v))) { s with heap:=s.heap.update p (Obj.mapSeq (·.setIfInBounds j u)) }:=
  I.lstUpd hp ho (QGa its n j u) (r.set rv j) (by rw[List.length_set];exact hz) s.toks
 by_cases h0:0<=k
 ·have hk:k.toNat=j:=by
   rw[seqIndex_of h0 h4]at h1
   exact Option.some.inj h1
  exact W.ki_setAt ho h0 (by omega) (by rw[List.size_toArray, ← hl];exact h4) (by rw[hk];exact⟨_,I',q⟩)
 ·have hk:(k+(its.toArray.size:Int)).toNat=j:=by
   rw[seqIndex_neg (by omega) h3]at h1
   rw[List.size_toArray, ← hl]
   exact Option.some.inj h1
  exact W.ki_setBack ho (by omega) (by rw[List.size_toArray, ← hl];exact h3) (by omega) (by rw[hk];exact⟨_,I',q⟩)
theorem Qxq(lo hi:Option Int)(n:Nat):(sliceBounds lo hi none n).1=((HT.sIx n 0 lo:Nat):Int)/\(sliceBounds lo hi none n).2.1=((HT.sIx n n hi:Nat):Int)/\(sliceBounds lo hi none n).2.2=1:=by
 refine⟨?_,?_,rfl⟩
 ·cases lo with
  | none=>simp[sliceBounds,HT.sIx]
  | some i=>
   simp only[sliceBounds,HT.sIx,Option.getD_none,show(1:Int) > 0 by decide,if_true]
   by_cases h:i<0
   ·simp only[h,if_true]<;>omega
   ·simp only[h,if_false]<;>omega
 ·cases hi with
  | none=>simp[sliceBounds,HT.sIx]
  | some i=>
   simp only[sliceBounds,HT.sIx,Option.getD_none,show(1:Int) > 0 by decide,if_true]
   by_cases h:i<0
   ·simp only[h,if_true]<;>omega
   ·simp only[h,if_false]<;>omega
theorem QvD(its:List Value)(lo hi:Option Int):slicePick its.toArray lo hi none=((its.drop (HT.sIx its.length 0 lo)).take (HT.sIx its.length its.length hi - HT.sIx its.length 0 lo)).toArray:=by
 obtain⟨h1,h2,h3⟩:=Qxq lo hi its.toArray.size
 unfold slicePick
 rw[h1,h2,h3]
 simp only[sliceRange_one,pick_run,List.size_toArray]<;>rfl
def rSlL(K:W.Frag):V->Option Int->Option Int->Hp->VK->Prop:=fun x lo hi H Q=>∃ a xs,x=.ref a/\SqL K H a xs/\∀ p,H p=none->Q (.ref p) (upd H p (.lst (cutV xs lo hi)))
theorem QN7:SlR X (rSlL X.K):=by
 intro pins s σ H x v vl vu lo hi sl Q I rx hs pl pu h
 obtain⟨a,xs,rfl,hx,q⟩:=h
 cases rx
 obtain⟨its,r,ht,hz⟩:=I.list hx
 have hlen:=r.length
 refine⟨"list",_,slot_list_getitem.lookup,ht.isList.typeIs,?_⟩
 refine wpAny_getItem_list_slice ht.isList hs pl pu .none (by simp) ?_ (by rw[List.size_toArray]<;>omega)
 rw[QvD, ← hlen]
 refine⟨.ref s.heap.objs.size,_,I.laid (t':=s.toks) (o:=.lst (cutV xs lo hi)) (fun b ob q=>Heap.get?_push_of_some _ q) (Nat.le_refl _) ?_,rfl,q _ (I.hok.fresh (Nat.le_refl _))⟩
 exact⟨Nat.le_trans (QCe xs lo hi) hz,_,0,(r.drop (HT.sIx xs.length 0 lo)).take (HT.sIx xs.length xs.length hi - HT.sIx xs.length 0 lo),Heap.get?_push_size _ rfl⟩
def flatV:V->Bool
 | .non=>true
 | .bl _=>true
 | .int _=>true
 | .str _=>true
 | _=>false
def eqV:V->V->Bool
 | .non,.non=>true
 | .bl a,.bl b=>a == b
 | .bl a,.int b=>(if a then 1 else 0) == b
 | .int a,.bl b=>a == (if b then 1 else 0)
 | .int a,.int b=>a == b
 | .str a,.str b=>a == b
 | _,_=>false
theorem QOX{A:Around}{s:Shared}{y x:V}{u v:Value}(ry:RelV y u)(rx:RelV x v)(fy:flatV y=true)(fx:flatV x=true):SeqAt.EqAt A s u v (eqV y x):=by
 cases y with
 | non=>
  cases ry
  cases x with
  | non=>cases rx;exact SeqAt.EqAt.same _
  | bl b=>cases rx;exact SeqAt.EqAt.none_bool b
  | int b=>obtain⟨t,rfl⟩:=rx;exact SeqAt.EqAt.none_int b t
  | str b=>obtain⟨t,rfl⟩:=rx;exact SeqAt.EqAt.none_str b t
  | _=>exact absurd (show false=true from fx) Bool.false_ne_true
 | bl a=>
  cases ry
  cases x with
  | non=>cases rx;exact SeqAt.EqAt.bool_none a
  | bl b=>cases rx;exact SeqAt.EqAt.bool_bool a b
  | int b=>obtain⟨t,rfl⟩:=rx;exact SeqAt.EqAt.bool_int a b t
  | str b=>obtain⟨t,rfl⟩:=rx;exact SeqAt.EqAt.bool_str a b t
  | _=>exact absurd (show false=true from fx) Bool.false_ne_true
 | int a=>
  obtain⟨t',rfl⟩:=ry
  cases x with
  | non=>cases rx;exact SeqAt.EqAt.int_none a t'
  | bl b=>cases rx;exact SeqAt.EqAt.int_bool a t' b
  | int b=>obtain⟨t,rfl⟩:=rx;exact SeqAt.EqAt.int_int a t' b t
  | str b=>obtain⟨t,rfl⟩:=rx;exact SeqAt.EqAt.int_str a t' b t
  | _=>exact absurd (show false=true from fx) Bool.false_ne_true
 | str a=>
  obtain⟨t',rfl⟩:=ry
  cases x with
  | non=>cases rx;exact SeqAt.EqAt.str_none a t'
  | bl b=>cases rx;exact SeqAt.EqAt.str_bool a t' b
  | int b=>obtain⟨t,rfl⟩:=rx;exact SeqAt.EqAt.str_int a t' b t
  | str b=>obtain⟨t,rfl⟩:=rx;exact SeqAt.EqAt.str_str a t' b t
  | _=>exact absurd (show false=true from fx) Bool.false_ne_true
 | _=>exact absurd (show false=true from fy) Bool.false_ne_true
def eqU(x:V)(u:Value):Bool:=match u with
 | .none=>eqV .non x
 | .bool b=>eqV (.bl b) x
 | .int i _=>eqV (.int i) x
 | .str z _=>eqV (.str z) x
 | _=>false
theorem QIQ{x y:V}{u:Value}(r:RelV y u)(f:flatV y=true):eqU x u=eqV y x:=by
 cases y with
 | non=>cases r;rfl
 | bl b=>cases r;rfl
 | int i=>obtain⟨t,rfl⟩:=r;rfl
 | str z=>obtain⟨t,rfl⟩:=r;rfl
 | _=>exact absurd (show false=true from f) Bool.false_ne_true
theorem Qsu{x:V}:∀{xs:List V}{us:List Value},Vals xs us->xs.all flatV=true->us.any (eqU x)=xs.any fun y=>eqV y x
 | _,_,.nil,_=>rfl
 | y::xs,u::us,.cons r t,f=>by
  rw[List.all_cons,Bool.and_eq_true]at f
  rw[List.any_cons,List.any_cons,QIQ r f.1,Qsu t f.2]
theorem Qnc{A:Around}{s:Shared}{x:V}{v:Value}(rx:RelV x v)(fx:flatV x=true):∀{xs:List V}{us:List Value},Vals xs us->xs.all flatV=true->∀ u∈us,SeqAt.EqAt A s u v (eqU x u)
 | _,_,.nil,_=>fun u hu=>by cases hu
 | y::xs,u::us,.cons r t,f=>fun u' hu=>by
  rw[List.all_cons,Bool.and_eq_true]at f
  rcases List.mem_cons.mp hu with rfl | hu
  ·rw[QIQ r f.1];exact QOX r rx f.1 fx
  ·exact Qnc rx fx t f.2 u' hu
def inV(x:V)(xs:List V):Bool:=xs.any fun y=>eqV y x
def rIn(K:W.Frag)(neg:Bool):R2:=fun x y H Q=>∃ p xs,y=.ref p/\(SqL K H p xs∨SqT K H p xs)/\flatV x=true/\xs.all flatV=true/\Q (.bl (if neg then !inV x xs else inV x xs)) H
theorem QJa:OpR X (compareOp .In) (rIn X.K false):=by
 intro pins s σ H x y v u Q I rx ry h
 obtain⟨p,xs,rfl,hq,fx,fs,q⟩:=h
 cases ry
 rcases hq with hq | hq
 ·obtain⟨its,r,pl,hz⟩:=I.list hq
  refine SeqAt.in_listAt (eqU x) pl.isList (fun w hw=>Qnc rx fx r fs w (by simpa using hw)) ⟨.bl _,H,I,rfl,?_⟩
  rw[show its.toArray.any (eqU x)=its.any (eqU x) by simp,Qsu r fs]
  exact q
 ·obtain⟨its,r,pl,hz⟩:=I.tuple hq
  refine SeqAt.in_tupleAt (eqU x) pl (fun w hw=>Qnc rx fx r fs w (by simpa using hw)) ⟨.bl _,H,I,rfl,?_⟩
  rw[show its.toArray.any (eqU x)=its.any (eqU x) by simp,Qsu r fs]
  exact q
theorem Qwp:CallR X (.builtin "len") (fun xs H Q=>∃ p ys,xs=[.ref p]/\(SqL X.K H p ys∨SqT X.K H p ys)/\Q (.int ys.length) H):=by
 intro pins s σ H xs us Q I r h
 obtain⟨p,ys,rfl,hq,q⟩:=h
 obtain⟨u,rfl,rx⟩:=vals1 r
 cases rx
 have hn:=Qi4
 rcases hq with hq | hq
 ·obtain⟨its,r',pl,hz⟩:=I.list hq
  have hlen:=r'.length
  exact Calls.call_len_list pl.isList (by simp only[List.size_toArray]<;>omega) ⟨.int ys.length,H,I.tok _,⟨s.toks+1,by rw[List.size_toArray,hlen]⟩,q⟩
 ·obtain⟨its,r',pl,hz⟩:=I.tuple hq
  have hlen:=r'.length
  exact len_tuple pl (by simp only[List.size_toArray]<;>omega) ⟨.int ys.length,H,I.tok _,⟨s.toks+1,by rw[List.size_toArray,hlen]⟩,q⟩
theorem QAa:CallR X (.builtin "len") (fun xs H Q=>∃ z,xs=[.str z]/\z.length<=sizeLine/\Q (.int z.length) H):=by
 intro pins s σ H xs us Q I r h
 obtain⟨z,rfl,hz,q⟩:=h
 obtain⟨u,rfl,t,rfl⟩:=vals1 r
 have hn:=Qi4
 exact len_str (by omega) ⟨.int z.length,H,I.tok _,⟨_,rfl⟩,q⟩
theorem CallR.or{f:Value}{r r':List V->Hp->VK->Prop}(h:CallR X f r)(h':CallR X f r'):CallR X f (fun xs H Q=>r xs H Q∨r' xs H Q):=by
 intro pins s σ H xs us Q I rs q
 rcases q with q | q
 ·exact h pins s σ H xs us Q I rs q
 ·exact h' pins s σ H xs us Q I rs q
theorem QxL:CallR X (.type "list") (fun xs H Q=>∃ p ys,xs=[.ref p]/\(SqL X.K H p ys∨SqT X.K H p ys)/\∀ l,H l=none->Q (.ref l) (upd H l (.lst ys))):=by
 intro pins s σ H xs us Q I r h
 obtain⟨p,ys,rfl,hq,q⟩:=h
 obtain⟨u,rfl,rx⟩:=vals1 r
 cases rx
 have fin:∀(its:List Value),Vals ys its->ys.length<=sizeLine->∀(h':Heap)(c':Nat),(∀ b o',s.heap.get? b=some o'->h'.get? b=some o')->
  h'.get? s.heap.objs.size=some { cls:=.type "list",dict:=none,data:=.seq its.toArray c',slots := #[] }->EP X pins σ Q (.ref s.heap.objs.size) { s with heap:=h' }:=fun its r' hz h' c' kp e=>
  ⟨.ref s.heap.objs.size,_,I.laid (t':=s.toks) kp (Nat.le_refl _) (show ObjOk X.prog X.w _ h' _ (.lst ys) from⟨hz,its,c',r',e⟩),rfl,q _ (I.hok.fresh (Nat.le_refl _))⟩
 rcases hq with hq | hq
 ·obtain⟨its,r',pl,hz⟩:=I.list hq
  have hlen:=r'.length
  obtain⟨o,ho,hc,n,hd⟩:=pl.isList
  exact call_list_seq p (.inl rfl) ho hc hd (fun h' c' kp e=>fin its r' hz h' c' kp e) (by simp only[List.size_toArray]<;>omega)
 ·obtain⟨its,r',pl,hz⟩:=I.tuple hq
  have hlen:=r'.length
  obtain⟨o,ho,hc,n,hd⟩:=pl
  exact call_list_seq p (.inr rfl) ho hc hd (fun h' c' kp e=>fin its r' hz h' c' kp e) (by simp only[List.size_toArray]<;>omega)
def tyV(K:W.Frag)(T:String)(x:V)(H:Hp):Prop:=match x with
 | .str _=>T="str"
 | .int _=>T="int"
 | .ref p=>(T="list"/\∃ xs,SqL K H p xs)∨(T="tuple"/\∃ o,K.lookup p=some o/\o.cls=.type "tuple"/\o.dict=none)∨
  (T="dict"/\((∃ kvs,H p=some (.dK kvs))∨∃ kvs,H p=some (.dT kvs)))∨(T="set"/\∃ S n,H p=some (.set S n))
 | _=>False
theorem QOL{pins:‹"v"›}{σ:St}{H:Hp}{s:Shared}{T:String}{x:V}{v:Value}(I:‹"g"›)(r:RelV x v)(ty:tyV X.K T x H):
 s.TypeIs v T/\∀ a,v=.ref a->∃ ob,s.heap.get? a=some ob/\ob.dict=none:=by
 cases x with
 | str z=>
  obtain⟨t,rfl⟩:=r
  cases (show T="str" from ty)
  exact⟨typeIs_str s z t,fun _ e=>nomatch e⟩
 | int i=>
  obtain⟨t,rfl⟩:=r
  cases (show T="int" from ty)
  exact⟨typeIs_int s i t,fun _ e=>nomatch e⟩
 | ref p=>
  cases r
  rcases ty with⟨rfl,xs,hq⟩ | ⟨rfl,o,hk,hc,hd⟩ | ⟨rfl,hk⟩ | ⟨rfl,S,n,hk⟩
  ·obtain⟨its,_,pl,_⟩:=I.list hq
   refine⟨pl.isList.typeIs,fun a e=>?_⟩
   cases e
   obtain⟨o,n,e,c,hd,_⟩:=pl
   exact⟨o,e,hd⟩
  ·refine⟨⟨o,I.kIn p o hk,hc⟩,fun a e=>?_⟩
   cases e
   exact⟨o,I.kIn _ o hk,hd⟩
  ·have z:∃ o,s.heap.get? p=some o/\o.ExactDict:=by
    rcases hk with⟨kvs,hk⟩ | ⟨kvs,hk⟩
    ·obtain⟨_,_,_,_,o,_,_,e,ex,_⟩:=I.hok p _ hk
     exact⟨o,e,ex⟩
    ·obtain⟨_,_,_,_,o,_,_,e,ex,_⟩:=I.hok p _ hk
     exact⟨o,e,ex⟩
   obtain⟨o,e,ex⟩:=z
   refine⟨⟨o,e,ex.1⟩,fun a e2=>?_⟩
   cases e2
   exact⟨o,e,ex.2.1⟩
  ·obtain⟨o,_,_,_,e,ex,_⟩:=I.hok p _ hk
   refine⟨⟨o,e,ex.1⟩,fun a e2=>?_⟩
   cases e2
   exact⟨o,e,ex.2.1⟩
 | _=>exact False.elim ty
def tBM(K:W.Frag)(T:String)(r:V->List V->Hp->VK->Prop)(to:TE)(t:TA):TE:=fun σ H Q=>to σ H fun x H1=>tyV K T x H1/\t σ H1 fun xs H2=>r x xs H2 Q
variable{o e:Expr}{es:List Expr}{to:TE}{t:TA}{name:Str}{apos cpos:Pos}{T id:String}{r:V->List V->Hp->VK->Prop}
theorem pe_bm(pa:PlainAttrs T)(slot:Slot T name id)(hty:typeOf (.builtin id)=pure (.type "method_descriptor"))(hm:MtR X id r)(ho:PE X o to)(ha:PA X (e::es) t)
 (hbase:attributeBase o name X.env (eval o X.env)=eval o X.env:=by rfl)
 (hfew:((backTo cpos (starEach (e::es) X.env)).all (fun x => !x.1)&&(backToKw cpos (keywordEach [] X.env)).all (fun x=>x.1.isSome)
  && decide ((e::es).length+([]:List Keyword).length+(if ([]:List Keyword).isEmpty then 0 else 1)<30))=true:=by rfl)
 (hline:(apos.endLine == cpos.line)=true:=by rfl) (hs:‹"n"›:=by rfl) (hplain:(backTo cpos (starEach es X.env)).any (·.1)=false:=by rfl):
 PE X (.Call (.Attribute o name apos) (e::es) [] cpos) (tBM X.K T r to t):=by
 intro pins s σ H Q I h
 refine wpAny_Call_method_late hbase hfew hline rfl (thn (ho pins s σ H _ I h) fun v s1 ⟨x,H1,I1,r1,ty,q1⟩=>?_)
 obtain⟨h1,h2⟩:=QOL I1 r1 ty
 refine⟨T,id,pa,slot,hty,h1,h2,?_⟩
 have hA:=ha cpos pins s1 σ H1 _ I1 q1
 rw[hs]at hA ⊢
 refine Calls.callWith_builtin (by show(false||(backTo cpos (starEach es X.env)).any (·.1))=false;rw[hplain]<;>rfl) (Calls.evalArgs_plain ?_)
 exact thn hA fun us s2 ⟨vs,H2,I2,r2,q2⟩=>hm pins s2 σ H2 x vs v us Q I2 r1 r2 q2
end
end L2
namespace L2
open PySem PySem.Spec PyProof.Rows
def MtM(X:Cx)(id:String)(r:V->List V->Hp->VK->Prop):Prop:=
 ∀(pins:‹"v"›)(s:Shared)(σ:St)(H:Hp)(x:V)(xs:List V)(v:Value)(us:List Value)(Q:VK),Inv X pins σ H s->RelV x v->Vals xs us->r x xs H Q->
  wpAny ‹"i"› X.A (call (.builtin id) (v::us)) (EP X pins σ Q) X.xe s
theorem Vals.one:∀{x:V}{us:List Value},Vals [x] us->∃ u,us=[u]/\RelV x u
 | _,_,.cons r .nil=>⟨_,rfl,r⟩
theorem Vals.rep{xs:List V}{us:List Value}(h:Vals xs us):∀ k:Nat,Vals (List.replicate k xs).flatten (List.replicate k us).flatten
 | 0=>.nil
 | k+1=>by
  rw[List.replicate_succ,List.replicate_succ,List.flatten_cons,List.flatten_cons]
  exact Vals.append h (Vals.rep h k)
theorem Qtm(its:List Value):∀(k:Nat)(acc:List Value),
 List.foldl (fun x1 x2=>x1++x2) acc.toArray (List.replicate k its.toArray)=(acc++(List.replicate k its).flatten).toArray
 | 0,acc=>by simp
 | k+1,acc=>by
  have e:acc.toArray++its.toArray=(acc++its).toArray:=by simp
  have e2:(acc++its)++(List.replicate k its).flatten=acc++(List.replicate (k+1) its).flatten:=by
   rw[List.replicate_succ,List.flatten_cons,List.append_assoc]
  rw[← e2, ← Qtm its k (acc++its), ← e,List.replicate_succ,List.foldl_cons]
section
variable{X:Cx}{pins:List (Addr×Obj)}{σ:St}{H:Hp}{s:Shared}{l b:Addr}{xs ys zs:List V}
theorem Inv.lset{its its':List Value}{n:Nat}{f:Array Value->Array Value}{t':Nat}(I:‹"g"›)(hH:H l=some (.lst xs))
 (e:s.heap.get? l=some { cls:=.type "list",data:=.seq its.toArray n }) (hf:f its.toArray=its'.toArray) (hv:Vals ys its') (hz:ys.length<=sizeLine):
 Inv X pins σ (upd H l (.lst ys)) { s with heap:=s.heap.update l (Obj.mapSeq f),toks:=t' }:=by
 have q:=PySem.IsL.update e f
 rw[hf]at q
 refine I.write (x:=l) (e:=l) (by rw[hH];exact trivial) (.inl rfl) (fun b' u hb hu=>(Heap.get?_update_other s.heap (Obj.mapSeq f) (Ne.symm hb)).trans hu) ⟨_,q⟩ ?_
 exact⟨hz,its',_,hv,q⟩
theorem Inv.lnew{its:List Value}{t':Nat}(I:‹"g"›)(hv:Vals ys its)(hz:ys.length<=sizeLine):
 Inv X pins σ (upd H s.heap.objs.size (.lst ys)) { s with heap:=s.heap.push { cls:=.type "list",data:=.seq its.toArray },toks:=t' }:=
 I.laid (fun _ _ q=>Heap.get?_push_of_some _ q) (Nat.le_refl _) ⟨hz,its,0,hv,Heap.get?_push_size _ rfl⟩
theorem Inv.fresh(I:‹"g"›):H s.heap.objs.size=none:=I.hok.fresh (Nat.le_refl _)
theorem Inv.lstM(I:‹"g"›)(hH:H l=some (.lst xs)):xs.length<=sizeLine/\∃(its:List Value)(n:Nat),Vals xs its/\xs.length=its.length/\s.heap.get? l=some { cls:=.type "list",data:=.seq its.toArray n }:=by
 obtain⟨z,its,n,r,e⟩:=I.hok l _ hH
 exact⟨z,its,n,r,r.length,e⟩
theorem QKR{n:Nat}(h:n<=sizeLine):Builtin.List.listTooLong n=false:=by
 unfold Builtin.List.listTooLong
 exact decide_eq_false (by omega)
end
section
variable{X:Cx}
def QMj:V->List V->Hp->VK->Prop:=fun x vs H Q=>∃ l xs y,x=.ref l/\vs=[y]/\H l=some (.lst xs)/\xs.length<sizeLine/\Q .non (upd H l (.lst (xs++[y])))
theorem Qs7:MtM X "list.append" QMj:=by
 intro pins s σ H x vs v us Q I rx rv h
 obtain⟨l,xs,y,rfl,rfl,hH,hz,q⟩:=h
 cases rx
 obtain⟨u,rfl,ru⟩:=rv.one
 obtain⟨z,its,n,r,hl,e⟩:=I.lstM hH
 refine call_meets F.slot_list_append ⟨_,e,rfl⟩ F.entry_list_append (F.args_list_append_2 _ _) (PySem.list_append l its.toArray n u (by rw[List.size_toArray];omega)) ⟨e,?_⟩
 refine⟨.non,_,I.lset (its':=its++[u]) hH e (by simp) (r.append (.cons ru .nil)) ?_,rfl,q⟩
 rw[List.length_append,List.length_singleton]
 omega
def rRep:R2:=fun x y H Q=>∃ l k xs,x=.ref l/\y=.int k/\H l=some (.lst xs) /\ -(2 ^ 63)<=k/\k<2 ^ 63/\xs.length * k.toNat<=sizeLine/\
 ∀ p,H p=none->Q (.ref p) (upd H p (.lst (List.replicate k.toNat xs).flatten))
theorem QN0{α:Type}(xs:List α)(k:Nat):(List.replicate k xs).flatten.length=k * xs.length:=by
 induction k with
 | zero=>simp
 | succ k ih=>rw[List.replicate_succ,List.flatten_cons,List.length_append,ih,Nat.succ_mul,Nat.add_comm]
theorem QPH:OpR X (binaryOp .Mult) rRep:=by
 intro pins s σ H x y v u Q I rx ry h
 obtain⟨l,k,xs,rfl,rfl,hH,h1,h2,hz,q⟩:=h
 cases rx
 obtain⟨t,rfl⟩:=ry
 obtain⟨z,its,n,r,hl,e⟩:=I.lstM hH
 have hlen:its.toArray.size * k.toNat<=sizeLine:=by rw[List.size_toArray, ← hl];exact hz
 have hcap:¬ its.toArray.size * k.toNat > (2 ^ 63 - 1) / 8:=by
  have:(sizeLine:Nat)<=(2 ^ 63 - 1) / 8:=by decide
  omega
 have hfit:¬ (!Builtin.List.listFitsIndex k)=true:=by
  rw[fitsIndex_both h1 h2]
  exact Bool.false_ne_true
 have hlong:¬ Builtin.List.listTooLong (its.toArray.size * k.toNat)=true:=by
  rw[QKR hlen]
  exact Bool.false_ne_true
 have hnew:List.foldl (fun x1 x2=>x1++x2) #[] (List.replicate (if its.toArray.isEmpty=true then 0 else k.toNat) its.toArray)=(List.replicate k.toNat its).flatten.toArray:=by
  have f0:∀ m:Nat,List.foldl (fun x1 x2=>x1++x2) #[] (List.replicate m its.toArray)=(List.replicate m its).flatten.toArray:=fun m=>by
   have:=Qtm its m []
   rw[List.nil_append]at this
   exact this
  rw[f0]
  cases its with
  | nil=>simp
  | cons a r'=>rw[if_neg (by simp)]
 refine wpAny_binaryOp_repeat_ref (T:="list") (U:="int") (by decide) ⟨_,e,rfl⟩ (fun s'=>typeIs_int s' k t) noFill_list_mul F.fills_int_mul F.slot_int_rmul repeat_list F.slot_int_index.lookup
  (call_meets F.slot_int_rmul (typeIs_int s k t) F.entry_int_rmul (F.args_int_rmul_2 _ _) (int___rmul___int_list k t l its.toArray n)
   ⟨e,rfl,⟨_,e,rfl⟩,call_meets F.slot_list_mul ⟨_,e,rfl⟩ F.entry_list_mul (F.args_list_mul_2 _ _) (AutoListH.list___mul___list_int_3 l its.toArray n k t hfit hcap hlong) ⟨e,?_⟩⟩)
 rw[hnew]
 exact⟨.ref _,_,I.lnew (t':=s.toks) (r.rep k.toNat) (by rw[QN0,Nat.mul_comm];exact hz),rfl,q _ I.fresh⟩
end
section
variable{prog:Program}{w:World}{A:Around}{E:Value->Shared->Prop}{s:Shared}
end
section
variable{X:Cx}
end
end L2
namespace Att
open PySem PySem.W PySem.Calls PyProof.Rows
theorem Qqh{P:Params}{h:Heap}:∀(ns:List Int)(vs:List Value),WellAll P h vs (ns.map WData.int)->IntsAre vs ns:=by
 intro ns
 induction ns with
 | nil=>
  intro vs w
  rw[List.map_nil]at w
  cases w
  exact .nil
 | cons n ns ih=>
  intro vs w
  rw[List.map_cons]at w
  cases w with
  | cons a b=>
   cases a
   exact .cons _ _ (ih _ b)
theorem script_of{l:OpenLaw}{n:Nat}(hn:l.most=some n){P:Params}{h:Heap}{args:List WData}{vals:List Value}
 (hpre:l.row.toRowW.claim.pre args=true) (hwl:WellAll P h vals args):
 ∃ a vs ns,vals=[Value.ref a]/\args=[WData.list (ns.map WData.int)]/\h.get? a=some { cls:=.type "list",data:=.seq vs.toArray }/\IntsAre vs ns/\ns.length<=n:=by
 have hsh:WShape.hasAll [] args [.list .int]=true:=(pre_splitW hpre).1
 have hc:l.pre.holds [] { args:=args }=true:=(pre_splitW hpre).2
 obtain⟨d,r,rfl,h1,h2⟩:=hasAllW_cons hsh
 obtain rfl:=hasAllW_nil h2
 obtain⟨xs,rfl,h3⟩:=hasW_list h1
 obtain⟨ns,rfl⟩:=items_int h3
 have hlen:ns.length<=n:=by
  unfold OpenLaw.pre at hc
  have h4:(WTm.not (.lt (.lit (.int (n:Int))) (.len (.arg 0)))).holds [] { args:=[.list (ns.map .int)] }=true:=by
   have h4:=(holds_andW hc).1
   rw[hn]at h4
   exact h4
  have h5:=condW_of h4 (w_not (w_lt w_lit (w_len_list (w_arg rfl))))
  rw[List.length_map]at h5
  refine Nat.le_of_not_lt fun q=>?_
  have q':(n:Int)<((ns.length:Nat):Int):=by omega
  first
   | (rw[decide_eq_true q']at h5;exact absurd h5 (by decide))
   | (simp at h5;omega)
 cases hwl with
 | cons w1 w2=>
  cases w2
  cases w1 with
  | list ho hall=>exact⟨_,_,ns,rfl,rfl,ho,Qqh ns _ hall,hlen⟩
theorem post_true(l:OpenLaw)(args:List WData):l.row.toRowW.claim.post args (.bool true) args=true:=
 postW_of (r:=l.row.toRowW) (X:=(true == true))
  (show WShape.has [] (.bool true) .bool=true by first | rfl | decide | simp[WShape.has,WShape.arms,WShape.armsAll])
  (show(WTm.eq .res (.lit (.bool true))).value [] { args:=args,res:=some (.bool true),after:=args }=some (.bool (true == true)) from w_eq_bool (w_res rfl) w_lit) rfl
section
variable{prog:Program}{w:World}{A:Around}{E:Value->Shared->Prop}{s:Shared}{K:Frag}
end
end Att
namespace L2
open PySem PySem.Spec PyProof.Rows
theorem QtH:∀{vs:List Value}{ns:List Int},IntsAre vs ns->Vals (ns.map V.int) vs
 | _,_,.nil=>.nil
 | _,_,.cons n t h=>.cons ⟨t,rfl⟩ (QtH h)
def Only(H:Hp):Prop:=∀ b,H b=none∨∃ o xs,H b=some (.frz o (.lst xs))
theorem QLh{P:Program}{w:World}{K:W.Frag}{mg mb:Str->Option Value}{CX:CXT}{k:Nat}{fa a:Addr}{fd:FuncData}{x:Str}{sp:Sp}{s₁:Shared}{vs:List Value}{ns:List Int}
 (KX:K.In s₁.heap) (hns:s₁.heap.Ns mainGlobals mg) (hb:s₁.heap.Ns builtinsNs mb) (hbb:∀ x:Str,x≠"__name__"->mb x=bootBuiltins x) (hlim:s₁.heap.NoLimit) (hg:s₁.gens = #[])
 (ha:s₁.heap.get? a=some { cls:=.type "list",data:=.seq vs.toArray }) (hi:IntsAre vs ns) (hl:ns.length<=sizeLine) (hr:Room k callerA)
 (F:∀ base:Heap,K.In base->base.Ns mainGlobals mg->FnOk P w K mg base CX k fa fd [x] sp) (hbind:∀(s:Shared)(u:Value),BindsTo s fd ⟨[u],[]⟩ [(x,u)])
 (hsp:∀ H:Hp,Only H->SqL K H a (ns.map V.int)->sp [.ref a] H (fun v _=>v=.bl true) fun _ _ _=>False)
 (hCX:∀ H e s',CX [] H s₁ (fun _ _ _=>False) e s'->False):
 codeAny (model P w) callerA (.call (.ref fa) ⟨[.ref a],[]⟩) (fun r s'=>r=.ok (.ret (.bool true))/\OldK s₁.heap s'.heap/\s'.os=s₁.os/\AllBare s'.gens) s₁:=by
 have rv:=QtH hi
 have lenV:=hi.length
 -- from an abstract heap in which nothing but the script may be tracked
 have core:∀ H:Hp,Only H->SqL K H a (ns.map V.int)->HOk P w H s₁.heap->(∀ b,H b≠none->b=a)->(H a≠none->K.lookup a=none)->
  codeAny (model P w) callerA (.call (.ref fa) ⟨[.ref a],[]⟩) (fun r s'=>r=.ok (.ret (.bool true))/\OldK s₁.heap s'.heap/\s'.os=s₁.os/\AllBare s'.gens) s₁:=by
  intro H hO hS hok hA hK
  have base_of:∀{b:Addr}{o:Obj},s₁.heap.get? b=some o->H b=none->(hidT s₁.heap H).get? b=some o:=fun e n=>QKN e n
  have noA:∀{b:Addr}{o:Obj}{es:Array DictEntry}{ep:Nat},s₁.heap.get? b=some o->o.data=.dict es ep->H b=none:=fun {b o es ep} e d=>by
   cases q:H b with
   | none=>rfl
   | some u=>
    have e':b=a:=hA b (by rw[q];simp)
    subst e'
    rw[ha]at e;cases e
    have d':Data.seq vs.toArray _=Data.dict es ep:=d
    cases d'
  have nsK:∀{b:Addr}{m:Str->Option Value},s₁.heap.Ns b m->(hidT s₁.heap H).Ns b m:=fun {b m} ⟨o,es,ep,e,d,r⟩=>⟨o,es,ep,base_of e (noA e d),d,r⟩
  have hKb:K.In (hidT s₁.heap H):=fun b o e=>base_of (KX b o e) (by
   cases q:H b with
   | none=>rfl
   | some u=>
    have e':b=a:=hA b (by rw[q];simp)
    subst e'
    rw[hK (by rw[q];simp)]at e;cases e)
  have hM:Mod K mg (hidT s₁.heap H):=⟨hKb,nsK hns,⟨mb,nsK hb,hbb⟩,let ⟨mc,h1,h2⟩:=hlim;⟨mc,nsK h1,h2⟩⟩
  have e0:Env0 P w K mg (hidT s₁.heap H) callerA [] s₁ H:=⟨rfl,hM,fun b o e=>QNd e,Nat.le_of_eq (QJF _ _),trivial,fun b hb=>absurd (show b∈([]:List Addr) from hb) (by simp),hok,.of_eq hg⟩
  refine codeAny_mono ((F _ hKb (nsK hns)).run callerA [] s₁ H ⟨[.ref a],[]⟩ [.ref a] [.ref a] _ _ hr e0 (hbind s₁ (.ref a)) (.cons rfl .nil) (hsp H hO hS)) fun r s' h=>?_
  cases r with
  | error e=>exact(hCX H e s' h).elim
  | ok fl=>
   cases fl with
   | next=>exact False.elim h
   | brk=>exact False.elim h
   | cont=>exact False.elim h
   | ret u=>
    obtain⟨v,H',os,bare,un,hok',r',q⟩:=h
    have q':v=.bl true:=q
    subst q'
    obtain rfl:u=Value.bool true:=r'
    refine⟨rfl,OldK.of_keep fun b o e=>?_,os,bare⟩
    cases q:H b with
    | none=>exact un.keep b o e q (by intro z;exact absurd (show b∈([]:List Addr) from z) (by simp)) (by simp)
    | some u=>
     rcases hO b with z | ⟨ob,xs,z⟩
     ·rw[q]at z;cases z
     ·have z2:=un.frzs b ob _ z
      obtain⟨e1,_⟩:=hok b _ z
      obtain⟨e2,_⟩:=hok' b _ z2
      rw[e]at e1;cases e1
      exact e2
 cases hk:K.lookup a with
 | some o=>
  -- the script is one of the module's own objects
  have e:=KX a o hk
  rw[ha]at e
  cases e
  refine core (fun _=>none) (fun _=>.inl rfl) (.inr ⟨_,vs.toArray,_,hk,rfl,rfl,rfl,by rw[List.size_toArray,lenV];exact hl,by simpa using rv⟩) (fun b u z=>by have z':(none:Option HO)=some u:=z;cases z') (fun b z=>absurd rfl z) fun z=>absurd rfl z
 | none=>
  refine core (fun b=>if b=a then some (.frz { cls:=.type "list",data:=.seq vs.toArray } (.lst (ns.map V.int))) else none) (fun b=>?_) (.inl (.inr ⟨{ cls:=.type "list",data:=.seq vs.toArray },if_pos rfl⟩)) (fun b u z=>?_) (fun b z=>?_) fun _=>hk
  ·by_cases hb:b=a
   ·exact .inr ⟨_,_,if_pos hb⟩
   ·exact .inl (if_neg hb)
  ·by_cases hb:b=a
   ·have z':=(if_pos hb).symm.trans z
    cases z'
    subst hb
    exact⟨ha,by rw[List.length_map];exact hl,vs,_,rv,ha⟩
   ·have z':=(if_neg hb).symm.trans z
    cases z'
  ·by_cases hb:b=a
   ·exact hb
   ·exact absurd (if_neg hb) z
end L2
namespace L2
open PySem PySem.Spec PyProof.Rows
end L2
namespace L2
open PySem PySem.Spec PyProof.Rows
def Ql(s:Stmt):Arguments:=match s with
 | .FunctionDef _ a _ _ _ _ _ _ _ _=>a
 | _=>{ posonlyargs:=[],args:=[],vararg:=none,kwonlyargs:=[],kw_defaults:=[],kwarg:=none,defaults:=[] }
def Qk(s:Stmt):List Stmt:=match s with
 | .FunctionDef _ _ b _ _ _ _ _ _ _=>b
 | _=>[]
def Qd(s:Stmt):Scope:=match s with
 | .FunctionDef _ _ _ _ _ _ sc _ _ _=>sc
 | _=>{ kind:=.function,names:=[],isGenerator:=false,isCoroutine:=false }
abbrev CX0:CXT:=fun _ _ _ _ _ _=>False
abbrev E0:XK:=fun _ _ _=>False
theorem pass0{X:Cx}:Qfp CX0 X E0:=fun _ _ _ _ _ _ _ h=>h.elim
structure Fun(K:W.Frag)(x qual:Str)(st:Stmt)(f:Addr)(fd:FuncData):Prop where
 ex:∃(oc:Value)(od:Option Addr)(kV doc pm:Value)(an:Option Addr)(cdv ct:Value)(osl:Array (Option Value)),
  fd=W.fnOf x qual (Ql st) (Qk st) (Qd st) .none kV doc pm an cdv ct/\K.lookup f=some ⟨oc,od,.func fd,osl⟩/\W.codeIn K cdv qual=true
 kp:W.keepIn K (.ref f)=true
section
variable{P:Program}{w:World}{K:W.Frag}{mg:Str->Option Value}{base:Heap}
theorem Fun.ok{x qual:Str}{st:Stmt}{f:Addr}{fd:FuncData}{N ps:List Str}{k:Nat}{sp:Sp}(F:Fun K x qual st f fd)(S:Qm N ps (Qd st))(len:∀ vs H Q E,sp vs H Q E->vs.length=ps.length)
 (hbody:∀(cdv:Value)(A:Around)(outer:List Env)(s:Shared)(H:Hp)(vs:List V)(Q:VK)(E:XK),Room k (A.deeper (envOfC qual (Qd st) s.heap.objs.size f cdv))->sp vs H Q E->
  ∃ t,PSs (cxOf CX0 P w K mg base N qual (Qd st) f cdv A outer s H E).nox (Qk st) t/\t { nx:=fun _ H'=>Q .non H',rt:=Q } (start N vs) H):FnOk P w K mg base CX0 (k+1) f fd ps sp:=by
 obtain⟨oc,od,kV,doc,pm,an,cdv,ct,osl,rfl,lk,hcd⟩:=F.ex
 refine fn_of lk hcd S len fun A outer s H vs Q E hr hsp=>?_
 obtain⟨t,h,q⟩:=hbody cdv A outer s H vs Q E hr hsp
 exact⟨t,h.nox,q⟩
end
section
variable{X:Cx}
end
theorem iteF{A B:Prop}(h:B):if false=true then A else B:=by
 rw[if_neg Bool.false_ne_true]
 exact h
theorem iteT{A B:Prop}(h:A):if true=true then A else B:=by
 rw[if_pos rfl]
 exact h
def Same(H H':Hp):Prop:=∀ b o,H b=some o->H' b=some o
theorem Same.refl(H:Hp):Same H H:=fun _ _ h=>h
theorem Same.trans{H H1 H2:Hp}(a:Same H H1)(b:Same H1 H2):Same H H2:=fun c o h=>b c o (a c o h)
theorem Same.free{H H':Hp}(e:Same H H'){l:Addr}(h:H' l=Option.none):H l=Option.none:=by
 cases q:H l with
 | none=>rfl
 | some o=>
  rw[e l o q]at h
  cases h
theorem Same.seq{K:W.Frag}{H H':Hp}{a:Addr}{xs:List V}(e:Same H H')(h:SqL K H a xs):SqL K H' a xs:=by
 rcases h with(h | ⟨o,h⟩) | h
 ·exact .inl (.inl (e _ _ h))
 ·exact .inl (.inr ⟨o,e _ _ h⟩)
 ·exact .inr h
end L2
namespace L2
open PySem PySem.Spec PyProof.Rows
section
variable{κ:Type}[DecidableEq κ]
def valV(kvs:List (κ×V))(k:κ):Option V:=(kvs.find? fun kv=>decide (kv.1=k)).map (·.2)
def putK(kvs:List (κ×V))(k:κ)(v:V):List (κ×V):=
 if (kvs.any fun kv=>decide (kv.1=k))=true then kvs.map (fun kv=>if kv.1=k then(kv.1,v) else kv) else kvs++[(k,v)]
theorem Qnx{p:κ×V}{r:List (κ×V)}{k:κ}(e:p.1=k):valV (p::r) k=some p.2:=by simp[valV,List.find?_cons,e]
theorem Qn0{p:κ×V}{r:List (κ×V)}{k:κ}(e:¬ p.1=k):valV (p::r) k=valV r k:=by simp[valV,List.find?_cons,e]
theorem Qwo(k:κ):∀ kvs:List (κ×V),(kvs.any fun kv=>decide (kv.1=k))=(valV kvs k).isSome
 | []=>rfl
 | p::r=>by
  rw[List.any_cons]
  by_cases e:p.1=k
  ·simp only[Qnx e,decide_eq_true e,Bool.true_or,Option.isSome_some]
  ·rw[Qn0 e,decide_eq_false e,Bool.false_or];exact Qwo k r
theorem QmG(kvs:List (κ×V))(k:κ)(v:V):(putK kvs k v).length<=kvs.length+1:=by
 unfold putK
 split
 ·rw[List.length_map];omega
 ·rw[List.length_append,List.length_cons,List.length_nil];omega
theorem RelO.isSome_eq{o:Option V}{u:Option Value}(r:RelO o u):o.isSome=u.isSome:=by
 cases o with
 | none=>cases u with
  | none=>rfl
  | some _=>exact(show False from r).elim
 | some _=>cases u with
  | none=>exact(show False from r).elim
  | some _=>rfl
theorem RelO.getD{o:Option V}{u:Option Value}{d:V}{d':Value}(r:RelO o u)(rd:RelV d d'):RelV (o.getD d) (u.getD d'):=by
 cases o with
 | none=>cases u with
  | none=>exact rd
  | some _=>exact(show False from r).elim
 | some _=>cases u with
  | none=>exact(show False from r).elim
  | some _=>exact r
theorem KV.val{kvs:List (κ×V)}{vs:List (κ×Value)}(r:KV kvs vs)(k:κ):RelO (valV kvs k) (valueAt vs k):=by
 unfold KV at r
 induction r with
 | nil=>exact True.intro
 | @cons p q ps qs h t ih=>
  obtain⟨h1,h2⟩:=h
  by_cases e:p.1=k
  ·have e':q.1=k:=h1.symm.trans e
   have b:valueAt (q::qs) k=some q.2:=by simp[valueAt,List.find?_cons,e']
   rw[Qnx e,b];exact h2
  ·have e':¬ q.1=k:=fun z=>e (h1.trans z)
   have b:valueAt (q::qs) k=valueAt qs k:=by simp[valueAt,List.find?_cons,e']
   rw[Qn0 e,b];exact ih
theorem KV.any{kvs:List (κ×V)}{vs:List (κ×Value)}(r:KV kvs vs)(k:κ):(kvs.any fun kv=>decide (kv.1=k))=vs.any fun kv=>decide (kv.1=k):=by
 unfold KV at r
 induction r with
 | nil=>rfl
 | cons h t ih=>rw[List.any_cons,List.any_cons,ih,h.1]
theorem KV.repl{kvs:List (κ×V)}{vs:List (κ×Value)}(r:KV kvs vs)(k:κ){y:V}{u:Value}(ry:RelV y u):
 KV (kvs.map fun kv=>if kv.1=k then(kv.1,y) else kv) (vs.map fun kv=>if kv.1=k then(kv.1,u) else kv):=by
 unfold KV at r ⊢
 induction r with
 | nil=>exact .nil
 | @cons p q ps qs h t ih=>
  rw[List.map_cons,List.map_cons]
  refine .cons ?_ ih
  obtain⟨h1,h2⟩:=h
  by_cases e:p.1=k
  ·rw[if_pos e,if_pos (h1.symm.trans e)];exact⟨h1,ry⟩
  ·rw[if_neg e,if_neg (fun z=>e (h1.trans z))];exact⟨h1,h2⟩
theorem KV.put{kvs:List (κ×V)}{vs:List (κ×Value)}(r:KV kvs vs)(k:κ){y:V}{u:Value}(ry:RelV y u):KV (putK kvs k y) (stored vs k u):=by
 unfold putK stored
 rw[r.any k]
 by_cases e:(vs.any fun kv=>decide (kv.1=k))=true
 ·rw[if_pos e,if_pos e];exact r.repl k ry
 ·rw[if_neg e,if_neg e];exact Paired.snoc r ⟨rfl,ry⟩
theorem KV.length{kvs:List (κ×V)}{vs:List (κ×Value)}(r:KV kvs vs):kvs.length=vs.length:=Paired.length r
end
theorem kV_is{P:Program}{w:World}{k:Key}{u:Value}(r:RelV (kV k) u):(Qbq P w).is k u=true:=by
 cases k with
 | inl i=>obtain⟨t,e⟩:=(show ∃ t,u=Value.int i t from r);subst e;exact QDe P w i t
 | inr x=>obtain⟨t,e⟩:=(show ∃ t,u=Value.str x t from r);subst e;exact QA1 P w x t
theorem QtE{P:Program}{w:World}:∀{ks:List Key}{us:List Value},Vals (ks.map kV) us->ItemsAre (Qbq P w) ks us
 | [],_,r=>by rw[List.map_nil]at r;cases r;exact .nil
 | k::ks,_,r=>by
  rw[List.map_cons]at r
  cases r with
  | cons h t=>exact .cons (kV_is h) (QtE t)
abbrev KT(H:Hp):List (List Key×V)->List (List Key×Addr×Value)->Prop:=Paired fun p q=>p.1=q.1/\H q.2.1=some (.tup (p.1.map kV))/\RelV p.2 q.2.2
theorem KT.val{H:Hp}{kvs:List (List Key×V)}{xs:List (List Key×Addr×Value)}(r:KT H kvs xs)(k:List Key):RelO (valV kvs k) ((atKey xs k).map (·.2)):=by
 induction r with
 | nil=>exact True.intro
 | @cons p q ps qs h t ih=>
  obtain⟨h1,_,h2⟩:=h
  by_cases e:p.1=k
  ·have e':q.1=k:=h1.symm.trans e
   have b:atKey (q::qs) k=some q.2:=by simp[atKey,List.find?_cons,e']
   rw[Qnx e,b];exact h2
  ·have e':¬ q.1=k:=fun z=>e (h1.trans z)
   have b:atKey (q::qs) k=atKey qs k:=by simp[atKey,List.find?_cons,e']
   rw[Qn0 e,b];exact ih
theorem KT.repl{H:Hp}{kvs:List (List Key×V)}{xs:List (List Key×Addr×Value)}(r:KT H kvs xs)(k:List Key){y:V}{u:Value}(ry:RelV y u):
 KT H (kvs.map fun kv=>if kv.1=k then(kv.1,y) else kv) (xs.map (putAt k u)):=by
 induction r with
 | nil=>exact .nil
 | @cons p q ps qs h t ih=>
  rw[List.map_cons,List.map_cons]
  refine .cons ?_ ih
  obtain⟨h1,h2,h3⟩:=h
  unfold putAt
  by_cases e:p.1=k
  ·rw[if_pos e,if_pos (h1.symm.trans e)];exact⟨h1,h2,ry⟩
  ·rw[if_neg e,if_neg (fun z=>e (h1.trans z))];exact⟨h1,h2,h3⟩
theorem KT.put{H:Hp}{kvs:List (List Key×V)}{xs:List (List Key×Addr×Value)}(r:KT H kvs xs)(k:List Key){b:Addr}{y:V}{u:Value}(hb:H b=some (.tup (k.map kV)))(ry:RelV y u):
 KT H (putK kvs k y) (storedH xs k b u):=by
 have e:(kvs.any fun kv=>decide (kv.1=k))=(atKey xs k).isSome:=by
  rw[Qwo,(r.val k).isSome_eq,Option.isSome_map]
 unfold putK storedH
 rw[e]
 by_cases q:(atKey xs k).isSome=true
 ·rw[if_pos q,if_pos q];exact r.repl k ry
 ·rw[if_neg q,if_neg q];exact Paired.snoc r ⟨rfl,hb,ry⟩
theorem KT.keeps{H H':Hp}{kvs:List (List Key×V)}{xs:List (List Key×Addr×Value)}(r:KT H kvs xs)(ht:∀ b ys,H b=some (.tup ys)->H' b=some (.tup ys)):KT H' kvs xs:=
 Paired.mapP r fun _ _ z=>⟨z.1,ht _ _ z.2.1,z.2.2⟩
section
variable{P:Program}{w:World}{H:Hp}{h:Heap}{a:Addr}
theorem rd_of{u:HO}(ok:HOk P w H h)(e:Rd H a u):ObjOk P w H h a u:=e.ok ok
theorem dk_rd{kvs:List (Key×V)}(ok:HOk P w H h)(e:Rd H a (.dK kvs)):kvs.length<=sizeLine/\(a == sysModules)=false/\∃ vs,KV kvs vs/\h.DictOf (Qbq P w) a vs:=
 show ObjOk P w H h a (.dK kvs) from rd_of ok e
theorem dk_of{kvs:List (Key×V)}(ok:HOk P w H h)(e:H a=some (.dK kvs)):kvs.length<=sizeLine/\(a == sysModules)=false/\∃ vs,KV kvs vs/\h.DictOf (Qbq P w) a vs:=dk_rd ok (.inl e)
theorem Qql{ks:List Key}(ok:HOk P w H h)(e:H a=some (.tup (ks.map kV))):(tupleKind (Qbq P w)).is h ks a:=by
 obtain⟨_,its,r,o,h1,h2,n,h3⟩:=(show ObjOk P w H h a (.tup (ks.map kV)) from ok a _ e)
 exact⟨o,its.toArray,n,h1,h2,h3,by simpa using QtE r⟩
theorem dt_rd{kvs:List (List Key×V)}(ok:HOk P w H h)(e:Rd H a (.dT kvs)):kvs.length<=sizeLine/\(a == sysModules)=false/\
 ∃ xs,KT H kvs xs/\h.DictOfH (tupleKind (Qbq P w)) a xs:=by
 obtain⟨z,y,xs,r,o,es,ep,h1,h2,h3,h4,h5⟩:=(show ObjOk P w H h a (.dT kvs) from rd_of ok e)
 refine⟨z,y,xs,r,o,es,ep,h1,h2,h3,h4,fun x hx=>?_,h5⟩
 have all:∀{l:List (List Key×V)}{m:List (List Key×Addr×Value)},KT H l m->∀ x∈m,(tupleKind (Qbq P w)).is h x.1 x.2.1:=by
  intro l m q
  induction q with
  | nil=>intro x hx;exact nomatch hx
  | @cons p q ps qs hq t ih=>
   intro x hx
   rcases List.mem_cons.mp hx with e | hx
   ·subst e
    exact Qql ok (by rw[← hq.1];exact hq.2.1)
   ·exact ih x hx
 exact all r x hx
theorem dt_of{kvs:List (List Key×V)}(ok:HOk P w H h)(e:H a=some (.dT kvs)):kvs.length<=sizeLine/\(a == sysModules)=false/\
 ∃ xs,KT H kvs xs/\h.DictOfH (tupleKind (Qbq P w)) a xs:=dt_rd ok (.inl e)
end
def DGet(H:Hp)(a:Addr)(y:V)(r:Option V):Prop:=
 (∃ kvs k,Rd H a (.dK kvs)/\y=kV k/\r=valV kvs k)∨∃ kvs k b,Rd H a (.dT kvs)/\y=.ref b/\H b=some (.tup (k.map kV))/\r=valV kvs k
def DPut(H:Hp)(a:Addr)(y v:V)(H':Hp):Prop:=
 (∃ kvs k,H a=some (.dK kvs)/\y=kV k/\kvs.length<sizeLine/\H'=upd H a (.dK (putK kvs k v)))∨
 ∃ kvs k b,H a=some (.dT kvs)/\y=.ref b/\H b=some (.tup (k.map kV))/\kvs.length<sizeLine/\H'=upd H a (.dT (putK kvs k v))
theorem DGet.k{H:Hp}{a:Addr}{kvs:List (Key×V)}{k:Key}(e:H a=some (.dK kvs)):DGet H a (kV k) (valV kvs k):=.inl ⟨kvs,k,.inl e,rfl,rfl⟩
theorem DGet.t{H:Hp}{a b:Addr}{kvs:List (List Key×V)}{k:List Key}(e:H a=some (.dT kvs))(eb:H b=some (.tup (k.map kV))):DGet H a (.ref b) (valV kvs k):=.inr ⟨kvs,k,b,.inl e,rfl,eb,rfl⟩
theorem DPut.k{H:Hp}{a:Addr}{kvs:List (Key×V)}{k:Key}{v:V}(e:H a=some (.dK kvs))(hl:kvs.length<sizeLine):DPut H a (kV k) v (upd H a (.dK (putK kvs k v))):=.inl ⟨kvs,k,e,rfl,hl,rfl⟩
theorem DPut.t{H:Hp}{a b:Addr}{kvs:List (List Key×V)}{k:List Key}{v:V}(e:H a=some (.dT kvs))(eb:H b=some (.tup (k.map kV)))(hl:kvs.length<sizeLine):
 DPut H a (.ref b) v (upd H a (.dT (putK kvs k v))):=.inr ⟨kvs,k,b,e,rfl,eb,hl,rfl⟩
section
variable{X:Cx}{pins:List (Addr×Obj)}{σ:St}{H:Hp}{s:Shared}{a:Addr}{y v:V}{u r:Value}{o:Option V}{A:Around}{E:Value->Shared->Prop}
theorem QI1{Q:‹"m"›}(hu:A.units+1<cLine)(I:‹"g"›)(g:DGet H a y (some v))(ry:RelV y u)(h:∀ w' s',Inv X pins σ H s'->RelV v w'->Q w' s'):
 wpAny ‹"i"› A (getItem (.ref a) u) Q E s:=by
 rcases g with⟨kvs,k,e,ey,l⟩ | ⟨kvs,k,b,e,ey,eb,l⟩
 ·subst ey
  obtain⟨z,hd,vs,rel,dd⟩:=dk_rd I.hok e
  obtain⟨w',hw,rw'⟩:=RelO.some_of (v:=v) (o:=valueAt vs k) (by rw[l];exact rel.val k)
  exact wpAny_getItem_of (kV_is ry) dd.mapOf hw (h w' _ (I.tok _) rw')
 ·subst ey
  cases (show u=Value.ref b from ry)
  obtain⟨z,hd,xs,rel,dd⟩:=dt_rd I.hok e
  obtain⟨w',hw,rw'⟩:=RelO.some_of (v:=v) (o:=(atKey xs k).map (·.2)) (by rw[l];exact rel.val k)
  obtain⟨p,hp,hp2⟩:=Option.map_eq_some_iff.mp hw
  refine wpAny_getItem_heap (tupleKind_room_in1 hu) (Qql I.hok eb) dd hp ?_
  rw[hp2]
  exact h w' _ (I.tok _) rw'
theorem QEI{h':Heap}{t':Nat}{ob:HO}(I:‹"g"›)(mu:Mut (H a))(hs:Heap.SameBut a s.heap h')(he:∃ q,h'.get? a=some q)(new:ObjOk X.prog X.w (upd H a ob) h' a ob):
 Inv X pins σ (upd H a ob) { s with heap:=h',toks:=t' }:=
 I.write (x:=a) (e:=a) mu (.inl rfl) (fun b q hb z=>(hs.2 b hb).trans z) he new
theorem QOE{P:Program}{w:World}{H':Hp}{h':Heap}{kvs:List (Key×V)}{vs:List (Key×Value)}(z:kvs.length<=sizeLine)(hd:(a == sysModules)=false)(rel:KV kvs vs)(dd:h'.DictOf (Qbq P w) a vs):
 ObjOk P w H' h' a (.dK kvs):=⟨z,hd,vs,rel,dd⟩
theorem QKf{H':Hp}{Q:Unit->Shared->Prop}(hu:A.units+1<cLine)(I:‹"g"›)(g:DPut H a y v H')(ry:RelV y u)(rv:RelV v r)(h:∀ s',Inv X pins σ H' s'->Q () s'):
 wpAny ‹"i"› A (setItem (.ref a) u r) Q E s:=by
 rcases g with⟨kvs,k,e,ey,l,eH⟩ | ⟨kvs,k,b,e,ey,eb,l,eH⟩
 ·subst ey eH
  obtain⟨z,hd,vs,rel,dd⟩:=dk_of I.hok e
  have hz:vs.length<=sizeLine:=by rw[← rel.length];exact z
  have hl:(putK kvs k v).length<=sizeLine:=by have:=QmG kvs k v;omega
  refine wpAny_setItem_pairs (hsz:=hz) (kV_is ry) dd fun h' dd' hs=>h _ ?_
  have he:∃ q,h'.get? a=some q:=let ⟨q,_,_,hq,_⟩:=dd';⟨q,hq⟩
  exact QEI I (by rw[e];exact True.intro) hs he (QOE hl hd (rel.put k rv) dd')
 ·subst ey eH
  cases (show u=Value.ref b from ry)
  obtain⟨z,hd,xs,rel,dd⟩:=dt_of I.hok e
  have hz:xs.length<=sizeLine:=by rw[← Paired.length rel];exact z
  have hl:(putK kvs k v).length<=sizeLine:=by have:=QmG kvs k v;omega
  refine wpAny_setItem_heap (hsz:=hz) (tupleKind_room_in1 hu) (Qql I.hok eb) dd fun h' dd' hs=>h _ ?_
  obtain⟨q,es,ep,hq,h2,h3,h4,_,h5⟩:=dd'
  refine QEI I (by rw[e];exact True.intro) hs ⟨q,hq⟩ ⟨hl,hd,_,(rel.put k eb rv).keeps fun c ys ec=>?_,q,es,ep,hq,h2,h3,h4,h5⟩
  rw[Qn (ne_of ec e (fun z=>nomatch z))]
  exact ec
end
section
variable{X:Cx}{pins:List (Addr×Obj)}{σ:St}{H:Hp}{s:Shared}{a:Addr}{kvs:List (Key×V)}{k:Key}{u:Value}{A:Around}{E:Value->Shared->Prop}
end
def NoSl(i:Expr):Prop:=∀ ov iv,subscripted i false ov iv=operate [ov,iv] (getItem ov iv)
theorem QOr{prog:Program}{w:World}{A:Around}{E:‹"m"›}{s:Shared}{env:Env}{value slice:Expr}{pos:Pos}{T id:String}{Q:‹"m"›}
 (hl:typeLookup (.type T) "__getitem__"=pure (some (.builtin id))) (hs:NoSl slice)
 (h:wpAny (model prog w) A (eval value env) (fun o s₁=>wpAny (model prog w) A (eval slice env) (fun i s₂ => s₂.TypeIs o T/\wpAny (model prog w) A (getItem o i) Q E s₂) E s₁) E s):
 wpAny (model prog w) A (eval (.Subscript value slice pos) env) Q E s:=by
 refine Subscript_ (wpAny_mono h (fun o s₁ h₁=>wpAny_mono h₁ (fun i s₂ h₂ => ?_) fun _ _ x=>x) fun _ _ x=>x)
 obtain⟨hT,h₂⟩:=h₂
 unfold subscriptTail
 refine wpAny_bind ?_
 rw[getitemInPython_of_ne hT.not_modules]
 refine wpAny_bind (wpAny_specialOf hT hl ?_)
 have fin:wpAny (model prog w) A (subscripted slice false o i) (fun r s₃ => wpAny (model prog w) A (letTemporaryGo value o r>>=fun _=>pure r) Q E s₃) E s₂ := by
  rw[hs o i]
  exact wpAny_operating (wpAny_mono h₂ (fun r s₃ h₃ => wpAny_bind (wpAny_letTemporaryGo (wpAny_pure h₃))) fun _ _ x=>x)
 first
  | exact wpAny_pure (wpAny_bind fin)
  | exact wpAny_bind (wpAny_pure (wpAny_bind fin))
  | exact wpAny_bind fin
theorem QBh{X:Cx}{pins:‹"v"›}{σ:St}{H:Hp}{s:Shared}{a:Addr}{y:V}{o:Option V}(I:‹"g"›)(g:DGet H a y o):s.TypeIs (.ref a) "dict":=by
 rcases g with⟨kvs,k,e,_,_⟩ | ⟨kvs,k,b,e,_,_,_⟩
 ·obtain⟨_,_,vs,_,dd⟩:=dk_rd I.hok e
  exact dd.typeIs
 ·obtain⟨_,_,xs,_,dd⟩:=dt_rd I.hok e
  exact dd.typeIs
def tDGet(td ty:TE):TE:=fun σ H Q=>td σ H fun x H1=>ty σ H1 fun y H2=>∃ a v,x=.ref a/\DGet H2 a y (some v)/\Q v H2
def sDPut(td ty tv:TE):TS:=fun D σ H=>tv σ H fun v H1=>td σ H1 fun x H2=>ty σ H2 fun y H3=>∃ a H4,x=.ref a/\DPut H3 a y v H4/\D.nx σ H4
section
variable{X:Cx}{o i e value:Expr}{pos pos' tpos:Pos}{td ty tv:TE}
theorem QN9(hu:X.A.units+1<cLine)(ho:PE X o td)(hi:PE X i ty)(hs:NoSl i):PE X (.Subscript o i pos) (tDGet td ty):=by
 intro pins s σ H Q I h
 refine QOr PySem.F.slot_dict_getitem.lookup hs (thn (ho pins s σ H _ I h) fun u s1 ⟨x,H1,I1,rx,q1⟩=>thn (hi pins s1 σ H1 _ I1 q1) fun iv s2 ⟨y,H2,I2,ry,a,v,ex,g,q2⟩=>?_)
 subst ex
 obtain rfl:u=Value.ref a:=rx
 exact⟨QBh I2 g,QI1 hu I2 g ry fun w' s3 I3 rw'=>⟨v,H2,I3,rw',q2⟩⟩
theorem QNt(hu:X.A.units+1<cLine)(ho:PE X o td)(hi:PE X i ty)(hv:PE X value tv)(hs:swapsWith value (some (.Subscript o i pos')) pos.line X.env=pure false):
 PS X (.Assign [.Subscript o i pos'] value pos) (sDPut td ty tv):=by
 intro pins s σ H D I h
 refine wpAny_Assign_Subscript (thn (hv pins s σ H _ I h) fun r s1 ⟨v,H1,I1,rv,q1⟩=>thn (ho pins s1 σ H1 _ I1 q1) fun u s2 ⟨x,H2,I2,rx,q2⟩=>thn (hi pins s2 σ H2 _ I2 q2) fun iv s3 ⟨y,H3,I3,ry,a,H4,ex,g,q3⟩=>?_) hs
 subst ex
 obtain rfl:u=Value.ref a:=rx
 exact QKf hu I3 g ry rv fun s4 I4=>⟨σ,H4,I4,q3⟩
end
section
variable{X:Cx}{pos:Pos}
end
structure M1(X:Cx)(o:Expr)(m:Str)(apos:Pos)(e:Expr)(cpos:Pos):Prop where
 base:attributeBase o m X.env (eval o X.env)=eval o X.env
 few:((backTo cpos (starEach [e] X.env)).all (fun x => !x.1)&&(backToKw cpos (keywordEach [] X.env)).all (fun x=>x.1.isSome)
  && decide (([e]:List Expr).length+([]:List Keyword).length+(if ([]:List Keyword).isEmpty then 0 else 1)<30))=true
 line:(apos.endLine == cpos.line)=true
 trees:backTo cpos (starEach [e] X.env)=[(false,eval e X.env)]
def IsD(H:Hp)(a:Addr):Prop:=(∃ kvs,Rd H a (.dK kvs))∨∃ kvs,Rd H a (.dT kvs)
theorem QO6{X:Cx}{pins:‹"v"›}{σ:St}{H:Hp}{s:Shared}{a:Addr}(I:‹"g"›)(d:IsD H a):
 s.TypeIs (.ref a) "dict"/\(∀ b,Value.ref a=.ref b->∃ ob,s.heap.get? b=some ob/\ob.dict=none)/\(a == sysModules)=false:=by
 rcases d with⟨kvs,e⟩ | ⟨kvs,e⟩
 ·obtain⟨_,hd,vs,_,dd⟩:=dk_rd I.hok e
  refine⟨dd.typeIs,fun b q=>?_,hd⟩
  cases q
  obtain⟨ob,_,_,h1,h2,_⟩:=dd
  exact⟨ob,h1,h2.2.1⟩
 ·obtain⟨_,hd,xs,_,dd⟩:=dt_rd I.hok e
  refine⟨dd.typeIs,fun b q=>?_,hd⟩
  cases q
  obtain⟨ob,_,_,h1,h2,_⟩:=dd
  exact⟨ob,h1,h2.2.1⟩
section
variable{X:Cx}{pins:List (Addr×Obj)}{σ:St}{H:Hp}{s:Shared}{a:Addr}{y d:V}{u r:Value}{o:Option V}{A:Around}{E:Value->Shared->Prop}
theorem QOO{Q:‹"m"›}(hu:A.units+1<cLine)(I:‹"g"›)(g:DGet H a y o)(ry:RelV y u)(h:∀ w' s',Inv X pins σ H s'->RelV (o.getD .non) w'->Q w' s'):
 wpAny ‹"i"› A (call (.builtin "dict.get") [.ref a,u]) Q E s:=by
 rcases g with⟨kvs,k,e,ey,l⟩ | ⟨kvs,k,b,e,ey,eb,l⟩
 ·subst ey
  obtain⟨z,hd,vs,rel,dd⟩:=dk_rd I.hok e
  refine call_meetsIn PySem.F.slot_dict_get dd.typeIs PySem.F.entry_dict_get (PySem.F.args_dict_get_2 _ _) (meets_dict_get (Qbq X.prog X.w) a (kV_is ry) hd) ⟨_,dd.mapOf,h _ _ (I.tok _) ?_⟩
  rw[l]
  exact(rel.val k).getD rfl
 ·subst ey
  cases (show u=Value.ref b from ry)
  obtain⟨z,hd,xs,rel,dd⟩:=dt_rd I.hok e
  refine call_meetsIn PySem.F.slot_dict_get dd.typeIs PySem.F.entry_dict_get (PySem.F.args_dict_get_2 _ _) (meetsH_dict_get (tupleKind (Qbq X.prog X.w)) a b hd) ⟨tupleKind_room_in1 hu,k,xs,Qql I.hok eb,dd,h _ _ (I.tok _) ?_⟩
  rw[l]
  exact(rel.val k).getD rfl
end
def QP2(td ty:TE):TE:=fun σ H Q=>td σ H fun x H1=>∃ a,x=.ref a/\IsD H1 a/\ty σ H1 fun y H2=>∃ o,DGet H2 a y o/\Q (o.getD .non) H2
section
variable{X:Cx}{o e f:Expr}{apos cpos:Pos}{td ty tx:TE}
theorem QK4(hu:X.A.units+1<cLine)(ho:PE X o td)(he:PE X e ty)(m:M1 X o "get" apos e cpos):PE X (.Call (.Attribute o "get" apos) [e] [] cpos) (QP2 td ty):=by
 intro pins s σ H Q I h
 refine wpAny_Call_method m.base m.few m.line PySem.F.plainAttrs_dict PySem.F.slot_dict_get PySem.F.type_dict_get (thn (ho pins s σ H _ I h) fun u s1 ⟨x,H1,I1,rx,a,ex,d,q1⟩=>?_)
 subst ex
 obtain rfl:u=Value.ref a:=rx
 obtain⟨t1,t2,_⟩:=QO6 I1 d
 refine⟨t1,t2,?_⟩
 rw[m.trees]
 refine Calls.callWith_builtin rfl (Calls.evalArgs_plain (Calls.spliced_cons (thn (he pins s1 σ H1 _ I1 q1) fun iv s2 ⟨y,H2,I2,ry,ov,g,q2⟩=>Calls.spliced_nil ?_)))
 exact QOO hu I2 g ry fun w' s3 I3 rw'=>⟨_,H2,I3,rw',q2⟩
end
section
variable{X:Cx}{pins:List (Addr×Obj)}{σ:St}{H:Hp}{s:Shared}{a:Addr}{kvs:List (Key×V)}{A:Around}{E:Value->Shared->Prop}
end
section
variable{X:Cx}{pins:List (Addr×Obj)}{σ:St}{H:Hp}{s:Shared}{a:Addr}{y:V}{u:Value}{A:Around}{E:Value->Shared->Prop}
end
end L2
namespace L2
open PySem PySem.Spec PyProof.Rows
structure FlyS(P:Program)(w:World)(l:List Env)(H:Hp)(s:Shared)(ea C t:Addr)(H':Hp)(B:Heap)(s':Shared):Prop where
 os:s'.os=s.os
 bare:AllBare s'.gens
 un:Un (frs l) [] H H' s.heap s'.heap
 kb:∀ b o,s.heap.get? b=some o->H b=none->b∉frs l->B.get? b=some o
 th:∀ b o,s.heap.get? b=some o->b∉frs l->∃ o',B.get? b=some o'
 hok:HOk P w H' B
 fly:Heap.FlyingW B l ea (.ref C) (.ref t) s'.heap
def CXR(P:Program)(w:World):CXT:=fun l H s E e s'=>∃ ea C t H' B,e=.ref ea/\FlyS P w l H s ea C t H' B s'/\E (.ref C) none H'
section
variable{P:Program}{w:World}{l:List Env}{H H':Hp}{s s':Shared}{ea C t:Addr}{B h':Heap}
end
section
variable{X:Cx}{pins:List (Addr×Obj)}{σ:St}{H1:Hp}{s1:Shared}{E:XK}{ea C:Addr}{vs:List Value}{h':Heap}{Ex:Value->Shared->Prop}{M:Model}
theorem QgR(I:Inv X pins σ H1 s1):∀ b o,X.s₀.heap.get? b=some o->b∉X.fs->b∉frs X.stack:=fun b o e hb z=>by
 rcases List.mem_cons.mp (I.stkSub b z) with q | q
 ·have:=Heap.lt_size e
  rw[q]at this
  exact absurd (Nat.lt_of_lt_of_le this I.ok.above) (Nat.lt_irrefl _)
 ·exact hb q
theorem QM4(I:Inv X pins σ H1 s1):HOk X.prog X.w H1 (W.hideAll s1.heap (frs X.stack)):=fun a o e=>
 (I.hok a o e).stay (fun b u hb q=>W.hideAll_get _ q fun z=>by
  have:=I.stkFree b z
  rcases hb with rfl | hb
  ·rw[this]at e;cases e
  ·rw[this]at hb;cases hb) (fun _ q=>q) fun _ _ q=>q
theorem QEA(I:Inv X pins σ H1 s1):∀ b∈X.fs,∀ o,X.s₀.heap.get? b=some o->∀ vs,o.data≠.fields vs:=fun b hb o e=>by
 obtain⟨_,o',h1,h2⟩:=I.ok.funs.mem hb
 rw[e]at h1;cases h1
 exact h2
theorem QFs(I:Inv X pins σ H1 s1)(hst:X.stack=X.env::X.outer)(hfr:X.env.frame=some X.env.locals)(hex:X.ex=[])(hx:Heap.MadeExcOf s1.heap h' ea (.ref C) vs)(hE:E (.ref C) none H1):
 wpAny M X.A (leaving X.env (.ref ea)) (fun _ s''=>CXR X.prog X.w X.outer X.H₀ X.s₀ E (.ref ea) s'') Ex { s1 with heap:=h' }:=by
 have hin:∀ env∈X.stack,∀ b,env.frame=some b->b∈frs X.stack:=fun env he b hb=>List.mem_filterMap.mpr ⟨env,he,hb⟩
 have st:=I.stack
 refine wpAny_leaves_madeW (base:=W.hideAll s1.heap (frs X.stack)) (h:=s1.heap) (env:=X.env) (outer:=X.outer) (by rw[← hst];exact I.ok.frames) hfr (fun b o q=>W.of_hideAll _ q)
  (by rw[← hst];exact W.funFrames_hide st hin) hx fun h2 t fl tp nt up=>?_
 have nx:∀ b:Addr,b∉X.ex:=fun b z=>by rw[hex]at z;cases z
 have kbB:∀ b o,X.s₀.heap.get? b=some o->X.H₀ b=none->b∉X.fs->(W.hideAll s1.heap (frs X.stack)).get? b=some o:=fun b o e n hb=>W.hideAll_get _ (I.base.keep b o e n hb (nx b)) (QgR I b o e hb)
 have thB:∀ b o,X.s₀.heap.get? b=some o->b∉X.fs->∃ o',(W.hideAll s1.heap (frs X.stack)).get? b=some o':=fun b o e hb=>by
  obtain⟨o',q⟩:=I.base.there b o e (nx b)
  exact⟨o',W.hideAll_get _ q (QgR I b o e hb)⟩
 have slot:∀ b o,X.s₀.heap.get? b=some o->X.H₀ b=none->b∈X.fs->∃ sl,h2.get? b=some { o with slots:=sl }:=fun b o e n hb=>by
  obtain⟨sl,q⟩:=I.base.slot b o e n hb (nx b)
  obtain⟨sl2,q2⟩:=up b _ (hx.keeps _ _ q) (QEA I b hb o e)
  exact⟨sl2,q2⟩
 refine⟨ea,C,t,H1,_,rfl,⟨I.os,I.bare,⟨fun b o e n hb _=>fl.1 b o (kbB b o e n hb),fun b o e n hb _=>slot b o e n hb,fun b o e n _=>I.base.free b o e n (nx b),fun b o e _=>?_,I.base.tups,I.base.frzs,I.base.tbls⟩,kbB,thB,QM4 I,fl⟩,hE⟩
 by_cases hb:b∈X.fs
 ·obtain⟨sl,q⟩:=slot b o e (I.ok.frf b hb) hb
  exact⟨_,q⟩
 ·obtain⟨o',q⟩:=thB b o e hb
  exact⟨o',fl.1 b o' q⟩
theorem QKP{s':Shared}{e:Value}(I:Inv X pins σ H1 s1)(hst:X.stack=X.env::X.outer)(hfr:X.env.frame=some X.env.locals)(hex:X.ex=[])(h:CXR X.prog X.w X.stack H1 s1 E e s'):
 wpAny M X.A (leaving X.env e) (fun _ s''=>CXR X.prog X.w X.outer X.H₀ X.s₀ E e s'') Ex s':=by
 obtain⟨ea,C,t,H',B,rfl,F,hE⟩:=h
 have fl:=F.fly
 rw[hst]at fl
 refine wpAny_leaves_onW (by rw[← hst];exact I.ok.frames) hfr fl fun h2 fl2 up=>?_
 have nx:∀ b:Addr,b∉X.ex:=fun b z=>by rw[hex]at z;cases z
 have nn:∀ b:Addr,b∉([]:List Addr):=fun b z=>by cases z
 have kbB:∀ b o,X.s₀.heap.get? b=some o->X.H₀ b=none->b∉X.fs->B.get? b=some o:=fun b o e n hb=>
  F.kb b o (I.base.keep b o e n hb (nx b)) (I.base.free b o e n (nx b)) (QgR I b o e hb)
 have thB:∀ b o,X.s₀.heap.get? b=some o->b∉X.fs->∃ o',B.get? b=some o':=fun b o e hb=>by
  obtain⟨o',q⟩:=I.base.there b o e (nx b)
  exact F.th b o' q (QgR I b o e hb)
 have slot:∀ b o,X.s₀.heap.get? b=some o->X.H₀ b=none->b∈X.fs->∃ sl,h2.get? b=some { o with slots:=sl }:=fun b o e n hb=>by
  obtain⟨sl,q⟩:=I.base.slot b o e n hb (nx b)
  have hs:b∈frs X.stack:=by
   rw[hst]
   obtain⟨env,h1,h2⟩:=List.mem_filterMap.mp hb
   exact List.mem_filterMap.mpr ⟨env,List.mem_cons_of_mem _ h1,h2⟩
  obtain⟨sl1,q1⟩:=F.un.slot b _ q (I.base.free b o e n (nx b)) hs (nn b)
  obtain⟨sl2,q2⟩:=up b _ q1 (QEA I b hb o e)
  exact⟨sl2,q2⟩
 refine⟨ea,C,t,H',B,rfl,⟨F.os.trans I.os,F.bare,⟨fun b o e n hb _=>fl2.1 b o (kbB b o e n hb),fun b o e n hb _=>slot b o e n hb,fun b o e n _=>?_,fun b o e _=>?_,fun b xs e=>F.un.tups b xs (I.base.tups b xs e),fun b o u e=>F.un.frzs b o u (I.base.frzs b o u e),fun b ps e=>?_⟩,kbB,thB,F.hok,fl2⟩,hE⟩
 ·obtain⟨o',q⟩:∃ o',s1.heap.get? b=some o':=I.base.there b o e (nx b)
  exact F.un.free b o' q (I.base.free b o e n (nx b)) (nn b)
 ·by_cases hb:b∈X.fs
  ·obtain⟨sl,q⟩:=slot b o e (I.ok.frf b hb) hb
   exact⟨_,q⟩
  ·obtain⟨o',q⟩:=thB b o e hb
   exact⟨o',fl2.1 b o' q⟩
 ·obtain⟨m1,q1⟩:=I.base.tbls b ps e
  obtain⟨m2,q2⟩:=F.un.tbls b _ q1
  exact⟨m1++m2,by rw[q2,Array.append_assoc]⟩
end
section
variable{P:Program}{w:World}{K:W.Frag}{mg:Str->Option Value}{base:Heap}{N:List Str}{qual:Str}{scope:Scope}{f:Addr}{cd:Value}{A:Around}{outer:List Env}{s:Shared}{H:Hp}{E:XK}
theorem passR:Qfp (CXR P w) (cxOf (CXR P w) P w K mg base N qual scope f cd A outer s H E) E:=fun pins σ H1 s1 e s' I h=>QKP I rfl rfl rfl h
end
end L2
namespace L2
open PySem PySem.Spec PyProof.Rows
section
variable{X:Cx}{C:Addr}{E:XK}{x:Str}{e₀:Expr}{rest:List Expr}{ta:TA}{np cpos pos:Pos}
end
end L2
namespace L2
open PySem PySem.Spec PyProof.Rows
def exO(ea C:Addr):HO:=.ext fun h=>∃ o vs,h.get? ea=some o/\o.cls=.ref C/\o.data=.fields vs
section
variable{X:Cx}{pins:List (Addr×Obj)}{σ:St}{H H':Hp}{s s':Shared}{ea C t:Addr}{B:Heap}
end
section
variable{X:Cx}{pins:List (Addr×Obj)}{σ:St}{H H':Hp}{s s':Shared}{ea C DD t:Addr}{B:Heap}{x n:Str}{np hpos:Pos}{b₀:Stmt}{suite:List Stmt}{rest:List ExceptHandler}{D:Ends}{Ex:Value->Shared->Prop}{i:Nat}{ts:TS}
end
end L2
namespace L2
open PySem PySem.Spec PyProof.Rows
abbrev TXS:=Ends->St->Hp->(St->XK)->Prop
section
variable{X:Cx}{k:Nat}{f:Addr}{fd:FuncData}{ps:List Str}{sp:Sp}{dvs:List V}{ds:List Value}{x:Str}{p pos:Pos}{e:Expr}{es:List Expr}{ta:TA}
theorem PA.nox{es:List Expr}{t:TA}(h:PA X.nox es t){pos:Pos}{pins:‹"v"›}{s:Shared}{σ:St}{H:Hp}{Q:List V->Hp->Prop}{E:‹"m"›}(I:‹"g"›)(q:t σ H Q):
 wpAny ‹"i"› X.A (spliced (backTo pos (starEach es X.env))) (AP X pins σ Q) E s:=
 wpAny_mono (h pos pins s σ H Q (I.wish _) q) (fun _ _ ⟨v,H',I',r,q⟩=>⟨v,H',I'.unwish,r,q⟩) fun _ _ z=>False.elim z
variable{t u:TXS}{te:TX}{st:Stmt}{rest:List Stmt}{i:Nat}{px:Pos}
end
end L2
namespace L2
open PySem PySem.Spec PyProof.Rows
def ExAt(x D:Addr)(h:Heap):Prop:=∃ o vs,h.get? x=some o/\o.cls=.ref D/\o.data=.fields vs
section
open PySem.W PySem.Calls Builtin Builtin.ObjectAttr Builtin.Getset_descriptor
variable{K:W.Frag}{x D:Addr}
theorem Qji{M:Model}{h:Heap}(I:ExAt x D h):Looks M h (typeOf (.ref x)) (.ref D):=by
 obtain⟨o,vs,h1,h2,_⟩:=I
 exact h2 ▸ (Looks.ld h1).andThen .now
theorem Qqg{M:Model}{h:Heap}(X:K.In h){name:Str}{a g:Value}(ha:findIn K (.ref D) name=some (some a))(hg:specialIn K a "__get__"=some (some g))(ht:takesIn K a=some true):
 Looks M h (find (.ref x) (.ref D) name) (.bind g a):=by
 have L1:=looks_findIn (M:=M) X ha
 have L2:Looks M h (getOf (some a)) (some g):=looks_specialIn X hg
 have L3:=looks_takesIn (M:=M) X ht
 exact L1.andThen (L2.andThen ((show Looks M h (dataDescriptor? (some a) (some g)) (some (g,a)) from L3.andThen .now).andThen (Looks.tag .now)))
variable{prog:Program}{w:World}{A:Around}{E:Value->Shared->Prop}{s:Shared}{name:Str}
theorem QKO{M:Model}{nameV:Value}{Q:Unit->Shared->Prop}(X:K.In s.heap)(I:ExAt x D s.heap)(hb:mroIn K D (.type "BaseException")=some true)(hq:Q () s):wpAny M A (checkBuiltinCall "BaseException.__getattribute__" ⟨[.ref x,nameV],[]⟩) Q E s:=by
 obtain⟨hh,g,dr,t,os⟩:=s
 have hk:builtinKind "BaseException.__getattribute__"=some .slot:=dk
 have hsplit:splitId "BaseException.__getattribute__"=some ("BaseException","__getattribute__"):=dk
 have L0:=Qji (M:=M) I
 have L1:=looks_mroIn (M:=M) X hb
 have ha:=F.args_bexc_ga (.ref x) nameV
 simp only[checkBuiltinCall,hk,hsplit]
 refine wpAny_bind ?_
 unfold isInstance
 repeat (first | lk | wp_step)
 exact hq
theorem QOY{R:Result->Shared->Prop}{tp:Value}(X:K.In s.heap)(I:ExAt x D s.heap)(hm:mroIn K D (.type "object")=some true)
 (h:R (.ok (.ret (.ref D))) s):codeAny (model prog w) A (.call (.builtin "getset_descriptor.__get__") ⟨[.builtin "object.__class__",.ref x,tp],[]⟩) R s:=by
 obtain⟨hh,g,dr,t,os⟩:=s
 have L0:=Qji (M:=model prog w) I
 have L1:=looks_mroIn (M:=model prog w) X hm
 refine codeAny_call_builtin KF.slot_gs.plain KF.entry_gs (KF.slot_gs.check _ _ _ _ _ _ _ _ KF.type_class (KF.args_gs _ _ _) ?_)
 unfold Builtin.«getset_descriptor.__get__» descrGet
 rw[dga_obj]
 refine wpAny_bind (wpAny_pure ?_)
 unfold descrGetter descrCheckInstance descrNameAndClass isInstance
 simp only[KF.owner_class]
 repeat lk
 refine⟨Code.quiet_builtin _ (dk),codeAny_builtin KF.entry_class ?_⟩
 unfold Builtin.«object.__class__» shownTypeOf
 repeat lk
 exact h
theorem QMd{g a:Value}{tk:Tok}{Q:Fin->Shared->Prop}(X:K.In s.heap)(I:ExAt x D s.heap)(ha:findIn K (.ref D) "__class__"=some (some ‹"o"›))
 (hn:specialIn K ‹"o"› "__get__"=some (some (.builtin "getset_descriptor.__get__"))) (ht:takesIn K ‹"o"›=some true) (hm:mroIn K D (.type "object")=some true)
 (hq:Q (.done (.ret (.ref D))) s):wpAny (model prog w) A (Builtin.«object.__getattribute__» ⟨[.ref x,.str "__class__" tk],[]⟩) Q E s:=by
 have L3:=Qqg (x:=x) (M:=model prog w) X ha hn ht
 have L0:=Qji (M:=model prog w) I
 obtain⟨hh,gg,d,t,os⟩:=s
 refine wpAny_bind (wpAny_pure ?_)
 refine wpAny_bind (wpAny_pure (wpAny_bind (L0.at (wpAny_bind (L3.at ?_)))))
 show wpAny _ _ (holding [_] (call (.builtin "getset_descriptor.__get__") [.builtin "object.__class__",.ref x,.ref D])>>=ret) _ _ _
 exact wpAny_bind (wpAny_holding (wpAny_call (QOY (s:=⟨hh,gg,d,t,os⟩) X I hm (wpAny_pure hq))))
theorem QM1{Q:Option Value->Shared->Prop}(X:K.In s.heap)(I:ExAt x D s.heap)(g1:findIn K (.ref D) "__getattribute__"=some (some (.builtin "BaseException.__getattribute__")))(hb:mroIn K D (.type "BaseException")=some true)
 (g2:findIn K (.ref D) "__getattr__"=some none) (ha:findIn K (.ref D) "__class__"=some (some ‹"o"›))
 (hn:specialIn K ‹"o"› "__get__"=some (some (.builtin "getset_descriptor.__get__"))) (ht:takesIn K ‹"o"›=some true) (hm:mroIn K D (.type "object")=some true)
 (h:Q (some (.ref D)) { s with toks:=s.toks+1 }):wpAny (model prog w) A (getAttr? (.ref x) "__class__") Q E s:=by
 obtain⟨hh,g,d,t,os⟩:=s
 have L0:=Qji (M:=model prog w) I
 have L1:=looks_findIn (M:=model prog w) X g1
 have L2:=looks_findIn (M:=model prog w) X g2
 have f3:=PySem.F.attr_ValueError.ga.bind (.ref x)
 have hx2:(Value.builtin "BaseException.__getattribute__" == Value.builtin "object.__getattribute__")=false:=dk
 have hx1:(onTheHeap (Value.ref D)&&Value.builtin "BaseException.__getattribute__" == Value.builtin "object.__getattribute__")=false:=by rw[hx2];rfl
 unfold getAttr? getAttrBy? getAttrBy
 refine wpAny_bind (wpAny_mkText (wpAny_bind (wpAny_attempt (wpAny_holding (wpAny_bind (L0.at (wpAny_bind (L1.at ?_))))))))
 show wpAny _ _ (if (onTheHeap (Value.ref D)&&Value.builtin "BaseException.__getattribute__" == Value.builtin "object.__getattribute__")=true then _ else getAttrByItsOwn _ _ _ _ _ _) _ _ _
 rw[hx1,if_neg (by decide)]
 unfold getAttrByItsOwn
 refine wpAny_bind ?_
 show wpAny _ _ (typeLookup (.ref D) "__getattr__") _ _ _
 refine L2.at ?_
 refine wpAny_bind (wpAny_attempt ?_)
 refine wpAny_holding ?_
 show wpAny _ _ (boundAndCalled (.builtin "BaseException.__getattribute__") (.ref x) _) _ _ _
 unfold boundAndCalled
 refine wpAny_bind (wpAny_of_eq f3 ?_)
 refine wpAny_call (codeAny_call_builtin PySem.F.attr_ValueError.ga.plain F.entry_bexc_ga (QKO (s:=⟨hh,g,d,t+1,os⟩) X I hb (QMd (g:=.none) (a:=.none) (s:=⟨hh,g,d,t+1,os⟩) X I ha hn ht hm ?_)))
 show wpAny _ _ (handedOut (.ref D)) _ _ _
 exact handed_on rfl (wpAny_pure h)
structure ExCls(K:W.Frag)(D:Addr):Prop where
 cl:(clsIn K D).isSome=true
 g1:findIn K (.ref D) "__getattribute__"=some (some (.builtin "BaseException.__getattribute__"))
 hb:mroIn K D (.type "BaseException")=some true
 g2:findIn K (.ref D) "__getattr__"=some none
 ha:findIn K (.ref D) "__class__"=some (some ‹"o"›)
 hn:specialIn K ‹"o"› "__get__"=some (some (.builtin "getset_descriptor.__get__"))
 htk:takesIn K ‹"o"›=some true
 hm:mroIn K D (.type "object")=some true
theorem QKU(e:ExCls K D):KitX K (.ref x) (.ref D) (ExAt x D) where
 ty:=fun _ _ _ I=>Qji I
 it:=fun _ _ X _=>by
  obtain⟨cdD,hcD⟩:=Option.isSome_iff_exists.mp e.cl
  unfold clsIn at hcD
  split at hcD
  ·rename_i c' d' cd' sl' ho
   intro A' Q' E' s' k q
   unfold isType loadHead
   exact wpAny_bind (wpAny_loadPart (k _ _ (X _ _ ho)) (wpAny_pure q))
  ·cases hcD
 ne:=fun h tp dd its n sl X htp=>by
  obtain⟨cdD,hcD⟩:=Option.isSome_iff_exists.mp e.cl
  refine Bool.eq_false_iff.mpr fun q=>?_
  have e:D=tp:=Value.ref.inj (beq_iff_eq.mp q)
  subst e
  unfold clsIn at hcD
  split at hcD
  ·rename_i c' d' cd' sl' ho
   have z:=(X _ _ ho).symm.trans htp
   cases z
  ·cases hcD
 ca:=fun X I k=>QM1 X I e.g1 e.hb e.g2 e.ha e.hn e.htk e.hm k
end
end L2
set_option maxHeartbeats 1000000
namespace L2
open PySem PySem.Spec PyProof.Rows
section
variable{prog:Program}{w:World}{A:Around}{R:Result->Shared->Prop}{s:Shared}
theorem QxQ{elt target iter:Expr}{ifs:List Expr}{scope:Scope}{pos:Pos}{it acc:Value}{env:Env}(I:Nat->Shared->Prop)(NB:‹"m"›)(hNB:∀ e s',NB e s'->notedBy (model prog w) A env (fun e s'=>R (.error e) s') e s')
 (turn:∀ n s,I n s->wpAny (model prog w) A (pyNext it) (fun r s₁=>match r with
  | none=>R (.ok .next) s₁
  | some v=>wpAny (model prog w) A (letOwnedTupleGo target it v) (fun _ s₁'=>wpAny (model prog w) A (assign target env v) (fun _ s₂ =>
   wpAny (model prog w) A (forIn ifs true fun c r=>if r=true then do let ok ← isTrue c env (eval c env);pure (ForInStep.yield ok) else pure (ForInStep.yield r)) (fun ok s₃ =>
    if ok=true then wpAny (model prog w) A (eval elt env) (fun x s₄ =>
     wpAny (model prog w) A (call (.builtin "list.append") [acc,x]) (fun _ s₅ => ∃ m,m<n/\I m s₅) NB s₄) NB s₃
    else ∃ m,m<n/\I m s₃) NB s₂) NB s₁') NB s₁) NB s)
 (n:Nat) (h:I n s):
 codeAny (model prog w) A (.compLoop (.ListComp elt [⟨target,iter,ifs,0⟩] scope pos) 0 it acc env) R s:=by
 refine codeAny_loop rfl I (fun n s hI=>?_) n h
 show wpAny _ A ((compTurn (.ListComp elt [⟨target,iter,ifs,0⟩] scope pos) 0 it acc env).onRaise (fun x=>do noteFrame x env;theTreesLotGoes x)) _ _ s
 refine wpAny_noted ?_
 rw[compTurn_list]
 refine wpAny_bind (wpAny_standAt (wpAny_bind (wpAny_mono (turn n s hI) (fun r s₁ h₁=>?_) hNB)))
 cases r with
 | none=>exact wpAny_pure h₁
 | some v=>
  refine wpAny_bind (wpAny_mono h₁ (fun _ s₁' h₁'=>?_) hNB)
  refine wpAny_bind (wpAny_mono h₁' (fun _ s₂ h₂ => wpAny_bind (wpAny_mono h₂ (fun ok s₃ h₃ => ?_) hNB)) hNB)
  cases ok with
  | false=>exact wpAny_pure ⟨rfl,h₃⟩
  | true=>
   exact wpAny_bind (wpAny_bind (wpAny_mono h₃ (fun x s₄ h₄ => wpAny_bind (wpAny_mono h₄ (fun _ s₅ h₅ => wpAny_pure (wpAny_pure ⟨rfl,h₅⟩)) hNB)) hNB))
end
def Qe2(scope outer:Scope):Scope:=
 { scope with names:=scope.names.map fun(n,k)=>if (k == .free&&outer.kind == .function&&outer.names.lookup n == some .cell) then(n,.cell) else(n,k) }
theorem QiB(c:Str->NameKind->Bool)(x:Str):∀ names:List (Str×NameKind),(names.map fun(n,k)=>if c n k=true then(n,NameKind.cell) else(n,k)).lookup x=(names.lookup x).map fun k=>if c x k=true then NameKind.cell else k
 | []=>rfl
 | (n,k)::r=>by
  have ih:=QiB c x r
  show List.lookup x ((if c n k=true then(n,NameKind.cell) else(n,k))::_)=_
  by_cases hx:x=n
  ·subst hx
   by_cases hc:c x k=true
   ·rw[if_pos hc,List.lookup_cons_self,List.lookup_cons_self];simp[hc]
   ·rw[if_neg hc,List.lookup_cons_self,List.lookup_cons_self];simp[hc]
  ·have hb:(x == n)=false:=by simpa using hx
   by_cases hc:c n k=true
   ·rw[if_pos hc,List.lookup_cons,List.lookup_cons,hb];exact ih
   ·rw[if_neg hc,List.lookup_cons,List.lookup_cons,hb];exact ih
theorem Qic(scope outer:Scope)(x:Str):(Qe2 scope outer).names.lookup x=(scope.names.lookup x).map fun k=>if (k == .free&&outer.kind == .function&&outer.names.lookup x == some .cell)=true then NameKind.cell else k:=
 QiB (fun n k=>k == .free&&outer.kind == .function&&outer.names.lookup n == some .cell) x scope.names
theorem QuE{scope outer:Scope}{x:Str}(h:scope.names.lookup x=some .free):(Qe2 scope outer).names.lookup x=some .cell∨(Qe2 scope outer).names.lookup x=some .free:=by
 rw[Qic,h]
 show some (if _ then _ else _)=_∨some (if _ then _ else _)=_
 split
 ·exact .inl rfl
 ·exact .inr rfl
theorem Qv7{scope outer:Scope}{x:Str}(h:(Qe2 scope outer).names.lookup x=some .cell∨(Qe2 scope outer).names.lookup x=some .free):scope.names.lookup x=some .cell∨scope.names.lookup x=some .free:=by
 rw[Qic]at h
 cases e:scope.names.lookup x with
 | none=>rw[e]at h;rcases h with h | h<;>cases h
 | some k=>
  rw[e]at h
  cases k with
  | free=>exact .inr rfl
  | cell=>exact .inl rfl
  | _=>rcases h with h | h<;>cases h
def QaZ(env:Env):List (Str×NameKind)->List (Str×Addr)->List (Str×Addr)
 | [],acc=>acc
 | (n,k)::r,acc=>if (k == .free)=true then QaZ env r ((n,(env.cells.lookup n).getD 0)::acc) else QaZ env r acc
theorem Qow{scope:Scope}{env:Env}(h:∀ y∈scope.names,y.2=.free->(env.cells.lookup y.1).isSome=true):closureFor scope env=pure (QaZ env scope.names []):=by
 have go:∀(names:List (Str×NameKind))(acc:List (Str×Addr)),(∀ y∈names,y.2=.free->(env.cells.lookup y.1).isSome=true)->
  (forIn names acc fun x r=>if (x.2 == NameKind.free)=true then(cellOf env x.1>>=fun a=>pure (ForInStep.yield ((x.1,a)::r))) else pure (ForInStep.yield r):Sem (List (Str×Addr)))=pure (QaZ env names acc):=by
  intro names
  induction names with
  | nil=>intro acc _;rfl
  | cons y r ih=>
   intro acc hy
   obtain⟨n,k⟩:=y
   rw[List.forIn_cons]
   unfold QaZ
   by_cases hk:(k == NameKind.free)=true
   ·obtain⟨c,hc⟩:=Option.isSome_iff_exists.mp (hy (n,k) List.mem_cons_self (beq_iff_eq.mp hk))
    have e:cellOf env n=pure c:=by unfold cellOf;rw[show env.cells.lookup n=some c from hc]
    simp only[hk,if_true,e]
    rw[show(env.cells.lookup n).getD 0=c from by rw[show env.cells.lookup n=some c from hc];rfl]
    exact ih _ fun y hm=>hy y (List.mem_cons_of_mem _ hm)
   ·simp only[hk]
    exact ih _ fun y hm=>hy y (List.mem_cons_of_mem _ hm)
 have e:=go scope.names [] h
 unfold closureFor
 exact congrArg (fun m=>m>>=fun s=>(pure s:Sem (List (Str×Addr)))) e
theorem QgS{env:Env}{p:Str×Addr}:∀{names:List (Str×NameKind)}{acc:List (Str×Addr)},p∈QaZ env names acc->p∈acc∨p.2=(env.cells.lookup p.1).getD 0/\∃ y∈names,y.1=p.1/\y.2=.free
 | [],_,h=>.inl h
 | (n,k)::r,acc,h=>by
  unfold QaZ at h
  split at h
  ·rename_i hk
   rcases QgS h with h | ⟨h,y,hy,e⟩
   ·rcases List.mem_cons.mp h with h | h
    ·subst h;exact .inr ⟨rfl,(n,k),List.mem_cons_self,rfl,beq_iff_eq.mp hk⟩
    ·exact .inl h
   ·exact .inr ⟨h,y,List.mem_cons_of_mem _ hy,e⟩
  ·rcases QgS h with h | ⟨h,y,hy,e⟩
   ·exact .inl h
   ·exact .inr ⟨h,y,List.mem_cons_of_mem _ hy,e⟩
theorem QgN{env:Env}{x:Str}:∀{names:List (Str×NameKind)}{acc:List (Str×Addr)},(acc.lookup x).isSome=true∨(∃ y∈names,y.1=x/\y.2=.free)->((QaZ env names acc).lookup x).isSome=true
 | [],_,h=>h.elim id fun⟨_,hy,_⟩=>nomatch hy
 | (n,k)::r,acc,h=>by
  unfold QaZ
  split
  ·rename_i hk
   refine QgN ?_
   rcases h with h | ⟨y,hy,e1,e2⟩
   ·refine .inl ?_
    rw[List.lookup_cons]
    split
    ·rfl
    ·exact h
   ·rcases List.mem_cons.mp hy with rfl | hy
    ·refine .inl ?_
     have e1:n=x:=e1
     subst e1
     rw[List.lookup_cons_self];rfl
    ·exact .inr ⟨y,hy,e1,e2⟩
  ·rename_i hk
   refine QgN ?_
   rcases h with h | ⟨y,hy,e1,e2⟩
   ·exact .inl h
   ·rcases List.mem_cons.mp hy with rfl | hy
    ·have e2:k=.free:=e2
     subst e2
     exact absurd rfl hk
    ·exact .inr ⟨y,hy,e1,e2⟩
theorem QbT{α:Type}{l:List (Str×α)}{x:Str}{c:α}(h:l.lookup x=some c):(x,c)∈l:=PySem.mem_of_lookup h
theorem Qqi{p:Str×Addr}:∀{names:List (Str×NameKind)}{n:Nat}{acc:List (Str×Addr)},p∈cellsFrom n names acc->p∈acc∨n<=p.2
 | [],_,_,h=>.inl h
 | (y,k)::r,n,acc,h=>by
  unfold cellsFrom at h
  split at h
  ·rcases Qqi h with h | h
   ·rcases List.mem_cons.mp h with h | h
    ·subst h;exact .inr (Nat.le_refl _)
    ·exact .inl h
   ·exact .inr (Nat.le_of_succ_le h)
  ·exact Qqi h
theorem QyO:∀{names:List (Str×NameKind)}{n:Nat}{acc:List (Str×Addr)},(∀ p∈acc,p.2<n)->(∀ p∈acc,∀ q∈acc,p.2=q.2->p.1=q.1)->∀ p∈cellsFrom n names acc,∀ q∈cellsFrom n names acc,p.2=q.2->p.1=q.1
 | [],_,_,_,h=>h
 | (y,k)::r,n,acc,hl,hi=>by
  unfold cellsFrom
  split
  ·refine QyO (fun p hp=>?_) fun p hp q hq e=>?_
   ·rcases List.mem_cons.mp hp with rfl | hp
    ·exact Nat.lt_succ_self _
    ·exact Nat.lt_succ_of_lt (hl p hp)
   ·rcases List.mem_cons.mp hp with rfl | hp<;>rcases List.mem_cons.mp hq with rfl | hq
    ·rfl
    ·exact absurd e (Nat.ne_of_gt (hl q hq))
    ·exact absurd e (Nat.ne_of_lt (hl p hp))
    ·exact hi p hp q hq e
  ·exact QyO hl hi
theorem Qsd:∀{names:List (Str×NameKind)}{h:Heap}{acc:List (Str×Addr)},(∀ p∈acc,∃ v,h.IsCell p.2 v)->∀ p∈cellsFrom h.objs.size names acc,∃ v,(pushCells h names).IsCell p.2 v
 | [],_,_,h=>h
 | (y,k)::r,h,acc,hc=>by
  unfold cellsFrom pushCells
  split
  ·have:=Qsd (names:=r) (h:=h.push { cls:=.type "cell",data:=.cell none }) (acc:=(y,h.objs.size)::acc) fun p hp=>by
    rcases List.mem_cons.mp hp with rfl | hp
    ·exact⟨none,_,Heap.get?_push_size _ rfl,rfl⟩
    ·obtain⟨v,q⟩:=hc p hp
     exact⟨v,q.keeps fun b o e=>Heap.get?_push_of_some _ e⟩
   rwa [Heap.size_push]at this
  ·exact Qsd hc
theorem QsG{x:Str}:∀{names:List (Str×NameKind)}{n:Nat}{acc:List (Str×Addr)},(∀ y∈names,y.1=x->y.2=.free)->(cellsFrom n names acc).lookup x=acc.lookup x
 | [],_,_,_=>rfl
 | (y,k)::r,n,acc,h=>by
  unfold cellsFrom
  split
  ·rename_i hk
   rw[QsG fun z hz=>h z (List.mem_cons_of_mem _ hz),List.lookup_cons]
   split
   ·rename_i hb
    have hx:x=y:=beq_iff_eq.mp hb
    have:=h (y,k) List.mem_cons_self hx.symm
    have this:k=.free:=this
    subst this
    exact absurd hk (by decide)
   ·rfl
  ·exact QsG fun z hz=>h z (List.mem_cons_of_mem _ hz)
def Qy6(scope:Scope)(cl:List (Str×Addr))(L:Addr)(env:Env):Env:=
 { scope:=Qe2 scope env.scope,locals:=L,globals:=env.globals,cells:=cellsFrom (L+1) scope.names cl,qual:=env.qual,func:=none,code:=env.code,frame:=env.frame,builtins:=env.builtins }
theorem QML{M:Model}{A:Around}{E:‹"m"›}{s:Shared}{scope:Scope}{cl:List (Str×Addr)}{env:Env}{Q:Env->Shared->Prop}
 (h:∀ c,{ c with scope:=relabel scope env }=Qy6 scope cl s.heap.objs.size env->c.locals=s.heap.objs.size->Q c { s with heap:=pushCells (s.heap.push { cls:=.type "dict",data:=.dict #[] }) scope.names }):
 wpAny M A (newFunctionEnv scope env.globals cl [] env.qual none .none (some env)) Q E s:=by
 simp only[newFunctionEnv,Option.isSome_some,if_true]
 refine wpAny_bind (wpAny_alloc ?_)
 refine wpAny_bind (wpAny_layCells _ (fun name kind cells=>by cases hkc:kind == NameKind.cell<;>simp[hkc]) _ _ _ _ ?_)
 rw[show({ s with heap:=s.heap.push { cls:=.type "dict",data:=.dict #[] } }:Shared).heap.objs.size=s.heap.objs.size+1 from Heap.size_push ..]
 refine wpAny_bind (wpAny_pure (wpAny_pure (h _ ?_ rfl)))
 rfl
def capt(js:List (Option Nat))(σ:St):St:=js.map fun j=>j.bind fun j=>(σ[j]?).join
structure QB(N':List Str)(js:List (Option Nat))(scope outer:Scope)(N:List Str):Prop where
 kind:scope.kind=.function
 uniq:∀ y∈scope.names,scope.names.lookup y.1=some y.2
 nd:N'.Nodup
 len:js.length=N'.length
 free:∀ y∈scope.names,y.2=.free->outer.names.lookup y.1=some .cell∨outer.names.lookup y.1=some .free
 cap:((N'.zip js).all fun p=>match p.2 with
  | none=>true
  | some j=>decide (N[j]?=some p.1)&&decide (scope.names.lookup p.1=some .free))=true
theorem QB.capOf{N':List Str}{js:List (Option Nat)}{scope outer:Scope}{N:List Str}(S:QB N' js scope outer N){i j:Nat}{x:Str}(h1:N'[i]?=some x)(h2:js[i]?=some (some j)):
 N[j]?=some x/\scope.names.lookup x=some .free/\∀ y∈scope.names,y.1=x->y.2=.free:=by
 have h:=List.all_eq_true.mp S.cap (x,some j) (by
  refine List.mem_of_getElem? (i:=i) ?_
  rw[List.getElem?_zip_eq_some]
  exact⟨h1,h2⟩)
 simp only[Bool.and_eq_true,decide_eq_true_eq]at h
 exact⟨h.1,h.2,fun y hy e=>by
  have:=S.uniq y hy
  rw[e,h.2]at this
  exact(Option.some.inj this).symm⟩
theorem QB.names{N':List Str}{js:List (Option Nat)}{scope outer:Scope}{N:List Str}(S:QB N' js scope outer N):∀ y∈scope.names,y.2=.local->scope.names.lookup y.1=some .local:=fun y hy e=>by
 rw[S.uniq y hy,e]
def cxC(X:Cx)(N':List Str)(scope:Scope)(fp:List Addr)(s:Shared)(H:Hp):Cx:=
 { X with N:=N',s₀:=s,H₀:=H,env:=Qy6 scope (QaZ X.env scope.names []) s.heap.objs.size X.env,outer:=X.stack,ex:=fp,
          fn:=fun x=>match scope.names.lookup x with | some .cell=>true | _=>false,pn:=[],xe:=fun _ _=>False }
theorem QLY{X:Cx}{N':List Str}{js:List (Option Nat)}{scope:Scope}{pins:‹"v"›}{σ:St}{H:Hp}{s:Shared}{fp:List Addr}(S:QB N' js scope X.env.scope X.N)(I:‹"g"›)(hf:∀ b∈fp,FpOk X pins H b)
 (hlt:∀ b∈fp,b<s.heap.objs.size):
 Inv (cxC X N' scope fp s H) [] (capt js σ) H { s with heap:=pushCells (s.heap.push { cls:=.type "dict",data:=.dict #[] }) scope.names }:=by
 have hk:∀ b o,s.heap.get? b=some o->(pushCells (s.heap.push { cls:=.type "dict",data:=.dict #[] }) scope.names).get? b=some o:=fun b o e=>pushCells_keeps _ _ b o (Heap.get?_push_of_some _ e)
 have sz:(s.heap.push { cls:=.type "dict",data:=.dict #[] }).objs.size=s.heap.objs.size+1:=Heap.size_push ..
 -- captured cells stand in the outer frame
 have out:∀ x,(∃ y∈scope.names,y.1=x/\y.2=.free)->∃ c,X.env.cells.lookup x=some c:=fun x ⟨y,hy,e1,e2⟩=>by
  subst e1
  exact I.ok.has y.1 (S.free y hy e2)
 have clm:∀ p∈QaZ X.env scope.names [],X.env.cells.lookup p.1=some p.2:=fun p hp=>by
  rcases QgS hp with h | ⟨h,hy⟩
  ·cases h
  ·obtain⟨c,hc⟩:=out p.1 hy
   rw[hc]at h ⊢
   rw[h];rfl
 have cllt:∀ p∈QaZ X.env scope.names [],p.2<s.heap.objs.size:=fun p hp=>by
  obtain⟨v,q⟩:=I.cell p.1 p.2 (clm p hp)
  exact q.lt
 have cin:∀ x c,(cellsFrom (s.heap.objs.size+1) scope.names (QaZ X.env scope.names [])).lookup x=some c->X.env.cells.lookup x=some c∨s.heap.objs.size+1<=c:=fun x c e=>by
  rcases Qqi (QbT e) with h | h
  ·exact .inl (clm _ h)
  ·exact .inr h
 have capL:∀ x,scope.names.lookup x=some .free->(∀ y∈scope.names,y.1=x->y.2=.free)->(cellsFrom (s.heap.objs.size+1) scope.names (QaZ X.env scope.names [])).lookup x=X.env.cells.lookup x:=fun x hx hy=>by
  rw[QsG hy]
  have hs:=QgN (env:=X.env) (x:=x) (names:=scope.names) (acc:=[]) (.inr ⟨_,QbT hx,rfl,rfl⟩)
  obtain⟨c,hc⟩:=Option.isSome_iff_exists.mp hs
  rw[hc,clm _ (QbT hc)]
 refine⟨⟨I.ok.mod,S.kind,I.ok.glob,I.ok.blt,Nat.le_refl _,fun x y c h1 h2=>?_,fun x hx=>?_,fun x c hx h=>?_,I.ok.hd,I.ok.frames,.inl rfl,fun b hb=>?_,I.bs,Nat.le_trans I.ok.bsz I.sz,fun b o e hb=>?_,fun b hb hz=>?_,I.stack,I.stkFree⟩,
  rfl,I.bare,Un.kept hk,?_,fun x c h=>?_,I.hok.fresh (Nat.le_refl _),fun x c h=>?_,fun p hp=>absurd (show p∈([]:List (Addr×Obj)) from hp) (by simp),I.hok.kept hk,?_⟩
 ·refine QyO (names:=scope.names) (n:=s.heap.objs.size+1) (acc:=QaZ X.env scope.names []) (fun p hp=>Nat.lt_succ_of_lt (cllt p hp)) (fun p hp q hq e=>?_) (x,c) (QbT h1) (y,c) (QbT h2) rfl
  have a:=clm p hp
  have b:=clm q hq
  rw[← e]at b
  exact I.ok.inj _ _ _ a b
 ·have hx':=Qv7 (show(Qe2 scope X.env.scope).names.lookup x=some .cell∨_ from hx)
  refine Option.isSome_iff_exists.mp (W.cellsFrom_some scope.names _ _ ?_)
  rcases hx' with h | h
  ·exact .inl h
  ·exact .inr (QgN (.inr ⟨_,QbT h,rfl,rfl⟩))
 ·rcases Qqi (QbT h) with hm | hm
  ·-- an own cell's name is captured too: its first entry is the own one
   have hx':scope.names.lookup x=some .cell:=by
    have hx2:(match scope.names.lookup x with | some .cell=>true | _=>false)=true:=hx
    split at hx2
    ·assumption
    ·cases hx2
   rcases QgS hm with q | ⟨_,y,hy,e1,e2⟩
   ·cases q
   ·have:=S.uniq y hy
    have e1:y.1=x:=e1
    rw[e1,hx',e2]at this
    cases this
  ·exact Nat.le_of_succ_le hm
 ·refine⟨Nat.ne_of_lt (hlt b hb),fun x c h e=>?_⟩
  rcases cin x c h with q | q
  ·exact(hf b hb).2.2.2.2.1 x c q e
  ·have:=hlt b hb
   rw[← e]at this
   exact absurd (Nat.lt_of_lt_of_le this (Nat.le_of_succ_le q)) (Nat.lt_irrefl _)
 ·rcases(hf b hb).2.2.2.1 with z | z
  ·exact I.ok.noex b o e z
  ·exact absurd (Nat.lt_of_lt_of_le (Heap.lt_size (I.ok.bs b o e).1) z) (Nat.lt_irrefl _)
 ·rcases List.mem_cons.mp (I.stkSub b hz) with e | e
  ·exact(hf b hb).2.1 e
  ·exact(hf b hb).2.2.1 e
 ·obtain⟨m,hn,hl⟩:=I.loc
  refine⟨fun _=>none,(Heap.Ns.new s.heap (.type "dict")).keeps (pushCells_keeps _ _),fun i x v h1 h2 h3=>?_⟩
  have h2':((js[i]?).map fun j=>j.bind fun j=>(σ[j]?).join)=some (some v):=by
   unfold capt at h2
   rw[List.getElem?_map]at h2
   exact h2
  cases e:js[i]? with
  | none=>rw[e]at h2';cases h2'
  | some o=>
   rw[e]at h2'
   cases o with
   | none=>cases h2'
   | some j=>
    have h4:(σ[j]?).join=some v:=Option.some.inj h2'
    have h5:σ[j]?=some (some v):=by
     cases z:σ[j]? with
     | none=>rw[z]at h4;cases h4
     | some o=>rw[z]at h4;have h4:o=some v:=h4;rw[h4]
    obtain⟨hN,hx,hy⟩:=S.capOf h1 e
    have hvis:=S.free _ (QbT hx) rfl
    obtain⟨u,r,lk⟩:=hl j x v hN h5 (.inr hvis)
    refine⟨u,r,.inr ⟨QuE hx,?_⟩⟩
    rcases lk with⟨k,_⟩ | ⟨_,c,hc,z⟩
    ·have k:X.env.scope.names.lookup x=some .local:=k
     rcases hvis with q | q
     ·rw[k]at q;cases q
     ·rw[k]at q;cases q
    ·exact⟨c,(capL x hx hy).trans hc,z.keeps hk⟩
 ·have:=Qsd (names:=scope.names) (h:=s.heap.push { cls:=.type "dict",data:=.dict #[] }) (acc:=QaZ X.env scope.names []) (fun p hp=>by
   obtain⟨v,q⟩:=I.cell p.1 p.2 (clm p hp)
   exact⟨v,q.keeps fun b o e=>Heap.get?_push_of_some _ e⟩) (x,c) (by rw[sz];exact QbT h)
  exact this
 ·rcases cin x c h with q | q
  ·exact I.freeC x c q
  ·exact I.hok.fresh (Nat.le_of_succ_le q)
 ·show(js.map _).length=N'.length
  rw[List.length_map];exact S.len
def eMax(X:Cx)(e:Expr):TE:=fun σ H Q=>∃ t,PE X e t/\t σ H Q
theorem QOZ{X:Cx}{e:Expr}:PE X e (eMax X e):=fun pins s σ H Q I ⟨t,ht,h⟩=>ht pins s σ H Q I h
def gMax(X:Cx)(e:Expr):TG:=fun v σ H Q=>∃ t,PG X e t/\t v σ H Q
theorem QP4{X:Cx}{e:Expr}:PG X e (gMax X e):=fun pins s σ H v u Q I r ⟨t,ht,h⟩=>ht pins s σ H v u Q I r h
def PIf(X:Cx)(ifs:List Expr)(tc:TT):Prop:=(ifs=[]/\tc=fun _ H Q=>Q true H)∨∃ c,ifs=[c]/\PT X c tc
theorem QMz{X:Cx}:PIf X [] (fun _ H Q=>Q true H):=.inl ⟨rfl,rfl⟩
theorem QNh{X:Cx}{c:Expr}{tc:TT}(h:PT X c tc):PIf X [c] tc:=.inr ⟨c,rfl,h⟩
theorem PIf.run{X:Cx}{ifs:List Expr}{tc:TT}(h:PIf X ifs tc){pins:‹"v"›}{s:Shared}{σ:St}{H:Hp}{Q:Bool->Hp->Prop}(I:‹"g"›)(q:tc σ H Q):
 wpAny ‹"i"› X.A (forIn ifs true fun c r=>if r=true then do let ok ← isTrue c X.env (eval c X.env);pure (ForInStep.yield ok) else pure (ForInStep.yield r)) (TP X pins σ Q) X.xe s:=by
 rcases h with⟨rfl,rfl⟩ | ⟨c,rfl,h⟩
 ·exact wpAny_tests_nil ⟨H,I,q⟩
 ·exact wpAny_tests_one (h pins s σ H Q I q)
def cMax(X:Cx)(ifs:List Expr):TT:=fun σ H Q=>∃ t,PIf X ifs t/\t σ H Q
def CompW(X':Cx)(js:List (Option Nat))(tg elt:Expr)(ifs:List Expr)(σ:St)(H1:Hp)(J:It)(p:Addr)(Q:VK):Prop:=
 ∃ W:Nat->Nat->St->Hp->Prop,(∃ m,W 0 m (capt js σ) (upd H1 p (.lst [])))/\∀ i m τ H',W i m τ H'->
 (J.stop i H'/\Q (.ref p) H')∨(J.go i H'/\∃ N:St->Hp->Prop,(∀ τ' H'',N τ' H''->∃ m',m'<m/\W (i+1) m' τ' H'')/\∀ x H'',J.yld i H' x H''->gMax X' tg x τ H'' fun τ2 H2=>cMax X' ifs τ2 H2 fun b H3=>
  if b=true then eMax X' elt τ2 H3 fun y H4=>∃ ys,H4 p=some (.lst ys)/\ys.length<sizeLine/\N τ2 (upd H4 p (.lst (ys++[y]))) else N τ2 H3)
def tComp(X:Cx)(N':List Str)(js:List (Option Nat))(scope:Scope)(tg elt:Expr)(ifs:List Expr)(wi:TI):TE:=fun σ H Q=>wi σ H fun J H1=>∀ p,H1 p=none->∀ fp s,
 CompW (cxC X N' scope fp s (upd H1 p (.lst []))) js tg elt ifs σ H1 J p Q
section
variable{X:Cx}{N':List Str}{js:List (Option Nat)}{scope:Scope}{tg iter elt:Expr}{ifs:List Expr}{wi:TI}{pos:Pos}
theorem QoC{pins:‹"v"›}{σ:St}{H:Hp}{s:Shared}{R:V->Hp->Prop}{E:‹"m"›}(hc:X.calm=true)(S:QB N' js scope X.env.scope X.N)
 {it:Addr} {fp:List Addr} {tn:Nat->Heap->Prop} {J:It} (I2:‹"g"›) (T:Turn X.prog X.w X.K tg J fp it tn) (st:tn 0 s.heap) (hf:∀ b∈fp,FpOk X pins H b)
 (hW:∀ p,H p=none->∀ fp s,CompW (cxC X N' scope fp s (upd H p (.lst []))) js tg elt ifs σ H J p R)
 {RR:Value->Addr->Result->Shared->Prop}
 (hRR:∀(D C:Addr)(s':Shared)(H':Hp),Inv X pins σ H' s'->(∃ m,s'.heap.Ns C m)->H' C=none->C≠X.env.locals->X.s₀.heap.objs.size<=C->(∀ x c,X.env.cells.lookup x=some c->c≠C)->(∀ p∈X.pn++pins,p.1≠C)->R (.ref D) H'->RR (.ref D) C (.ok .next) s'):
 wpAny ‹"i"› X.A (newList []) (fun acc s₃ => wpAny ‹"i"› X.A (newFunctionEnv scope X.env.globals (QaZ X.env scope.names []) [] X.env.qual none .none (some X.env)) (fun cenv s₄ =>
  codeAny ‹"i"› X.A (.compStart ‹"s"› 0 (.ref it) acc { cenv with scope:=relabel scope X.env }) (RR acc cenv.locals) s₄) E s₃) E s:=by
 refine wpAny_newObj_type ?_
 have hfresh:H s.heap.objs.size=none:=I2.hok.fresh (Nat.le_refl _)
 have I3:Inv X pins σ (upd H s.heap.objs.size (.lst [])) { s with heap:=s.heap.push { cls:=.type "list",data:=.seq ([]:List Value).toArray } }:=I2.lnew (t':=s.toks) .nil (Nat.zero_le _)
 generalize hs3:({ s with heap:=s.heap.push { cls:=.type "list",data:=.seq ([]:List Value).toArray } }:Shared)=s3 at I3 ⊢
 have hsz3:s3.heap.objs.size=s.heap.objs.size+1:=by rw[← hs3];exact Heap.size_push ..
 have hk3:∀ b o,s.heap.get? b=some o->s3.heap.get? b=some o:=fun b o e=>by rw[← hs3];exact Heap.get?_push_of_some _ e
 have flt:∀ b∈fp,b<s.heap.objs.size:=fun b hb=>by
  obtain⟨o,e,_⟩:=T.obj _ _ st b hb
  exact Heap.lt_size e
 have hf3:∀ b∈fp,FpOk X pins (upd H s.heap.objs.size (.lst [])) b:=fun b hb=>⟨by rw[Qn (Nat.ne_of_lt (flt b hb))];exact(hf b hb).1,(hf b hb).2⟩
 have st3:tn 0 s3.heap:=T.keep _ _ _ st fun b _ o e=>hk3 b o e
 refine QML fun cenv ecenv el=>?_
 rw[ecenv,el]
 have I4:=QLY (fp:=fp) S I3 hf3 fun b hb=>by rw[hsz3];exact Nat.lt_succ_of_lt (flt b hb)
 obtain⟨W,⟨m0,w0⟩,turn⟩:=hW _ hfresh fp s3
 generalize hX':cxC X N' scope fp s3 (upd H s.heap.objs.size (.lst []))=X' at I4 turn
 generalize hs4:({ s3 with heap:=pushCells (s3.heap.push { cls:=.type "dict",data:=.dict #[] }) scope.names }:Shared)=s4 at I4 ⊢
 have eenv:Qy6 scope (QaZ X.env scope.names []) s3.heap.objs.size X.env=X'.env:=by rw[← hX'];rfl
 have eprog:X'.prog=X.prog:=by rw[← hX'];rfl
 have ew:X'.w=X.w:=by rw[← hX'];rfl
 have eK:X'.K=X.K:=by rw[← hX'];rfl
 have eA:X'.A=X.A:=by rw[← hX'];rfl
 have ecalm:X'.calm=true:=by rw[← hX'];exact hc
 have exe:∀ e s',X'.xe e s'->False:=fun e s' h=>by rw[← hX']at h;exact h
 have eex:X'.ex=fp:=by rw[← hX'];rfl
 have efs:X'.fs=frs X.stack:=by rw[← hX'];rfl
 have epn:X'.pn=[]:=by rw[← hX'];rfl
 have es0:X'.s₀=s3:=by rw[← hX'];rfl
 have eH0:X'.H₀=upd H s.heap.objs.size (.lst []):=by rw[← hX'];rfl
 have eloc:X'.env.locals=s3.heap.objs.size:=by rw[← eenv];rfl
 rw[eenv]
 have st4:tn 0 s4.heap:=T.keep _ _ _ st3 fun b _ o e=>by rw[← hs4];exact pushCells_keeps _ _ b o (Heap.get?_push_of_some _ e)
 -- the iterator's objects,seen from the block
 have fpok:∀{H':Hp},(∀ b∈fp,H' b=none)->∀ b∈fp,FpOk X' [] H' b:=fun {H'} hn b hb=>by
  obtain⟨h1,h2⟩:=I4.ok.exf b (by rw[eex];exact hb)
  exact⟨hn b hb,h1,fun z=>I4.ok.exfs b (by rw[eex];exact hb) z,.inl (by rw[eex];exact hb),h2,fun p hp=>by rw[epn]at hp;cases hp⟩
 have loop:∀ s5,s5=s4->codeAny ‹"i"› X.A (.compLoop ‹"s"› 0 (.ref it) (.ref s.heap.objs.size) X'.env) (RR (.ref s.heap.objs.size) s3.heap.objs.size) s5:=by
  rintro s5 rfl
  refine QxQ (fun n s'=>∃ i τ H',Inv X' [] τ H' s'/\tn i s'.heap/\(∀ b∈fp,H' b=none)/\W i n τ H') (fun _ _=>False) (fun _ _ h=>h.elim) ?_ m0 ⟨0,_,_,I4,st4,fun b hb=>(hf3 b hb).1,w0⟩
  rintro n s6 ⟨i,τ,H6,I6,st6,fr6,w6⟩
  have A1:∀{α:Type}{t:Sem α}{Q:α->Shared->Prop}{s:Shared},wpAny (model X'.prog X'.w) X'.A t Q X'.xe s->wpAny ‹"i"› X.A t Q (fun _ _=>False) s:=fun {α t Q s} h=>by
   rw[eprog,ew,eA]at h
   exact wpAny_mono h (fun _ _ q=>q) exe
  rcases turn i n τ H6 w6 with⟨stop,qn⟩ | ⟨go,N,hN,step⟩
  ·have h7:=T.done X' eprog ew eK ecalm i [] s6 τ H6 (fun _ _=>False) I6 (fpok fr6) st6 stop
   rw[eA]at h7
   refine thn h7 fun r s7 ⟨hr,I7⟩=>?_
   subst hr
   -- back to the frame around
   have un:=I7.base
   rw[es0,eH0,efs,eex]at un
   have Iout:Inv X pins σ H6 s7:=I3.call' (ch:=fp) (by rw[I7.os,es0]) un (by have:=I7.hok;rw[eprog,ew]at this;exact this) I7.bare fun b hb=>by
    obtain⟨f0,f1,f2,f3,f4,f5⟩:=hf3 b hb
    exact⟨f3,f1,f4,f5⟩
   refine hRR _ _ s7 H6 Iout ?_ ?_ ?_ ?_ ?_ ?_ qn
   ·obtain⟨m,hn,_⟩:=I7.loc
    rw[eloc]at hn
    exact⟨m,hn⟩
   ·have:=I7.free
    rw[eloc]at this
    exact this
   ·exact Nat.ne_of_gt I3.lt
   ·exact I3.sz
   ·intro x c e z
    obtain⟨v,q⟩:=I3.cell x c e
    exact absurd q.lt (by rw[z];exact Nat.lt_irrefl _)
   ·intro p hp z
    exact absurd (Heap.lt_size (I3.pin p hp).1) (by rw[z];exact Nat.lt_irrefl _)
  ·have h6:=T.item X' eprog ew eK ecalm i [] s6 τ H6 (fun _ _=>False) I6 (fpok fr6) st6 go
   rw[eA]at h6
   refine thn h6 fun r s7 ⟨u,hr,h7⟩=>?_
   subst hr
   refine thn h7 fun _ s8 ⟨x,H8,I8,r8,y8,st8,fr8⟩=>?_
   have I8':=I8.pinned (fpok fr8) (T.obj _ _ st8)
   refine thn (A1 (QP4 _ s8 τ H8 x u _ I8' r8 (step x H8 y8))) fun _ s9 ⟨τ9,H9,I9,q9⟩=>?_
   obtain⟨tcc,hif,q9⟩:=q9
   refine thn (A1 (hif.run I9 q9)) fun ok s10 ⟨H10,I10,q10⟩=>?_
   have again:∀{τ':St}{H':Hp}{s':Shared},Inv X' ([]++QkW fp s8.heap) τ' H' s'->N τ' H'->∃ m,m<n/\∃ i τ H',Inv X' [] τ H' s'/\tn i s'.heap/\(∀ b∈fp,H' b=none)/\W i m τ H':=fun {τ' H' s'} I' n'=>by
    obtain⟨m',hm,w'⟩:=hN τ' H' n'
    refine⟨m',hm,i+1,τ',H',I'.unpinned,T.keep _ _ _ st8 fun b hb o e=>(I'.pin (b,o) (List.mem_append_right _ (List.mem_append_right _ (QgL hb e)))).1,fun b hb=>?_,w'⟩
    obtain⟨o,e,d⟩:=T.obj _ _ st8 b hb
    exact(I'.pin (b,o) (List.mem_append_right _ (List.mem_append_right _ (QgL hb e)))).2.1
   cases ok with
   | false=>
    rw[if_neg Bool.false_ne_true]at q10 ⊢
    exact again I10 q10
   | true=>
    rw[if_pos rfl]at q10 ⊢
    refine thn (A1 (QOZ _ s10 τ9 H10 _ I10 q10)) fun y s11 ⟨yv,H11,I11,r11,ys,hp11,hz,n11⟩=>?_
    refine thn (A1 (Qs7 _ s11 τ9 H11 (.ref s.heap.objs.size) [yv] (.ref s.heap.objs.size) [y] (fun _ H'=>N τ9 H') I11 rfl (.cons r11 .nil) ⟨_,ys,yv,rfl,rfl,hp11,hz,n11⟩)) fun _ s12 ⟨v12,H12,I12,_,n12⟩=>?_
    exact again I12 n12
 exact codeAny_compStart_list (loop _ rfl) (T.self _ 0 _ _ _ st4 (loop _ rfl))
theorem QMw(hc:X.calm=true)(S:QB N' js scope X.env.scope X.N)(hi:PI X tg iter wi)
 (hs:∀ x,foldedSetIterable iter X.env x=pure x:=by intro _;rfl):PE X ‹"s"› (tComp X N' js scope tg elt ifs wi):=by
 intro pins s σ H Q I h
 rw[eval_ListComp]
 have hcl:closureFor scope X.env=pure (QaZ X.env scope.names []):=Qow fun y hy e=>by
  obtain⟨c,hc⟩:=I.ok.has y.1 (S.free y hy e)
  rw[hc];rfl
 refine wpAny_comprehension_free (use:=none) rfl hs hcl S.kind S.names (thn (hi pins s σ H _ I h) fun v s1 h1=>thn h1 fun itv s2 h2=>?_)
 obtain⟨it,fp,tn,J,H2,e,I2,T,st2,f2,hW⟩:=h2
 subst e
 refine QoC (R:=Q) (RR:=fun acc C=>compPost ‹"i"› X.A X.xe none (EP X pins σ Q) acc C) hc S I2 T st2 f2 hW ?_
 intro D C s' H' I' ⟨m,hn⟩ hC h1 h2 h3 h4 q
 refine⟨m,hn,fun h' hsb=>⟨.ref D,H',?_,rfl,q⟩⟩
 exact I'.turned (t':=s'.toks) (fun b o hb e=>(hsb.2 b hb).trans e) hC (Ne.symm (Ne.symm h1)) (.inr h2) h3 h4
theorem QNe{i:Nat}{x:Str}{px spos:Pos}(hc:X.calm=true)(S:QB N' js scope X.env.scope X.N)(hi:PI X tg iter wi)
 (hN:X.N.Nodup) (hx:X.N[i]?=some x) (hl:Loc X.env.scope x)
 (hsw:swapsWith ‹"s"› (some (.Name x px)) spos.line X.env=pure true)
 (hf:X.fn x=true∨X.env.scope.names.lookup x=some .local:=by first | exact .inl rfl | exact .inr rfl | assumption)
 (hs:∀ x,foldedSetIterable iter X.env x=pure x:=by intro _;rfl):PS X (.Assign [.Name x px] ‹"s"› spos) (tAsg (tComp X N' js scope tg elt ifs wi) (gName i)):=by
 intro pins s σ H D I h
 rw[exec_Assign_Name_used _ _ _ _ hsw]
 refine wpAny_bind (wpAny_standAt (wpAny_bind ?_))
 show wpAny _ X.A (do let _ ← comprehension ‹"s"› scope X.env _ (newList []) false (eval iter X.env) (some (assign (.Name x px) X.env))) _ _ s
 have hcl:closureFor scope X.env=pure (QaZ X.env scope.names []):=Qow fun y hy e=>by
  obtain⟨c,hc⟩:=I.ok.has y.1 (S.free y hy e)
  rw[hc];rfl
 refine wpAny_bind (wpAny_mono (wpAny_comprehension_free (use:=some (assign (.Name x px) X.env)) (Q:=fun _ s'=>SP X pins D .next s') rfl hs hcl S.kind S.names
  (thn (hi pins s σ H _ I h) fun v s1 h1=>thn h1 fun itv s2 h2=>?_)) (fun _ s' hq=>wpAny_pure (wpAny_pure hq)) fun _ _ e=>e)
 obtain⟨it,fp,tn,J,H2,e,I2,T,st2,f2,hW⟩:=h2
 subst e
 refine QoC (R:=fun v H'=>D.nx (σ.set i (some v)) H') (RR:=fun acc C=>compPost ‹"i"› X.A X.xe (some (assign (.Name x px) X.env)) (fun _ s'=>SP X pins D .next s') acc C) hc S I2 T st2 f2 hW ?_
 intro DD C s' H' I' ⟨m,hn⟩ hC h1 h2 h3 h4 q
 show wpAny _ X.A (assign (.Name x px) X.env (.ref DD)) _ _ s'
 refine wpAny_assign_Name (Qtc (v:=.ref DD) I' hN hx hl rfl (fun s'' I'' ⟨a,hsb,ha⟩=>?_) hf)
 have hCa:C≠a:=by
  rcases ha with rfl | ha
  ·exact h1
  ·exact Ne.symm (h3 x a ha)
 refine⟨m,hn.sameBut hsb hCa,fun h' hsb'=>⟨_,H',?_,q⟩⟩
 exact I''.turned (t':=s''.toks) (fun b o hb e=>(hsb'.2 b hb).trans e) hC h1 (.inr h2) h3 h4
end
end L2
namespace DL
open PySem PySem.Spec PyProof.Rows L2
inductive D where
 | non | bl (b:Bool) | int (i:Int) | str (x:Str)
 | lst (xs:List D) | tup (xs:List D) | dic (kvs:List (Key×D)) | ins (c:Str) (fs:List (Str×D)) | err (c:Str)
instance:Inhabited D:=⟨.non⟩
abbrev CTab:=Str->Option Addr
section
variable(K:W.Frag)(CT:CTab)(H:Hp)
mutual
def Rep:D->V->Prop
 | .non,v=>v=.non
 | .bl b,v=>v=.bl b
 | .int i,v=>v=.int i
 | .str x,v=>v=.str x
 | .lst ds,v=>∃ a vs,v=.ref a/\SqL K H a vs/\RepL ds vs
 | .tup ds,v=>∃ a vs,v=.ref a/\SqT K H a vs/\RepL ds vs
 | .dic kds,v=>∃ a kvs,v=.ref a/\Rd H a (.dK kvs)/\RepK kds kvs
 | .ins c fds,v=>∃ a C dx fs,v=.ref a/\CT c=some C/\H a=some (.ins C dx fs)/\RepF fds fs
 | .err c,v=>∃ a C,v=.ref a/\CT c=some C/\H a=some (exO a C)
def RepL:List D->List V->Prop
 | [],vs=>vs=[]
 | d::ds,vs=>∃ v r,vs=v::r/\Rep d v/\RepL ds r
def RepK:List (Key×D)->List (Key×V)->Prop
 | [],kvs=>kvs=[]
 | (k,d)::ds,kvs=>∃ v r,kvs=(k,v)::r/\Rep d v/\RepK ds r
def RepF:List (Str×D)->List (Str×V)->Prop
 | [],kvs=>kvs=[]
 | (k,d)::ds,kvs=>∃ v r,kvs=(k,v)::r/\Rep d v/\RepF ds r
end
end
section
variable{K:W.Frag}{CT:CTab}{H H':Hp}
theorem Same.sqT{a:Addr}{xs:List V}(e:Same H H')(h:SqT K H a xs):SqT K H' a xs:=by
 rcases h with(h | ⟨o,h⟩) | h
 ·exact .inl (.inl (e _ _ h))
 ·exact .inl (.inr ⟨o,e _ _ h⟩)
 ·exact .inr h
theorem Same.rd{a:Addr}{u:HO}(e:Same H H')(h:Rd H a u):Rd H' a u:=by
 rcases h with h | ⟨o,h⟩
 ·exact .inl (e _ _ h)
 ·exact .inr ⟨o,e _ _ h⟩
mutual
theorem Rep.mono(e:Same H H'):∀(d:D)(v:V),Rep K CT H d v->Rep K CT H' d v
 | .non,_,h=>h
 | .bl _,_,h=>h
 | .int _,_,h=>h
 | .str _,_,h=>h
 | .lst ds,_,⟨a,vs,h1,h2,h3⟩=>⟨a,vs,h1,e.seq h2,RepL.mono e ds vs h3⟩
 | .tup ds,_,⟨a,vs,h1,h2,h3⟩=>⟨a,vs,h1,Same.sqT e h2,RepL.mono e ds vs h3⟩
 | .dic ds,_,⟨a,vs,h1,h2,h3⟩=>⟨a,vs,h1,Same.rd e h2,RepK.mono e ds vs h3⟩
 | .ins c ds,_,⟨a,C,dx,fs,h1,h2,h3,h4⟩=>⟨a,C,dx,fs,h1,h2,e _ _ h3,RepF.mono e ds fs h4⟩
 | .err c,_,⟨a,C,h1,h2,h3⟩=>⟨a,C,h1,h2,e _ _ h3⟩
theorem RepL.mono(e:Same H H'):∀(ds:List D)(vs:List V),RepL K CT H ds vs->RepL K CT H' ds vs
 | [],_,h=>h
 | d::ds,_,⟨v,r,h1,h2,h3⟩=>⟨v,r,h1,Rep.mono e d v h2,RepL.mono e ds r h3⟩
theorem RepK.mono(e:Same H H'):∀(ds:List (Key×D))(vs:List (Key×V)),RepK K CT H ds vs->RepK K CT H' ds vs
 | [],_,h=>h
 | (k,d)::ds,_,⟨v,r,h1,h2,h3⟩=>⟨v,r,h1,Rep.mono e d v h2,RepK.mono e ds r h3⟩
theorem RepF.mono(e:Same H H'):∀(ds:List (Str×D))(vs:List (Str×V)),RepF K CT H ds vs->RepF K CT H' ds vs
 | [],_,h=>h
 | (k,d)::ds,_,⟨v,r,h1,h2,h3⟩=>⟨v,r,h1,Rep.mono e d v h2,RepF.mono e ds r h3⟩
end
theorem RepL.length:∀{ds:List D}{vs:List V},RepL K CT H ds vs->ds.length=vs.length
 | [],_,h=>by cases h;rfl
 | d::ds,_,⟨v,r,h1,h2,h3⟩=>by subst h1;simp[RepL.length h3]
theorem RepL.get:∀{ds:List D}{vs:List V}{i:Nat}{d:D},RepL K CT H ds vs->ds[i]?=some d->∃ v,vs[i]?=some v/\Rep K CT H d v
 | [],_,_,_,_,e=>by simp at e
 | d::ds,_,0,_,⟨v,r,h1,h2,h3⟩,e=>by subst h1;simp at e;subst e;exact⟨v,rfl,h2⟩
 | d::ds,_,i+1,x,⟨v,r,h1,h2,h3⟩,e=>by
  subst h1
  obtain⟨u,a,b⟩:=RepL.get (i:=i) (d:=x) h3 (by simpa using e)
  exact⟨u,by simpa using a,b⟩
theorem RepL.append:∀{ds es:List D}{vs us:List V},RepL K CT H ds vs->RepL K CT H es us->RepL K CT H (ds++es) (vs++us)
 | [],_,_,_,h,k=>by cases h;exact k
 | d::ds,_,_,_,⟨v,r,h1,h2,h3⟩,k=>by subst h1;exact⟨v,_,rfl,h2,RepL.append h3 k⟩
theorem RepL.take:∀(n:Nat){ds:List D}{vs:List V},RepL K CT H ds vs->RepL K CT H (ds.take n) (vs.take n)
 | 0,_,_,_=>by simp[RepL]
 | n+1,[],_,h=>by cases h;simp[RepL]
 | n+1,d::ds,_,⟨v,r,h1,h2,h3⟩=>by subst h1;exact⟨v,_,rfl,h2,RepL.take n h3⟩
theorem RepL.drop:∀(n:Nat){ds:List D}{vs:List V},RepL K CT H ds vs->RepL K CT H (ds.drop n) (vs.drop n)
 | 0,_,_,h=>h
 | n+1,[],_,h=>by cases h;simp[RepL]
 | n+1,d::ds,_,⟨v,r,h1,h2,h3⟩=>by subst h1;exact RepL.drop n h3
theorem RepL.set{d:D}{v:V}(q:Rep K CT H d v):∀(i:Nat){ds:List D}{vs:List V},RepL K CT H ds vs->RepL K CT H (ds.set i d) (vs.set i v)
 | _,[],_,h=>by cases h;simp[RepL]
 | 0,_::ds,_,⟨w,r,h1,h2,h3⟩=>by subst h1;exact⟨v,r,rfl,q,h3⟩
 | i+1,e::ds,_,⟨w,r,h1,h2,h3⟩=>by subst h1;exact⟨w,_,rfl,h2,RepL.set q i h3⟩
theorem RepL.rep{ds:List D}{vs:List V}(h:RepL K CT H ds vs):∀ k:Nat,RepL K CT H (List.replicate k ds).flatten (List.replicate k vs).flatten
 | 0=>rfl
 | k+1=>by
  rw[List.replicate_succ,List.replicate_succ,List.flatten_cons,List.flatten_cons]
  exact h.append (h.rep k)
theorem RepL.one{d:D}{v:V}(h:Rep K CT H d v):RepL K CT H [d] [v]:=⟨v,[],rfl,h,rfl⟩
theorem RepL.map_int:∀(ns:List Int),RepL K CT H (ns.map D.int) (ns.map V.int)
 | []=>rfl
 | n::ns=>⟨_,_,rfl,rfl,RepL.map_int ns⟩
end
inductive Out(α:Type) where
 | ok (a:α) | exc (x:D) | stuck
namespace Out
def bind{α β:Type}:Out α->(α->Out β)->Out β
 | .ok a,f=>f a
 | .exc x,_=>.exc x
 | .stuck,_=>.stuck
instance:Monad Out where
 pure:=.ok
 bind:=bind
def post{α:Type}(o:Out α)(k:α->Prop)(x:D->Prop):Prop:=match o with
 | .ok a=>k a
 | .exc e=>x e
 | .stuck=>False
@[simp] theorem bind_ok{α β:Type}(a:α)(f:α->Out β):(Out.ok a>>=f)=f a:=rfl
@[simp] theorem bind_exc{α β:Type}(x:D)(f:α->Out β):((Out.exc x:Out α)>>=f)=.exc x:=rfl
@[simp] theorem bind_stuck{α β:Type}(f:α->Out β):((Out.stuck:Out α)>>=f)=.stuck:=rfl
@[simp] theorem QQN{α β:Type}(a:α)(f:α->Out β):(Out.ok a).bind f=f a:=rfl
@[simp] theorem QQM{α β:Type}(x:D)(f:α->Out β):(Out.exc x:Out α).bind f=.exc x:=rfl
@[simp] theorem QQv{α β:Type}(f:α->Out β):(Out.stuck:Out α).bind f=.stuck:=rfl
@[simp] theorem pure_eq{α:Type}(a:α):(pure a:Out α)=.ok a:=rfl
theorem post_bind{α β:Type}(o:Out α)(f:α->Out β)(k:β->Prop)(x:D->Prop):(o>>=f).post k x↔o.post (fun a=>(f a).post k x) x:=by
 cases o<;>exact Iff.rfl
theorem post_mono{α:Type}{o:Out α}{k k':α->Prop}{x:D->Prop}(h:o.post k x)(hk:∀ a,k a->k' a):o.post k' x:=by
 cases o with
 | ok a=>exact hk a h
 | exc e=>exact h
 | stuck=>exact h
end Out
end DL
namespace DL
open PySem PySem.Spec PyProof.Rows L2
abbrev St:=L2.St
inductive SM where
 | k | o | l | s
abbrev SD:=List (Option (SM×D))
structure Dc where
 X:Cx
 CT:CTab
 G0:Hp
 XD:D->Prop
 /-- what is lent -/
 B:Hp
 /-- what of the entry's objects may be written -/
 M:Addr->Prop
 /-- which address a written slot holds -/
 W:Nat->Option Addr:=fun _=>none
abbrev Dc.K(C:Dc):W.Frag:=C.X.K
def Own(K:W.Frag)(CT:CTab)(G H:Hp)(p:Addr):D->Prop
 | .lst ds=>∃ vs,H p=some (.lst vs)/\RepL K CT G ds vs
 | .dic ds=>∃ kvs,H p=some (.dK kvs)/\RepK K CT G ds kvs
 | .ins c ds=>∃ A dx fs,CT c=some A/\H p=some (.ins A dx fs)/\RepF K CT G ds fs
 | _=>False
theorem Own.there{K:W.Frag}{CT:CTab}{G H:Hp}{p:Addr}:∀{d:D},Own K CT G H p d->∃ o,H p=some o
 | .lst _,⟨_,h,_⟩=>⟨_,h⟩
 | .dic _,⟨_,h,_⟩=>⟨_,h⟩
 | .ins _ _,⟨_,_,_,_,h,_⟩=>⟨_,h⟩
 | .non,h=>h.elim
 | .bl _,h=>h.elim
 | .int _,h=>h.elim
 | .str _,h=>h.elim
 | .tup _,h=>h.elim
theorem Own.mono{K:W.Frag}{CT:CTab}{G G' H H':Hp}{p:Addr}(g:Same G G')(h:∀ o,H p=some o->H' p=some o):∀{d:D},Own K CT G H p d->Own K CT G' H' p d
 | .lst ds,⟨vs,a,b⟩=>⟨vs,h _ a,RepL.mono g ds vs b⟩
 | .dic ds,⟨vs,a,b⟩=>⟨vs,h _ a,RepK.mono g ds vs b⟩
 | .ins _ ds,⟨A,dx,fs,e,a,b⟩=>⟨A,dx,fs,e,h _ a,RepF.mono g ds fs b⟩
 | .non,h=>h.elim
 | .bl _,h=>h.elim
 | .int _,h=>h.elim
 | .str _,h=>h.elim
 | .tup _,h=>h.elim
theorem Own.rep{K:W.Frag}{CT:CTab}{G H:Hp}{p:Addr}(g:Same G H):∀{d:D},Own K CT G H p d->Rep K CT H d (.ref p)
 | .lst ds,⟨vs,a,b⟩=>⟨p,vs,rfl,SqL.of a,RepL.mono g ds vs b⟩
 | .dic ds,⟨vs,a,b⟩=>⟨p,vs,rfl,Rd.of a,RepK.mono g ds vs b⟩
 | .ins _ ds,⟨A,dx,fs,e,a,b⟩=>⟨p,A,dx,fs,rfl,e,a,RepF.mono g ds fs b⟩
 | .non,h=>h.elim
 | .bl _,h=>h.elim
 | .int _,h=>h.elim
 | .str _,h=>h.elim
 | .tup _,h=>h.elim
structure GH(C:Dc)(G H:Hp):Prop where
 sub:Same G H
 g0:Same C.G0 G
 new:∀ b,C.G0 b=none->G b≠none->C.X.H₀ b=none
 fr:∀ b o,C.X.H₀ b=some o->¬ C.M b->H b=some o
 dom:∀ b,H b=none->C.X.H₀ b=none
 bs:Same C.B H
 bh:∀ b,C.X.H₀ b=none->C.B b=none
structure StR(C:Dc)(G H:Hp)(σ:St)(ς:SD):Prop extends GH C G H where
 len:σ.length=ς.length
 fz:∀(i:Nat) d,ς[i]?=some (some (.k,d))->∃ v,σ[i]?=some (some v)/\Rep C.X.K C.CT G d v
 ow:∀(i:Nat) d,ς[i]?=some (some (.o,d))->∃ p,σ[i]?=some (some (.ref p))/\G p=none/\C.X.H₀ p=none/\Own C.X.K C.CT G H p d
 ln:∀(i:Nat) d,ς[i]?=some (some (.l,d))->∃ v,σ[i]?=some (some v)/\Rep C.X.K C.CT C.B d v
 inj:∀(i j:Nat) d e p,i≠j->ς[i]?=some (some (.o,d))->ς[j]?=some (some (.o,e))->σ[i]?=some (some (.ref p))->σ[j]?≠some (some (.ref p))
 sf:∀(i:Nat) d,ς[i]?=some (some (.s,d))->∃ p,σ[i]?=some (some (.ref p))/\G p=none/\C.X.H₀ p≠none/\(C.M p/\C.W i=some p)/\C.B p=none/\Own C.X.K C.CT G H p d
 su:∀(i j:Nat) d e p,i≠j->ς[i]?=some (some (.s,d))->ς[j]?=some (some (.s,e))->σ[i]?=some (some (.ref p))->σ[j]?≠some (some (.ref p))
section
variable{C:Dc}{G G' H H':Hp}{σ:St}{ς:SD}
theorem GH.gnone(S:GH C G H){p:Addr}(h:H p=none):G p=none:=S.sub.free h
theorem GH.h0none(S:GH C G H){p:Addr}(h:H p=none):C.X.H₀ p=none:=S.dom p h
theorem QF{H:Hp}{p:Addr}{o:HO}(h:H p=none):Same H (upd H p o):=fun b u e=>by
 rw[Qn (QW e h)];exact e
theorem QkV{G H:Hp}{p:Addr}{o:HO}(s:Same G H):Same (upd G p o) (upd H p o):=fun b u e=>by
 by_cases hb:b=p
 ·subst hb;rw[QP]at e ⊢;exact e
 ·rw[Qn hb]at e ⊢;exact s b u e
theorem GH.grow(S:GH C G H)(hH:Same H H')(hG:Same G G')(hs:Same G' H')(hn:∀ b,G b=none->G' b≠none->H b=none):GH C G' H' where
 sub:=hs
 g0:=S.g0.trans hG
 new:=fun b h0 h1=>by
  cases q:G b with
  | none=>exact S.h0none (hn b q h1)
  | some o=>exact S.new b h0 (by rw[q];simp)
 fr:=fun b o e m=>hH b o (S.fr b o e m)
 dom:=fun b e=>S.dom b (hH.free e)
 bs:=S.bs.trans hH
 bh:=S.bh
theorem StR.own_ne(S:StR C G H σ ς){i:Nat}{d:D}{p:Addr}(h:ς[i]?=some (some (.o,d)))(hp:σ[i]?=some (some (.ref p))):∃ o,H p=some o:=by
 obtain⟨q,e,_,_,o⟩:=S.ow i d h
 rw[hp]at e;cases e
 exact o.there
theorem StR.grow(S:StR C G H σ ς)(hH:Same H H')(hG:Same G G')(hs:Same G' H')(hn:∀ b,G b=none->G' b≠none->H b=none):StR C G' H' σ ς where
 toGH:=S.toGH.grow hH hG hs hn
 len:=S.len
 fz:=fun i d e=>let ⟨v,a,b⟩:=S.fz i d e;⟨v,a,Rep.mono hG d v b⟩
 ow:=fun i d e=>by
  obtain⟨p,a,b,c,o⟩:=S.ow i d e
  refine⟨p,a,?_,c,o.mono hG fun u q=>hH _ _ q⟩
  cases q:G' p with
  | none=>rfl
  | some u=>
   obtain⟨w,hw⟩:=o.there
   have:=hn p b (by rw[q];simp)
   rw[hw]at this;cases this
 ln:=S.ln
 inj:=S.inj
 sf:=fun i d e=>by
  obtain⟨p,a,b,c,m,z,o⟩:=S.sf i d e
  refine⟨p,a,?_,c,m,z,o.mono hG fun u q=>hH _ _ q⟩
  cases q:G' p with
  | none=>rfl
  | some u=>
   obtain⟨w,hw⟩:=o.there
   have:=hn p b (by rw[q];simp)
   rw[hw]at this;cases this
 su:=S.su
theorem StR.alloc(S:StR C G H σ ς){p:Addr}{o:HO}(h:H p=none):StR C (upd G p o) (upd H p o) σ ς:=
 S.grow (QF h) (QF (S.sub.free h)) (QkV S.sub) fun b g n=>by
  by_cases hb:b=p
  ·subst hb;exact h
  ·rw[Qn hb,g]at n;exact absurd rfl n
theorem StR.allocO(S:StR C G H σ ς){p:Addr}{o:HO}(h:H p=none):StR C G (upd H p o) σ ς:=
 S.grow (QF h) (Same.refl G) (S.sub.trans (QF h)) fun b g n=>absurd g n
end
def KD(C:Dc)(G H:Hp)(σ:St)(ς:SD)(Q:VK)(d:D):Prop:=∀ v H' G',StR C G' H' σ ς->Same H H'->Same G G'->Rep C.X.K C.CT G' d v->Q v H'
def KB(C:Dc)(G H:Hp)(σ:St)(ς:SD)(Q:VK)(d:D):Prop:=∀ v H' G',StR C G' H' σ ς->Same H H'->Same G G'->Rep C.X.K C.CT H' d v->Q v H'
def KF(C:Dc)(G H:Hp)(σ:St)(ς:SD)(Q:VK)(d:D):Prop:=∀ p H' G',StR C G' H' σ ς->Same H H'->Same G G'->H p=none->G' p=none->Own C.X.K C.CT G' H' p d->Q (.ref p) H'
def DE(C:Dc)(e:Expr)(E:SD->Out D):Prop:=∃ t,PE C.X e t/\∀ G H σ ς Q,StR C G H σ ς->(E ς).post (KD C G H σ ς Q) C.XD->t σ H Q
def DB(C:Dc)(e:Expr)(E:SD->Out D):Prop:=∃ t,PE C.X e t/\∀ G H σ ς Q,StR C G H σ ς->(E ς).post (KB C G H σ ς Q) C.XD->t σ H Q
def DF(C:Dc)(e:Expr)(E:SD->Out D):Prop:=∃ t,PE C.X e t/\∀ G H σ ς Q,StR C G H σ ς->(E ς).post (KF C G H σ ς Q) C.XD->t σ H Q
def KT(C:Dc)(G H:Hp)(σ:St)(ς:SD)(Q:Bool->Hp->Prop)(b:Bool):Prop:=∀ H' G',StR C G' H' σ ς->Same H H'->Same G G'->Q b H'
def DT(C:Dc)(e:Expr)(T:SD->Out Bool):Prop:=∃ t,PT C.X e t/\∀ G H σ ς Q,StR C G H σ ς->(T ς).post (KT C G H σ ς Q) C.XD->t σ H Q
def DW(C:Dc)(e:Expr)(T:SD->Out Bool):Prop:=∃ t,PW C.X e t/\∀ G H σ ς Q,StR C G H σ ς->(T ς).post (KT C G H σ ς Q) C.XD->t σ H Q
def DA(C:Dc)(es:List Expr)(A:SD->Out (List D)):Prop:=∃ t,PA C.X es t/\∀ G H σ ς Q,StR C G H σ ς->
 (A ς).post (fun ds=>∀ vs H' G',StR C G' H' σ ς->Same H H'->Same G G'->RepL C.X.K C.CT G' ds vs->Q vs H') C.XD->t σ H Q
def DAB(C:Dc)(es:List Expr)(A:SD->Out (List D)):Prop:=∃ t,PA C.X es t/\∀ G H σ ς Q,StR C G H σ ς->
 (A ς).post (fun ds=>∀ vs H' G',StR C G' H' σ ς->Same H H'->Same G G'->RepL C.X.K C.CT H' ds vs->Q vs H') C.XD->t σ H Q
inductive Fl where
 | nx (ς:SD) | rt (fr:Bool) (d:D) | bk (ς:SD) | ct (ς:SD)
def RetR(K:W.Frag)(CT:CTab)(fr:Bool)(H0 G' H':Hp)(d:D)(v:V):Prop:=
 if fr=true then ∃ p,v=.ref p/\H0 p=none/\G' p=none/\Own K CT G' H' p d else Rep K CT G' d v
def FlK(C:Dc)(G:Hp)(W:Ends):Fl->Prop
 | .nx ς'=>∀ σ' H' G',StR C G' H' σ' ς'->Same G G'->W.nx σ' H'
 | .bk ς'=>∀ σ' H' G',StR C G' H' σ' ς'->Same G G'->W.bk σ' H'
 | .ct ς'=>∀ σ' H' G',StR C G' H' σ' ς'->Same G G'->W.ct σ' H'
 | .rt fr d=>∀ v H' G',GH C G' H'->Same G G'->RetR C.X.K C.CT fr C.X.H₀ G' H' d v->W.rt v H'
def DS(C:Dc)(st:Stmt)(T:SD->Out Fl):Prop:=∃ t,PS C.X st t/\∀ G H σ ς W,StR C G H σ ς->(T ς).post (FlK C G W) C.XD->t W σ H
def DSs(C:Dc)(st:List Stmt)(T:SD->Out Fl):Prop:=∃ t,PSs C.X st t/\∀ G H σ ς W,StR C G H σ ς->(T ς).post (FlK C G W) C.XD->t W σ H
section
variable{C:Dc}{e:Expr}{E:SD->Out D}
theorem StR.freeze{G H:Hp}{σ:St}{ς:SD}(S:StR C G H σ ς){p:Addr}{o:HO}(hp:H p=some o)(hg:G p=none)(h0:C.X.H₀ p=none)(hn:∀(i:Nat) d,ς[i]?=some (some (.o,d))->σ[i]?≠some (some (.ref p))):StR C (upd G p o) H σ ς where
 sub:=fun b u q=>by
  by_cases hb:b=p
  ·subst hb;rw[QP]at q;cases q;exact hp
  ·rw[Qn hb]at q;exact S.sub b u q
 g0:=S.g0.trans (QF hg)
 new:=fun b h1 h2=>by
  by_cases hb:b=p
  ·subst hb;exact h0
  ·rw[Qn hb]at h2;exact S.new b h1 h2
 fr:=S.fr
 dom:=S.dom
 bs:=S.bs
 bh:=S.bh
 len:=S.len
 fz:=fun i d q=>let ⟨v,a,b⟩:=S.fz i d q;⟨v,a,Rep.mono (QF hg) d v b⟩
 ow:=fun i d q=>by
  obtain⟨r,a,b,c,w⟩:=S.ow i d q
  refine⟨r,a,?_,c,w.mono (QF hg) fun _ z=>z⟩
  rw[Qn (by rintro rfl;exact hn i d q a)];exact b
 ln:=S.ln
 inj:=S.inj
 sf:=fun i d q=>by
  obtain⟨r,a,b,c,m,z,w⟩:=S.sf i d q
  refine⟨r,a,?_,c,m,z,w.mono (QF hg) fun _ z=>z⟩
  rw[Qn (by rintro rfl;exact c h0)];exact b
 su:=S.su
theorem Own.known{K:W.Frag}{CT:CTab}{G H:Hp}{p:Addr}{o:HO}(hg:G p=none)(hp:H p=some o):∀{d:D},Own K CT G H p d->Rep K CT (upd G p o) d (.ref p)
 | .lst ds,⟨vs,a,b⟩=>by rw[hp]at a;cases a;exact⟨p,vs,rfl,SqL.of QP,RepL.mono (QF hg) ds vs b⟩
 | .dic ds,⟨vs,a,b⟩=>by rw[hp]at a;cases a;exact⟨p,vs,rfl,Rd.of QP,RepK.mono (QF hg) ds vs b⟩
 | .ins _ ds,⟨A,dx,fs,e,a,b⟩=>by rw[hp]at a;cases a;exact⟨p,A,dx,fs,rfl,e,QP,RepF.mono (QF hg) ds fs b⟩
 | .non,h=>h.elim
 | .bl _,h=>h.elim
 | .int _,h=>h.elim
 | .str _,h=>h.elim
 | .tup _,h=>h.elim
theorem StR.new_ne{G H:Hp}{σ:St}{ς:SD}(S:StR C G H σ ς){p:Addr}(h:H p=none):∀(i:Nat) d,ς[i]?=some (some (.o,d))->σ[i]?≠some (some (.ref p)):=fun i d q z=>by
 obtain⟨o,w⟩:=S.own_ne q z
 rw[h]at w;cases w
theorem KD.ofF{G H:Hp}{σ:St}{ς:SD}{Q:VK}{d:D}(S:StR C G H σ ς)(k:KD C G H σ ς Q d):KF C G H σ ς Q d:=fun p H' G' S' hH hG hp hg ow=>by
 obtain⟨o,ho⟩:=ow.there
 exact k _ _ _ (S'.freeze ho hg (S.h0none hp) (S.new_ne hp)) hH (hG.trans (QF hg)) (ow.known hg ho)
theorem DF.de(h:DF C e E):DE C e E:=by
 obtain⟨t,h1,h2⟩:=h
 refine⟨t,h1,fun G H σ ς Q S q=>h2 G H σ ς Q S (Out.post_mono q fun d k=>KD.ofF S k)⟩
theorem DE.db(h:DE C e E):DB C e E:=by
 obtain⟨t,h1,h2⟩:=h
 refine⟨t,h1,fun G H σ ς Q S q=>h2 G H σ ς Q S (Out.post_mono q fun d k v H' G' S' a b r=>k v H' G' S' a b (Rep.mono S'.sub d v r))⟩
def D.scal:D->Bool
 | .non=>true
 | .bl _=>true
 | .int _=>true
 | .str _=>true
 | _=>false
theorem Rep.scal{K:W.Frag}{CT:CTab}{G H:Hp}:∀{d:D}{v:V},d.scal=true->Rep K CT H d v->Rep K CT G d v
 | .non,_,_,h=>h
 | .bl _,_,_,h=>h
 | .int _,_,_,h=>h
 | .str _,_,_,h=>h
def QiP(o:Out D):Out D:=o>>=fun d=>if d.scal=true then .ok d else .stuck
theorem DB.de(h:DB C e E):DE C e (fun ς=>QiP (E ς)):=by
 obtain⟨t,h1,h2⟩:=h
 refine⟨t,h1,fun G H σ ς Q S q=>h2 G H σ ς Q S ?_⟩
 unfold QiP at q
 rw[Out.post_bind]at q
 refine Out.post_mono q fun d k v H' G' S' a b r=>?_
 by_cases hs:d.scal=true
 ·rw[if_pos hs]at k
  exact k v H' G' S' a b (r.scal hs)
 ·rw[if_neg hs]at k
  exact k.elim
theorem KD.now{G H:Hp}{σ:St}{ς:SD}{Q:VK}{d:D}{v:V}(k:KD C G H σ ς Q d)(S:StR C G H σ ς)(r:Rep C.X.K C.CT G d v):Q v H:=k v H G S (Same.refl H) (Same.refl G) r
theorem KB.now{G H:Hp}{σ:St}{ς:SD}{Q:VK}{d:D}{v:V}(k:KB C G H σ ς Q d)(S:StR C G H σ ς)(r:Rep C.X.K C.CT H d v):Q v H:=k v H G S (Same.refl H) (Same.refl G) r
theorem KT.now{G H:Hp}{σ:St}{ς:SD}{Q:Bool->Hp->Prop}{b:Bool}(k:KT C G H σ ς Q b)(S:StR C G H σ ς):Q b H:=k H G S (Same.refl H) (Same.refl G)
theorem KD.later{G H G1 H1:Hp}{σ:St}{ς:SD}{Q:VK}{d:D}(k:KD C G H σ ς Q d)(hH:Same H H1)(hG:Same G G1):KD C G1 H1 σ ς Q d:=fun v H' G' S a b r=>k v H' G' S (hH.trans a) (hG.trans b) r
theorem KB.later{G H G1 H1:Hp}{σ:St}{ς:SD}{Q:VK}{d:D}(k:KB C G H σ ς Q d)(hH:Same H H1)(hG:Same G G1):KB C G1 H1 σ ς Q d:=fun v H' G' S a b r=>k v H' G' S (hH.trans a) (hG.trans b) r
theorem KT.later{G H G1 H1:Hp}{σ:St}{ς:SD}{Q:Bool->Hp->Prop}{d:Bool}(k:KT C G H σ ς Q d)(hH:Same H H1)(hG:Same G G1):KT C G1 H1 σ ς Q d:=fun H' G' S a b=>k H' G' S (hH.trans a) (hG.trans b)
theorem KF.later{G H G1 H1:Hp}{σ:St}{ς:SD}{Q:VK}{d:D}(k:KF C G H σ ς Q d)(hH:Same H H1)(hG:Same G G1):KF C G1 H1 σ ς Q d:=fun p H' G' S a b hp hg ow=>k p H' G' S (hH.trans a) (hG.trans b) (hH.free hp) hg ow
theorem KF.lst{G H:Hp}{σ:St}{ς:SD}{Q:VK}{ds:List D}{vs:List V}(k:KF C G H σ ς Q (.lst ds))(S:StR C G H σ ς)(r:RepL C.X.K C.CT G ds vs):∀ p,H p=none->Q (.ref p) (upd H p (.lst vs)):=fun p hp=>
 k p _ G (S.allocO hp) (QF hp) (Same.refl G) hp (S.gnone hp) ⟨vs,QP,r⟩
theorem KD.tup{G H:Hp}{σ:St}{ς:SD}{Q:VK}{ds:List D}{vs:List V}(k:KD C G H σ ς Q (.tup ds))(S:StR C G H σ ς)(r:RepL C.X.K C.CT G ds vs):∀ p,H p=none->Q (.ref p) (upd H p (.tup vs)):=fun p hp=>
 k _ _ _ (S.alloc hp) (QF hp) (QF (S.gnone hp)) ⟨p,vs,rfl,SqT.of QP,RepL.mono (QF (S.gnone hp)) ds vs r⟩
end
end DL
namespace DL
open PySem PySem.Spec PyProof.Rows L2
def eVar(i:Nat):SD->Out D:=fun ς=>match ς[i]? with | some (some (.k,d))=>.ok d | _=>.stuck
def eVarB(i:Nat):SD->Out D:=fun ς=>match ς[i]? with | some (some (_,d))=>.ok d | _=>.stuck
def eC(d:D):SD->Out D:=fun _=>.ok d
section
variable{C:Dc}{pos:Pos}
theorem QLy{i:Nat}{ς:SD}{k:D->Prop}{x:D->Prop}(h:(eVar i ς).post k x):∃ d,ς[i]?=some (some (.k,d))/\k d:=by
 unfold eVar at h
 split at h
 ·rename_i d e;exact⟨d,e,h⟩
 ·exact h.elim
theorem QJ3{i:Nat}{ς:SD}{k:D->Prop}{x:D->Prop}(h:(eVarB i ς).post k x):∃ b d,ς[i]?=some (some (b,d))/\k d:=by
 unfold eVarB at h
 split at h
 ·rename_i b d e;exact⟨b,d,e,h⟩
 ·exact h.elim
theorem Qa(i:Nat){x:Str}(hN:C.X.N[i]?=some x:=by rfl)(hv:Vis C.X.env.scope x:=by first | exact Or.inl rfl | exact Or.inr (oi rfl) | exact Or.inr (Or.inr rfl))
 (hd:‹"d"›:=by decide) (hcd:‹"I"›:=by decide):DE C (.Name x pos) (eVar i):=by
 refine⟨_,Qex (i:=i) hN hv hd hcd,fun G H σ ς Q S q=>?_⟩
 obtain⟨d,e,k⟩:=QLy q
 obtain⟨v,a,b⟩:=S.fz i d e
 exact⟨v,a,k.now S b⟩
theorem QkE(i:Nat){x:Str}(hN:C.X.N[i]?=some x:=by rfl)(hv:Vis C.X.env.scope x:=by first | exact Or.inl rfl | exact Or.inr (oi rfl) | exact Or.inr (Or.inr rfl))
 (hd:‹"d"›:=by decide) (hcd:‹"I"›:=by decide):DB C (.Name x pos) (eVarB i):=by
 refine⟨_,Qex (i:=i) hN hv hd hcd,fun G H σ ς Q S q=>?_⟩
 obtain⟨b,d,e,k⟩:=QJ3 q
 cases b with
 | k=>
  obtain⟨v,a,b⟩:=S.fz i d e
  exact⟨v,a,k.now S (Rep.mono S.sub d v b)⟩
 | o=>
  obtain⟨p,a,b,c,w⟩:=S.ow i d e
  exact⟨_,a,k.now S (w.rep S.sub)⟩
 | l=>
  obtain⟨v,a,b⟩:=S.ln i d e
  exact⟨v,a,k.now S (Rep.mono S.bs d v b)⟩
 | s=>
  obtain⟨p,a,b,c,m,z,w⟩:=S.sf i d e
  exact⟨_,a,k.now S (w.rep S.sub)⟩
theorem Qe{i:Int}{j}:DE C (.Constant (.int i) j pos) (eC (.int i)):=⟨_,QPI,fun G H σ ς Q S q=>KD.now q S rfl⟩
theorem de_bl{b:Bool}{j}:DE C (.Constant (.bool b) j pos) (eC (.bl b)):=⟨_,pe_bl,fun G H σ ς Q S q=>KD.now q S rfl⟩
theorem QOV{j}:DE C (.Constant .none j pos) (eC .non):=⟨_,QPL,fun G H σ ς Q S q=>KD.now q S rfl⟩
theorem QhE{x:Str}{j}:DE C (.Constant (.str x) j pos) (eC (.str x)):=⟨_,QOz,fun G H σ ς Q S q=>KD.now q S rfl⟩
def toV:D->V
 | .bl b=>.bl b
 | .int i=>.int i
 | .str x=>.str x
 | _=>.non
theorem QrI{K:W.Frag}{CT:CTab}{H:Hp}:∀{d:D},d.scal=true->Rep K CT H d (toV d)
 | .non,_=>rfl
 | .bl _,_=>rfl
 | .int _,_=>rfl
 | .str _,_=>rfl
theorem Qdw{x:Str}{d:D}{u:Value}(hg:Gl C.X x)(hm:C.X.mg x=some u)(hs:d.scal=true)(r:RelV (toV d) u)(hd:‹"d"›:=by decide):DE C (.Name x pos) (eC d):=
 ⟨_,QiJ hg hm r hd,fun G H σ ς Q S q=>KD.now q S (QrI hs)⟩
end
def e1(f:D->Out D)(a:SD->Out D):SD->Out D:=fun ς=>a ς>>=f
def e2(f:D->D->Out D)(a b:SD->Out D):SD->Out D:=fun ς=>a ς>>=fun x=>b ς>>=fun y=>f x y
def DRS(C:Dc)(r:R2)(f:D->D->Out D):Prop:=∀ G H σ ς (Q:VK) x y vx vy,StR C G H σ ς->Rep C.X.K C.CT H x vx->Rep C.X.K C.CT H y vy->
 (f x y).post (fun d=>d.scal=true/\Q (toV d) H) (fun _=>False)->r vx vy H Q
def scal2(f:D->D->Out D):Prop:=∀ x y,match f x y with | .ok d=>d.scal=true | .exc _=>False | .stuck=>True
section
variable{C:Dc}{a b c:Expr}{A B A':SD->Out D}{pos:Pos}
theorem Qg5{o:Out D}{G H:Hp}{σ:St}{ς:SD}{Q:VK}(S:StR C G H σ ς)(hs:match o with | .ok d=>d.scal=true | .exc _=>False | .stuck=>True)(q:o.post (KD C G H σ ς Q) C.XD):
 o.post (fun d=>d.scal=true/\Q (toV d) H) (fun _=>False):=by
 cases o with
 | ok d=>exact⟨hs,KD.now q S (QrI hs)⟩
 | exc _=>exact hs
 | stuck=>exact q
theorem dop{t:TE}{r:R2}{f:D->D->Out D}{ta tb:TE}(hr:DRS C r f)(hs:scal2 f)
 (h1:∀ G H σ ς Q,StR C G H σ ς->(A ς).post (KB C G H σ ς Q) C.XD->ta σ H Q) (h2:∀ G H σ ς Q,StR C G H σ ς->(B ς).post (KB C G H σ ς Q) C.XD->tb σ H Q):
 ∀ G H σ ς Q,StR C G H σ ς->(e2 f A B ς).post (KD C G H σ ς Q) C.XD->tOp r ta tb σ H Q:=by
 intro G H σ ς Q S q
 unfold e2 at q
 rw[Out.post_bind]at q
 refine h1 G H σ ς _ S (Out.post_mono q fun x k v1 H1 G1 S1 a1 b1 r1=>?_)
 rw[Out.post_bind]at k
 refine h2 G1 H1 σ ς _ S1 (Out.post_mono k fun y k2 v2 H2 G2 S2 a2 b2 r2=>?_)
 refine hr G2 H2 σ ς _ x y v1 v2 S2 (Rep.mono a2 x v1 r1) r2 (Qg5 S2 (hs x y) ?_)
 exact Out.post_mono k2 fun d kd=>KD.later kd (a1.trans a2) (b1.trans b2)
theorem de_op{op:Operator}{r:R2}{f:D->D->Out D}(ho:OpR C.X (binaryOp op) r)(hr:DRS C r f)(hs:scal2 f)(ha:DB C a A)(hb:DB C b B):DE C (.BinOp a op b pos) (e2 f A B):=by
 obtain⟨ta,p1,q1⟩:=ha
 obtain⟨tb,p2,q2⟩:=hb
 exact⟨_,pe_op ho p1 p2,dop (t:=ta) hr hs q1 q2⟩
theorem Qxf{op:CmpOp}{r:R2}{f:D->D->Out D}(ho:OpR C.X (compareOp op) r)(hr:DRS C r f)(hs:scal2 f)(ha:DB C a A)(hb:DB C b B)(hm:behindInMarks op b=false):DE C (.Compare a [op] [b] pos) (e2 f A B):=by
 obtain⟨ta,p1,q1⟩:=ha
 obtain⟨tb,p2,q2⟩:=hb
 exact⟨_,QNK ho p1 p2 hm,dop (t:=ta) hr hs q1 q2⟩
def tVal(a:SD->Out D):SD->Out Bool:=fun ς=>a ς>>=fun d=>match d with | .bl b=>.ok b | _=>.stuck
theorem Qk6{o:Out D}{G H:Hp}{σ:St}{ς:SD}{Q:Bool->Hp->Prop}(q:(o>>=fun d=>match d with | .bl b=>Out.ok b | _=>.stuck).post (KT C G H σ ς Q) C.XD):
 o.post (KD C G H σ ς fun x H'=>∃ k,x=.bl k/\Q k H') C.XD:=by
 rw[Out.post_bind]at q
 refine Out.post_mono q fun d k v H' G' S' a b r=>?_
 cases d with
 | bl c=>exact⟨c,r,k H' G' S' a b⟩
 | _=>exact k.elim
theorem QiS{op:CmpOp}{r:R2}{f:D->D->Out D}(ho:OpR C.X (compareOp op) r)(hr:DRS C r f)(hs:scal2 f)(ha:DB C a A)(hb:DB C b B)(hm:behindInMarks op b=false):DT C (.Compare a [op] [b] pos) (tVal (e2 f A B)):=by
 obtain⟨ta,p1,q1⟩:=ha
 obtain⟨tb,p2,q2⟩:=hb
 exact⟨_,QND ho p1 p2 hm,fun G H σ ς Q S q=>dop (t:=ta) hr hs q1 q2 G H σ ς _ S (Qk6 q)⟩
theorem Qag(h:DE C a A)(he:∀ whole,isTrue a C.X.env whole=(do let v ← whole;standAt a.pos;holding [v] (truthy v)):=by intro _;rfl):DT C a (tVal A):=by
 obtain⟨ta,p1,q1⟩:=h
 exact⟨_,QPx p1 he,fun G H σ ς Q S q=>q1 G H σ ς _ S (Qk6 q)⟩
def QdK(f g:D->D->Out D)(a b c:SD->Out D):SD->Out D:=fun ς=>a ς>>=fun x=>b ς>>=fun y=>f x y>>=fun z=>match z with
 | .bl true=>c ς>>=fun w=>g y w
 | .bl false=>.ok (.bl false)
 | _=>.stuck
theorem QIW{r r':R2}{f g:D->D->Out D}{ta tb tc:TE}(hr:DRS C r f)(hs:scal2 f)(hr':DRS C r' g)(hs':scal2 g)
 (h1:∀ G H σ ς Q,StR C G H σ ς->(A ς).post (KB C G H σ ς Q) C.XD->ta σ H Q) (h2:∀ G H σ ς Q,StR C G H σ ς->(B ς).post (KB C G H σ ς Q) C.XD->tb σ H Q)
 (h3:∀ G H σ ς Q,StR C G H σ ς->(A' ς).post (KB C G H σ ς Q) C.XD->tc σ H Q):
 ∀ G H σ ς Q,StR C G H σ ς->(QdK f g A B A' ς).post (KD C G H σ ς Q) C.XD->QxR r r' ta tb tc σ H Q:=by
 intro G H σ ς Q S q
 unfold QdK at q
 rw[Out.post_bind]at q
 refine h1 G H σ ς _ S (Out.post_mono q fun x k v1 H1 G1 S1 a1 b1 r1=>?_)
 rw[Out.post_bind]at k
 refine h2 G1 H1 σ ς _ S1 (Out.post_mono k fun y k2 v2 H2 G2 S2 a2 b2 r2=>?_)
 rw[Out.post_bind]at k2
 refine hr G2 H2 σ ς _ x y v1 v2 S2 (Rep.mono a2 x v1 r1) r2 ?_
 have hxy:=hs x y
 cases e:f x y with
 | exc _=>rw[e]at hxy;exact hxy
 | stuck=>rw[e]at k2;exact k2.elim
 | ok z=>
  rw[e]at k2
  refine⟨by rw[e]at hxy;exact hxy,?_⟩
  cases z with
  | bl cc=>
   refine⟨cc,rfl,?_⟩
   cases cc with
   | false=>exact iteF (KD.now (KD.later (show KD C G H σ ς Q (.bl false) from k2) (a1.trans a2) (b1.trans b2)) S2 rfl)
   | true=>
    refine iteT (h3 G2 H2 σ ς _ S2 ?_)
    have k2':(A' ς>>=fun w=>g y w).post (KD C G H σ ς Q) C.XD:=k2
    rw[Out.post_bind]at k2'
    refine Out.post_mono k2' fun w k3 v3 H3 G3 S3 a3 b3 r3=>?_
    refine hr' G3 H3 σ ς _ y w v2 v3 S3 (Rep.mono a3 y v2 r2) r3 (Qg5 S3 (hs' y w) ?_)
    exact Out.post_mono k3 fun d kd=>KD.later kd ((a1.trans a2).trans a3) ((b1.trans b2).trans b3)
  | _=>exact k2.elim
theorem Qx0{op op':CmpOp}{r r':R2}{f g:D->D->Out D}(ho:OpR C.X (compareOp op) r)(hr:DRS C r f)(hs:scal2 f)(ho':OpR C.X (compareOp op') r')(hr':DRS C r' g)(hs':scal2 g)
 (ha:DB C a A) (hb:DB C b B) (hc:DB C c A') (hm:lastMarks [op,op'] [b,c]=false:=by with_unfolding_all rfl):DE C (.Compare a [op,op'] [b,c] pos) (QdK f g A B A'):=by
 obtain⟨ta,p1,q1⟩:=ha
 obtain⟨tb,p2,q2⟩:=hb
 obtain⟨tc,p3,q3⟩:=hc
 exact⟨_,QLd ho ho' p1 p2 p3 hm,QIW hr hs hr' hs' q1 q2 q3⟩
theorem Qz6{op op':CmpOp}{r r':R2}{f g:D->D->Out D}(ho:OpR C.X (compareOp op) r)(hr:DRS C r f)(hs:scal2 f)(ho':OpR C.X (compareOp op') r')(hr':DRS C r' g)(hs':scal2 g)
 (ha:DB C a A) (hb:DB C b B) (hc:DB C c A') (hm:lastMarks [op,op'] [b,c]=false:=by with_unfolding_all rfl):DT C (.Compare a [op,op'] [b,c] pos) (tVal (QdK f g A B A')):=by
 obtain⟨ta,p1,q1⟩:=ha
 obtain⟨tb,p2,q2⟩:=hb
 obtain⟨tc,p3,q3⟩:=hc
 exact⟨_,QKY ho ho' p1 p2 p3 hm,fun G H σ ς Q S q=>QIW hr hs hr' hs' q1 q2 q3 G H σ ς _ S (Qk6 q)⟩
end
section
variable{C:Dc}
def dI(cnd:Int->Int->Bool)(g:Int->Int->D):D->D->Out D
 | .int i,.int j=>if cnd i j=true then .ok (g i j) else .stuck
 | _,_=>.stuck
def dI0(g:Int->Int->D):D->D->Out D
 | .int i,.int j=>.ok (g i j)
 | _,_=>.stuck
theorem QT{α:Type}{c:Prop}[Decidable c]{a b:Out α}{k:α->Prop}{x:D->Prop}(h:(if c then a else b).post k x):(c/\a.post k x)∨(¬ c/\b.post k x):=by
 by_cases e:c
 ·rw[if_pos e]at h;exact .inl ⟨e,h⟩
 ·rw[if_neg e]at h;exact .inr ⟨e,h⟩
theorem Qhf{c:Prop}[Decidable c]{d:D}(h:d.scal=true):match (if c then Out.ok d else Out.stuck:Out D) with | .ok d=>d.scal=true | .exc _=>False | .stuck=>True:=by
 by_cases e:c
 ·rw[if_pos e];exact h
 ·rw[if_neg e];exact True.intro
theorem Qmh{cnd:Int->Int->Bool}{g:Int->Int->D}(h:∀ i j,(g i j).scal=true):scal2 (dI cnd g):=by
 intro x y
 cases x with
 | int i=>
  cases y with
  | int j=>exact Qhf (h i j)
  | _=>exact True.intro
 | _=>exact True.intro
theorem Qbx{g:Int->Int->D}(h:∀ i j,(g i j).scal=true):scal2 (dI0 g):=by
 intro x y
 cases x<;>cases y<;>simp[dI0,h]
theorem QpT{cnd:Int->Int->Bool}{P:Int->Int->Prop}{g:Int->Int->D}(hP:∀ i j,cnd i j=true->P i j):DRS C (rI P fun i j=>toV (g i j)) (dI cnd g):=by
 intro G H σ ς Q x y vx vy S hx hy q
 cases x with
 | int i=>
  cases y with
  | int j=>
   cases hx;cases hy
   refine⟨i,j,rfl,rfl,?_⟩
   rcases QT (show(if cnd i j=true then Out.ok (g i j) else Out.stuck).post _ _ from q) with⟨hc,q⟩ | ⟨hc,q⟩
   ·exact⟨hP i j hc,q.2⟩
   ·exact q.elim
  | _=>exact q.elim
 | _=>exact q.elim
theorem Qb3{g:Int->Int->D}:DRS C (rI0 fun i j=>toV (g i j)) (dI0 g):=by
 intro G H σ ς Q x y vx vy S hx hy q
 cases x with
 | int i=>
  cases y with
  | int j=>
   cases hx;cases hy
   exact⟨i,j,rfl,rfl,q.2⟩
  | _=>exact q.elim
 | _=>exact q.elim
variable{a b c:Expr}{A B:SD->Out D}{pos:Pos}
def dSub:D->D->Out D:=dI0 fun i j=>.int (i - j)
def big(i:Int):Bool:=decide (i.natAbs<2 ^ 9000)
def dMul:D->D->Out D:=dI (fun i j=>decide (Builtin.Int.intBits i+Builtin.Int.intBits j<=134217728)) fun i j=>.int (i * j)
def dFdiv:D->D->Out D:=dI (fun i j=>decide (j≠0)&&big j) fun i j=>.int (i.fdiv j)
def dMod:D->D->Out D:=dI (fun i j=>decide (j≠0)) fun i j=>.int (i.fmod j)
def dPow:D->D->Out D:=dI (fun i j=>decide (0<=j)&&decide (j<=1000000)&&decide (i.natAbs<2 ^ 64)) fun i j=>.int (i ^ j.toNat)
theorem QLA{i:Int}(h:big i=true):i.natAbs.log2<9000:=by
 have h':i.natAbs<2 ^ 9000:=of_decide_eq_true h
 by_cases z:i.natAbs=0
 ·rw[z];decide
 ·exact(Nat.log2_lt z).mpr h'
theorem QN2{X:Cx}:OpR X (binaryOp .Mult) (rI IntMulOk fun i j=>.int (i * j)):=opI fun _ _ _ _ _ _ _ hc q=>mul_int q hc
def CDivB(i j:Int):Prop:=j≠0/\j.natAbs.log2<9000
theorem QLm{X:Cx}:OpR X (binaryOp .FloorDiv) (rI CDivB fun i j=>.int (i.fdiv j)):=opI fun _ _ _ _ _ _ _ hc q=>floordiv_int hc.1 q (.inl (PyProof.noPylong_of_log2 hc.2))
theorem Qa6(ha:DB C a A)(hb:DB C b B):DE C (.BinOp a .Sub b pos) (e2 dSub A B):=de_op QQg Qb3 (Qbx fun _ _=>rfl) ha hb
theorem QaC(ha:DB C a A)(hb:DB C b B):DE C (.BinOp a .Mult b pos) (e2 dMul A B):=de_op QN2 (QpT fun i j h=>IntMulOk.of_le (Nat.le_refl _) (Nat.le_refl _) (of_decide_eq_true h)) (Qmh fun _ _=>rfl) ha hb
theorem Qbf(ha:DB C a A)(hb:DB C b B):DE C (.BinOp a .FloorDiv b pos) (e2 dFdiv A B):=de_op QLm (QpT fun i j h=>by
 rw[Bool.and_eq_true]at h
 exact⟨of_decide_eq_true h.1,QLA h.2⟩) (Qmh fun _ _=>rfl) ha hb
theorem Qar(ha:DB C a A)(hb:DB C b B):DE C (.BinOp a .Mod b pos) (e2 dMod A B):=de_op QNq (QpT fun i j h=>of_decide_eq_true h) (Qmh fun _ _=>rfl) ha hb
theorem Qz7(ha:DB C a A)(hb:DB C b B):DE C (.BinOp a .Pow b pos) (e2 dPow A B):=de_op QPe (QpT fun i j h=>by
 rw[Bool.and_eq_true,Bool.and_eq_true]at h
 exact⟨of_decide_eq_true h.1.1,of_decide_eq_true h.1.2,of_decide_eq_true h.2⟩) (Qmh fun _ _=>rfl) ha hb
def dAdd:D->D->Out D
 | .int i,.int j=>.ok (.int (i+j))
 | .str x,.str y=>if x.length+y.length<=sizeLine then .ok (.str (x++y)) else .stuck
 | _,_=>.stuck
theorem Qaf(ha:DB C a A)(hb:DB C b B):DE C (.BinOp a .Add b pos) (e2 dAdd A B):=by
 refine de_op (QP9.or QFP) ?_ ?_ ha hb
 ·intro G H σ ς Q x y vx vy S hx hy q
  cases x with
  | int i=>
   cases y with
   | int j=>
    cases hx;cases hy
    exact .inl ⟨i,j,rfl,rfl,q.2⟩
   | _=>exact q.elim
  | str i=>
   cases y with
   | str j=>
    cases hx;cases hy
    rcases QT (show(if i.length+j.length<=sizeLine then Out.ok (D.str (i++j)) else Out.stuck).post _ _ from q) with⟨hc,q⟩ | ⟨hc,q⟩
    ·exact .inr ⟨i,j,rfl,rfl,hc,q.2⟩
    ·exact q.elim
   | _=>exact q.elim
  | _=>exact q.elim
 ·intro x y
  cases x with
  | int i=>
   cases y with
   | int j=>exact rfl
   | _=>exact True.intro
  | str i=>
   cases y with
   | str j=>exact Qhf rfl
   | _=>exact True.intro
  | _=>exact True.intro
def dLt:D->D->Out D:=dI0 fun i j=>.bl (decide (i<j))
def dLe:D->D->Out D:=dI0 fun i j=>.bl (decide (i<=j))
def dGt:D->D->Out D:=dI0 fun i j=>.bl (decide (j<i))
def dGe:D->D->Out D:=dI0 fun i j=>.bl (decide (j<=i))
end
section
variable{C:Dc}{a b c:Expr}{A B:SD->Out D}{pos:Pos}
def dNeg:D->Out D
 | .int i=>.ok (.int (-i))
 | _=>.stuck
theorem Qgu(ha:DB C a A):DE C (.UnaryOp .USub a pos) (e1 dNeg A):=by
 obtain⟨ta,p1,q1⟩:=ha
 refine⟨_,pe_un QPR p1,fun G H σ ς Q S q=>?_⟩
 unfold e1 at q
 rw[Out.post_bind]at q
 refine q1 G H σ ς _ S (Out.post_mono q fun x k v1 H1 G1 S1 a1 b1 r1=>?_)
 cases x with
 | int i=>cases r1;exact⟨i,rfl,KD.now (KD.later k a1 b1) S1 rfl⟩
 | _=>exact k.elim
variable{TA TB:SD->Out Bool}{rest:List Expr}
def tAnd'(a b:SD->Out Bool):SD->Out Bool:=fun ς=>a ς>>=fun c=>if c=true then b ς else .ok false
def tOr'(a b:SD->Out Bool):SD->Out Bool:=fun ς=>a ς>>=fun c=>if c=true then .ok true else b ς
def tNot'(a:SD->Out Bool):SD->Out Bool:=fun ς=>a ς>>=fun c=>.ok (!c)
theorem DW.dt{e:Expr}{T:SD->Out Bool}(h:DW C e T):DT C e T:=let ⟨t,p,q⟩:=h;⟨t,p.pt,q⟩
theorem QMN(ha:DT C a TA):DW C (.BoolOp .And [a] pos) TA:=let ⟨t,p,q⟩:=ha;⟨t,QNu p,q⟩
theorem QdT(ha:DT C a TA):DW C (.BoolOp .Or [a] pos) TA:=let ⟨t,p,q⟩:=ha;⟨t,QP8 p,q⟩
theorem QQh(ha:DT C a TA)(hb:DW C (.BoolOp .And (b::rest) pos) TB):DW C (.BoolOp .And (a::b::rest) pos) (tAnd' TA TB):=by
 obtain⟨t1,p1,q1⟩:=ha
 obtain⟨t2,p2,q2⟩:=hb
 refine⟨_,QQr p1 p2,fun G H σ ς Q S q=>?_⟩
 unfold tAnd' at q
 rw[Out.post_bind]at q
 refine q1 G H σ ς _ S (Out.post_mono q fun x k H1 G1 S1 a1 b1=>?_)
 cases x with
 | true=>exact iteT (q2 G1 H1 σ ς _ S1 (Out.post_mono (show(TB ς).post _ _ from k) fun x k=>KT.later k a1 b1))
 | false=>exact iteF (KT.now (KT.later (show KT C G H σ ς Q false from k) a1 b1) S1)
theorem dw_or(ha:DT C a TA)(hb:DW C (.BoolOp .Or (b::rest) pos) TB):DW C (.BoolOp .Or (a::b::rest) pos) (tOr' TA TB):=by
 obtain⟨t1,p1,q1⟩:=ha
 obtain⟨t2,p2,q2⟩:=hb
 refine⟨_,pw_or p1 p2,fun G H σ ς Q S q=>?_⟩
 unfold tOr' at q
 rw[Out.post_bind]at q
 refine q1 G H σ ς _ S (Out.post_mono q fun x k H1 G1 S1 a1 b1=>?_)
 cases x with
 | true=>exact iteT (KT.now (KT.later (show KT C G H σ ς Q true from k) a1 b1) S1)
 | false=>exact iteF (q2 G1 H1 σ ς _ S1 (Out.post_mono (show(TB ς).post _ _ from k) fun x k=>KT.later k a1 b1))
theorem Qae(ha:DT C a TA):DT C (.UnaryOp .Not a pos) (tNot' TA):=by
 obtain⟨t1,p1,q1⟩:=ha
 refine⟨_,QOR p1,fun G H σ ς Q S q=>?_⟩
 unfold tNot' at q
 rw[Out.post_bind]at q
 exact q1 G H σ ς _ S (Out.post_mono q fun x k H1 G1 S1 a1 b1=>k H1 G1 S1 a1 b1)
def eAnd(a b:SD->Out D):SD->Out D:=fun ς=>a ς>>=fun d=>match d with | .bl true=>b ς | .bl false=>.ok (.bl false) | _=>.stuck
def eOr(a b:SD->Out D):SD->Out D:=fun ς=>a ς>>=fun d=>match d with | .bl true=>.ok (.bl true) | .bl false=>b ς | _=>.stuck
def eNot(a:SD->Out D):SD->Out D:=fun ς=>a ς>>=fun d=>match d with | .bl c=>.ok (.bl (!c)) | _=>.stuck
theorem Qgh{op}(h:DE C a A):DE C (.BoolOp op [a] pos) A:=let ⟨t,p,q⟩:=h;⟨t,QOF p,q⟩
theorem QdS(ha:DE C a A)(hb:DE C (.BoolOp .And (b::rest) pos) B):DE C (.BoolOp .And (a::b::rest) pos) (eAnd A B):=by
 obtain⟨t1,p1,q1⟩:=ha
 obtain⟨t2,p2,q2⟩:=hb
 refine⟨_,QPY p1 p2,fun G H σ ς Q S q=>?_⟩
 unfold eAnd at q
 rw[Out.post_bind]at q
 refine q1 G H σ ς _ S (Out.post_mono q fun x k v1 H1 G1 S1 a1 b1 r1=>?_)
 cases x with
 | bl c=>
  refine⟨c,r1,?_⟩
  cases c with
  | true=>exact iteT (q2 G1 H1 σ ς _ S1 (Out.post_mono (show(B ς).post _ _ from k) fun x k=>KD.later k a1 b1))
  | false=>exact iteF (KD.now (KD.later (show KD C G H σ ς Q (.bl false) from k) a1 b1) S1 rfl)
 | _=>exact k.elim
theorem QIe(ha:DE C a A):DE C (.UnaryOp .Not a pos) (eNot A):=by
 obtain⟨t1,p1,q1⟩:=ha
 refine⟨_,QPg p1,fun G H σ ς Q S q=>?_⟩
 unfold eNot at q
 rw[Out.post_bind]at q
 refine q1 G H σ ς _ S (Out.post_mono q fun x k v1 H1 G1 S1 a1 b1 r1=>?_)
 cases x with
 | bl c=>exact⟨c,r1,KD.now (KD.later (show KD C G H σ ς Q (.bl (!c)) from k) a1 b1) S1 rfl⟩
 | _=>exact k.elim
def eIf(t:SD->Out Bool)(a b:SD->Out D):SD->Out D:=fun ς=>t ς>>=fun c=>if c=true then a ς else b ς
theorem de_if{t:Expr}(ht:DT C t TA)(ha:DE C a A)(hb:DE C b B):DE C (.IfExp t a b pos) (eIf TA A B):=by
 obtain⟨t0,p0,q0⟩:=ht
 obtain⟨t1,p1,q1⟩:=ha
 obtain⟨t2,p2,q2⟩:=hb
 refine⟨_,QLn p0 p1 p2,fun G H σ ς Q S q=>?_⟩
 unfold eIf at q
 rw[Out.post_bind]at q
 refine q0 G H σ ς _ S (Out.post_mono q fun x k H1 G1 S1 a1 b1=>?_)
 cases x with
 | true=>exact iteT (q1 G1 H1 σ ς _ S1 (Out.post_mono (show(A ς).post _ _ from k) fun x k=>KD.later k a1 b1))
 | false=>exact iteF (q2 G1 H1 σ ς _ S1 (Out.post_mono (show(B ς).post _ _ from k) fun x k=>KD.later k a1 b1))
end
end DL
namespace DL
open PySem PySem.Spec PyProof.Rows L2
def aNil:SD->Out (List D):=fun _=>.ok []
def aCons(a:SD->Out D)(r:SD->Out (List D)):SD->Out (List D):=fun ς=>a ς>>=fun x=>r ς>>=fun xs=>.ok (x::xs)
section
variable{C:Dc}{e:Expr}{es:List Expr}{E:SD->Out D}{A:SD->Out (List D)}{pos:Pos}
theorem Qg:DA C [] aNil:=⟨_,Qdo,fun G H σ ς Q S q=>q [] H G S (Same.refl H) (Same.refl G) rfl⟩
theorem Qz:DAB C [] aNil:=⟨_,Qdo,fun G H σ ς Q S q=>q [] H G S (Same.refl H) (Same.refl G) rfl⟩
theorem Qb(ha:DE C e E)(hr:DA C es A)(hs:‹"b"›:=by rfl):DA C (e::es) (aCons E A):=by
 obtain⟨t1,p1,q1⟩:=ha
 obtain⟨t2,p2,q2⟩:=hr
 refine⟨_,Qbc p1 p2 hs,fun G H σ ς Q S q=>?_⟩
 unfold aCons at q
 rw[Out.post_bind]at q
 refine q1 G H σ ς _ S (Out.post_mono q fun x k v1 H1 G1 S1 a1 b1 r1=>?_)
 rw[Out.post_bind]at k
 refine q2 G1 H1 σ ς _ S1 (Out.post_mono k fun xs k2 vs H2 G2 S2 a2 b2 r2=>?_)
 exact k2 (v1::vs) H2 G2 S2 (a1.trans a2) (b1.trans b2) ⟨v1,vs,rfl,Rep.mono b2 x v1 r1,r2⟩
theorem Qv(ha:DB C e E)(hr:DAB C es A)(hs:‹"b"›:=by rfl):DAB C (e::es) (aCons E A):=by
 obtain⟨t1,p1,q1⟩:=ha
 obtain⟨t2,p2,q2⟩:=hr
 refine⟨_,Qbc p1 p2 hs,fun G H σ ς Q S q=>?_⟩
 unfold aCons at q
 rw[Out.post_bind]at q
 refine q1 G H σ ς _ S (Out.post_mono q fun x k v1 H1 G1 S1 a1 b1 r1=>?_)
 rw[Out.post_bind]at k
 refine q2 G1 H1 σ ς _ S1 (Out.post_mono k fun xs k2 vs H2 G2 S2 a2 b2 r2=>?_)
 exact k2 (v1::vs) H2 G2 S2 (a1.trans a2) (b1.trans b2) ⟨v1,vs,rfl,Rep.mono a2 x v1 r1,r2⟩
def fits(n:Nat):Bool:=decide (n<=sizeLine)
def eTup(a:SD->Out (List D)):SD->Out D:=fun ς=>a ς>>=fun xs=>if fits xs.length=true then .ok (.tup xs) else .stuck
def eLst(a:SD->Out (List D)):SD->Out D:=fun ς=>a ς>>=fun xs=>if fits xs.length=true then .ok (.lst xs) else .stuck
theorem Qb9{x1}(h:DA C es A):DE C (.Tuple es x1 pos) (eTup A):=by
 obtain⟨t,p,q⟩:=h
 refine⟨_,QJh p,fun G H σ ς Q S k=>?_⟩
 unfold eTup at k
 rw[Out.post_bind]at k
 refine q G H σ ς _ S (Out.post_mono k fun xs k2 vs H1 G1 S1 a1 b1 r1=>?_)
 rcases QT k2 with⟨hc,k3⟩ | ⟨_,k3⟩
 ·exact⟨by rw[← r1.length];exact of_decide_eq_true hc,KD.tup (KD.later k3 a1 b1) S1 r1⟩
 ·exact k3.elim
theorem Qa7(h:DA C es A):DF C (.List es pos) (eLst A):=by
 obtain⟨t,p,q⟩:=h
 refine⟨_,QPF p,fun G H σ ς Q S k=>?_⟩
 unfold eLst at k
 rw[Out.post_bind]at k
 refine q G H σ ς _ S (Out.post_mono k fun xs k2 vs H1 G1 S1 a1 b1 r1=>?_)
 rcases QT k2 with⟨hc,k3⟩ | ⟨_,k3⟩
 ·exact⟨by rw[← r1.length];exact of_decide_eq_true hc,KF.lst (KF.later k3 a1 b1) S1 r1⟩
 ·exact k3.elim
end
theorem QiL{K:W.Frag}{CT:CTab}{H:Hp}{ds:List D}{vs:List V}{i:Int}{d:D}(r:RepL K CT H ds vs)(h:atI ds i=some d):∃ v,atI vs i=some v/\Rep K CT H d v:=by
 unfold atI at h ⊢
 rw[← r.length]
 cases e:ixN ds.length i with
 | none=>rw[e]at h;cases h
 | some j=>
  rw[e]at h
  exact r.get h
def optO{α:Type}:Option α->Out α
 | some a=>.ok a
 | none=>.stuck
theorem QcD{α:Type}{o:Option α}{k:α->Prop}{x:D->Prop}(h:(optO o).post k x):∃ a,o=some a/\k a:=by
 cases o with
 | none=>exact h.elim
 | some a=>exact⟨a,rfl,h⟩
def dIx:D->D->Out D
 | .lst xs,.int i=>optO (atI xs i)
 | .tup xs,.int i=>optO (atI xs i)
 | .str x,.int i=>if fits x.length=true then optO ((atI x.cps.toList i).map fun c=>D.str ⟨#[c]⟩) else .stuck
 | _,_=>.stuck
section
variable{C:Dc}{a b:Expr}{A B:SD->Out D}{pos:Pos}
theorem QPW{R:Hp->Hp}{G H:Hp}{σ:St}{ς:SD}{Q:VK}{x y:D}{vx vy:V}{k:D->Prop}(hx:Rep C.X.K C.CT H x vx)(hy:Rep C.X.K C.CT H y vy)
 (q:(dIx x y).post k C.XD) (hk:∀ d v,k d->Rep C.X.K C.CT H d v->Q v H):rIx C.X.K vx vy H Q:=by
 cases y with
 | int i=>
  cases hy
  cases x with
  | lst xs=>
   obtain⟨p,vs,rfl,h2,h3⟩:=hx
   obtain⟨d,e,kd⟩:=QcD q
   obtain⟨v,e2,r⟩:=QiL h3 e
   exact .inl ⟨p,vs,i,v,rfl,rfl,h2,e2,hk d v kd r⟩
  | tup xs=>
   obtain⟨p,vs,rfl,h2,h3⟩:=hx
   obtain⟨d,e,kd⟩:=QcD q
   obtain⟨v,e2,r⟩:=QiL h3 e
   exact .inr (.inl ⟨p,vs,i,v,rfl,rfl,h2,e2,hk d v kd r⟩)
  | str z=>
   cases hx
   rcases QT (show(if fits z.length=true then optO ((atI z.cps.toList i).map fun c=>D.str ⟨#[c]⟩) else .stuck).post k C.XD from q) with⟨hc,q⟩ | ⟨_,q⟩
   ·obtain⟨d,e,kd⟩:=QcD q
    cases e3:atI z.cps.toList i with
    | none=>rw[e3]at e;cases e
    | some c=>
     rw[e3]at e
     cases e
     exact .inr (.inr ⟨z,i,c,rfl,rfl,of_decide_eq_true hc,e3,hk _ _ kd rfl⟩)
   ·exact q.elim
  | _=>exact q.elim
 | _=>cases x<;>exact q.elim
theorem db_ix(ha:DB C a A)(hb:DB C b B)(hs:Ql2 b:=by intro _ _;rfl):DB C (.Subscript a b pos) (e2 dIx A B):=by
 obtain⟨ta,p1,q1⟩:=ha
 obtain⟨tb,p2,q2⟩:=hb
 refine⟨_,pe_ix QwA p1 p2 hs,fun G H σ ς Q S q=>?_⟩
 unfold e2 at q
 rw[Out.post_bind]at q
 refine q1 G H σ ς _ S (Out.post_mono q fun x k v1 H1 G1 S1 a1 b1 r1=>?_)
 rw[Out.post_bind]at k
 refine q2 G1 H1 σ ς _ S1 (Out.post_mono k fun y k2 v2 H2 G2 S2 a2 b2 r2=>?_)
 exact QPW (R:=id) (G:=G2) (σ:=σ) (ς:=ς) (Rep.mono a2 x v1 r1) r2 k2 fun d v kd r=>KB.now (KB.later kd (a1.trans a2) (b1.trans b2)) S2 r
theorem de_ix(ha:DE C a A)(hb:DB C b B)(hs:Ql2 b:=by intro _ _;rfl):DE C (.Subscript a b pos) (e2 dIx A B):=by
 obtain⟨ta,p1,q1⟩:=ha
 obtain⟨tb,p2,q2⟩:=hb
 refine⟨_,pe_ix QwA p1 p2 hs,fun G H σ ς Q S q=>?_⟩
 unfold e2 at q
 rw[Out.post_bind]at q
 refine q1 G H σ ς _ S (Out.post_mono q fun x k v1 H1 G1 S1 a1 b1 r1=>?_)
 rw[Out.post_bind]at k
 refine q2 G1 H1 σ ς _ S1 (Out.post_mono k fun y k2 v2 H2 G2 S2 a2 b2 r2=>?_)
 have r1':=Rep.mono b2 x v1 r1
 cases y with
 | int i=>
  cases r2
  cases x with
  | lst xs=>
   obtain⟨p,vs,rfl,h2,h3⟩:=r1'
   obtain⟨d,e,kd⟩:=QcD k2
   obtain⟨v,e2,r⟩:=QiL h3 e
   exact .inl ⟨p,vs,i,v,rfl,rfl,S2.sub.seq h2,e2,KD.now (KD.later kd (a1.trans a2) (b1.trans b2)) S2 r⟩
  | tup xs=>
   obtain⟨p,vs,rfl,h2,h3⟩:=r1'
   obtain⟨d,e,kd⟩:=QcD k2
   obtain⟨v,e2,r⟩:=QiL h3 e
   exact .inr (.inl ⟨p,vs,i,v,rfl,rfl,Same.sqT S2.sub h2,e2,KD.now (KD.later kd (a1.trans a2) (b1.trans b2)) S2 r⟩)
  | str z=>
   cases r1'
   rcases QT (show(if fits z.length=true then optO ((atI z.cps.toList i).map fun c=>D.str ⟨#[c]⟩) else .stuck).post _ C.XD from k2) with⟨hc,q⟩ | ⟨_,q⟩
   ·obtain⟨d,e,kd⟩:=QcD q
    cases e3:atI z.cps.toList i with
    | none=>rw[e3]at e;cases e
    | some c=>
     rw[e3]at e
     cases e
     exact .inr (.inr ⟨z,i,c,rfl,rfl,of_decide_eq_true hc,e3,KD.now (KD.later kd (a1.trans a2) (b1.trans b2)) S2 rfl⟩)
   ·exact q.elim
  | _=>exact k2.elim
 | _=>cases x<;>exact k2.elim
end
def cutD{α:Type}(xs:List α)(lo hi:Option Int):List α:=(xs.drop (HT.sIx xs.length 0 lo)).take (HT.sIx xs.length xs.length hi - HT.sIx xs.length 0 lo)
theorem QNo{K:W.Frag}{CT:CTab}{H:Hp}{ds:List D}{vs:List V}(lo hi:Option Int)(r:RepL K CT H ds vs):RepL K CT H (cutD ds lo hi) (cutV vs lo hi):=by
 unfold cutD cutV
 rw[r.length]
 exact(r.drop _).take _
def oNo:SD->Out (Option Int):=fun _=>.ok none
def oSome(e:SD->Out D):SD->Out (Option Int):=fun ς=>e ς>>=fun d=>match d with | .int i=>.ok (some i) | _=>.stuck
def DO(C:Dc)(e:Option Expr)(T:SD->Out (Option Int)):Prop:=∃ t,PO C.X e t/\∀ G H σ ς Q,StR C G H σ ς->(T ς).post (fun o=>∀ H' G',StR C G' H' σ ς->Same H H'->Same G G'->Q o H') C.XD->t σ H Q
section
variable{C:Dc}{a b:Expr}{A B:SD->Out D}{lo hi:Option Expr}{L U:SD->Out (Option Int)}{pos p2:Pos}
theorem QEj:DO C none oNo:=⟨_,QMT,fun G H σ ς Q S q=>q H G S (Same.refl H) (Same.refl G)⟩
theorem Ql3(h:DB C a A):DO C (some a) (oSome A):=by
 obtain⟨t,p,q⟩:=h
 refine⟨_,QOi p,fun G H σ ς Q S k=>?_⟩
 unfold oSome at k
 rw[Out.post_bind]at k
 refine q G H σ ς _ S (Out.post_mono k fun x k2 v1 H1 G1 S1 a1 b1 r1=>?_)
 cases x with
 | int i=>cases r1;exact⟨i,rfl,k2 H1 G1 S1 a1 b1⟩
 | _=>exact k2.elim
def eSl(a:SD->Out D)(l u:SD->Out (Option Int)):SD->Out D:=fun ς=>a ς>>=fun x=>l ς>>=fun i=>u ς>>=fun j=>match x with
 | .lst xs=>.ok (.lst (cutD xs i j))
 | _=>.stuck
theorem df_sl(ha:DE C a A)(hl:DO C lo L)(hu:DO C hi U):DF C (.Subscript a (.Slice lo hi none p2) pos) (eSl A L U):=by
 obtain⟨ta,p1,q1⟩:=ha
 obtain⟨tl,p3,q3⟩:=hl
 obtain⟨tu,p4,q4⟩:=hu
 refine⟨_,QKI QN7 p1 p3 p4,fun G H σ ς Q S q=>?_⟩
 unfold eSl at q
 rw[Out.post_bind]at q
 refine q1 G H σ ς _ S (Out.post_mono q fun x k v1 H1 G1 S1 a1 b1 r1=>?_)
 rw[Out.post_bind]at k
 refine q3 G1 H1 σ ς _ S1 (Out.post_mono k fun i k2 H2 G2 S2 a2 b2=>?_)
 rw[Out.post_bind]at k2
 refine q4 G2 H2 σ ς _ S2 (Out.post_mono k2 fun j k3 H3 G3 S3 a3 b3=>?_)
 cases x with
 | lst xs=>
  obtain⟨p,vs,rfl,h2,h3⟩:=Rep.mono (b2.trans b3) _ v1 r1
  exact⟨p,vs,rfl,S3.sub.seq h2,KF.lst (KF.later (show KF C G H σ ς Q (.lst (cutD xs i j)) from k3) ((a1.trans a2).trans a3) ((b1.trans b2).trans b3)) S3 (QNo i j h3)⟩
 | _=>exact k3.elim
end
section
variable{C:Dc}{x:Str}{p pos:Pos}{e:Expr}{es:List Expr}{A:SD->Out (List D)}{id T:String}
def eA(f:List D->Out D)(a:SD->Out (List D)):SD->Out D:=fun ς=>a ς>>=f
def DCS(C:Dc)(r:List V->Hp->VK->Prop)(f:List D->Out D):Prop:=∀ G H σ ς (Q:VK) xs vs,StR C G H σ ς->RepL C.X.K C.CT H xs vs->
 (f xs).post (fun d=>d.scal=true/\Q (toV d) H) (fun _=>False)->r vs H Q
def scalA(f:List D->Out D):Prop:=∀ xs,match f xs with | .ok d=>d.scal=true | .exc _=>False | .stuck=>True
theorem dcall{r:List V->Hp->VK->Prop}{f:List D->Out D}{t:TA}(hr:DCS C r f)(hs:scalA f)
 (h:∀ G H σ ς Q,StR C G H σ ς->(A ς).post (fun ds=>∀ vs H' G',StR C G' H' σ ς->Same H H'->Same G G'->RepL C.X.K C.CT H' ds vs->Q vs H') C.XD->t σ H Q):
 ∀ G H σ ς Q,StR C G H σ ς->(eA f A ς).post (KD C G H σ ς Q) C.XD->tCB r t σ H Q:=by
 intro G H σ ς Q S q
 unfold eA at q
 rw[Out.post_bind]at q
 refine h G H σ ς _ S (Out.post_mono q fun ds k vs H1 G1 S1 a1 b1 r1=>?_)
 exact hr G1 H1 σ ς Q ds vs S1 r1 (Qg5 S1 (hs ds) (Out.post_mono k fun d kd=>KD.later kd a1 b1))
theorem Qhz{r:List V->Hp->VK->Prop}{f:List D->Out D}(hc:CallR C.X (.builtin id) r)(hr:DCS C r f)(hs:scalA f)(hg:Gl C.X x)(hm:C.X.mg x=none)(hv:bootBuiltins x=some (.builtin id))(ha:DAB C (e::es) A)(hn:x≠"__name__":=by decide)(hdb:‹"d"›:=by decide)
 (he:‹"b"›:=by rfl) (hpl:(backTo pos (starEach es C.X.env)).any (·.1)=false:=by rfl):DE C (.Call (.Name x p) (e::es) [] pos) (eA f A):=by
 obtain⟨t,p1,q1⟩:=ha
 exact⟨_,Qnk hc hg hm hv p1 hn hdb he hpl,dcall hr hs q1⟩
theorem QJY{r:List V->Hp->VK->Prop}{f:List D->Out D}(hc:CallR C.X (.type T) r)(hr:DCS C r f)(hs:scalA f)(hg:Gl C.X x)(hm:C.X.mg x=none)(hv:bootBuiltins x=some (.type T))(ha:DAB C (e::es) A)(hn:x≠"__name__":=by decide)(hdb:‹"d"›:=by decide)
 (he:‹"b"›:=by rfl) (hpl:(backTo pos (starEach es C.X.env)).any (·.1)=false:=by rfl):DE C (.Call (.Name x p) (e::es) [] pos) (eA f A):=by
 obtain⟨t,p1,q1⟩:=ha
 exact⟨_,Qtr hc hg hm hv p1 hn hdb he hpl,dcall hr hs q1⟩
def fLen:List D->Out D
 | [.lst xs]=>.ok (.int xs.length)
 | [.tup xs]=>.ok (.int xs.length)
 | [.str x]=>if fits x.length=true then .ok (.int x.length) else .stuck
 | _=>.stuck
theorem QNg:DCS C (fun xs H Q=>(∃ p ys,xs=[.ref p]/\(SqL C.X.K H p ys∨SqT C.X.K H p ys)/\Q (.int ys.length) H)∨∃ z,xs=[.str z]/\z.length<=sizeLine/\Q (.int z.length) H) fLen:=by
 intro G H σ ς Q xs vs S r q
 cases xs with
 | nil=>exact q.elim
 | cons x xr=>
  obtain⟨v,vr,rfl,r1,r2⟩:=r
  cases xr with
  | cons y yr=>cases x<;>exact q.elim
  | nil=>
   cases r2
   cases x with
   | lst ys=>
    obtain⟨p,us,rfl,h2,h3⟩:=r1
    exact .inl ⟨p,us,rfl,.inl h2,by rw[← h3.length];exact q.2⟩
   | tup ys=>
    obtain⟨p,us,rfl,h2,h3⟩:=r1
    exact .inl ⟨p,us,rfl,.inr h2,by rw[← h3.length];exact q.2⟩
   | str z=>
    cases r1
    rcases QT (show(if fits z.length=true then Out.ok (D.int z.length) else .stuck).post _ _ from q) with⟨hc,q⟩ | ⟨_,q⟩
    ·exact .inr ⟨z,rfl,of_decide_eq_true hc,q.2⟩
    ·exact q.elim
   | _=>exact q.elim
theorem QLf:scalA fLen:=by
 intro xs
 cases xs with
 | nil=>exact True.intro
 | cons x xr=>
  cases xr with
  | cons y yr=>cases x<;>exact True.intro
  | nil=>
   cases x with
   | lst ys=>exact rfl
   | tup ys=>exact rfl
   | str z=>exact Qhf rfl
   | _=>exact True.intro
theorem Qak(hg:Gl C.X "len")(hm:C.X.mg "len"=none)(ha:DAB C (e::es) A)
 (he:‹"b"›:=by rfl) (hpl:(backTo pos (starEach es C.X.env)).any (·.1)=false:=by rfl):DE C (.Call (.Name "len" p) (e::es) [] pos) (eA fLen A):=
 Qhz (Qwp.or QAa) QNg QLf hg hm PySem.boot_len ha (by decide) (by decide) he hpl
def f1(g:D->Out D):List D->Out D
 | [x]=>g x
 | _=>.stuck
theorem Qjc{g:D->Out D}(h:∀ x,match g x with | .ok d=>d.scal=true | .exc _=>False | .stuck=>True):scalA (f1 g):=by
 intro xs
 match xs with
 | []=>exact True.intro
 | [x]=>exact h x
 | _::_::_=>exact True.intro
def dAbs:D->Out D
 | .int i=>.ok (.int (if i<0 then -i else i))
 | _=>.stuck
theorem Qld{r:List V->Hp->VK->Prop}{g:D->Out D}(h:∀ G H σ ς (Q:VK) x v,StR C G H σ ς->Rep C.X.K C.CT H x v->(g x).post (fun d=>d.scal=true/\Q (toV d) H) (fun _=>False)->r [v] H Q):DCS C r (f1 g):=by
 intro G H σ ς Q xs vs S r q
 match xs,r with
 | [],_=>exact q.elim
 | [x],⟨v,vr,e1,r1,r2⟩=>cases r2;subst e1;exact h G H σ ς Q x v S r1 q
 | _::_::_,_=>exact q.elim
theorem Qpt(hg:Gl C.X "abs")(hm:C.X.mg "abs"=none)(hv:bootBuiltins "abs"=some (.builtin "abs"))(ha:DAB C (e::es) A)
 (he:‹"b"›:=by rfl) (hpl:(backTo pos (starEach es C.X.env)).any (·.1)=false:=by rfl):DE C (.Call (.Name "abs" p) (e::es) [] pos) (eA (f1 dAbs) A):=by
 refine Qhz QLQ (Qld ?_) (Qjc ?_) hg hm hv ha (by decide) (by decide) he hpl
 ·intro G H σ ς Q x v S r q
  cases x with
  | int i=>cases r;exact⟨i,rfl,q.2⟩
  | _=>exact q.elim
 ·intro x
  cases x<;>first | exact rfl | exact True.intro
end
mutual
def D.py:D->PyData
 | .non=>.none
 | .bl b=>.bool b
 | .int i=>.int i
 | .str x=>.str x
 | .lst xs=>.list (D.pys xs)
 | .tup xs=>.tuple (D.pys xs)
 | .dic _=>.dict []
 | .ins _ _=>.dict []
 | .err _=>.dict []
def D.pys:List D->List PyData
 | []=>[]
 | x::xs=>D.py x::D.pys xs
end
section
variable{X:Cx}{pins:List (Addr×Obj)}{σ:L2.St}{H:Hp}{s:Shared}{CT:CTab}
mutual
theorem QhC(I:‹"g"›):∀(d:D)(v:V)(u:Value),Rep X.K CT H d v->RelV v u->d.py.canLay0=true->∃ as,Reads s.heap u d.py as
 | .non,_,_,h,r,_=>by cases h;cases r;exact⟨_,.none⟩
 | .bl b,_,_,h,r,_=>by cases h;cases r;exact⟨_,.bool b⟩
 | .int i,_,_,h,r,_=>by cases h;obtain⟨t,rfl⟩:=r;exact⟨_,.int i t⟩
 | .str x,_,_,h,r,_=>by cases h;obtain⟨t,rfl⟩:=r;exact⟨_,.str x t⟩
 | .lst ds,_,_,⟨a,vs,h1,h2,h3⟩,r,c=>by
  subst h1;cases r
  obtain⟨its,q,⟨o,n,ho,hc,_,hd⟩,_⟩:=I.list h2
  obtain⟨as,ra⟩:=Qla I ds vs its h3 q (by simpa [D.py,PyData.canLay0] using c)
  exact⟨_,.list ho hc hd (by simpa using ra)⟩
 | .tup ds,_,_,⟨a,vs,h1,h2,h3⟩,r,c=>by
  subst h1;cases r
  obtain⟨its,q,⟨o,ho,hc,n,hd⟩,_⟩:=I.tuple h2
  obtain⟨as,ra⟩:=Qla I ds vs its h3 q (by simpa [D.py,PyData.canLay0] using c)
  exact⟨_,.tuple ho hc hd (by simpa using ra)⟩
 | .dic _,_,_,_,_,c=>by simp[D.py,PyData.canLay0]at c
 | .ins _ _,_,_,_,_,c=>by simp[D.py,PyData.canLay0]at c
 | .err _,_,_,_,_,c=>by simp[D.py,PyData.canLay0]at c
theorem Qla(I:‹"g"›):∀(ds:List D)(vs:List V)(us:List Value),RepL X.K CT H ds vs->Vals vs us->PyData.canLayAll0 (D.pys ds)=true->∃ as,ReadsAll s.heap us (D.pys ds) as
 | [],_,_,h,r,_=>by cases h;cases r;exact⟨_,.nil⟩
 | d::ds,_,_,⟨v,w,h1,h2,h3⟩,r,c=>by
  subst h1
  cases r with
  | cons r1 r2=>
   have c':d.py.canLay0=true/\PyData.canLayAll0 (D.pys ds)=true:=by simpa [D.pys,PyData.canLayAll0] using c
   obtain⟨as,q1⟩:=QhC I d v _ h2 r1 c'.1
   obtain⟨bs,q2⟩:=Qla I ds w _ h3 r2 c'.2
   exact⟨_,.cons q1 q2⟩
end
end
def shp(d:D):Bool:=SeqAt.shaped d.py
def dEq(x y:D):Out D:=if (shp x&&shp y)=true then .ok (.bl (PyData.eqv x.py y.py)) else .stuck
def dNe(x y:D):Out D:=if (shp x&&shp y)=true then .ok (.bl (!PyData.eqv x.py y.py)) else .stuck
section
variable{C:Dc}{a b:Expr}{A B:SD->Out D}{pos:Pos}
def rEqD(C:Dc)(n:Bool):R2:=fun vx vy H Q=>∃ x y,Rep C.X.K C.CT H x vx/\Rep C.X.K C.CT H y vy/\shp x=true/\shp y=true/\Q (.bl (n != PyData.eqv x.py y.py)) H
theorem QKe(hu:C.X.A.units+64<cLine):OpR C.X (compareOp .Eq) (rEqD C false):=by
 intro pins s σ H vx vy u w Q I rx ry h
 obtain⟨x,y,h1,h2,h3,h4,q⟩:=h
 obtain⟨as,ra⟩:=QhC I x vx u h1 rx (SeqAt.canLay_of_shaped h3)
 obtain⟨bs,rb⟩:=QhC I y vy w h2 ry (SeqAt.canLay_of_shaped h4)
 exact eq_dataH ra rb h3 h4 hu ⟨.bl _,H,I,rfl,by simpa using q⟩
theorem QOK(hu:C.X.A.units+64<cLine):OpR C.X (compareOp .NotEq) (rEqD C true):=by
 intro pins s σ H vx vy u w Q I rx ry h
 obtain⟨x,y,h1,h2,h3,h4,q⟩:=h
 obtain⟨as,ra⟩:=QhC I x vx u h1 rx (SeqAt.canLay_of_shaped h3)
 obtain⟨bs,rb⟩:=QhC I y vy w h2 ry (SeqAt.canLay_of_shaped h4)
 exact ne_dataH ra rb h3 h4 hu ⟨.bl _,H,I,rfl,by simpa using q⟩
theorem QKv:DRS C (rEqD C false) dEq:=by
 intro G H σ ς Q x y vx vy S hx hy q
 rcases QT q with⟨hc,q⟩ | ⟨_,q⟩
 ·rw[Bool.and_eq_true]at hc
  exact⟨x,y,hx,hy,hc.1,hc.2,by simpa [toV] using q.2⟩
 ·exact q.elim
theorem QP3:DRS C (rEqD C true) dNe:=by
 intro G H σ ς Q x y vx vy S hx hy q
 rcases QT q with⟨hc,q⟩ | ⟨_,q⟩
 ·rw[Bool.and_eq_true]at hc
  exact⟨x,y,hx,hy,hc.1,hc.2,by simpa [toV] using q.2⟩
 ·exact q.elim
theorem QEl:scal2 dEq:=fun x y=>Qhf rfl
theorem QMp:scal2 dNe:=fun x y=>Qhf rfl
theorem dt_lt(ha:DB C a A)(hb:DB C b B):DT C (.Compare a [.Lt] [b] pos) (tVal (e2 dLt A B)):=QiS op_lt Qb3 (Qbx fun _ _=>rfl) ha hb (Qhx _)
theorem dt_le(ha:DB C a A)(hb:DB C b B):DT C (.Compare a [.LtE] [b] pos) (tVal (e2 dLe A B)):=QiS op_le Qb3 (Qbx fun _ _=>rfl) ha hb (Qhx _)
theorem dt_gt(ha:DB C a A)(hb:DB C b B):DT C (.Compare a [.Gt] [b] pos) (tVal (e2 dGt A B)):=QiS op_gt Qb3 (Qbx fun _ _=>rfl) ha hb (Qhx _)
theorem dt_ge(ha:DB C a A)(hb:DB C b B):DT C (.Compare a [.GtE] [b] pos) (tVal (e2 dGe A B)):=QiS op_ge Qb3 (Qbx fun _ _=>rfl) ha hb (Qhx _)
theorem de_eq(hu:C.X.A.units+64<cLine)(ha:DB C a A)(hb:DB C b B):DE C (.Compare a [.Eq] [b] pos) (e2 dEq A B):=Qxf (QKe hu) QKv QEl ha hb (Qhx _)
theorem dt_eq(hu:C.X.A.units+64<cLine)(ha:DB C a A)(hb:DB C b B):DT C (.Compare a [.Eq] [b] pos) (tVal (e2 dEq A B)):=QiS (QKe hu) QKv QEl ha hb (Qhx _)
theorem dt_ne(hu:C.X.A.units+64<cLine)(ha:DB C a A)(hb:DB C b B):DT C (.Compare a [.NotEq] [b] pos) (tVal (e2 dNe A B)):=QiS (QOK hu) QP3 QMp ha hb (Qhx _)
end
end DL
namespace DL
open PySem PySem.Spec PyProof.Rows L2
section
variable{C:Dc}{a b:Expr}{A B:SD->Out D}{pos:Pos}
end
def Qas:D->String
 | .non=>"NoneType"
 | .bl _=>"bool"
 | .int _=>"int"
 | .str _=>"str"
 | .lst _=>"list"
 | .tup _=>"tuple"
 | .dic _=>"dict"
 | .ins _ _=>"object"
 | .err _=>"object"
structure ClsD(K:W.Frag)(A:Addr):Prop where
 cl:Cls K A
 ha:W.findIn K (.ref A) "__class__"=some (some ‹"o"›)
 hn:W.specialIn K ‹"o"› "__get__"=some (some (.builtin "getset_descriptor.__get__"))
 htk:W.takesIn K ‹"o"›=some true
 hm:W.mroIn K A (.type "object")=some true
def KitD(K:W.Frag)(CT:CTab)(d:D)(uc:Value)(b:Bool):Prop:=match d with
 | .ins c _=>∀ A,CT c=some A->ClsD K A/\W.kitOne K (.ref A) uc=some b
 | .err c=>∀ A,CT c=some A->ExCls K A/\W.kitOne K (.ref A) uc=some b
 | d=>W.kitOne K (.type (Qas d)) uc=some b
section
variable{C:Dc}{e cx:Expr}{E:SD->Out D}{p pos:Pos}{vc:V}{uc:Value}
theorem QOc{pins:‹"v"›}{σ:L2.St}{H:Hp}{s:Shared}{A:Around}{Ex:‹"m"›}{Q:‹"m"›}{d:D}{v:V}{u:Value}{b:Bool}(I:Inv C.X pins σ H s)(h:Rep C.X.K C.CT H d v)(r:RelV v u)(k:KitD C.X.K C.CT d uc b)
 (q:∀ tk,Q (.bool b) { s with toks:=tk }):wpAny (model C.X.prog C.X.w) A (call (.builtin "isinstance") [u,uc]) Q Ex s:=by
 cases d with
 | non=>cases h;cases r;exact W.kia_one W.kitx_none I.kIn True.intro k (fun z=>nomatch z) q
 | bl y=>cases h;cases r;exact W.kia_one W.kitx_bool I.kIn True.intro k (fun z=>nomatch z) q
 | int i=>cases h;obtain⟨t,rfl⟩:=r;exact W.kia_one W.kitx_int I.kIn True.intro k (fun z=>nomatch z) q
 | str i=>cases h;obtain⟨t,rfl⟩:=r;exact W.kia_one W.kitx_str I.kIn True.intro k (fun z=>nomatch z) q
 | lst ds=>
  obtain⟨a,vs,rfl,h2,_⟩:=h;cases r
  obtain⟨its,_,⟨o,n,ho,hc,_⟩,_⟩:=I.list h2
  exact W.kia_one W.kitx_list I.kIn ⟨o,ho,hc⟩ k (fun z=>nomatch z) q
 | tup ds=>
  obtain⟨a,vs,rfl,h2,_⟩:=h;cases r
  obtain⟨its,_,⟨o,ho,hc,_⟩,_⟩:=I.tuple h2
  exact W.kia_one W.kitx_tuple I.kIn ⟨o,ho,hc⟩ k (fun z=>nomatch z) q
 | dic ds=>
  obtain⟨a,kvs,rfl,h2,_⟩:=h;cases r
  obtain⟨_,_,vs,_,p⟩:=h2.ok I.hok
  obtain⟨o,es,ep,h1,h2,_⟩:=p
  exact W.kia_one W.kitx_dict I.kIn ⟨o,h1,h2.1⟩ k (fun z=>nomatch z) q
 | ins c fs=>
  obtain⟨a,A',dx,fs',rfl,h1,h2,_⟩:=h;cases r
  obtain⟨cd,kk⟩:=k A' h1
  obtain⟨mA,O,_⟩:=QiY I.hok h2
  obtain⟨od,J,_⟩:=O.look
  exact W.kia_one (W.kitx_own (cd.cl.get _) cd.cl.hd cd.ha cd.hn cd.htk cd.hm) I.kIn J kk (fun z=>nomatch z) q
 | err c=>
  obtain⟨a,A',rfl,h1,h2⟩:=h;cases r
  obtain⟨cd,kk⟩:=k A' h1
  obtain⟨J,_⟩:=(show ObjOk C.X.prog C.X.w H s.heap a (exO a A') from I.hok a _ h2)
  exact W.kia_one (QKU cd) I.kIn J kk (fun z=>nomatch z) q
def clsV:V->Option Value
 | .ty n=>some (.type n)
 | .ref a=>some (.ref a)
 | _=>none
def eIsa(f:D->Out Bool)(a:SD->Out D):SD->Out D:=fun ς=>a ς>>=fun d=>f d>>=fun b=>.ok (.bl b)
theorem QPo{f:D->Out Bool}(hc:PE C.X cx (tC vc))(rc:clsV vc=some uc)(hf:∀ d,match f d with | .ok b=>KitD C.X.K C.CT d uc b | .exc _=>False | .stuck=>True)(hg:Gl C.X "isinstance")(hm:C.X.mg "isinstance"=none)(h:DB C e E)
 (he:starEach (e::[cx]) C.X.env=(false,eval e C.X.env)::starEach [cx] C.X.env:=by rfl) (he2:starEach (cx::[]) C.X.env=(false,eval cx C.X.env)::starEach [] C.X.env:=by rfl)
 (hpl:(backTo pos (starEach [cx] C.X.env)).any (·.1)=false:=by rfl):DE C (.Call (.Name "isinstance" p) [e,cx] [] pos) (eIsa f E):=by
 obtain⟨t,p1,q1⟩:=h
 have hR:CallR C.X (.builtin "isinstance") (fun xs H Q=>∃ d x b,xs=[x,vc]/\Rep C.X.K C.CT H d x/\KitD C.X.K C.CT d uc b/\Q (.bl b) H):=by
  intro pins s σ H xs us Q I r h
  obtain⟨d,x,b,rfl,h1,h2,q⟩:=h
  obtain⟨u,w,rfl,r1,r2⟩:=vals2 r
  have:w=uc:=by
   cases vc<;>first
    | (cases rc;cases r2;rfl)
    | cases rc
  subst this
  exact QOc I h1 r1 h2 fun tk=>⟨.bl b,H,I.tok _,rfl,q⟩
 refine⟨_,Qnk hR hg hm PyProof.Rows.Boot.«isinstance» (Qbc p1 (Qbc hc Qdo he2) he) (by decide) (by decide) he hpl,fun G H σ ς Q S q=>?_⟩
 unfold eIsa at q
 rw[Out.post_bind]at q
 refine q1 G H σ ς _ S (Out.post_mono q fun d k v1 H1 G1 S1 a1 b1 r1=>?_)
 rw[Out.post_bind]at k
 have hd:=hf d
 cases e:f d with
 | exc _=>rw[e]at hd;exact hd.elim
 | stuck=>rw[e]at k;exact k.elim
 | ok b=>
  rw[e]at k hd
  exact⟨d,v1,b,rfl,r1,hd,KD.now (KD.later (show KD C G H σ ς Q (.bl b) from k) a1 b1) S1 rfl⟩
end
end DL
namespace DL
open PySem PySem.Spec PyProof.Rows L2
section
variable{C:Dc}{G H:Hp}{σ:St}{ς:SD}
theorem QK{α:Type}{xs:List α}{i j:Nat}{x y:α}(h:(xs.set i x)[j]?=some y):(i=j/\y=x/\i<xs.length)∨(i≠j/\xs[j]?=some y):=by
 rw[List.getElem?_set]at h
 by_cases e:i=j
 ·rw[if_pos e]at h
  by_cases l:i<xs.length
  ·rw[if_pos l]at h;exact .inl ⟨e,(Option.some.inj h).symm,l⟩
  ·rw[if_neg l]at h;cases h
 ·rw[if_neg e]at h;exact .inr ⟨e,h⟩
theorem Qfa{α:Type}{xs:List α}{i:Nat}{x:α}(h:i<xs.length):(xs.set i x)[i]?=some x:=by
 rw[List.getElem?_set,if_pos rfl,if_pos h]
theorem Qq{α:Type}{xs:List α}{i j:Nat}{x:α}(h:i≠j):(xs.set i x)[j]?=xs[j]?:=by
 rw[List.getElem?_set,if_neg h]
theorem StR.set(S:StR C G H σ ς){d:D}{v:V}(i:Nat)(r:Rep C.X.K C.CT G d v):StR C G H (σ.set i (some v)) (ς.set i (some (.k,d))) where
 toGH:=S.toGH
 len:=by rw[List.length_set,List.length_set];exact S.len
 fz:=fun j e h=>by
  rcases QK h with⟨rfl,h2,l⟩ | ⟨ne,h2⟩
  ·cases h2
   exact⟨v,Qfa (by rw[S.len];exact l),r⟩
  ·rw[Qq ne];exact S.fz j e h2
 ow:=fun j e h=>by
  rcases QK h with⟨rfl,h2,l⟩ | ⟨ne,h2⟩
  ·cases h2
  ·rw[Qq ne];exact S.ow j e h2
 ln:=fun j e h=>by
  rcases QK h with⟨rfl,h2,l⟩ | ⟨ne,h2⟩
  ·cases h2
  ·rw[Qq ne];exact S.ln j e h2
 inj:=fun j k d1 d2 p hjk h1 h2 h3=>by
  rcases QK h1 with⟨rfl,q1,l⟩ | ⟨n1,q1⟩
  ·cases q1
  ·rcases QK h2 with⟨rfl,q2,l⟩ | ⟨n2,q2⟩
   ·cases q2
   ·rw[Qq n1]at h3
    rw[Qq n2];exact S.inj j k d1 d2 p hjk q1 q2 h3
 sf:=fun j e h=>by
  rcases QK h with⟨rfl,h2,l⟩ | ⟨ne,h2⟩
  ·cases h2
  ·rw[Qq ne];exact S.sf j e h2
 su:=fun j k d1 d2 p hjk h1 h2 h3=>by
  rcases QK h1 with⟨rfl,q1,l⟩ | ⟨n1,q1⟩
  ·cases q1
  ·rcases QK h2 with⟨rfl,q2,l⟩ | ⟨n2,q2⟩
   ·cases q2
   ·rw[Qq n1]at h3
    rw[Qq n2];exact S.su j k d1 d2 p hjk q1 q2 h3
theorem StR.setO(S:StR C G H σ ς){d:D}{p:Addr}(i:Nat)(hg:G p=none)(h0:C.X.H₀ p=none)(ow:Own C.X.K C.CT G H p d)(hn:∀(j:Nat) e,j≠i->ς[j]?=some (some (.o,e))->σ[j]?≠some (some (.ref p))):
 StR C G H (σ.set i (some (.ref p))) (ς.set i (some (.o,d))) where
 toGH:=S.toGH
 len:=by rw[List.length_set,List.length_set];exact S.len
 fz:=fun j e h=>by
  rcases QK h with⟨rfl,h2,l⟩ | ⟨ne,h2⟩
  ·cases h2
  ·rw[Qq ne];exact S.fz j e h2
 ow:=fun j e h=>by
  rcases QK h with⟨rfl,h2,l⟩ | ⟨ne,h2⟩
  ·cases h2
   exact⟨p,Qfa (by rw[S.len];exact l),hg,h0,ow⟩
  ·rw[Qq ne];exact S.ow j e h2
 ln:=fun j e h=>by
  rcases QK h with⟨rfl,h2,l⟩ | ⟨ne,h2⟩
  ·cases h2
  ·rw[Qq ne];exact S.ln j e h2
 inj:=fun j k d1 d2 q hjk h1 h2 h3=>by
  rcases QK h1 with⟨rfl,q1,l1⟩ | ⟨n1,q1⟩
  ·rcases QK h2 with⟨rfl,q2,l⟩ | ⟨n2,q2⟩
   ·exact absurd rfl hjk
   ·rw[Qfa (by rw[S.len];exact l1)]at h3
    cases h3
    rw[Qq n2];exact hn k d2 (Ne.symm n2) q2
  ·rcases QK h2 with⟨rfl,q2,l⟩ | ⟨n2,q2⟩
   ·rw[Qq n1]at h3
    rw[Qfa (by rw[S.len];exact l)]
    intro z;cases z
    exact hn j d1 (Ne.symm n1) q1 h3
   ·rw[Qq n1]at h3
    rw[Qq n2];exact S.inj j k d1 d2 q hjk q1 q2 h3
 sf:=fun j e h=>by
  rcases QK h with⟨rfl,h2,l⟩ | ⟨ne,h2⟩
  ·cases h2
  ·rw[Qq ne];exact S.sf j e h2
 su:=fun j k d1 d2 p hjk h1 h2 h3=>by
  rcases QK h1 with⟨rfl,q1,l⟩ | ⟨n1,q1⟩
  ·cases q1
  ·rcases QK h2 with⟨rfl,q2,l⟩ | ⟨n2,q2⟩
   ·cases q2
   ·rw[Qq n1]at h3
    rw[Qq n2];exact S.su j k d1 d2 p hjk q1 q2 h3
end
def sNil:SD->Out Fl:=fun ς=>.ok (.nx ς)
def thenF(U:SD->Out Fl):Fl->Out Fl
 | .nx ς=>U ς
 | .rt b d=>.ok (.rt b d)
 | .bk ς=>.ok (.bk ς)
 | .ct ς=>.ok (.ct ς)
def sSeq(T U:SD->Out Fl):SD->Out Fl:=fun ς=>T ς>>=thenF U
section
variable{C:Dc}{e:Expr}{E:SD->Out D}{st:Stmt}{rest:List Stmt}{T U:SD->Out Fl}{pos:Pos}
theorem FlK.later{G G1:Hp}{W:Ends}{f:Fl}(h:FlK C G W f)(s:Same G G1):FlK C G1 W f:=by
 cases f with
 | nx ς=>exact fun σ' H' G' S q=>h σ' H' G' S (s.trans q)
 | bk ς=>exact fun σ' H' G' S q=>h σ' H' G' S (s.trans q)
 | ct ς=>exact fun σ' H' G' S q=>h σ' H' G' S (s.trans q)
 | rt b d=>exact fun σ' H' G' S q=>h σ' H' G' S (s.trans q)
theorem QV:DSs C [] sNil:=⟨_,QMt,fun G H σ ς W S q=>q σ H G S (Same.refl G)⟩
theorem Qf(h1:DS C st T)(h2:DSs C rest U):DSs C (st::rest) (sSeq T U):=by
 obtain⟨t1,p1,q1⟩:=h1
 obtain⟨t2,p2,q2⟩:=h2
 refine⟨_,QK5 p1 p2,fun G H σ ς W S q=>?_⟩
 unfold sSeq at q
 rw[Out.post_bind]at q
 refine q1 G H σ ς _ S (Out.post_mono q fun f k=>?_)
 cases f with
 | nx ς'=>exact fun σ' H' G' S' s'=>q2 G' H' σ' ς' W S' (Out.post_mono (show(U ς').post _ _ from k) fun f k=>FlK.later k s')
 | bk ς'=>exact k
 | ct ς'=>exact k
 | rt b d=>exact k
theorem Qh(h1:DS C st T):DSs C [st] T:=let ⟨t,p,q⟩:=h1;⟨t,QMy p,q⟩
def sSet(i:Nat)(E:SD->Out D):SD->Out Fl:=fun ς=>E ς>>=fun d=>.ok (.nx (ς.set i (some (.k,d))))
def sSetO(i:Nat)(E:SD->Out D):SD->Out Fl:=fun ς=>E ς>>=fun d=>.ok (.nx (ς.set i (some (.o,d))))
theorem Qw{i:Nat}{x:Str}{pos':Pos}(hN:C.X.N.Nodup)(hi:C.X.N[i]?=some x)(hx:Loc C.X.env.scope x)(he:DE C e E)(hs:swapsWith e (some (.Name x pos')) pos.line C.X.env=pure false:=by rfl)
 (hf:C.X.fn x=true∨C.X.env.scope.names.lookup x=some .local:=by first | exact .inl rfl | exact .inr rfl | assumption):DS C (.Assign [.Name x pos'] e pos) (sSet i E):=by
 obtain⟨t,p,q⟩:=he
 refine⟨_,QJA hN hi hx p hs hf,fun G H σ ς W S k=>?_⟩
 unfold sSet at k
 rw[Out.post_bind]at k
 exact q G H σ ς _ S (Out.post_mono k fun d k v H1 G1 S1 a1 b1 r1=>k _ H1 G1 (S1.set i r1) b1)
theorem Qb4{i:Nat}{x:Str}{pos':Pos}(hN:C.X.N.Nodup)(hi:C.X.N[i]?=some x)(hx:Loc C.X.env.scope x)(he:DF C e E)(hs:swapsWith e (some (.Name x pos')) pos.line C.X.env=pure false:=by rfl)
 (hf:C.X.fn x=true∨C.X.env.scope.names.lookup x=some .local:=by first | exact .inl rfl | exact .inr rfl | assumption):DS C (.Assign [.Name x pos'] e pos) (sSetO i E):=by
 obtain⟨t,p,q⟩:=he
 refine⟨_,QJA hN hi hx p hs hf,fun G H σ ς W S k=>?_⟩
 unfold sSetO at k
 rw[Out.post_bind]at k
 exact q G H σ ς _ S (Out.post_mono k fun d k p H1 G1 S1 a1 b1 hp hg ow=>k _ H1 G1 (S1.setO i hg (S.h0none hp) ow fun j e _ z=>S.new_ne hp j e z) b1)
def sPar(i j:Nat)(A:SD->Out (List D)):SD->Out Fl:=fun ς=>A ς>>=fun ds=>match ds with
 | [x,y]=>.ok (.nx ((ς.set i (some (.k,x))).set j (some (.k,y))))
 | _=>.stuck
theorem QPX{i j:Nat}{x y:Str}{a b:Expr}{A:SD->Out (List D)}{px py pt:Pos}{kt k2 pt2}(hc:C.X.calm=true)(hN:C.X.N.Nodup)(hi:C.X.N[i]?=some x)(hj:C.X.N[j]?=some y)(hij:i≠j)
 (hx:C.X.env.scope.names.lookup x=some .local) (hy:C.X.env.scope.names.lookup y=some .local) (ha:DA C [a,b] A)
 (hw:swappedStores [.Tuple [.Name x px,.Name y py] kt pt] (.Tuple [a,b] k2 pt2) C.X.env=pure (some [x,y]))
 (hs:swapsWithSole [.Tuple [.Name x px,.Name y py] kt pt] (.Tuple [a,b] k2 pt2) pos.line C.X.env=pure false:=by rfl):
 DS C (.Assign [.Tuple [.Name x px,.Name y py] kt pt] (.Tuple [a,b] k2 pt2) pos) (sPar i j A):=by
 obtain⟨t,p,q⟩:=ha
 refine⟨_,QPf hc hN hi hj hij hx hy p hw hs,fun G H σ ς W S k=>?_⟩
 unfold sPar at k
 rw[Out.post_bind]at k
 refine q G H σ ς _ S (Out.post_mono k fun ds k vs H1 G1 S1 a1 b1 r1=>?_)
 match ds,r1 with
 | [d1,d2],⟨v1,_,e1,rr1,v2,_,e2,rr2,e3⟩=>
  subst e3 e2 e1
  exact⟨v1,v2,rfl,k _ H1 G1 ((S1.set i rr1).set j rr2) b1⟩
 | [],_=>exact k.elim
 | [_],_=>exact k.elim
 | _::_::_::_,_=>exact k.elim
def QX:List Nat->List D->SD->Out SD
 | [],[],ς=>.ok ς
 | i::is,d::ds,ς=>QX is ds (ς.set i (some (.k,d)))
 | _,_,_=>.stuck
def DGs(C:Dc)(es:List Expr)(is:List Nat):Prop:=∃ t,PGs C.X es t/\∀ G H σ ς ds vs ς' (Q:St->Hp->Prop),StR C G H σ ς->RepL C.X.K C.CT G ds vs->QX is ds ς=.ok ς'->
 (∀ σ',StR C G H σ' ς'->Q σ' H)->t vs σ H Q
theorem Qbe:DGs C [] []:=by
 refine⟨_,QNx,fun G H σ ς ds vs ς' Q S r h q=>?_⟩
 cases ds with
 | nil=>
  cases h
  exact⟨r,q σ S⟩
 | cons d ds=>cases h
theorem QE{i:Nat}{is:List Nat}{x:Str}{es:List Expr}(hN:C.X.N.Nodup)(hi:C.X.N[i]?=some x)(hx:Loc C.X.env.scope x)(h2:DGs C es is)
 (hf:C.X.fn x=true∨C.X.env.scope.names.lookup x=some .local:=by first | exact .inl rfl | exact .inr rfl | assumption)
 (hs:(assignEach (.Name x pos::es) C.X.env).map (·.2)=assign (.Name x pos) C.X.env::(assignEach es C.X.env).map (·.2):=by rfl):DGs C (.Name x pos::es) (i::is):=by
 obtain⟨t,p,q⟩:=h2
 refine⟨_,QLL (QEJ hN hi hx hf) p hs,fun G H σ ς ds vs ς' Q S r h k=>?_⟩
 cases ds with
 | nil=>cases h
 | cons d ds=>
  obtain⟨v,w,rfl,r1,r2⟩:=r
  exact⟨v,w,rfl,q G H _ _ ds w ς' Q (S.set i r1) r2 h k⟩
def sUnp(is:List Nat)(E:SD->Out D):SD->Out Fl:=fun ς=>E ς>>=fun d=>match d with
 | .tup ds=>QX is ds ς>>=fun ς'=>.ok (.nx ς')
 | _=>.stuck
theorem Qjz:∀{is:List Nat}{ds:List D}{ς ς':SD},QX is ds ς=.ok ς'->ds.length=is.length
 | [],[],_,_,_=>rfl
 | i::is,d::ds,ς,ς',h=>by
  have:=Qjz (is:=is) (ds:=ds) h
  simp[this]
 | [],_::_,_,_,h=>by cases h
 | _::_,[],_,_,h=>by cases h
theorem QlW{es:List Expr}{is:List Nat}{k:Nat}{pt:Pos}(hc:C.X.calm=true)(he:DE C e E)(hg:DGs C es is)(hn:(assignEach es C.X.env).length=is.length:=by rfl)(hst:(assignEach es C.X.env).findIdx? (·.1)=none:=by rfl)
 (hs:swapsWithSole [.Tuple es k pt] e pos.line C.X.env=pure false:=by rfl) (hw:swappedStores [.Tuple es k pt] e C.X.env=pure none:=by rfl)
 (h1:(assignEach [.Tuple es k pt] C.X.env).map (·.2)=[assign (.Tuple es k pt) C.X.env]:=by rfl):DS C (.Assign [.Tuple es k pt] e pos) (sUnp is E):=by
 obtain⟨t,p,q⟩:=he
 obtain⟨t2,p2,q2⟩:=hg
 refine⟨_,QJk p (QIz hc p2 hn hst) hs hw h1,fun G H σ ς W S k=>?_⟩
 unfold sUnp at k
 rw[Out.post_bind]at k
 refine q G H σ ς _ S (Out.post_mono k fun d k v H1 G1 S1 a1 b1 r1=>?_)
 cases d with
 | tup ds=>
  obtain⟨a,vs,rfl,h2,h3⟩:=r1
  have k':(QX is ds ς>>=fun ς'=>Out.ok (Fl.nx ς')).post (FlK C G W) C.XD:=k
  rw[Out.post_bind]at k'
  cases z:QX is ds ς with
  | exc _=>exact absurd z (by
   have:∀(is:List Nat) (ds:List D) (ς:SD) x,QX is ds ς≠.exc x:=by
    intro is
    induction is with
    | nil=>intro ds ς x h;cases ds<;>cases h
    | cons i is ih=>intro ds ς x h;cases ds with
     | nil=>cases h
     | cons d ds=>exact ih ds _ x h
   exact this is ds ς _)
  | stuck=>rw[z]at k';exact k'.elim
  | ok ς'=>
   rw[z]at k'
   refine⟨a,vs,rfl,Same.sqT S1.sub h2,by rw[← h3.length];exact Qjz z,?_⟩
   exact q2 G1 H1 σ ς ds vs ς' _ S1 h3 z fun σ' S'=>k' σ' H1 G1 S' b1
 | _=>exact k.elim
def sRet(E:SD->Out D):SD->Out Fl:=fun ς=>E ς>>=fun d=>.ok (.rt false d)
def sRetF(E:SD->Out D):SD->Out Fl:=fun ς=>E ς>>=fun d=>.ok (.rt true d)
theorem Qx(he:DE C e E):DS C (.Return (some e) pos) (sRet E):=by
 obtain⟨t,p,q⟩:=he
 refine⟨_,QzG p,fun G H σ ς W S k=>?_⟩
 unfold sRet at k
 rw[Out.post_bind]at k
 exact q G H σ ς _ S (Out.post_mono k fun d k v H1 G1 S1 a1 b1 r1=>k v H1 G1 S1.toGH b1 r1)
theorem Qa1(he:DF C e E):DS C (.Return (some e) pos) (sRetF E):=by
 obtain⟨t,p,q⟩:=he
 refine⟨_,QzG p,fun G H σ ς W S k=>?_⟩
 unfold sRetF at k
 rw[Out.post_bind]at k
 exact q G H σ ς _ S (Out.post_mono k fun d k p H1 G1 S1 a1 b1 hp hg ow=>k _ H1 G1 S1.toGH b1 ⟨p,rfl,S.h0none hp,hg,ow⟩)
def sRetO(i:Nat):SD->Out Fl:=fun ς=>match ς[i]? with | some (some (.o,d))=>.ok (.rt true d) | _=>.stuck
theorem QiM(i:Nat){x:Str}{px:Pos}(hN:C.X.N[i]?=some x:=by rfl)(hv:Vis C.X.env.scope x:=by first | exact Or.inl rfl | exact Or.inr (oi rfl) | exact Or.inr (Or.inr rfl))
 (hd:‹"d"›:=by decide) (hcd:‹"I"›:=by decide):DS C (.Return (some (.Name x px)) pos) (sRetO i):=by
 refine⟨_,QzG (Qex (i:=i) hN hv hd hcd),fun G H σ ς W S k=>?_⟩
 unfold sRetO at k
 split at k
 ·rename_i d z
  obtain⟨p,a,b,c,w⟩:=S.ow i d z
  exact⟨_,a,k _ H G S.toGH (Same.refl G) ⟨p,rfl,c,b,w⟩⟩
 ·exact k.elim
def sIf(c:SD->Out Bool)(T U:SD->Out Fl):SD->Out Fl:=fun ς=>c ς>>=fun b=>if b=true then T ς else U ς
theorem ds_if{c:Expr}{a b:List Stmt}{TC:SD->Out Bool}(hc:DT C c TC)(ha:DSs C a T)(hb:DSs C b U):DS C (.If c a b pos) (sIf TC T U):=by
 obtain⟨t0,p0,q0⟩:=hc
 obtain⟨t1,p1,q1⟩:=ha
 obtain⟨t2,p2,q2⟩:=hb
 refine⟨_,ps_if p0 p1 p2,fun G H σ ς W S k=>?_⟩
 unfold sIf at k
 rw[Out.post_bind]at k
 refine q0 G H σ ς _ S (Out.post_mono k fun b k H1 G1 S1 a1 b1=>?_)
 cases b with
 | true=>exact iteT (q1 G1 H1 σ ς W S1 (Out.post_mono (show(T ς).post _ _ from k) fun f k=>FlK.later k b1))
 | false=>exact iteF (q2 G1 H1 σ ς W S1 (Out.post_mono (show(U ς).post _ _ from k) fun f k=>FlK.later k b1))
def Qd0:SD->Out Fl:=fun _=>.stuck
theorem QcI:DS C st Qd0:=⟨_,QLj,fun G H σ ς W S k=>k.elim⟩
end
def loopD(body:D->SD->Out Fl):List D->SD->Out Fl
 | [],ς=>.ok (.nx ς)
 | x::xs,ς=>body x ς>>=fun f=>match f with
  | .nx ς'=>loopD body xs ς'
  | .ct ς'=>loopD body xs ς'
  | .bk ς'=>.ok (.nx ς')
  | .rt b d=>.ok (.rt b d)
def DG(C:Dc)(tg:Expr)(g:D->SD->Out SD):Prop:=∃ t,PG C.X tg t/\∀ G H σ ς d v ς' (Q:St->Hp->Prop),StR C G H σ ς->Rep C.X.K C.CT G d v->g d ς=.ok ς'->(∀ σ',StR C G H σ' ς'->Q σ' H)->t v σ H Q
def gN(i:Nat):D->SD->Out SD:=fun d ς=>.ok (ς.set i (some (.k,d)))
def gT(is:List Nat):D->SD->Out SD:=fun d ς=>match d with | .tup ds=>QX is ds ς | _=>.stuck
def noExc{α β γ : Type}(g:α->β->Out γ):Prop:=∀ a b x,g a b≠.exc x
theorem Qt(i:Nat):noExc (gN i):=fun _ _ _ h=>by cases h
theorem QzA(is:List Nat):∀(ds:List D) (ς:SD) x,QX is ds ς≠.exc x:=by
 induction is with
 | nil=>intro ds ς x h;cases ds<;>cases h
 | cons i is ih=>intro ds ς x h;cases ds with
  | nil=>cases h
  | cons d ds=>exact ih ds _ x h
theorem Qcd(is:List Nat):noExc (gT is):=fun d ς x h=>by
 cases d with
 | tup ds=>exact QzA is ds ς x h
 | _=>cases h
section
variable{C:Dc}{e tg iter:Expr}{E:SD->Out D}{body:List Stmt}{T U:SD->Out Fl}{pos:Pos}{g:D->SD->Out SD}
theorem Qy{i:Nat}{x:Str}(hN:C.X.N.Nodup)(hi:C.X.N[i]?=some x)(hx:Loc C.X.env.scope x)
 (hf:C.X.fn x=true∨C.X.env.scope.names.lookup x=some .local:=by first | exact .inl rfl | exact .inr rfl | assumption):DG C (.Name x pos) (gN i):=
 ⟨_,QEJ hN hi hx hf,fun G H σ ς d v ς' Q S r h k=>by cases h;exact k _ (S.set i r)⟩
theorem QdY{es:List Expr}{is:List Nat}{k:Nat}(hc:C.X.calm=true)(hg:DGs C es is)(hn:(assignEach es C.X.env).length=is.length:=by rfl)(hst:(assignEach es C.X.env).findIdx? (·.1)=none:=by rfl):
 DG C (.Tuple es k pos) (gT is):=by
 obtain⟨t2,p2,q2⟩:=hg
 refine⟨_,QIz hc p2 hn hst,fun G H σ ς d v ς' Q S r h k=>?_⟩
 cases d with
 | tup ds=>
  obtain⟨a,vs,rfl,h2,h3⟩:=r
  exact⟨a,vs,rfl,Same.sqT S.sub h2,by rw[← h3.length];exact Qjz h,q2 G H σ ς ds vs ς' Q S h3 h k⟩
 | _=>cases h
def sFor(g:D->SD->Out SD)(its:SD->Out (List D))(T:SD->Out Fl):SD->Out Fl:=fun ς=>its ς>>=fun xs=>loopD (fun x ς=>g x ς>>=fun ς'=>T ς') xs ς
def itL(E:SD->Out D):SD->Out (List D):=fun ς=>E ς>>=fun d=>match d with | .lst xs=>.ok xs | _=>.stuck
theorem turnD{W:Ends}{x:D}{v:V}{xs:List D}{G H:Hp}{σ:St}{ς:SD}{tb:TS}{tt:TG}{N:L2.St->Hp->Prop}(hne:noExc g)
 (hg:∀ G H σ ς d v ς' (Q:St->Hp->Prop),StR C G H σ ς->Rep C.X.K C.CT G d v->g d ς=.ok ς'->(∀ σ',StR C G H σ' ς'->Q σ' H)->tt v σ H Q)
 (hb:∀ G H σ ς W,StR C G H σ ς->(T ς).post (FlK C G W) C.XD->tb W σ H)
 (S:StR C G H σ ς) (r:Rep C.X.K C.CT G x v) (q:(loopD (fun x ς=>g x ς>>=fun ς'=>T ς') (x::xs) ς).post (FlK C G W) C.XD)
 (hN:∀ σ' H' G' ς',StR C G' H' σ' ς'->Same G G'->(loopD (fun x ς=>g x ς>>=fun ς'=>T ς') xs ς').post (FlK C G' W) C.XD->N σ' H'):
 tt v σ H fun σ2 H2=>tb { W with nx:=N,ct:=N,bk:=W.nx } σ2 H2:=by
 have q':((g x ς>>=fun ς'=>T ς')>>=fun f=>match f with
  | .nx ς'=>loopD (fun x ς=>g x ς>>=fun ς'=>T ς') xs ς'
  | .ct ς'=>loopD (fun x ς=>g x ς>>=fun ς'=>T ς') xs ς'
  | .bk ς'=>.ok (.nx ς')
  | .rt b d=>.ok (.rt b d)).post (FlK C G W) C.XD:=q
 rw[Out.post_bind,Out.post_bind]at q'
 cases z:g x ς with
 | exc y=>exact absurd z (hne _ _ _)
 | stuck=>rw[z]at q';exact q'.elim
 | ok ς1=>
  rw[z]at q'
  refine hg G H σ ς x v ς1 _ S r z fun σ1 S1=>hb G H σ1 ς1 _ S1 (Out.post_mono q' fun f k=>?_)
  cases f with
  | nx ς'=>exact fun σ' H' G' S' s'=>hN σ' H' G' ς' S' s' (Out.post_mono (show(loopD _ xs ς').post _ _ from k) fun f k=>FlK.later k s')
  | ct ς'=>exact fun σ' H' G' S' s'=>hN σ' H' G' ς' S' s' (Out.post_mono (show(loopD _ xs ς').post _ _ from k) fun f k=>FlK.later k s')
  | bk ς'=>exact fun σ' H' G' S' s'=>(show FlK C G W (.nx ς') from k) σ' H' G' S' s'
  | rt b d=>exact k
theorem Qtt{α:Type}{xs:List α}{i:Nat}{x:α}(h:xs[i]?=some x):xs.drop i=x::xs.drop (i+1):=by
 obtain⟨l,e⟩:=List.getElem?_eq_some_iff.mp h
 rw[List.drop_eq_getElem_cons l,e]
def Qa4(lo:Int)(n:Nat):List D:=(List.range n).map fun(i:Nat)=>D.int (lo+i)
theorem QHd{lo:Int}{n i:Nat}(h:i<n):(Qa4 lo n)[i]?=some (D.int (lo+i)):=by
 unfold Qa4
 rw[List.getElem?_map,List.getElem?_range h];rfl
theorem Qp4{lo:Int}{n:Nat}:(Qa4 lo n).length=n:=by simp[Qa4]
def Qjg(i:Int):Bool:=decide (-(2 ^ 62)<=i)&&decide (i<2 ^ 62)
def itR1(A:SD->Out D):SD->Out (List D):=fun ς=>A ς>>=fun d=>match d with
 | .int n=>if Qjg n=true then .ok (Qa4 0 n.toNat) else .stuck
 | _=>.stuck
theorem QFx{i:Int}(h:Qjg i=true) : -(2 ^ 62)<=i/\i<2 ^ 62:=by
 unfold Qjg at h
 rw[Bool.and_eq_true]at h
 exact⟨of_decide_eq_true h.1,of_decide_eq_true h.2⟩
def QJ(c:SD->Out Bool)(b:SD->Out Fl):Nat->SD->Out Fl
 | 0,_=>.stuck
 | n+1,ς=>c ς>>=fun t=>if t=true then b ς>>=fun f=>match f with
  | .nx ς'=>QJ c b n ς'
  | .ct ς'=>QJ c b n ς'
  | .bk ς'=>.ok (.nx ς')
  | .rt b d=>.ok (.rt b d)
  else .ok (.nx ς)
def Qwu(m:SD->Nat)(c:SD->Out Bool)(b:SD->Out Fl):SD->Out Fl:=fun ς=>QJ c b (m ς) ς
theorem QLV(m:SD->Nat){c:Expr}{TC:SD->Out Bool}(hp:PassesOwn (model C.X.prog C.X.w) C.X.A C.X.env C.X.xe)(hc:DT C c TC)(hb:DSs C body T):DS C (.While c body [] pos) (Qwu m TC T):=by
 obtain⟨t0,p0,q0⟩:=hc
 obtain⟨t1,p1,q1⟩:=hb
 refine⟨_,QL2 hp p0 p1,fun G H σ ς W S k=>?_⟩
 refine⟨fun n σ' H'=>∃ G' ς',StR C G' H' σ' ς'/\(QJ TC T n ς').post (FlK C G' W) C.XD,⟨m ς,G,ς,S,k⟩,?_⟩
 rintro n σ' H' ⟨G',ς',S',k'⟩
 cases n with
 | zero=>exact k'.elim
 | succ n=>
  rw[QJ,Out.post_bind]at k'
  refine q0 G' H' σ' ς' _ S' (Out.post_mono k' fun b k H1 G1 S1 a1 b1=>?_)
  cases b with
  | false=>exact iteF ((show FlK C G' W (.nx ς') from k) σ' H1 G1 S1 b1)
  | true=>
   rw[if_pos rfl,Out.post_bind]at k
   refine iteT ⟨fun σ2 H2=>∃ G2 ς2,StR C G2 H2 σ2 ς2/\(QJ TC T n ς2).post (FlK C G2 W) C.XD,fun σ2 H2 h=>⟨n,Nat.lt_succ_self n,h⟩,?_⟩
   refine q1 G1 H1 σ' ς' _ S1 (Out.post_mono k fun f k=>?_)
   cases f with
   | nx ς2=>exact fun σ2 H2 G2 S2 s2=>⟨G2,ς2,S2,Out.post_mono (show(QJ TC T n ς2).post _ _ from k) fun f k=>FlK.later k (b1.trans s2)⟩
   | ct ς2=>exact fun σ2 H2 G2 S2 s2=>⟨G2,ς2,S2,Out.post_mono (show(QJ TC T n ς2).post _ _ from k) fun f k=>FlK.later k (b1.trans s2)⟩
   | bk ς2=>exact fun σ2 H2 G2 S2 s2=>(show FlK C G' W (.nx ς2) from k) σ2 H2 G2 S2 (b1.trans s2)
   | rt b d=>exact FlK.later (show FlK C G' W (.rt b d) from k) b1
noncomputable def fuelC(c:SD->Out Bool)(b:SD->Out Fl)(ς:SD):Nat:=by
 classical exact if h:∃ n,QJ c b n ς≠.stuck then Classical.choose h else 0
noncomputable def QbK(c:SD->Out Bool)(b:SD->Out Fl):SD->Out Fl:=Qwu (fuelC c b) c b
theorem Qs3{c:Expr}{TC:SD->Out Bool}(hp:PassesOwn (model C.X.prog C.X.w) C.X.A C.X.env C.X.xe)(hc:DT C c TC)(hb:DSs C body T):DS C (.While c body [] pos) (QbK TC T):=QLV (fuelC TC T) hp hc hb
theorem Qin{c:SD->Out Bool}{b:SD->Out Fl}:∀(n:Nat)(ς:SD),QJ c b n ς≠.stuck->QJ c b (n+1) ς=QJ c b n ς
 | 0,ς,h=>absurd rfl h
 | n+1,ς,h=>by
  rw[QJ,QJ]
  rw[QJ]at h
  cases hc:c ς with
  | stuck=>rfl
  | exc _=>rfl
  | ok t=>
   rw[hc]at h
   cases t with
   | false=>rfl
   | true=>
    have h':(b ς>>=fun f=>match f with
     | .nx ς'=>QJ c b n ς'
     | .ct ς'=>QJ c b n ς'
     | .bk ς'=>.ok (.nx ς')
     | .rt b d=>.ok (.rt b d))≠.stuck:=h
    show(b ς>>=fun f=>match f with
     | .nx ς'=>QJ c b (n+1) ς'
     | .ct ς'=>QJ c b (n+1) ς'
     | .bk ς'=>.ok (.nx ς')
     | .rt b d=>.ok (.rt b d))=(b ς>>=fun f=>match f with
     | .nx ς'=>QJ c b n ς'
     | .ct ς'=>QJ c b n ς'
     | .bk ς'=>.ok (.nx ς')
     | .rt b d=>.ok (.rt b d))
    cases hb:b ς with
    | stuck=>rfl
    | exc _=>rfl
    | ok f=>
     rw[hb]at h'
     cases f with
     | nx ς'=>exact Qin n ς' h'
     | ct ς'=>exact Qin n ς' h'
     | bk _=>rfl
     | rt _ _=>rfl
theorem QlV{c:SD->Out Bool}{b:SD->Out Fl}{ς:SD}{n:Nat}(h:QJ c b n ς≠.stuck):∀ k,QJ c b (n+k) ς=QJ c b n ς
 | 0=>rfl
 | k+1=>by
  have ih:=QlV h k
  rw[← Nat.add_assoc,Qin (n+k) ς (by rw[ih];exact h),ih]
theorem Qcr{c:SD->Out Bool}{b:SD->Out Fl}{ς:SD}(n:Nat)(h:QJ c b n ς≠.stuck):QbK c b ς=QJ c b n ς:=by
 have hx:∃ n,QJ c b n ς≠.stuck:=⟨n,h⟩
 have e:fuelC c b ς=Classical.choose hx:=by unfold fuelC;rw[dif_pos hx]
 unfold QbK Qwu
 rw[e]
 have h2:=Classical.choose_spec hx
 generalize Classical.choose hx=m at h2 ⊢
 rcases Nat.le_total n m with hl | hl
 ·obtain⟨k,rfl⟩:=Nat.exists_eq_add_of_le hl
  exact QlV h k
 ·obtain⟨k,rfl⟩:=Nat.exists_eq_add_of_le hl
  exact(QlV h2 k).symm
theorem QeM{c:SD->Out Bool}{b:SD->Out Fl}{ς:SD}(h:∀ n,QJ c b n ς=.stuck):QbK c b ς=.stuck:=h _
theorem Qb2(c:SD->Out Bool)(b:SD->Out Fl)(ς:SD):QbK c b ς=(c ς>>=fun t=>if t=true then b ς>>=fun f=>match f with
 | .nx ς'=>QbK c b ς'
 | .ct ς'=>QbK c b ς'
 | .bk ς'=>.ok (.nx ς')
 | .rt b d=>.ok (.rt b d)
 else .ok (.nx ς)):=by
 have key:∀ n,QJ c b (n+1) ς≠.stuck->QbK c b ς=QJ c b (n+1) ς:=fun n h=>Qcr _ h
 cases hc:c ς with
 | stuck=>exact QeM fun n=>by cases n with | zero=>rfl | succ n=>rw[QJ,hc];rfl
 | exc x=>exact(Qcr 1 (by rw[QJ,hc];exact fun z=>nomatch z)).trans (by rw[QJ,hc];rfl)
 | ok t=>
  cases t with
  | false=>exact(Qcr 1 (by rw[QJ,hc];exact fun z=>nomatch z)).trans (by rw[QJ,hc];rfl)
  | true=>
   cases hb:b ς with
   | stuck=>exact(QeM fun n=>by cases n with | zero=>rfl | succ n=>rw[QJ,hc];show(b ς>>=_)=_;rw[hb];rfl).trans (by show _=Out.stuck;rfl)
   | exc x=>exact(Qcr 1 (by rw[QJ,hc];show(b ς>>=_)≠_;rw[hb];exact fun z=>nomatch z)).trans (by rw[QJ,hc];show(b ς>>=_)=_;rw[hb];rfl)
   | ok f=>
    have go:∀ ς',(f=.nx ς'∨f=.ct ς')->(∀ n,QJ c b (n+1) ς=QJ c b n ς')->QbK c b ς=QbK c b ς':=fun ς' _ e=>by
     by_cases hx:∃ n,QJ c b n ς'≠.stuck
     ·obtain⟨n,hn⟩:=hx
      rw[Qcr n hn,Qcr (n+1) (by rw[e];exact hn),e]
     ·have hs:∀ n,QJ c b n ς'=.stuck:=fun n=>Classical.byContradiction fun z=>hx ⟨n,z⟩
      rw[QeM hs]
      exact QeM fun n=>by cases n with | zero=>rfl | succ n=>rw[e];exact hs n
    cases f with
    | nx ς'=>exact go ς' (.inl rfl) fun n=>by rw[QJ,hc];show(b ς>>=_)=_;rw[hb];rfl
    | ct ς'=>exact go ς' (.inr rfl) fun n=>by rw[QJ,hc];show(b ς>>=_)=_;rw[hb];rfl
    | bk ς'=>exact(Qcr 1 (by rw[QJ,hc];show(b ς>>=_)≠_;rw[hb];exact fun z=>nomatch z)).trans (by rw[QJ,hc];show(b ς>>=_)=_;rw[hb];rfl)
    | rt r d=>exact(Qcr 1 (by rw[QJ,hc];show(b ς>>=_)≠_;rw[hb];exact fun z=>nomatch z)).trans (by rw[QJ,hc];show(b ς>>=_)=_;rw[hb];rfl)
end
end DL
namespace DL
open PySem PySem.Spec PyProof.Rows L2
def RetG(K:W.Frag)(CT:CTab)(fr:Bool)(H0 G' H':Hp)(d:D)(v:V):Prop:=
 if (fr && !d.scal)=true then ∃ p,v=.ref p/\H0 p=none/\G' p=none/\Own K CT G' H' p d else Rep K CT G' d v
def retF(fr:Bool):Fl->Out D
 | .rt b d=>if (!fr||b||d.scal)=true then .ok d else .stuck
 | .nx _=>.ok .non
 | _=>.stuck
def bodyF(fr:Bool)(n len:Nat)(T:SD->Out Fl):List D->Out D:=fun ds=>
 if ds.length=n then T (ds.map (fun d=>some (.k,d))++List.replicate (len - n) none)>>=retF fr else .stuck
def SpD(K:W.Frag)(CT:CTab)(fr:Bool)(m:List D->Out D):Sp:=fun vs H Q _=>∃ ds G0,Same G0 H/\RepL K CT G0 ds vs/\
 (m ds).post (fun d=>∀ v H' G',Same G0 G'->Same H H'->Same G' H'->(∀ b,G0 b=none->G' b≠none->H b=none)->RetG K CT fr H G' H' d v->Q v H') (fun _=>False)
structure FunV(K:W.Frag)(x qual:Str)(st:Stmt)(f:Addr)(fd:FuncData)(dV:Value):Prop where
 ex:∃(oc:Value)(od:Option Addr)(kV doc pm:Value)(an:Option Addr)(cdv ct:Value)(osl:Array (Option Value)),
  fd=W.fnOf x qual (Ql st) (Qk st) (Qd st) dV kV doc pm an cdv ct/\K.lookup f=some ⟨oc,od,.func fd,osl⟩/\W.codeIn K cdv qual=true
 kp:W.keepIn K (.ref f)=true
theorem Qp{K:W.Frag}{x qual:Str}{st:Stmt}{f:Addr}{oc:Value}{od an:Option Addr}{osl:Array (Option Value)}{dV kV doc pm cdv ct:Value}(l:K.lookup f=some ⟨oc,od,.func (W.fnOf x qual (Ql st) (Qk st) (Qd st) dV kV doc pm an cdv ct),osl⟩)
 (c:W.codeIn K cdv qual=true) (k:W.keepIn K (.ref f)=true):FunV K x qual st f (W.fnOf x qual (Ql st) (Qk st) (Qd st) dV kV doc pm an cdv ct) dV:=⟨⟨oc,od,kV,doc,pm,an,cdv,ct,osl,rfl,l,c⟩,k⟩
theorem FunV.binds{K:W.Frag}{x qual:Str}{st:Stmt}{f:Addr}{fd:FuncData}{ps:List Str}(F:FunV K x qual st f fd .none)
 (h:∀(kV doc pm:Value)(an:Option Addr)(cdv ct:Value)(us:List Value),us.length=ps.length->bindArgs (W.fnOf x qual (Ql st) (Qk st) (Qd st) .none kV doc pm an cdv ct) ⟨us,[]⟩=pure (ps.zip us)):Binds K fd ps []:=by
 obtain⟨oc,od,kV,doc,pm,an,cdv,ct,osl,rfl,lk,hcd⟩:=F.ex
 exact .all (h kV doc pm an cdv ct)
abbrev dcOf(P:Program)(w:World)(K:W.Frag)(mg:Str->Option Value)(base:Heap)(CT:CTab)(N:List Str)(qual:Str)(sc:Scope)(f:Addr)(cdv:Value)(A:Around)(outer:List Env)(s:Shared)(H:Hp)(E:XK)(G:Hp):Dc:=
 { X:=(cxOf CX0 P w K mg base N qual sc f cdv A outer s H E).nox,CT:=CT,G0:=G,XD:=fun _=>False,B:=H,M:=fun _=>False }
theorem QdQ{N:List Str}{vs:List V}{i:Nat}{v:V}(h:vs[i]?=some v):(L2.start N vs)[i]?=some (some v):=by
 unfold L2.start
 have hi:i<vs.length:=(List.getElem?_eq_some_iff.mp h).1
 rw[List.getElem?_append_left (by simpa using hi),List.getElem?_map,h];rfl
theorem QdN{ds:List D}{k:Nat}{i:Nat}{x:SM×D}(h:(ds.map (fun d=>some (SM.k,d))++List.replicate k (none:Option (SM×D)))[i]?=some (some x)):∃ d,ds[i]?=some d/\x=(.k,d):=by
 by_cases hi:i<ds.length
 ·rw[List.getElem?_append_left (by simpa using hi),List.getElem?_map]at h
  cases e:ds[i]? with
  | none=>rw[e]at h;cases h
  | some d=>rw[e]at h;cases h;exact⟨d,rfl,rfl⟩
 ·rw[List.getElem?_append_right (by simpa using hi),List.getElem?_replicate]at h
  split at h<;>cases h
theorem GH.freezeR{C:Dc}{G' H':Hp}(S:GH C G' H'){p:Addr}{o:HO}(hp:H' p=some o)(hg:G' p=none)(h0:C.X.H₀ p=none):GH C (upd G' p o) H' where
 sub:=fun b u q=>by
  by_cases hb:b=p
  ·subst hb;rw[QP]at q;cases q;exact hp
  ·rw[Qn hb]at q;exact S.sub b u q
 g0:=S.g0.trans (QF hg)
 new:=fun b h1 h2=>by
  by_cases hb:b=p
  ·subst hb;exact h0
  ·rw[Qn hb]at h2;exact S.new b h1 h2
 fr:=S.fr
 dom:=S.dom
 bs:=S.bs
 bh:=S.bh
theorem fnV{P:Program}{w:World}{K:W.Frag}{mg:Str->Option Value}{base:Heap}{CT:CTab}{fr:Bool}{x qual:Str}{st:Stmt}{f:Addr}{fd:FuncData}{dV:Value}{N ps:List Str}{k:Nat}{T:SD->Out Fl}
 (F:FunV K x qual st f fd dV) (S:Qm N ps (Qd st))
 (hb:∀(cdv:Value)(A:Around)(outer:List Env)(s:Shared)(H:Hp)(E:XK)(G:Hp),Room k (A.deeper (envOfC qual (Qd st) s.heap.objs.size f cdv))->DSs (dcOf P w K mg base CT N qual (Qd st) f cdv A outer s H E G) (Qk st) T):
 FnOk P w K mg base CX0 (k+1) f fd ps (SpD K CT fr (bodyF fr ps.length N.length T)):=by
 obtain⟨oc,od,kV,doc,pm,an,cdv,ct,osl,rfl,lk,hcd⟩:=F.ex
 have hpl:ps.length<=N.length:=by have:=congrArg List.length S.pre;rw[List.length_take]at this;omega
 have len:∀ vs H Q E,SpD K CT fr (bodyF fr ps.length N.length T) vs H Q E->vs.length=ps.length:=by
  intro vs H Q E ⟨ds,G0,sub,r,q⟩
  unfold bodyF at q
  by_cases hl:ds.length=ps.length
  ·rw[← r.length];exact hl
  ·rw[if_neg hl]at q;exact q.elim
 refine fn_of lk hcd S len fun A outer s H vs Q E hr hsp=>?_
 have hlen:=len vs H Q E hsp
 obtain⟨ds,G0,sub,r,q⟩:=hsp
 obtain⟨t,p1,q1⟩:=hb cdv A outer s H E G0 hr
 have hl:ds.length=ps.length:=by rw[r.length];exact hlen
 refine⟨t,p1.nox,?_⟩
 unfold bodyF at q
 rw[if_pos hl,Out.post_bind]at q
 have S0:StR (dcOf P w K mg base CT N qual (Qd st) f cdv A outer s H E G0) G0 H (L2.start N vs) (ds.map (fun d=>some (.k,d))++List.replicate (N.length - ps.length) none):={
  sub:=sub
  g0:=Same.refl _
  new:=fun b h1 h2=>absurd h1 h2
  fr:=fun b o e _=>e
  dom:=fun b e=>e
  bs:=Same.refl _
  bh:=fun b e=>e
  len:=by unfold L2.start;simp;omega
  fz:=fun i d e=>by
   obtain⟨d',e1,e2⟩:=QdN e
   cases e2
   obtain⟨v,e3,rv⟩:=r.get e1
   exact⟨v,QdQ e3,rv⟩
  ow:=fun i d e=>by
   obtain⟨d',e1,e2⟩:=QdN e
   cases e2
  ln:=fun i d e=>by
   obtain⟨d',e1,e2⟩:=QdN e
   cases e2
  inj:=fun i j d e p _ h=>by
   obtain⟨d',e1,e2⟩:=QdN h
   cases e2
  sf:=fun i d e=>by
   obtain⟨d',e1,e2⟩:=QdN e
   cases e2
  su:=fun i j d e p _ h=>by
   obtain⟨d',e1,e2⟩:=QdN h
   cases e2 }
 refine q1 G0 H (L2.start N vs) _ _ S0 (Out.post_mono q fun fl kk=>?_)
 cases fl with
 | nx ς'=>exact fun σ' H' G' S' s'=>kk .non H' G' s' (fun b o e=>S'.fr b o e id) S'.sub S'.new (by unfold RetG;rw[if_neg (by cases fr<;>decide)];rfl)
 | bk ς'=>exact fun σ' H' G' S' s'=>kk.elim
 | ct ς'=>exact fun σ' H' G' S' s'=>kk.elim
 | rt b d=>
  intro v H' G' S' s' ret
  have kk':(if (!fr||b||d.scal)=true then Out.ok d else Out.stuck).post (fun d=>∀ v H' G',Same G0 G'->Same H H'->Same G' H'->(∀ b,G0 b=none->G' b≠none->H b=none)->RetG K CT fr H G' H' d v->Q v H') (fun _=>False):=kk
  rcases QT kk' with⟨hc,k2⟩ | ⟨_,k2⟩
  ·have k3:∀ v H' G',Same G0 G'->Same H H'->Same G' H'->(∀ b,G0 b=none->G' b≠none->H b=none)->RetG K CT fr H G' H' d v->Q v H':=k2
   cases b with
   | false=>
    refine k3 v H' G' s' (fun b o e=>S'.fr b o e id) S'.sub S'.new ?_
    unfold RetG
    have hn:¬ (fr && !d.scal)=true:=by revert hc;cases fr<;>cases d.scal<;>simp
    rw[if_neg hn]
    exact ret
   | true=>
    obtain⟨p,rfl,h0,hg,ow⟩:=(show ∃ p,v=.ref p/\H p=none/\G' p=none/\Own K CT G' H' p d from ret)
    cases fr with
    | true=>
     refine k3 _ H' G' s' (fun b o e=>S'.fr b o e id) S'.sub S'.new ?_
     have hs:d.scal=false:=by cases d<;>first | rfl | exact ow.elim
     unfold RetG
     rw[if_pos (by rw[hs];rfl)]
     exact⟨p,rfl,h0,hg,ow⟩
    | false=>
     obtain⟨o,ho⟩:=ow.there
     have S2:=GH.freezeR S' ho hg h0
     refine k3 _ H' _ (s'.trans (QF hg)) (fun b o e=>S2.fr b o e id) S2.sub S2.new ?_
     unfold RetG
     rw[if_neg (by simp)]
     exact ow.known hg ho
  ·exact k2.elim
def DefOk(P:Program)(w:World)(K:W.Frag)(mg:Str->Option Value)(base:Heap)(CT:CTab)(x:Str)(k:Nat)(fr:Bool)(dd:List D)(m:List D->Out D):Prop:=
 ∃ f fd ps ds,FnOk P w K mg base CX0 k f fd ps (SpD K CT fr m)/\mg x=some (.ref f)/\W.keepIn K (.ref f)=true/\Binds K fd ps ds/\Vals (dd.map toV) ds
theorem QnA{K:W.Frag}{CT:CTab}{H:Hp}:∀{dd:List D},dd.all D.scal=true->RepL K CT H dd (dd.map toV)
 | [],_=>rfl
 | d::ds,h=>by
  rw[List.all_cons,Bool.and_eq_true]at h
  exact⟨_,_,rfl,QrI h.1,QnA h.2⟩
def Qje(o:Out D):Out D:=o>>=fun d=>if d.scal=true then .stuck else .ok d
section
variable{C:Dc}{x:Str}{k:Nat}{fr:Bool}{dd:List D}{m:List D->Out D}{e:Expr}{es:List Expr}{A:SD->Out (List D)}{p pos:Pos}
theorem de_f(h:DefOk C.X.prog C.X.w C.X.K C.X.mg C.X.base C.CT x k fr dd m)(hr:Room k C.X.A)(ha:DA C (e::es) A)(hg:Gl C.X x)(hs:dd.all D.scal=true:=by rfl)(hx:∀ x,¬ C.XD x:=by exact fun _ h=>h)
 (hdb:‹"d"›:=by decide) (he:‹"b"›:=by rfl) (hpl:(backTo pos (starEach es C.X.env)).any (·.1)=false:=by rfl):
 DE C (.Call (.Name x p) (e::es) [] pos) (eA (fun xs=>m (xs++dd)) A):=by
 obtain⟨f,fd,ps,ds,F,hm,hk,hb,hd⟩:=h
 obtain⟨t,p1,q1⟩:=ha
 refine⟨_,QrW F hr hg hm hk hb hd pass0 p1 hdb he hpl,fun G H σ ς Q S q=>?_⟩
 unfold eA at q
 rw[Out.post_bind]at q
 refine q1 G H σ ς _ S (Out.post_mono q fun xs kk vs H1 G1 S1 a1 b1 r1=>⟨xs++dd,G1,S1.sub,r1.append (QnA hs),?_⟩)
 cases z:m (xs++dd) with
 | stuck=>rw[z]at kk;exact kk.elim
 | exc y=>rw[z]at kk;exact absurd kk (hx y)
 | ok d=>
  rw[z]at kk
  intro v H' G' g1 h1 s1 n1 ret
  unfold RetG at ret
  by_cases hc:(fr && !d.scal)=true
  ·rw[if_pos hc]at ret
   obtain⟨pp,rfl,h0,hg',ow⟩:=ret
   obtain⟨o,ho⟩:=ow.there
   have S2:=(S1.grow h1 g1 s1 n1).freeze ho hg' (S1.h0none h0) (fun i d' z1 z2=>by
    obtain⟨o',ho'⟩:=S1.own_ne z1 z2
    rw[h0]at ho';cases ho')
   exact(show KD C G H σ ς Q d from kk) _ _ _ S2 (a1.trans h1) ((b1.trans g1).trans (QF hg')) (ow.known hg' ho)
  ·rw[if_neg hc]at ret
   exact(show KD C G H σ ς Q d from kk) v H' G' (S1.grow h1 g1 s1 n1) (a1.trans h1) (b1.trans g1) ret
theorem df_f(h:DefOk C.X.prog C.X.w C.X.K C.X.mg C.X.base C.CT x k true dd m)(hr:Room k C.X.A)(ha:DA C (e::es) A)(hg:Gl C.X x)(hs:dd.all D.scal=true:=by rfl)(hx:∀ x,¬ C.XD x:=by exact fun _ h=>h)
 (hdb:‹"d"›:=by decide) (he:‹"b"›:=by rfl) (hpl:(backTo pos (starEach es C.X.env)).any (·.1)=false:=by rfl):
 DF C (.Call (.Name x p) (e::es) [] pos) (fun ς=>Qje (eA (fun xs=>m (xs++dd)) A ς)):=by
 obtain⟨f,fd,ps,ds,F,hm,hk,hb,hd⟩:=h
 obtain⟨t,p1,q1⟩:=ha
 refine⟨_,QrW F hr hg hm hk hb hd pass0 p1 hdb he hpl,fun G H σ ς Q S q=>?_⟩
 unfold Qje eA at q
 rw[Out.post_bind,Out.post_bind]at q
 refine q1 G H σ ς _ S (Out.post_mono q fun xs kk vs H1 G1 S1 a1 b1 r1=>⟨xs++dd,G1,S1.sub,r1.append (QnA hs),?_⟩)
 cases z:m (xs++dd) with
 | stuck=>rw[z]at kk;exact kk.elim
 | exc y=>rw[z]at kk;exact absurd kk (hx y)
 | ok d=>
  rw[z]at kk
  intro v H' G' g1 h1 s1 n1 ret
  rcases QT (show(if d.scal=true then Out.stuck else Out.ok d).post _ _ from kk) with⟨_,kk⟩ | ⟨hc,kk⟩
  ·exact kk.elim
  ·unfold RetG at ret
   rw[if_pos (by cases hh:d.scal with | true=>exact absurd hh hc | false=>rfl)]at ret
   obtain⟨pp,rfl,h0,hg',ow⟩:=ret
   exact(show KF C G H σ ς Q d from kk) pp H' G' (S1.grow h1 g1 s1 n1) (a1.trans h1) (b1.trans g1) (a1.free h0) hg' ow
end
abbrev bitsI(i:Int):Nat:=Builtin.Int.intBits i
theorem Qoj:∀{xs:List W.WData}{x:W.WData},x∈xs->x.weight<=W.WData.weightAll xs
 | y::r,x,hx=>by
  rcases List.mem_cons.mp hx with rfl | hx'
  ·simp only[W.WData.weightAll];omega
  ·have:=Qoj hx'
   simp only[W.WData.weightAll];omega
theorem QAu{ns:List Int}(h:W.WData.layableAll [W.WData.list (ns.map W.WData.int)]=true):∀ z∈ns,bitsI z<=1048576:=fun z hz=>by
 have h1:(W.WData.list (ns.map W.WData.int)).layable=true:=by simpa [W.WData.layableAll] using h
 have h2:(W.WData.list (ns.map W.WData.int)).weight<=2 ^ 20:=of_decide_eq_true (Bool.and_eq_true_iff.mp h1).2
 have h3:(W.WData.int z).weight<=W.WData.weightAll (ns.map W.WData.int):=Qoj (List.mem_map.mpr ⟨z,hz,rfl⟩)
 have h4:(W.WData.int z).weight<=1048576:=by
  have e:(2:Nat) ^ 20=1048576:=by decide
  simp only[W.WData.weight]at h2
  omega
 simpa only[W.WData.weight,Builtin.Int.intBits] using h4
theorem walk_of{l:W.OpenLaw}{n k:Nat}{q:Program}{loose:List Str}{XP:(Str->Option Value)->Heap->Prop}{YP:World->Heap->Prop}{d:DefRec}{K:Params->W.Frag}{CX:World->CXT}{sp:World->Sp}{x:Str}
 (hn:l.most=some n) (hn2:n<=sizeLine) (hdf:d.params.defaults=[]) (hr:Room k callerA)
 (hY:∀(w:World)(h:Heap),YP w h->(K w.params).In h)
 (F:∀(w:World)(mg:Str->Option Value)(fa:Addr)(h:Heap),(K w.params).In h->h.Ns mainGlobals mg->mg d.name=some (.ref fa)->
  ∃ fd:FuncData,(∀(s:Shared)(u:Value),BindsTo s fd ⟨[u],[]⟩ [(x,u)])/\
   ∀ base:Heap,(K w.params).In base->base.Ns mainGlobals mg->FnOk l.prog w (K w.params) mg base (CX w) k fa fd [x] (sp w))
 (hsp:∀(w:World)(H:Hp)(a:Addr)(ns:List Int),ns.length<=n->(∀ z∈ns,bitsI z<=1048576)->Only H->SqL (K w.params) H a (ns.map V.int)->sp w [.ref a] H (fun v _=>v=.bl true) fun _ _ _=>False)
 (hCX:∀(w:World)(H:Hp)(s:Shared)(e:Value)(s':Shared),CX w [] H s (fun _ _ _=>False) e s'->False):
 W.WalkO q loose XP YP l.row.toRowW d [] (fun f vs=>PySem.call f vs):=by
 intro w s₀ s₁ mg mb G Y fa o pm cd doc dV kV ho hd hcd hD hmg hg args vals as hpre hlay hrd hwl hlo
 obtain rfl:dV=.none:=W.Dflts.none hD hdf
 obtain rfl:kV=.none:=W.Dflts.noKw hD
 obtain⟨a,vs,ns,rfl,rfl,hobj,hints,hlen⟩:=Att.script_of hn hpre hwl
 have KX:=hY w _ Y
 obtain⟨fd,hb,hF⟩:=F w mg fa _ KX G.T.g hmg
 refine W.enter_call (codeAny_mono (QLh KX G.T.g G.T.b G.T.builtins G.T.nolimit hg hobj hints (Nat.le_trans hlen hn2) hr hF hb (fun H hO hS=>hsp w H a ns hlen (QAu hlay) hO hS) fun H e s'=>hCX w H s₁ e s') fun r s' hq=>?_)
 obtain⟨rfl,h2,h3,h4⟩:=hq
 exact⟨.inl ⟨.bool true,.bool true,[],rfl,fun _=>rfl,.bool true,Att.post_true l _,fun _=>⟨List.Pairwise.nil,fun _ hm=>(nomatch hm)⟩⟩,h2,h3,h4⟩
end DL
namespace DL
open PySem PySem.Spec PyProof.Rows L2
def rCatS(K:W.Frag):R2:=fun x y H Q=>∃ l b xs zs,x=.ref l/\y=.ref b/\SqL K H l xs/\SqL K H b zs/\xs.length+zs.length<=sizeLine/\∀ p,H p=none->Q (.ref p) (upd H p (.lst (xs++zs)))
theorem QNA{X:Cx}:OpR X (binaryOp .Add) (rCatS X.K):=by
 intro pins s σ H x y v u Q I rx ry h
 obtain⟨l,b,xs,zs,rfl,rfl,hH,hB,hz,q⟩:=h
 cases rx
 cases ry
 obtain⟨its,r,pl,hz1⟩:=I.list hH
 obtain⟨its2,r2,pl2,hz2⟩:=I.list hB
 obtain⟨⟨cls,dd,data,sl⟩,n,ho,hc,hdd,hd⟩:=pl
 obtain⟨⟨cls2,dd2,data2,sl2⟩,n2,ho2,hc2,hdd2,hd2⟩:=pl2
 simp only at hc hd hc2 hd2
 subst hc hd hc2 hd2
 have e:its.toArray++its2.toArray=(its++its2).toArray:=by simp
 have h1:=r.length
 have h2:=r2.length
 refine concat_meets ⟨_,ho,rfl⟩ ⟨_,ho2,rfl⟩ noFill_list_add seq_list_add PySem.F.slot_list_add PySem.F.entry_list_add (PySem.F.args_list_add_2 _ _) (list_addW l b its.toArray its2.toArray n n2 dd dd2 sl sl2 (by rw[List.size_toArray,List.size_toArray];omega)) ⟨ho,ho2,?_⟩
 rw[e]
 exact⟨.ref _,_,I.lnew (t':=s.toks) (r.append r2) (by rw[List.length_append];omega),rfl,q _ I.fresh⟩
def dCat:D->D->Out D
 | .lst xs,.lst ys=>if fits (xs.length+ys.length)=true then .ok (.lst (xs++ys)) else .stuck
 | _,_=>.stuck
def dRep:D->D->Out D
 | .lst xs,.int k=>if (decide (-(2 ^ 63)<=k)&&decide (k<2 ^ 63)&&fits (xs.length * k.toNat))=true then .ok (.lst (List.replicate k.toNat xs).flatten) else .stuck
 | _,_=>.stuck
section
variable{C:Dc}{a b:Expr}{A B:SD->Out D}{pos:Pos}
theorem QwG(ha:DE C a A)(hb:DE C b B):DF C (.BinOp a .Add b pos) (e2 dCat A B):=by
 obtain⟨ta,p1,q1⟩:=ha
 obtain⟨tb,p2,q2⟩:=hb
 refine⟨_,pe_op QNA p1 p2,fun G H σ ς Q S q=>?_⟩
 unfold e2 at q
 rw[Out.post_bind]at q
 refine q1 G H σ ς _ S (Out.post_mono q fun x k v1 H1 G1 S1 a1 b1 r1=>?_)
 rw[Out.post_bind]at k
 refine q2 G1 H1 σ ς _ S1 (Out.post_mono k fun y k2 v2 H2 G2 S2 a2 b2 r2=>?_)
 have r1':=Rep.mono b2 x v1 r1
 cases x with
 | lst xs=>
  cases y with
  | lst ys=>
   obtain⟨p,vs,rfl,h2,h3⟩:=r1'
   obtain⟨p',vs',rfl,h2',h3'⟩:=r2
   rcases QT (show(if fits (xs.length+ys.length)=true then Out.ok (D.lst (xs++ys)) else .stuck).post _ _ from k2) with⟨hc,k3⟩ | ⟨_,k3⟩
   ·exact⟨p,p',vs,vs',rfl,rfl,S2.sub.seq h2,S2.sub.seq h2',by rw[← h3.length, ← h3'.length];exact of_decide_eq_true hc,
     KF.lst (KF.later (show KF C G H σ ς Q (.lst (xs++ys)) from k3) (a1.trans a2) (b1.trans b2)) S2 (h3.append h3')⟩
   ·exact k3.elim
  | _=>exact k2.elim
 | _=>cases y<;>exact k2.elim
theorem QQk(ha:DF C a A)(hb:DB C b B):DF C (.BinOp a .Mult b pos) (e2 dRep A B):=by
 obtain⟨ta,p1,q1⟩:=ha
 obtain⟨tb,p2,q2⟩:=hb
 refine⟨_,pe_op QPH p1 p2,fun G H σ ς Q S q=>?_⟩
 unfold e2 at q
 rw[Out.post_bind]at q
 refine q1 G H σ ς _ S (Out.post_mono q fun x k p H1 G1 S1 a1 b1 hp hg ow=>?_)
 rw[Out.post_bind]at k
 refine q2 G1 H1 σ ς _ S1 (Out.post_mono k fun y k2 v2 H2 G2 S2 a2 b2 r2=>?_)
 cases x with
 | lst xs=>
  cases y with
  | int i=>
   cases r2
   obtain⟨vs,h2,h3⟩:=ow
   rcases QT (show(if (decide (-(2 ^ 63)<=i)&&decide (i<2 ^ 63)&&fits (xs.length * i.toNat))=true then Out.ok (D.lst (List.replicate i.toNat xs).flatten) else .stuck).post _ _ from k2) with⟨hc,k3⟩ | ⟨_,k3⟩
   ·rw[Bool.and_eq_true,Bool.and_eq_true]at hc
    have h3':RepL C.X.K C.CT G2 xs vs:=RepL.mono b2 xs vs h3
    exact⟨p,i,vs,rfl,rfl,a2 _ _ h2,of_decide_eq_true hc.1.1,of_decide_eq_true hc.1.2,by rw[← h3'.length];exact of_decide_eq_true hc.2,
     KF.lst (KF.later (show KF C G H σ ς Q (.lst (List.replicate i.toNat xs).flatten) from k3) (a1.trans a2) (b1.trans b2)) S2 (h3'.rep i.toNat)⟩
   ·exact k3.elim
  | _=>exact k2.elim
 | _=>cases y<;>exact k2.elim
def dList:D->Out D
 | .lst xs=>.ok (.lst xs)
 | .tup xs=>.ok (.lst xs)
 | _=>.stuck
theorem Qdz{p:Pos}(hg:Gl C.X "list")(hm:C.X.mg "list"=none)(ha:DE C a A)
 (he:starEach (a::[]) C.X.env=(false,eval a C.X.env)::starEach [] C.X.env:=by rfl):DF C (.Call (.Name "list" p) [a] [] pos) (e1 dList A):=by
 obtain⟨ta,p1,q1⟩:=ha
 refine⟨_,Qtr QxL hg hm PyProof.Rows.Boot.«list» (Qbc p1 Qdo he) (by decide) (by decide) he rfl,fun G H σ ς Q S q=>?_⟩
 unfold e1 at q
 rw[Out.post_bind]at q
 refine q1 G H σ ς _ S (Out.post_mono q fun x k v1 H1 G1 S1 a1 b1 r1=>?_)
 cases x with
 | lst xs=>
  obtain⟨p,vs,rfl,h2,h3⟩:=r1
  exact⟨p,vs,rfl,.inl (S1.sub.seq h2),KF.lst (KF.later (show KF C G H σ ς Q (.lst xs) from k) a1 b1) S1 h3⟩
 | tup xs=>
  obtain⟨p,vs,rfl,h2,h3⟩:=r1
  exact⟨p,vs,rfl,.inr (Same.sqT S1.sub h2),KF.lst (KF.later (show KF C G H σ ς Q (.lst xs) from k) a1 b1) S1 h3⟩
 | _=>exact k.elim
end
section
variable{C:Dc}{e:Expr}{es:List Expr}{A:SD->Out (List D)}{p pos:Pos}
def dInt:D->Out D
 | .int i=>.ok (.int i)
 | .bl b=>.ok (.int (if b then 1 else 0))
 | _=>.stuck
theorem QEO(hg:Gl C.X "int")(hm:C.X.mg "int"=none)(ha:DAB C (e::es) A)
 (he:‹"b"›:=by rfl) (hpl:(backTo pos (starEach es C.X.env)).any (·.1)=false:=by rfl):DE C (.Call (.Name "int" p) (e::es) [] pos) (eA (f1 dInt) A):=by
 refine QJY QKg (Qld ?_) (Qjc ?_) hg hm PyProof.Rows.Boot.«int» ha (by decide) (by decide) he hpl
 ·intro G H σ ς Q x v S r q
  cases x with
  | int i=>cases r;exact .inl ⟨i,rfl,q.2⟩
  | bl b=>cases r;exact .inr ⟨b,rfl,q.2⟩
  | _=>exact q.elim
 ·intro x
  cases x<;>first | exact rfl | exact True.intro
end
def isaT(T:String):D->Out Bool
 | .ins _ _=>.stuck
 | .err _=>.stuck
 | .bl _=>.ok (T == "bool"||T == "int")
 | d=>.ok (Qas d == T)
structure Kit(K:W.Frag)(T:String):Prop where
 h:∀ d:D,(match d with | .ins _ _=>True | .err _=>True | .bl _=>W.kitOne K (.type "bool") (.type T)=some (T == "bool"||T == "int") | d=>W.kitOne K (.type (Qas d)) (.type T)=some (Qas d == T))
section
variable{C:Dc}{e:Expr}{E:SD->Out D}{p pc pos:Pos}
theorem QbY(T:Str){T':String}(k:Kit C.X.K T')(hgT:Gl C.X T)(hmT:C.X.mg T=none)(hb:bootBuiltins T=some (.type T'))(hg:Gl C.X "isinstance")(hm:C.X.mg "isinstance"=none)(h:DB C e E)
 (hn:T≠"__name__":=by decide) (hdb:(T == ("__debug__":Str))=false:=by decide)
 (he:starEach (e::[.Name T pc]) C.X.env=(false,eval e C.X.env)::starEach [.Name T pc] C.X.env:=by rfl) (he2:starEach (.Name T pc::[]) C.X.env=(false,eval (.Name T pc) C.X.env)::starEach [] C.X.env:=by rfl)
 (hpl:(backTo pos (starEach [.Name T pc] C.X.env)).any (·.1)=false:=by rfl):DE C (.Call (.Name "isinstance" p) [e,.Name T pc] [] pos) (eIsa (isaT T') E):=by
 refine QPo (vc:=.ty T') (uc:=.type T') (QNF hgT hmT hb rfl hn hdb) rfl (fun d=>?_) hg hm h he he2 hpl
 have:=k.h d
 cases d<;>first | exact True.intro | exact this
end
theorem Qlx{K:W.Frag}{T:String}(h1:W.kitOne K (.type "NoneType") (.type T)=some ("NoneType" == T))(h2:W.kitOne K (.type "bool") (.type T)=some (T == "bool"||T == "int"))
 (h3:W.kitOne K (.type "int") (.type T)=some ("int" == T)) (h4:W.kitOne K (.type "str") (.type T)=some ("str" == T)) (h5:W.kitOne K (.type "list") (.type T)=some ("list" == T))
 (h6:W.kitOne K (.type "tuple") (.type T)=some ("tuple" == T)) (h7:W.kitOne K (.type "dict") (.type T)=some ("dict" == T)):Kit K T:=⟨fun d=>by
 cases d with
 | non=>exact h1
 | bl _=>exact h2
 | int _=>exact h3
 | str _=>exact h4
 | lst _=>exact h5
 | tup _=>exact h6
 | dic _=>exact h7
 | ins _ _=>exact True.intro
 | err _=>exact True.intro⟩
theorem QD9{K:W.Frag}:Kit K "int":=Qlx (by rfl) (by rfl) (by rfl) (by rfl) (by rfl) (by rfl) (by rfl)
theorem QwY{K:W.Frag}:Kit K "bool":=Qlx (by rfl) (by rfl) (by rfl) (by rfl) (by rfl) (by rfl) (by rfl)
theorem QEi{K:W.Frag}:Kit K "str":=Qlx (by rfl) (by rfl) (by rfl) (by rfl) (by rfl) (by rfl) (by rfl)
theorem QjI{K:W.Frag}:Kit K "list":=Qlx (by rfl) (by rfl) (by rfl) (by rfl) (by rfl) (by rfl) (by rfl)
theorem QkJ{K:W.Frag}:Kit K "tuple":=Qlx (by rfl) (by rfl) (by rfl) (by rfl) (by rfl) (by rfl) (by rfl)
def QaX(i:Nat)(E:SD->Out D):SD->Out Fl:=fun ς=>match ς[i]? with
 | some (some (.o,.lst xs))=>E ς>>=fun d=>if decide (xs.length<sizeLine)=true then .ok (.nx (ς.set i (some (.o,.lst (xs++[d]))))) else .stuck
 | _=>.stuck
section
variable{C:Dc}{G H:Hp}{σ:St}{ς:SD}
theorem QfR{α:Type}{xs:List α}{i:Nat}{x:α}(h:xs[i]?=some x):xs.set i x=xs:=by
 obtain⟨hi,e⟩:=List.getElem?_eq_some_iff.mp h
 rw[← e];exact List.set_getElem_self hi
theorem StR.write(S:StR C G H σ ς){i:Nat}{p:Addr}{xs ys:List D}{vs ws:List V}(hi:ς[i]?=some (some (.o,.lst xs)))(hp:σ[i]?=some (some (.ref p)))(hH:H p=some (.lst vs))(r:RepL C.X.K C.CT G ys ws):
 StR C G (upd H p (.lst ws)) σ (ς.set i (some (.o,.lst ys))):=by
 obtain⟨p',e1,hg,h0,ow⟩:=S.ow i _ hi
 rw[hp]at e1;cases e1
 have hil:i<ς.length:=(List.getElem?_eq_some_iff.mp hi).1
 have ne:∀ b o,G b=some o->b≠p:=fun b o e z=>by subst z;rw[hg]at e;cases e
 have S':StR C G (upd H p (.lst ws)) (σ.set i (some (.ref p))) (ς.set i (some (.o,.lst ys))):={
  sub:=fun b o e=>by rw[Qn (ne b o e)];exact S.sub b o e
  g0:=S.g0
  new:=S.new
  fr:=fun b o e m=>by
   rw[Qn (by rintro rfl;rw[h0]at e;cases e)];exact S.fr b o e m
  dom:=fun b e=>by
   by_cases hb:b=p
   ·subst hb;exact h0
   ·rw[Qn hb]at e;exact S.dom b e
  bs:=fun b o e=>by
   rw[Qn (by rintro rfl;rw[S.bh _ h0]at e;cases e)];exact S.bs b o e
  bh:=S.bh
  len:=by rw[List.length_set,List.length_set];exact S.len
  fz:=fun j d h=>by
   rcases QK h with⟨rfl,h2,l⟩ | ⟨hne,h2⟩
   ·cases h2
   ·rw[Qq hne];exact S.fz j d h2
  ow:=fun j d h=>by
   rcases QK h with⟨rfl,h2,l⟩ | ⟨hne,h2⟩
   ·cases h2
    exact⟨p,Qfa (by rw[S.len];exact l),hg,h0,⟨ws,QP,r⟩⟩
   ·rw[Qq hne]
    obtain⟨q,a,b,c,w⟩:=S.ow j d h2
    have qp:q≠p:=by
     rintro rfl
     exact S.inj i j _ _ q hne hi h2 hp a
    exact⟨q,a,b,c,w.mono (Same.refl G) fun o z=>by rw[Qn qp];exact z⟩
  ln:=fun j d h=>by
   rcases QK h with⟨rfl,h2,l⟩ | ⟨hne,h2⟩
   ·cases h2
   ·rw[Qq hne];exact S.ln j d h2
  inj:=fun j k d1 d2 q hjk h1 h2 h3=>by
   have get:∀(j:Nat) d,(ς.set i (some (.o,D.lst ys)))[j]?=some (some (.o,d))->∃ d',ς[j]?=some (some (.o,d')):=fun j d h=>by
    rcases QK h with⟨rfl,h2,l⟩ | ⟨hne,h2⟩
    ·exact⟨_,hi⟩
    ·exact⟨_,h2⟩
   obtain⟨d1',g1⟩:=get j d1 h1
   obtain⟨d2',g2⟩:=get k d2 h2
   rw[QfR hp]at h3 ⊢
   exact S.inj j k d1' d2' q hjk g1 g2 h3
  sf:=fun j d h=>by
   rcases QK h with⟨rfl,h2,l⟩ | ⟨hne,h2⟩
   ·cases h2
   ·rw[Qq hne]
    obtain⟨q,a,b,c,m,z,w⟩:=S.sf j d h2
    have qp:q≠p:=by
     rintro rfl
     exact c h0
    exact⟨q,a,b,c,m,z,w.mono (Same.refl G) fun o z=>by rw[Qn qp];exact z⟩
  su:=fun j k d1 d2 q hjk h1 h2 h3=>by
   rcases QK h1 with⟨rfl,q1,l⟩ | ⟨n1,q1⟩
   ·cases q1
   ·rcases QK h2 with⟨rfl,q2,l⟩ | ⟨n2,q2⟩
    ·cases q2
    ·rw[Qq n1]at h3
     rw[Qq n2];exact S.su j k d1 d2 q hjk q1 q2 h3 }
 rw[QfR hp]at S'
 exact S'
variable{a e:Expr}{A E:SD->Out D}{pos p1 p2 p3:Pos}{x:Str}
theorem QbW(i:Nat)(he:DE C e E)(hN:C.X.N[i]?=some x:=by rfl)(hv:Vis C.X.env.scope x:=by first | exact Or.inl rfl | exact Or.inr (oi rfl) | exact Or.inr (Or.inr rfl))
 (hd:‹"d"›:=by decide) (hcd:‹"I"›:=by decide)
 (hbase:attributeBase (.Name x p1) "append" C.X.env (eval (.Name x p1) C.X.env)=eval (.Name x p1) C.X.env:=by rfl)
 (hfew:((backTo p3 (starEach (e::[]) C.X.env)).all (fun x => !x.1)&&(backToKw p3 (keywordEach [] C.X.env)).all (fun x=>x.1.isSome)
  && decide ((e::[]).length+([]:List Keyword).length+(if ([]:List Keyword).isEmpty then 0 else 1)<30))=true:=by rfl)
 (hline:(p2.endLine == p3.line)=true:=by rfl) (hs:starEach (e::[]) C.X.env=(false,eval e C.X.env)::starEach [] C.X.env:=by rfl)
 (hsw:swapsWith (.Call (.Attribute (.Name x p1) "append" p2) [e] [] p3) none pos.line C.X.env=pure false:=by rfl):
 DS C (.Expr (.Call (.Attribute (.Name x p1) "append" p2) [e] [] p3) pos) (QaX i E):=by
 obtain⟨t,p,q⟩:=he
 refine⟨_,QsJ (pe_bm PySem.F.plainAttrs_list PySem.F.slot_list_append PySem.F.type_list_append Qs7 (Qex (i:=i) hN hv hd hcd) (Qbc p Qdo hs) hbase hfew hline hs rfl) hsw,fun G H σ ς W S k=>?_⟩
 unfold QaX at k
 split at k
 ·rename_i xs z
  obtain⟨pp,e1,hg,h0,ow⟩:=S.ow i _ z
  obtain⟨vs,hv1,hv2⟩:=ow
  rw[Out.post_bind]at k
  refine⟨_,e1,.inl ⟨rfl,vs,SqL.of hv1⟩,q G H σ ς _ S (Out.post_mono k fun d k2 v H1 G1 S1 a1 b1 r1=>?_)⟩
  rcases QT k2 with⟨hc,k3⟩ | ⟨_,k3⟩
  ·have hl:=hv2.length
   refine⟨pp,vs,v,rfl,rfl,a1 _ _ hv1,by rw[← hl];exact of_decide_eq_true hc,?_⟩
   exact k3 σ _ G1 (S1.write z e1 (a1 _ _ hv1) ((RepL.mono b1 xs vs hv2).append (RepL.one r1))) b1
  ·exact k3.elim
 ·exact k.elim
end
end DL
namespace DL
open PySem PySem.Spec PyProof.Rows L2
structure DIt(K:W.Frag)(CT:CTab)(G1:Hp)(J:It)(ds:List D):Prop where
 go:∀ G H (i:Nat) d,Same G1 G->Same G H->ds[i]?=some d->J.go i H/\∀ x H',J.yld i H x H'->∃ G',Same G G'/\Same H H'/\Same G' H'/\(∀ b,G b=none->G' b≠none->H b=none)/\Rep K CT G' d x
 stop:∀ G H,Same G1 G->Same G H->J.stop ds.length H
structure DItB(K:W.Frag)(CT:CTab)(B1 G1:Hp)(J:It)(ds:List D):Prop where
 go:∀ G H (i:Nat) d,Same G1 G->Same G H->Same B1 H->ds[i]?=some d->J.go i H/\∀ x H',J.yld i H x H'->∃ G',Same G G'/\Same H H'/\Same G' H'/\(∀ b,G b=none->G' b≠none->H b=none)/\Rep K CT G' d x
 stop:∀ G H,Same G1 G->Same G H->Same B1 H->J.stop ds.length H
theorem DIt.b{K:W.Frag}{CT:CTab}{B1 G1:Hp}{J:It}{ds:List D}(h:DIt K CT G1 J ds):DItB K CT B1 G1 J ds:=⟨fun G H i d a b _ e=>h.go G H i d a b e,fun G H a b _=>h.stop G H a b⟩
def DIB(C:Dc)(tg iter:Expr)(its:SD->Out (List D)):Prop:=∃ wi,PI C.X tg iter wi/\∀ G H σ ς (R:It->Hp->Prop),StR C G H σ ς->
 (its ς).post (fun ds=>∀ J H1 G1,StR C G1 H1 σ ς->Same H H1->Same G G1->DItB C.X.K C.CT H1 G1 J ds->R J H1) C.XD->wi σ H R
def DI(C:Dc)(tg iter:Expr)(its:SD->Out (List D)):Prop:=∃ wi,PI C.X tg iter wi/\∀ G H σ ς (R:It->Hp->Prop),StR C G H σ ς->
 (its ς).post (fun ds=>∀ J H1 G1,StR C G1 H1 σ ς->Same H H1->Same G G1->DIt C.X.K C.CT G1 J ds->R J H1) C.XD->wi σ H R
section
variable{C:Dc}{e tg iter:Expr}{E:SD->Out D}{body:List Stmt}{T U:SD->Out Fl}{pos:Pos}{g:D->SD->Out SD}{its:SD->Out (List D)}
theorem DI.b(h:DI C tg iter its):DIB C tg iter its:=by
 obtain⟨wi,p,q⟩:=h
 exact⟨wi,p,fun G H σ ς R S k=>q G H σ ς R S (Out.post_mono k fun ds kd J H1 G1 S1 a b dit=>kd J H1 G1 S1 a b dit.b)⟩
theorem QKL{K:W.Frag}{CT:CTab}{G1:Hp}{a:Addr}{ds:List D}{vs:List V}(h:SqL K G1 a vs)(r:RepL K CT G1 ds vs):DIt K CT G1 (Itl K a) ds where
 go:=fun G H i d s1 sH hd=>by
  obtain⟨v,hv,rv⟩:=r.get hd
  have hq:SqL K H a vs:=sH.seq (s1.seq h)
  refine⟨⟨vs,v,hq,hv⟩,fun x H' ⟨e,y⟩=>?_⟩
  have ex:vs[i]?=some x:=y vs hq
  rw[hv]at ex;cases ex
  subst e
  exact⟨G,Same.refl _,Same.refl _,sH,fun b g n=>absurd g n,Rep.mono s1 d v rv⟩
 stop:=fun G H s1 sH=>⟨vs,sH.seq (s1.seq h),by rw[r.length];exact Nat.le_refl _⟩
theorem QH8{K:W.Frag}{CT:CTab}{G1:Hp}{lo:Int}{n:Nat}:DIt K CT G1 (Itr lo n) (Qa4 lo n) where
 go:=fun G H i d s1 sH hd=>by
  have hi:i<n:=by
   have:=(List.getElem?_eq_some_iff.mp hd).1
   rw[Qp4]at this;exact this
  rw[QHd hi]at hd;cases hd
  exact⟨hi,fun x H' ⟨e,y⟩=>by
   subst e y
   exact⟨G,Same.refl _,Same.refl _,sH,fun b g n=>absurd g n,rfl⟩⟩
 stop:=fun G H s1 sH=>by rw[Qp4];exact Nat.le_refl _
theorem QZ(h:DE C iter E):DI C tg iter (itL E):=by
 obtain⟨t,p,q⟩:=h
 refine⟨_,QN6 p,fun G H σ ς R S k=>?_⟩
 unfold itL at k
 rw[Out.post_bind]at k
 refine q G H σ ς _ S (Out.post_mono k fun d k v H1 G1 S1 a1 b1 r1=>?_)
 cases d with
 | lst xs=>
  obtain⟨a,vs,rfl,h2,h3⟩:=r1
  exact⟨a,rfl,⟨vs,S1.sub.seq h2⟩,k _ H1 G1 S1 a1 b1 (QKL h2 h3)⟩
 | _=>exact k.elim
theorem QaP{a:Expr}{A:SD->Out D}{p1 p2:Pos}(hgl:Gl C.X "range")(hm:C.X.mg "range"=none)(ha:DB C a A)
 (hst:starEach [a] C.X.env=(false,eval a C.X.env)::starEach [] C.X.env:=by rfl):DI C tg (.Call (.Name "range" p1) [a] [] p2) (itR1 A):=by
 obtain⟨t,p,q⟩:=ha
 refine⟨_,QIE hgl hm (Qbc p Qdo hst) hst,fun G H σ ς R S k=>?_⟩
 unfold itR1 at k
 rw[Out.post_bind]at k
 refine q G H σ ς _ S (Out.post_mono k fun d k v H1 G1 S1 a1 b1 r=>?_)
 cases d with
 | int n=>
  cases r
  rcases QT k with⟨hc,k⟩ | ⟨_,k⟩
  ·obtain⟨c1,c2⟩:=QFx hc
   exact⟨n,rfl,c1,c2,k _ H1 G1 S1 a1 b1 QH8⟩
  ·exact k.elim
 | _=>exact k.elim
theorem Qbp(hp:PassesOwn (model C.X.prog C.X.w) C.X.A C.X.env C.X.xe)(hc:C.X.calm=true)(hi:DI C tg iter its)(hg:DG C tg g)(hne:noExc g)(hb:DSs C body T)
 (hs:∀ x,foldedSetIterable iter C.X.env x=pure x:=by intro _;rfl):DS C (.For tg iter body [] pos) (sFor g its T):=by
 obtain⟨t0,p0,q0⟩:=hi
 obtain⟨t1,p1,q1⟩:=hg
 obtain⟨t2,p2,q2⟩:=hb
 refine⟨_,QPv hp hc p0 p1 p2 hs,fun G H σ ς W S k=>?_⟩
 unfold sFor at k
 rw[Out.post_bind]at k
 refine q0 G H σ ς _ S (Out.post_mono k fun xs k J H1 G1 S1 a1 b1 dit=>?_)
 refine⟨fun i m σ' H'=>m=xs.length - i/\i<=xs.length/\∃ G' ς',StR C G' H' σ' ς'/\Same G1 G'/\(loopD (fun x ς=>g x ς>>=fun ς'=>T ς') (xs.drop i) ς').post (FlK C G' W) C.XD,
  ⟨xs.length,by simp,Nat.zero_le _,G1,ς,S1,Same.refl _,Out.post_mono (by simpa using k) fun f k=>FlK.later k b1⟩,?_⟩
 rintro i m σ' H' ⟨rfl,hle,G',ς',S',s',q'⟩
 by_cases hlt:i<xs.length
 ·have hd:xs[i]?=some xs[i]:=by simp[hlt]
  obtain⟨hgo,hy⟩:=dit.go G' H' i _ s' S'.sub hd
  refine .inr ⟨hgo,fun σ2 H2=>∃ G2 ς2,StR C G2 H2 σ2 ς2/\Same G1 G2/\(loopD (fun x ς=>g x ς>>=fun ς'=>T ς') (xs.drop (i+1)) ς2).post (FlK C G2 W) C.XD,
   fun σ2 H2 h2=>⟨xs.length - (i+1),by omega,rfl,hlt,h2⟩,fun x H'' y=>?_⟩
  obtain⟨G'',g1,h1,s1,n1,r⟩:=hy x H'' y
  rw[Qtt hd]at q'
  exact turnD hne q1 q2 (S'.grow h1 g1 s1 n1) r (Out.post_mono q' fun f k=>FlK.later k g1) fun σ2 H2 G2 ς2 S2 s2 q2=>⟨G2,ς2,S2,(s'.trans g1).trans s2,q2⟩
 ·have e:i=xs.length:=by omega
  subst e
  rw[List.drop_length]at q'
  exact .inl ⟨dit.stop G' H' s' S'.sub,q' σ' H' G' S' (Same.refl _)⟩
end
def compM(f:D->Out (Option D)):List D->Out (List D)
 | []=>.ok []
 | x::xs=>f x>>=fun o=>compM f xs>>=fun ys=>.ok (o.toList++ys)
def captS(ς:SD)(j:Nat):Option (SM×D):=match ς[j]? with
 | some (some (.k,d))=>some (.k,d)
 | some (some (_,d))=>some (.l,d)
 | _=>none
def captD(js:List (Option Nat))(ς:SD):SD:=js.map fun j=>j.bind (captS ς)
def turnC(js:List (Option Nat))(g:D->SD->Out SD)(c:SD->Out Bool)(e:SD->Out D)(ς:SD)(x:D):Out (Option D):=
 g x (captD js ς)>>=fun τ=>c τ>>=fun b=>if b=true then e τ>>=fun y=>.ok (some y) else .ok none
def eComp(js:List (Option Nat))(its:SD->Out (List D))(g:D->SD->Out SD)(c:SD->Out Bool)(e:SD->Out D):SD->Out D:=fun ς=>
 its ς>>=fun xs=>compM (turnC js g c e ς) xs>>=fun ys=>if fits ys.length=true then .ok (.lst ys) else .stuck
def DIf(C:Dc)(ifs:List Expr)(T:SD->Out Bool):Prop:=∃ t,PIf C.X ifs t/\∀ G H σ ς Q,StR C G H σ ς->(T ς).post (KT C G H σ ς Q) C.XD->t σ H Q
def cTrue:SD->Out Bool:=fun _=>.ok true
theorem QM{C:Dc}:DIf C [] cTrue:=⟨_,QMz,fun G H σ ς Q S q=>KT.now q S⟩
theorem QEo{C:Dc}{c:Expr}{T:SD->Out Bool}(h:DT C c T):DIf C [c] T:=let ⟨t,p,q⟩:=h;⟨t,QNh p,q⟩
def gKeep(g:D->SD->Out SD)(τ0:SD):Prop:=∀ x τ,g x τ0=.ok τ->τ.length=τ0.length/\∀(i:Nat) md,τ0[i]?=some (some md)->τ[i]?=some (some md)
theorem QN{i:Nat}{τ0:SD}(h:τ0[i]?=some none):gKeep (gN i) τ0:=by
 intro x τ e
 cases e
 refine⟨List.length_set ..,fun j md hj=>?_⟩
 rw[Qq (by rintro rfl;rw[h]at hj;cases hj)];exact hj
theorem QBm:∀(is:List Nat)(ds:List D)(τ0 τ:SD),(∀ i∈is,∀ md,τ0[i]?=some (some md)->False)->QX is ds τ0=.ok τ->τ.length=τ0.length/\∀(i:Nat) md,τ0[i]?=some (some md)->τ[i]?=some (some md)
 | [],[],τ0,τ,_,e=>by cases e;exact⟨rfl,fun _ _ h=>h⟩
 | i::is,d::ds,τ0,τ,h,e=>by
  have e':QX is ds (τ0.set i (some (.k,d)))=.ok τ:=e
  -- the later targets may meet the stored one again: only what was there ahead is kept
  have go:∀(is:List Nat)(ds:List D)(τ1 τ:SD),τ1.length=τ0.length->(∀ i∈is,∀ md,τ0[i]?=some (some md)->False)->(∀(i:Nat) md,τ0[i]?=some (some md)->τ1[i]?=some (some md))->QX is ds τ1=.ok τ->
   τ.length=τ0.length/\∀(i:Nat) md,τ0[i]?=some (some md)->τ[i]?=some (some md):=by
   intro is
   induction is with
   | nil=>intro ds τ1 τ hl _ hk e;cases ds with
    | nil=>cases e;exact⟨hl,hk⟩
    | cons _ _=>cases e
   | cons i is ih=>intro ds τ1 τ hl hn hk e;cases ds with
    | nil=>cases e
    | cons d ds=>
     refine ih ds _ τ (by rw[List.length_set];exact hl) (fun j hj=>hn j (List.mem_cons_of_mem _ hj)) (fun j md hj=>?_) e
     rw[Qq (by rintro rfl;exact hn _ List.mem_cons_self md hj)];exact hk j md hj
  refine go is ds _ τ (List.length_set ..) (fun j hj=>h j (List.mem_cons_of_mem _ hj)) (fun j md hj=>?_) e'
  rw[Qq (by rintro rfl;exact h _ List.mem_cons_self md hj)];exact hj
 | [],_::_,_,_,_,e=>by cases e
 | _::_,[],_,_,_,e=>by cases e
theorem QeU{is:List Nat}{τ0:SD}(h:∀ i∈is,τ0[i]?=some none):gKeep (gT is) τ0:=by
 intro x τ e
 cases x with
 | tup ds=>exact QBm is ds τ0 τ (fun i hi md z=>by rw[h i hi]at z;cases z) e
 | _=>cases e
theorem Qr{js:List (Option Nat)}{i:Nat}(h:js[i]?=some none)(ς:SD):(captD js ς)[i]?=some none:=by
 unfold captD
 rw[List.getElem?_map,h];rfl
section
variable{C:Dc}{G H:Hp}{σ:St}{ς:SD}
theorem StR.weak{ς':SD}(S:StR C G H σ ς')(hl:ς'.length=ς.length)(h:∀(i:Nat) md,ς[i]?=some (some md)->ς'[i]?=some (some md)):StR C G H σ ς:=
 { S with len:=by rw[S.len,hl],fz:=fun i d e=>S.fz i d (h i _ e),ow:=fun i d e=>S.ow i d (h i _ e),ln:=fun i d e=>S.ln i d (h i _ e),inj:=fun i j d e p n h1 h2=>S.inj i j d e p n (h i _ h1) (h j _ h2),sf:=fun i d e=>S.sf i d (h i _ e),su:=fun i j d e p n h1 h2=>S.su i j d e p n (h i _ h1) (h j _ h2) }
theorem StR.updM(S:StR C G H σ ς){p:Addr}{o:HO}(hM:C.M p)(h0:C.X.H₀ p≠none)(hno:∀(i:Nat) d,ς[i]?≠some (some (.s,d)))(hB:C.B p=none)(hg:G p=none):StR C G (upd H p o) σ ς where
 sub:=fun b u e=>by rw[Qn (by rintro rfl;rw[hg]at e;cases e)];exact S.sub b u e
 g0:=S.g0
 new:=S.new
 fr:=fun b u e m=>by rw[Qn (by rintro rfl;exact m hM)];exact S.fr b u e m
 dom:=fun b e=>by
  by_cases hb:b=p
  ·subst hb;rw[QP]at e;cases e
  ·rw[Qn hb]at e;exact S.dom b e
 bs:=fun b u e=>by rw[Qn (by rintro rfl;rw[hB]at e;cases e)];exact S.bs b u e
 bh:=S.bh
 len:=S.len
 fz:=S.fz
 ow:=fun i d e=>by
  obtain⟨q,a,b,c,w⟩:=S.ow i d e
  exact⟨q,a,b,c,w.mono (Same.refl G) fun u z=>by rw[Qn (by rintro rfl;exact h0 c)];exact z⟩
 ln:=S.ln
 inj:=S.inj
 sf:=fun i d e=>absurd e (hno i d)
 su:=S.su
abbrev ccOf(C:Dc)(N':List Str)(scope:Scope)(fp:List Addr)(s:Shared)(H1 G1:Hp)(p:Addr):Dc:=
 { X:=cxC C.X N' scope fp s (upd H1 p (.lst [])),CT:=C.CT,G0:=G1,XD:=fun _=>False,B:=H1,M:=fun b=>b=p }
theorem Qgj{js:List (Option Nat)}{i:Nat}{md:SM×D}(h:(captD js ς)[i]?=some (some md)):∃ j,js[i]?=some (some j)/\captS ς j=some md:=by
 unfold captD at h
 rw[List.getElem?_map]at h
 cases e:js[i]? with
 | none=>rw[e]at h;cases h
 | some o=>
  rw[e]at h
  cases o with
  | none=>cases h
  | some j=>exact⟨j,rfl,Option.some.inj h⟩
theorem QjT{js:List (Option Nat)}{i j:Nat}{v:V}(h:js[i]?=some (some j))(hv:σ[j]?=some (some v)):(capt js σ)[i]?=some (some v):=by
 unfold capt
 rw[List.getElem?_map,h]
 show some ((σ[j]?).join)=_
 rw[hv];rfl
theorem Qez{j:Nat}{m:SM}{d:D}(h:captS ς j=some (m,d)):(m=.k/\ς[j]?=some (some (.k,d)))∨(m=.l/\(ς[j]?=some (some (.o,d))∨ς[j]?=some (some (.l,d))∨ς[j]?=some (some (.s,d)))):=by
 unfold captS at h
 split at h
 ·rename_i d' e;cases h;exact .inl ⟨rfl,e⟩
 ·rename_i m' d' hne e
  cases h
  cases m' with
  | k=>exact(hne rfl).elim
  | o=>exact .inr ⟨rfl,.inl e⟩
  | l=>exact .inr ⟨rfl,.inr (.inl e)⟩
  | s=>exact .inr ⟨rfl,.inr (.inr e)⟩
 ·cases h
theorem Qn4{js:List (Option Nat)}{i:Nat}{d:D}(h:(captD js ς)[i]?=some (some (.s,d))):False:=by
 obtain⟨j,h1,h2⟩:=Qgj h
 rcases Qez h2 with⟨h3,_⟩ | ⟨h3,_⟩<;>cases h3
theorem StR.comp{N':List Str}{scope:Scope}{fp:List Addr}{s:Shared}{js:List (Option Nat)}{p:Addr}(S:StR C G H σ ς)(hp:H p=none):StR ‹"A"› G (upd H p (.lst [])) (capt js σ) (captD js ς) where
 sub:=S.sub.trans (QF hp)
 g0:=Same.refl _
 new:=fun b h1 h2=>absurd h1 h2
 fr:=fun b o e _=>e
 dom:=fun b e=>e
 bs:=QF hp
 bh:=fun b e=>by
  have e':upd H p (.lst []) b=none:=e
  by_cases hb:b=p
  ·subst hb;exact hp
  ·rw[Qn hb]at e';exact e'
 len:=by unfold capt captD;rw[List.length_map,List.length_map]
 fz:=fun i d e=>by
  obtain⟨j,h1,h2⟩:=Qgj e
  rcases Qez h2 with⟨_,h3⟩ | ⟨h3,_⟩
  ·obtain⟨v,a,b⟩:=S.fz j d h3
   exact⟨v,QjT h1 a,b⟩
  ·cases h3
 ow:=fun i d e=>by
  obtain⟨j,h1,h2⟩:=Qgj e
  rcases Qez h2 with⟨h3,_⟩ | ⟨h3,_⟩<;>cases h3
 ln:=fun i d e=>by
  obtain⟨j,h1,h2⟩:=Qgj e
  rcases Qez h2 with⟨h3,_⟩ | ⟨_,h3 | h3 | h3⟩
  ·cases h3
  ·obtain⟨q,a,_,_,w⟩:=S.ow j d h3
   exact⟨_,QjT h1 a,w.rep S.sub⟩
  ·obtain⟨v,a,b⟩:=S.ln j d h3
   exact⟨v,QjT h1 a,Rep.mono S.bs d v b⟩
  ·obtain⟨q,a,_,_,_,_,w⟩:=S.sf j d h3
   exact⟨_,QjT h1 a,w.rep S.sub⟩
 inj:=fun i j d e q _ h=>by
  obtain⟨j,h1,h2⟩:=Qgj h
  rcases Qez h2 with⟨h3,_⟩ | ⟨h3,_⟩<;>cases h3
 sf:=fun i d e=>(Qn4 e).elim
 su:=fun i j d e p _ h=>(Qn4 h).elim
variable{N':List Str}{js:List (Option Nat)}{scope:Scope}{tg iter elt:Expr}{ifs:List Expr}{its:SD->Out (List D)}{g:D->SD->Out SD}{c:SD->Out Bool}{e:SD->Out D}{pos:Pos}
theorem QLU{J:It}{xs:List D}{p:Addr}{fp:List Addr}{s:Shared}{Q:VK}(S:StR C G H σ ς)(hp:H p=none)(dit:DItB C.X.K C.CT H G J xs)(hx:∀ x,¬ C.XD x)(hk:gKeep g (captD js ς))(hne:noExc g)
 (hin:DG ‹"A"› tg g/\DIf ‹"A"› ifs c/\DE ‹"A"› elt e)
 (q:(compM (turnC js g c e ς) xs>>=fun ys=>if fits ys.length=true then Out.ok (D.lst ys) else .stuck).post (fun d=>∀ H' G',StR C G' H' σ ς->Same H H'->Same G G'->G' p=none->Own C.X.K C.CT G' H' p d->Q (.ref p) H') C.XD):
 CompW (cxC C.X N' scope fp s (upd H p (.lst []))) js tg elt ifs σ H J p Q:=by
 obtain⟨⟨tt,pg,hg⟩,⟨tcc,pif,hcI⟩,⟨te,pe,he⟩⟩:=hin
 generalize hτ:captD js ς=τ0 at hk
 have S0:StR ‹"A"› G (upd H p (.lst [])) (capt js σ) τ0:=by rw[← hτ];exact S.comp hp
 refine⟨fun i m τ H'=>m=xs.length - i/\i<=xs.length/\∃ G' acc vs,StR ‹"A"› G' H' τ τ0/\H' p=some (.lst vs)/\RepL C.X.K C.CT G' acc vs/\G' p=none/\
  (compM (turnC js g c e ς) (xs.drop i)).post ‹"a"› C.XD,
  ⟨xs.length,by simp,Nat.zero_le _,G,[],[],S0,QP,rfl,S.sub.free hp,by rw[Out.post_bind]at q;simpa using q⟩,?_⟩
 rintro i m τ H' ⟨rfl,hle,G',acc,vs,S',hp',r',hg',q'⟩
 have hH0:(ccOf C N' scope fp s H G p).X.H₀ p≠none:=by
  show upd H p (.lst []) p≠none
  rw[QP];simp
 by_cases hlt:i<xs.length
 ·have hd:xs[i]?=some xs[i]:=by simp[hlt]
  obtain⟨hgo,hy⟩:=dit.go G' H' i _ S'.g0 S'.sub S'.bs hd
  refine .inr ⟨hgo,fun τ2 H2=>i+1<=xs.length/\∃ G' acc vs,StR ‹"A"› G' H2 τ2 τ0/\H2 p=some (.lst vs)/\RepL C.X.K C.CT G' acc vs/\G' p=none/\
   (compM (turnC js g c e ς) (xs.drop (i+1))).post ‹"a"› C.XD,
   fun τ2 H2 h2=>⟨xs.length - (i+1),by omega,rfl,h2⟩,fun x H'' y=>?_⟩
  obtain⟨G'',g1,h1,s1,n1,r⟩:=hy x H'' y
  have S'':=S'.grow h1 g1 s1 n1
  have hgp:G'' p=none:=by
   cases z:G'' p with
   | none=>rfl
   | some o=>
    have:=n1 p hg' (by rw[z];simp)
    rw[hp']at this;cases this
  rw[Qtt hd,compM,Out.post_bind]at q'
  have tu:turnC js g c e ς xs[i]=(g xs[i] τ0>>=fun τ=>c τ>>=fun b=>if b=true then e τ>>=fun y=>Out.ok (some y) else Out.ok none):=by unfold turnC;rw[hτ]
  rw[tu,Out.post_bind]at q'
  cases z:g xs[i] τ0 with
  | exc w=>exact absurd z (hne _ _ _)
  | stuck=>rw[z]at q';exact q'.elim
  | ok τ1=>
   rw[z]at q'
   obtain⟨hl1,hk1⟩:=hk _ _ z
   refine⟨tt,pg,hg G'' H'' τ τ0 xs[i] x τ1 _ S'' r z fun τ2 S2=>?_⟩
   have q2:(c τ1>>=fun b=>if b=true then e τ1>>=fun y=>Out.ok (some y) else Out.ok none).post _ _:=q'
   rw[Out.post_bind]at q2
   -- no refusal leaves the block
   have q3:(c τ1).post (fun b=>(if b=true then e τ1>>=fun y=>Out.ok (some y) else Out.ok none).post (fun o=>(compM (turnC js g c e ς) (xs.drop (i+1))>>=fun ys=>Out.ok (o.toList++ys)).post ‹"a"› C.XD) C.XD) (fun _=>False):=by
    cases w:c τ1 with
    | ok b=>rw[w]at q2;exact q2
    | exc w'=>rw[w]at q2;exact absurd q2 (hx _)
    | stuck=>rw[w]at q2;exact q2.elim
   refine⟨tcc,pif,hcI G'' H'' τ2 τ1 _ S2 (Out.post_mono q3 fun b kb H3 G3 S3 a3 b3=>?_)⟩
   have hp3:H3 p=some (.lst vs):=a3 _ _ (h1 _ _ hp')
   have hg3:G3 p=none:=by
    cases z3:G3 p with
    | none=>rfl
    | some o=>
     have e3:(ccOf C N' scope fp s H G p).G0 p=none:=S.sub.free hp
     exact absurd (S3.new p e3 (by rw[z3];simp)) hH0
   cases b with
   | false=>
    refine iteF ⟨hlt,G3,acc,vs,S3.weak (by rw[hl1]) hk1,hp3,RepL.mono (g1.trans b3) acc vs r',hg3,?_⟩
    have kb':(compM (turnC js g c e ς) (xs.drop (i+1))>>=fun ys=>Out.ok ((none:Option D).toList++ys)).post ‹"a"› C.XD:=kb
    rw[Out.post_bind]at kb'
    exact Out.post_mono kb' fun ys k=>k
   | true=>
    have kb:(e τ1>>=fun y=>Out.ok (some y)).post (fun o=>(compM (turnC js g c e ς) (xs.drop (i+1))>>=fun ys=>Out.ok (o.toList++ys)).post ‹"a"› C.XD) C.XD:=kb
    rw[Out.post_bind]at kb
    have kb2:(e τ1).post (fun y=>(compM (turnC js g c e ς) (xs.drop (i+1))>>=fun ys=>Out.ok ((some y:Option D).toList++ys)).post ‹"a"› C.XD) (fun _=>False):=by
     cases w:e τ1 with
     | ok b=>rw[w]at kb;exact kb
     | exc w'=>rw[w]at kb;exact absurd kb (hx _)
     | stuck=>rw[w]at kb;exact kb.elim
    refine iteT ⟨te,pe,he G3 H3 τ2 τ1 _ S3 (Out.post_mono kb2 fun y ky v4 H4 G4 S4 a4 b4 r4=>?_)⟩
    rw[Out.post_bind]at ky
    have hp4:H4 p=some (.lst vs):=a4 _ _ hp3
    have hg4:G4 p=none:=by
     cases z3:G4 p with
     | none=>rfl
     | some o=>
      have e3:(ccOf C N' scope fp s H G p).G0 p=none:=S.sub.free hp
      exact absurd (S4.new p e3 (by rw[z3];simp)) hH0
    have rr:=RepL.mono ((g1.trans b3).trans b4) acc vs r'
    refine⟨vs,hp4,?_,hlt,G4,acc++[y],vs++[v4],?_,QP,rr.append (RepL.one r4),hg4,?_⟩
    ·cases w:compM (turnC js g c e ς) (xs.drop (i+1)) with
     | stuck=>rw[w]at ky;exact ky.elim
     | exc w'=>rw[w]at ky;exact absurd ky (hx _)
     | ok ys=>
      rw[w]at ky
      rcases QT (show(if fits (acc++((some y:Option D).toList++ys)).length=true then Out.ok (D.lst (acc++((some y:Option D).toList++ys))) else .stuck).post _ _ from ky) with⟨hc,_⟩ | ⟨_,k⟩
      ·have hc':=of_decide_eq_true hc
       rw[List.length_append,List.length_append]at hc'
       have:(some y:Option D).toList.length=1:=rfl
       have hl:=r'.length
       omega
      ·exact k.elim
    ·exact(S4.weak (by rw[hl1]) hk1).updM rfl hH0 (fun i d z=>by rw[← hτ]at z;exact Qn4 z) hp hg4
    ·exact Out.post_mono ky fun ys k=>by
      have e5:acc++[y]++ys=acc++((some y:Option D).toList++ys):=by simp
      rw[e5];exact k
 ·have ei:i=xs.length:=by omega
  subst ei
  rw[List.drop_length]at q'
  refine .inl ⟨dit.stop G' H' S'.g0 S'.sub S'.bs,?_⟩
  have q2:(if fits (acc++[]).length=true then Out.ok (D.lst (acc++[])) else .stuck).post _ C.XD:=q'
  rcases QT q2 with⟨_,k⟩ | ⟨_,k⟩
  ·rw[List.append_nil]at k
   have hHH:Same H H':=fun b o eb=>S'.fr b o (by
    show upd H p (.lst []) b=some o
    rw[Qn (QW eb hp)];exact eb) (QW eb hp)
   have SG:StR C G' H' σ ς:=S.grow hHH S'.g0 S'.sub fun b h1 h2=>by
    have:=S'.new b h1 h2
    have this:upd H p (.lst []) b=none:=this
    by_cases hb:b=p
    ·subst hb;exact hp
    ·rw[Qn hb]at this;exact this
   exact k H' G' SG hHH S'.g0 hg' ⟨vs,hp',r'⟩
  ·exact k.elim
theorem compT(hi:∃ wi,PI C.X tg iter wi/\∀ G H σ ς (R:It->Hp->Prop),StR C G H σ ς->(its ς).post (fun ds=>∀ J H1 G1,StR C G1 H1 σ ς->Same H H1->Same G G1->DItB C.X.K C.CT H1 G1 J ds->R J H1) C.XD->wi σ H R)
 (hx:∀ x,¬ C.XD x) (hk:∀ ς,gKeep g (captD js ς)) (hne:noExc g)
 (hin:∀ fp s H G p,DG ‹"A"› tg g/\DIf ‹"A"› ifs c/\DE ‹"A"› elt e):
 ∃ wi,PI C.X tg iter wi/\∀ G H σ ς Q,StR C G H σ ς->(eComp js its g c e ς).post (KF C G H σ ς Q) C.XD->tComp C.X N' js scope tg elt ifs wi σ H Q:=by
 obtain⟨wi,pi,hq⟩:=hi
 refine⟨wi,pi,fun G H σ ς Q S k=>?_⟩
 unfold eComp at k
 rw[Out.post_bind]at k
 refine hq G H σ ς _ S (Out.post_mono k fun xs k J H1 G1 S1 a1 b1 dit p hp fp s=>?_)
 refine QLU S1 hp dit hx (hk ς) hne (hin fp s H1 G1 p) (Out.post_mono k fun d kd H' G' S' h1 g1 hg ow=>?_)
 exact kd p H' G' S' (a1.trans h1) (b1.trans g1) (a1.free hp) hg ow
theorem QU(hc:C.X.calm=true)(S:QB N' js scope C.X.env.scope C.X.N)(hi:DIB C tg iter its)(hk:∀ ς,gKeep g (captD js ς))(hne:noExc g)
 (hin:∀ fp s H G p,DG ‹"A"› tg g/\DIf ‹"A"› ifs c/\DE ‹"A"› elt e)
 (hx:∀ x,¬ C.XD x:=by exact fun _ h=>h) (hs:∀ x,foldedSetIterable iter C.X.env x=pure x:=by intro _;rfl):DF C ‹"s"› (eComp js its g c e):=by
 obtain⟨wi,pi,h⟩:=compT hi hx hk hne hin
 exact⟨_,QMw hc S pi hs,h⟩
variable{i:Nat}{x:Str}{px spos:Pos}
theorem Qe5(hc:C.X.calm=true)(S:QB N' js scope C.X.env.scope C.X.N)(hi:DIB C tg iter its)(hk:∀ ς,gKeep g (captD js ς))(hne:noExc g)
 (hin:∀ fp s H G p,DG ‹"A"› tg g/\DIf ‹"A"› ifs c/\DE ‹"A"› elt e)
 (hN:C.X.N.Nodup) (hxN:C.X.N[i]?=some x) (hl:Loc C.X.env.scope x)
 (hsw:swapsWith ‹"s"› (some (.Name x px)) spos.line C.X.env=pure true:=by rfl)
 (hf:C.X.fn x=true∨C.X.env.scope.names.lookup x=some .local:=by first | exact .inl rfl | exact .inr rfl | assumption)
 (hx:∀ x,¬ C.XD x:=by exact fun _ h=>h) (hs:∀ x,foldedSetIterable iter C.X.env x=pure x:=by intro _;rfl):DS C (.Assign [.Name x px] ‹"s"› spos) (sSet i (eComp js its g c e)):=by
 obtain⟨wi,pi,h⟩:=compT hi hx hk hne hin
 refine⟨_,QNe hc S pi hN hxN hl hsw hf hs,fun G H σ ς W S k=>?_⟩
 unfold sSet at k
 rw[Out.post_bind]at k
 exact h G H σ ς _ S (Out.post_mono k fun d k=>KD.ofF (Q:=fun v H1=>W.nx (σ.set i (some v)) H1) S fun v H1 G1 S1 a1 b1 r1=>k _ H1 G1 (S1.set i r1) b1)
end
end DL
namespace L2
open PySem PySem.Spec PyProof.Rows
def Its(x:Str):It:=⟨fun i _=>i<x.cps.size,fun i H v H'=>H'=H/\∃ c,x.cps[i]?=some c/\v=.str ⟨#[c]⟩,fun i _=>x.cps.size<=i⟩
section
variable{X:Cx}{tg:Expr}
theorem Qs1{P:Program}{w:World}{K:W.Frag}{tg:Expr}{x:Str}{ty:String}{t:Tok}(it:Addr)(hn:["enumerate","zip","dict_itemiterator","dict_reverseitemiterator","odict_iterator","itertools.zip_longest","itertools.pairwise"].contains ty=false)
 (hs:∀(A:Around)(i:Nat)(s:Shared)(Q:‹"m"›)(E:‹"m"›),s.heap.IsStrIter it ty x t i->Q (.ref it) s->wpAny (model P w) A (pyIter (.ref it)) Q E s)
 (W:∀ A':Around,A'.handled=none->Walks P w A' it [it] [it] x.cps.size (SignAt x) (fun i h=>h.IsStrIter it ty x t i)):Turn P w K tg (Its x) [it] it (fun i h=>h.IsStrIter it ty x t i/\i<=x.cps.size) where
 mem:=by simp
 obj:=fun i h st b hb=>by
  have e:b=it:=by simpa using hb
  subst e
  obtain⟨⟨o,e,c,d⟩,_⟩:=st
  exact⟨o,e,fun v z=>by rw[d]at z;cases z⟩
 keep:=fun i h h' st k=>⟨by obtain⟨⟨o,e,c,d⟩,_⟩:=st;exact⟨o,k it (by simp) o e,c,d⟩,st.2⟩
 item:=by
  intro X hP hw hK hc i pins s σ H E I hf st hg
  subst hP hw hK
  obtain⟨f0,f1,f2,f3,f4,f5⟩:=hf it (by simp)
  refine(W X.A (I.ok.hd hc)).item i s _ _ hg st.1 fun v h' tk hv st' kk=>?_
  obtain⟨c,u,hcx,rfl⟩:=hv
  have I1:Inv X pins σ H { s with heap:=h',toks:=tk }:=I.turned (fun b o hb e=>kk b o (by simpa using hb) e) f0 f1 f3 f4 f5
  obtain⟨o,e,c',d⟩:=id st'
  exact⟨_,rfl,go_of (s:={ s with heap:=h',toks:=tk }) e c' d hn ⟨.str ⟨#[c]⟩,H,I1,⟨u,rfl⟩,⟨rfl,c,hcx,rfl⟩,⟨st',hg⟩,fun b hb=>(hf b hb).1⟩⟩
 done:=by
  intro X hP hw hK hc i pins s σ H E I hf st hg
  subst hP hw hK
  obtain⟨f0,f1,f2,f3,f4,f5⟩:=hf it (by simp)
  have hg':x.cps.size<=i:=hg
  have e:i=x.cps.size:=Nat.le_antisymm st.2 hg'
  subst e
  exact(W X.A (I.ok.hd hc)).done s _ _ st.1 fun h' tk kk=>⟨rfl,I.turned (fun b o hb e=>kk b o (by simpa using hb) e) f0 f1 f3 f4 f5⟩
 self:=fun A i s Q E st h=>hs A i s Q E st.1 h
def iStr(tl:TE):TI:=fun σ H R=>tl σ H fun x H1=>∃ z,x=.str z/\R (Its z) H1
theorem QOM{l:Expr}{tl:TE}(hl:PE X l tl):PI X tg l (iStr tl):=by
 intro pins s σ H R I h
 refine thn (hl pins s σ H _ I h) fun v s1 ⟨x,H1,I1,r1,q1⟩=>?_
 obtain⟨z,e,q⟩:=q1
 subst e
 obtain⟨t,rfl⟩:=r1
 cases ha:z.cps.all (· < 128)
 ·refine wpAny_pyIter_wide ha ⟨s1.heap.objs.size,[s1.heap.objs.size],_,_,H1,rfl,I1.kept (t':=s1.toks) fun b o e=>Heap.get?_push_of_some _ e,Qs1 (x:=z) (ty:="str_iterator") (t:=t) _ (by decide) (fun _ _ _ _ _ st h=>wpAny_pyIter_striter_wide st h) (fun A' hA=>Walks.strWide hA _ z t),⟨⟨_,Heap.get?_push_size _ rfl,rfl,rfl⟩,Nat.zero_le _⟩,fun b hb=>?_,q⟩
  have e:b=s1.heap.objs.size:=by simpa using hb
  subst e
  exact I1.fpOk (Nat.le_refl _) (I1.hok.fresh (Nat.le_refl _))
 ·refine wpAny_pyIter_ascii ha ⟨s1.heap.objs.size,[s1.heap.objs.size],_,_,H1,rfl,I1.kept (t':=s1.toks) fun b o e=>Heap.get?_push_of_some _ e,Qs1 (x:=z) (ty:="str_ascii_iterator") (t:=t) _ (by decide) (fun _ _ _ _ _ st h=>wpAny_pyIter_striter_ascii st h) (fun A' hA=>Walks.strAscii hA _ z t),⟨⟨_,Heap.get?_push_size _ rfl,rfl,rfl⟩,Nat.zero_le _⟩,fun b hb=>?_,q⟩
  have e:b=s1.heap.objs.size:=by simpa using hb
  subst e
  exact I1.fpOk (Nat.le_refl _) (I1.hok.fresh (Nat.le_refl _))
theorem QHP(bs:List Bool):(List.range bs.length).all (fun i=>(bs[i]?).getD false)=bs.all id:=by
 rw[Bool.eq_iff_iff,List.all_eq_true,List.all_eq_true]
 constructor
 ·intro h b hb
  obtain⟨i,hi,e⟩:=List.mem_iff_getElem.mp hb
  have:=h i (List.mem_range.mpr hi)
  rw[List.getElem?_eq_getElem hi,Option.getD_some,e]at this
  exact this
 ·intro h i hi
  have hi':=List.mem_range.mp hi
  rw[List.getElem?_eq_getElem hi',Option.getD_some]
  exact h _ (List.getElem_mem hi')
theorem QID(bs:List Bool):(List.range bs.length).any (fun i=>(bs[i]?).getD false)=bs.any id:=by
 rw[Bool.eq_iff_iff,List.any_eq_true,List.any_eq_true]
 constructor
 ·rintro ⟨i,hi,h⟩
  have hi':=List.mem_range.mp hi
  rw[List.getElem?_eq_getElem hi',Option.getD_some]at h
  exact⟨_,List.getElem_mem hi',h⟩
 ·rintro ⟨b,hb,h⟩
  obtain⟨i,hi,e⟩:=List.mem_iff_getElem.mp hb
  exact⟨i,List.mem_range.mpr hi,by rw[List.getElem?_eq_getElem hi,Option.getD_some,e];exact h⟩
theorem QHU(hc:X.calm=true):CallR X (.builtin "all") (fun xs H Q=>∃(p:Addr)(bs:List Bool),xs=[.ref p]/\SqL X.K H p (bs.map V.bl)/\Q (.bl (bs.all id)) H):=by
 intro pins s σ H xs us Q I r h
 obtain⟨p,bs,rfl,hq,q⟩:=h
 obtain⟨u,rfl,rx⟩:=vals1 r
 cases rx
 obtain⟨its,rv,pl,hz⟩:=I.list hq
 have hlen:=rv.length
 refine call_all_walk ?_
 refine wpAny_pyIter_list pl.isList ?_
 have hp:p<s.heap.objs.size:=by obtain⟨o,n,ho,_⟩:=pl;exact Heap.lt_size ho
 have hne:p≠s.heap.objs.size:=Nat.ne_of_lt hp
 refine⟨_,_,_,_,_,_,fun i=>(bs[i]?).getD false,rfl,Walks.list (A:=X.A.in1) (I.ok.hd hc) _ p hne its.toArray,⟨⟨_,Heap.get?_push_size _ rfl,rfl,rfl⟩,pl.isList.at fun o e=>Heap.get?_push_of_some _ e⟩,?_,fun h' tk kk=>⟨.bl (bs.all id),H,?_,?_,q⟩⟩
 ·intro i v s2 Q2 E2 hv hQ2
  have hv':its[i]?=some v:=by simpa using hv
  have hi:i<bs.length:=by
   have:=(List.getElem?_eq_some_iff.mp hv').1
   rw[List.length_map]at hlen
   omega
  obtain⟨y,hy,ry⟩:=rv.get (i:=i) (x:=.bl bs[i]) (by rw[List.getElem?_map,List.getElem?_eq_getElem hi];rfl)
  rw[hv']at hy
  cases hy
  cases ry
  have hQ2:Q2 ((bs[i]?).getD false) s2:=hQ2
  rw[List.getElem?_eq_getElem hi,Option.getD_some]at hQ2
  exact wpAny_pure hQ2
 ·exact I.kept fun b o e=>kk b o (by
   intro hb
   have e2:b=s.heap.objs.size:=by simpa using hb
   subst e2
   exact absurd (Heap.lt_size e) (Nat.lt_irrefl _)) (Heap.get?_push_of_some _ e)
 ·rw[List.size_toArray, ← hlen,List.length_map,QHP];exact rfl
theorem QIZ(hc:X.calm=true):CallR X (.builtin "any") (fun xs H Q=>∃(p:Addr)(bs:List Bool),xs=[.ref p]/\SqL X.K H p (bs.map V.bl)/\Q (.bl (bs.any id)) H):=by
 intro pins s σ H xs us Q I r h
 obtain⟨p,bs,rfl,hq,q⟩:=h
 obtain⟨u,rfl,rx⟩:=vals1 r
 cases rx
 obtain⟨its,rv,pl,hz⟩:=I.list hq
 have hlen:=rv.length
 refine call_any_walk ?_
 refine wpAny_pyIter_list pl.isList ?_
 have hp:p<s.heap.objs.size:=by obtain⟨o,n,ho,_⟩:=pl;exact Heap.lt_size ho
 have hne:p≠s.heap.objs.size:=Nat.ne_of_lt hp
 refine⟨_,_,_,_,_,_,fun i=>(bs[i]?).getD false,rfl,Walks.list (A:=X.A.in1) (I.ok.hd hc) _ p hne its.toArray,⟨⟨_,Heap.get?_push_size _ rfl,rfl,rfl⟩,pl.isList.at fun o e=>Heap.get?_push_of_some _ e⟩,?_,fun h' tk kk=>⟨.bl (bs.any id),H,?_,?_,q⟩⟩
 ·intro i v s2 Q2 E2 hv hQ2
  have hv':its[i]?=some v:=by simpa using hv
  have hi:i<bs.length:=by
   have:=(List.getElem?_eq_some_iff.mp hv').1
   rw[List.length_map]at hlen
   omega
  obtain⟨y,hy,ry⟩:=rv.get (i:=i) (x:=.bl bs[i]) (by rw[List.getElem?_map,List.getElem?_eq_getElem hi];rfl)
  rw[hv']at hy
  cases hy
  cases ry
  have hQ2:Q2 ((bs[i]?).getD false) s2:=hQ2
  rw[List.getElem?_eq_getElem hi,Option.getD_some]at hQ2
  exact wpAny_pure hQ2
 ·exact I.kept fun b o e=>kk b o (by
   intro hb
   have e2:b=s.heap.objs.size:=by simpa using hb
   subst e2
   exact absurd (Heap.lt_size e) (Nat.lt_irrefl _)) (Heap.get?_push_of_some _ e)
 ·rw[List.size_toArray, ← hlen,List.length_map,QID];exact rfl
end
end L2
namespace DL
open PySem PySem.Spec PyProof.Rows L2
def signs(z:Str):List D:=z.cps.toList.map fun c=>D.str ⟨#[c]⟩
def itS(E:SD->Out D):SD->Out (List D):=fun ς=>E ς>>=fun d=>match d with | .str z=>.ok (signs z) | _=>.stuck
section
variable{C:Dc}{e tg iter a b:Expr}{E A B:SD->Out D}{pos p:Pos}{es:List Expr}{AA:SD->Out (List D)}
theorem QMI{K:W.Frag}{CT:CTab}{G1:Hp}{z:Str}:DIt K CT G1 (Its z) (signs z) where
 go:=fun G H i d s1 sH hd=>by
  unfold signs at hd
  rw[List.getElem?_map]at hd
  cases hc:z.cps.toList[i]? with
  | none=>rw[hc]at hd;cases hd
  | some c=>
   rw[hc]at hd
   cases hd
   have hi:i<z.cps.size:=by
    have:=(List.getElem?_eq_some_iff.mp hc).1
    simpa using this
   refine⟨hi,fun x H' ⟨e,c',h1,h2⟩=>?_⟩
   subst e h2
   have h1':z.cps.toList[i]?=some c':=by simpa using h1
   rw[hc]at h1'
   cases h1'
   exact⟨G,Same.refl _,Same.refl _,sH,fun b g n=>absurd g n,rfl⟩
 stop:=fun G H s1 sH=>by
  unfold signs
  show z.cps.size<=_
  rw[List.length_map];simp
theorem QO9(h:DB C iter E):DI C tg iter (itS E):=by
 obtain⟨t,p,q⟩:=h
 refine⟨_,QOM p,fun G H σ ς R S k=>?_⟩
 unfold itS at k
 rw[Out.post_bind]at k
 refine q G H σ ς _ S (Out.post_mono k fun d k v H1 G1 S1 a1 b1 r1=>?_)
 cases d with
 | str z=>cases r1;exact⟨z,rfl,k _ H1 G1 S1 a1 b1 QMI⟩
 | _=>exact k.elim
def dIn:D->D->Out D
 | .str x,.str y=>.ok (.bl (!(Builtin.Str.occurrences y x 0 y.length 1).isEmpty))
 | _,_=>.stuck
theorem QPr:DRS C (fun x y H Q=>∃ i j,x=.str i/\y=.str j/\Q (.bl (!(Builtin.Str.occurrences j i 0 j.length 1).isEmpty)) H) dIn:=by
 intro G H σ ς Q x y vx vy S hx hy q
 cases x with
 | str x=>
  cases y with
  | str y=>cases hx;cases hy;exact⟨x,y,rfl,rfl,q.2⟩
  | _=>exact q.elim
 | _=>cases y<;>exact q.elim
theorem QM3:scal2 dIn:=fun x y=>by cases x<;>cases y<;>first | exact rfl | exact True.intro
theorem de_in(ha:DB C a A)(hb:DB C b B)(hm:behindInMarks .In b=false:=by rfl):DE C (.Compare a [.In] [b] pos) (e2 dIn A B):=Qxf QJn QPr QM3 ha hb hm
def blsOf:List D->Option (List Bool)
 | []=>some []
 | .bl b::r=>(blsOf r).map (b :: ·)
 | _::_=>none
theorem Qlq{K:W.Frag}{CT:CTab}{H:Hp}:∀{ds:List D}{bs:List Bool}{vs:List V},blsOf ds=some bs->RepL K CT H ds vs->vs=bs.map V.bl
 | [],bs,vs,h,r=>by cases h;exact r
 | d::ds,bs,vs,h,⟨v,w,h1,h2,h3⟩=>by
  cases d with
  | bl b=>
   cases e:blsOf ds with
   | none=>rw[blsOf,e]at h;cases h
   | some cs=>
    rw[blsOf,e]at h
    cases h
    cases h2
    rw[h1,Qlq e h3];rfl
  | _=>cases h
def fAll:D->Out D
 | .lst xs=>match blsOf xs with | some bs=>.ok (.bl (bs.all id)) | none=>.stuck
 | _=>.stuck
def fAny:D->Out D
 | .lst xs=>match blsOf xs with | some bs=>.ok (.bl (bs.any id)) | none=>.stuck
 | _=>.stuck
theorem Qgi(hc:C.X.calm=true)(hg:Gl C.X "all")(hm:C.X.mg "all"=none)(ha:DAB C (e::es) AA)
 (he:‹"b"›:=by rfl) (hpl:(backTo pos (starEach es C.X.env)).any (·.1)=false:=by rfl):DE C (.Call (.Name "all" p) (e::es) [] pos) (eA (f1 fAll) AA):=by
 refine Qhz (QHU hc) (Qld ?_) (Qjc ?_) hg hm PyProof.Rows.Boot.«all» ha (by decide) (by decide) he hpl
 ·intro G H σ ς Q x v S r q
  cases x with
  | lst xs=>
   cases eb:blsOf xs with
   | none=>rw[fAll,eb]at q;exact q.elim
   | some bs=>
    rw[fAll,eb]at q
    obtain⟨a,vs,rfl,h2,h3⟩:=r
    rw[Qlq eb h3]at h2
    exact⟨a,bs,rfl,h2,q.2⟩
  | _=>exact q.elim
 ·intro x
  cases x with
  | lst xs=>
   rw[fAll]
   cases blsOf xs with
   | none=>exact True.intro
   | some bs=>exact rfl
  | _=>exact True.intro
theorem QO3(hc:C.X.calm=true)(hg:Gl C.X "any")(hm:C.X.mg "any"=none)(ha:DAB C (e::es) AA)
 (he:‹"b"›:=by rfl) (hpl:(backTo pos (starEach es C.X.env)).any (·.1)=false:=by rfl):DE C (.Call (.Name "any" p) (e::es) [] pos) (eA (f1 fAny) AA):=by
 refine Qhz (QIZ hc) (Qld ?_) (Qjc ?_) hg hm PyProof.Rows.Boot.«any» ha (by decide) (by decide) he hpl
 ·intro G H σ ς Q x v S r q
  cases x with
  | lst xs=>
   cases eb:blsOf xs with
   | none=>rw[fAny,eb]at q;exact q.elim
   | some bs=>
    rw[fAny,eb]at q
    obtain⟨a,vs,rfl,h2,h3⟩:=r
    rw[Qlq eb h3]at h2
    exact⟨a,bs,rfl,h2,q.2⟩
  | _=>exact q.elim
 ·intro x
  cases x with
  | lst xs=>
   rw[fAny]
   cases blsOf xs with
   | none=>exact True.intro
   | some bs=>exact rfl
  | _=>exact True.intro
theorem QLF{X:Cx}:PE X (.Dict [] [] pos) (fun _ H Q=>∀ p,H p=none->Q (.ref p) (upd H p (.dK []))):=fun pins s σ H Q I h=>by
 have hb:sysModules<s.heap.objs.size:=Nat.lt_trans (by decide) (show mainGlobals<s.heap.objs.size from(I.mod.glob.keeps I.bk).lt)
 exact wpAny_Dict_empty ⟨.ref s.heap.objs.size,_,I.laid (a:=s.heap.objs.size) (o:=.dK []) (t':=s.toks) (fun _ _ q=>Heap.get?_push_of_some _ q) (Nat.le_refl _)
  ⟨Nat.zero_le _,beq_eq_false_iff_ne.mpr (Ne.symm (Nat.ne_of_lt hb)),[],.nil,Heap.DictOf.new s.heap⟩,rfl,h _ (I.hok.fresh (Nat.le_refl _))⟩
def eDic0:SD->Out D:=fun _=>.ok (.dic [])
theorem QMP:DF C (.Dict [] [] pos) eDic0:=⟨_,QLF,fun G H σ ς Q S q p hp=>by
 have q:KF C G H σ ς Q (.dic []):=q
 exact q p _ G (S.allocO hp) (QF hp) (Same.refl _) hp (S.gnone hp) ⟨[],QP,rfl⟩⟩
end
end DL
namespace DL
open PySem PySem.Spec PyProof.Rows L2
def ctOf(K:W.Frag):CTab:=fun c=>match W.nsIn K mainGlobals c with | some (some (.ref a))=>some a | _=>none
theorem ct_of{K:W.Frag}{c:Str}{a:Addr}(h:W.nsIn K mainGlobals c=some (some (.ref a))):ctOf K c=some a:=by unfold ctOf;rw[h]
structure Rz(C:Dc)(E:XK):Prop where
 pass:Qfp (CXR C.X.prog C.X.w) C.X E
 xd:∀ d,C.XD d->∃ c Cc,d=.err c/\C.CT c=some Cc/\∀ H',(∀ b o,C.X.H₀ b=some o->¬ C.M b->H' b=some o)->E (.ref Cc) none H'
 made:∀(Cc:Addr) pins σ H1 s1 ea h' vs,Inv C.X pins σ H1 s1->Heap.MadeExcOf s1.heap h' ea (.ref Cc) vs->E (.ref Cc) none H1->C.X.xe (.ref ea) { s1 with heap:=h' }
 calm:C.X.calm=true
theorem rz0{C:Dc}(hx:∀ d,¬ C.XD d:=by exact fun _ h=>h)(hc:C.X.calm=true:=by rfl):Rz C E0 where
 pass:=fun pins σ H s e s' I h=>by obtain⟨_,_,_,_,_,_,_,z⟩:=h;exact z.elim
 xd:=fun d h=>absurd h (hx d)
 made:=fun Cc pins σ H1 s1 ea h' vs I hx hE=>hE.elim
 calm:=hc
abbrev Dc.nox(C:Dc):Dc:={ C with X:=C.X.nox,XD:=fun _=>False }
def noX{α:Type}:Out α->Out α
 | .exc _=>.stuck
 | o=>o
theorem QQq{α:Type}(a:α):noX (.ok a)=.ok a:=rfl
theorem Qy2{α:Type}{o:Out α}{k:α->Prop}{x:D->Prop}(h:(noX o).post k x):o.post k (fun _=>False):=by cases o<;>exact h
section
variable{C:Dc}{G H:Hp}{σ:St}{ς:SD}{e:Expr}{es:List Expr}{st:Stmt}{sts:List Stmt}
theorem GH.nox(S:GH C G H):GH C.nox G H:=⟨S.sub,S.g0,S.new,S.fr,S.dom,S.bs,S.bh⟩
theorem GH.unnox(S:GH C.nox G H):GH C G H:=⟨S.sub,S.g0,S.new,S.fr,S.dom,S.bs,S.bh⟩
theorem StR.nox(S:StR C G H σ ς):StR C.nox G H σ ς:=⟨S.toGH.nox,S.len,S.fz,S.ow,S.ln,S.inj,S.sf,S.su⟩
theorem StR.unnox(S:StR C.nox G H σ ς):StR C G H σ ς:=⟨S.toGH.unnox,S.len,S.fz,S.ow,S.ln,S.inj,S.sf,S.su⟩
theorem PA.nox'{X:Cx}{t:TA}(h:PA X.nox es t):PA X es t:=fun pos pins s σ H Q I q=>PA.nox h I q
theorem DA.lift{A:SD->Out (List D)}(h:DA C.nox es A):DA C es (fun ς=>noX (A ς)):=by
 obtain⟨t,p,q⟩:=h
 exact⟨t,PA.nox' p,fun G H σ ς Q S k=>q G H σ ς Q S.nox (Out.post_mono (Qy2 k) fun d kd v H' G' S' a b r=>kd v H' G' S'.unnox a b r)⟩
theorem FlK.nox{W:Ends}{f:Fl}(h:FlK C G W f):FlK C.nox G W f:=by
 cases f with
 | nx ς=>exact fun σ' H' G' S q=>h σ' H' G' S.unnox q
 | bk ς=>exact fun σ' H' G' S q=>h σ' H' G' S.unnox q
 | ct ς=>exact fun σ' H' G' S q=>h σ' H' G' S.unnox q
 | rt b d=>exact fun v H' G' S q r=>h v H' G' S.unnox q r
theorem PS.nox'{X:Cx}{t:TS}(h:PS X.nox st t):PS X st t:=fun pins s σ H D I hw=>
 wpAny_mono (h pins s σ H D (I.wish _) hw) (fun _ _ q=>q.unwish) fun _ _ z=>False.elim z
theorem DS.lift{T:SD->Out Fl}(h:DS C.nox st T):DS C st (fun ς=>noX (T ς)):=by
 obtain⟨t,p,q⟩:=h
 exact⟨t,PS.nox' p,fun G H σ ς W S k=>q G H σ ς W S.nox (Out.post_mono (Qy2 k) fun f kf=>kf.nox)⟩
variable{x:Str}{k:Nat}{fr:Bool}{dd:List D}{m:List D->Out D}{A:SD->Out (List D)}{p pos:Pos}{E:XK}
end
end DL
namespace DL
open PySem PySem.Spec PyProof.Rows L2
section
variable{C:Dc}{x:Str}{k:Nat}{fr:Bool}{dd:List D}{m:List D->Out D}{e:Expr}{es:List Expr}{A:SD->Out (List D)}{p pos:Pos}
variable{T U:SD->Out FX}{TE:SD->Out EX}{st:Stmt}{sts rest:List Stmt}{i:Nat}{px:Pos}
section
variable{G H:Hp}{σ:St}{ς:SD}{ea:Addr}
end
end
end DL
namespace L2
open PySem PySem.Spec PyProof.Rows
end L2
namespace DL
open PySem PySem.Spec PyProof.Rows L2
section
variable{C:Dc}{pos p:Pos}{e cx:Expr}{E:SD->Out D}
end
end DL
namespace L2
open PySem PySem.Spec PyProof.Rows
def Itz(K:W.Frag)(a b:Addr):It:=
 ⟨fun i H=>∃ xs ys x y,SqL K H a xs/\SqL K H b ys/\xs[i]?=some x/\ys[i]?=some y,
  fun i H v H'=>∃ p x y,H p=none/\v=.ref p/\H'=upd H p (.tup [x,y])/\(∀ xs,SqL K H a xs->xs[i]?=some x)/\∀ ys,SqL K H b ys->ys[i]?=some y,
  fun i H=>∃ xs ys,SqL K H a xs/\SqL K H b ys/\(xs.length<=i∨ys.length<=i)⟩
theorem QL8{P:Program}{w:World}{K:W.Frag}{elts:List Expr}{k1:Nat}{pos:Pos}{z TI TO i1 i2 l1 l2:Addr}(D:ZipApart z TI TO i1 i2 l1 l2):
 Turn P w K (.Tuple elts k1 pos) (Itz K l1 l2) [z,TI,TO,i1,i2] z (fun i h=>IsZip h z TI TO .none/\IsPair h TI (.ref i1) (.ref i2)/\(∃ a b,IsPair h TO a b)/\h.IsListIter i1 l1 i/\h.IsListIter i2 l2 i) where
 mem:=by simp
 obj:=fun i h st b hb=>by
  obtain⟨s1,s2,⟨_,_,s3⟩,⟨o4,e4,c4,d4⟩,⟨o5,e5,c5,d5⟩⟩:=st
  simp only[List.mem_cons,List.not_mem_nil,or_false]at hb
  rcases hb with rfl | rfl | rfl | rfl | rfl
  ·exact⟨_,s1,fun v q=>by cases q⟩
  ·exact⟨_,s2,fun v q=>by cases q⟩
  ·exact⟨_,s3,fun v q=>by cases q⟩
  ·exact⟨_,e4,fun v q=>by rw[d4]at q;cases q⟩
  ·exact⟨_,e5,fun v q=>by rw[d5]at q;cases q⟩
 keep:=fun i h h' st k=>by
  obtain⟨s1,s2,⟨a,b,s3⟩,s4,s5⟩:=st
  exact⟨k z (by simp) _ s1,k TI (by simp) _ s2,⟨a,b,k TO (by simp) _ s3⟩,s4.at fun o e=>k i1 (by simp) o e,s5.at fun o e=>k i2 (by simp) o e⟩
 item:=by
  intro X hP hw hK hc i pins s σ H E I hf st hg
  subst hP hw hK
  obtain⟨xs,ys,x,y,q1,q2,hx,hy⟩:=hg
  obtain⟨its1,rv1,p1,hz1⟩:=I.list q1
  obtain⟨its2,rv2,p2,hz2⟩:=I.list q2
  obtain⟨u1,hu1,ru1⟩:=rv1.get hx
  obtain⟨u2,hu2,ru2⟩:=rv2.get hy
  obtain⟨s1,s2,⟨a,b,s3⟩,s4,s5⟩:=st
  refine wpAny_pyNext_zip_item D s1 s2 s3 s4 s5 p1.isList p2.isList (x:=u1) (y:=u2) (by simpa using hu1) (by simpa using hu2) fun h' a1 a2 a3 a4 a5 a6 hk=>?_
  have hT:H s.heap.objs.size=none:=I.hok.fresh (Nat.le_refl _)
  have fp:∀ c∈[z,TO,i1,i2],FpOk X pins H c:=fun c hc=>hf c (by
   simp only[List.mem_cons,List.not_mem_nil,or_false]at hc ⊢
   rcases hc with rfl | rfl | rfl | rfl<;>simp)
  have out:∀ c,c∉[z,TO,i1,i2]->∀ o,s.heap.get? c=some o->h'.get? c=some o:=fun c hc o e=>hk c o (fun q=>hc (by simp[q])) (fun q=>hc (by simp[q])) (fun q=>hc (by simp[q])) (fun q=>hc (by simp[q])) e
  have trk:∀ c o,H c=some o->c∉[z,TO,i1,i2]:=fun c o e hc=>by rw[(fp c hc).1]at e;cases e
  have hok:HOk X.prog X.w (upd H s.heap.objs.size (.tup [x,y])) h':=fun c o e=>by
   by_cases hcT:c=s.heap.objs.size
   ·subst hcT
    rw[QP]at e
    cases e
    exact⟨by show 2<=sizeLine;decide,[u1,u2],.cons ru1 (.cons ru2 .nil),⟨_,a5,rfl,_,rfl⟩⟩
   ·rw[Qn hcT]at e
    refine(I.hok c o e).stay (fun b u hb q=>out b ?_ u q) (fun b q=>?_) fun b ts q=>?_
    ·rcases hb with rfl | hb
     ·exact trk b _ e
     ·exact trk b _ hb
    ·rw[Qn (QW q hT)];exact q
    ·rw[Qn (QW q hT)];exact q
  have I1:Inv X pins σ (upd H s.heap.objs.size (.tup [x,y])) { s with heap:=h',gens:=s.gens,drawn:=s.drawn,toks:=s.toks }:=I.step (ch:=[z,TO,i1,i2])
   ‹"K"› (fun c o _ _ hc e _=>out c hc o e) (fun c o _ _ hc e _=>⟨o.slots,out c hc o e⟩)
   (fun c o hc e n=>by rw[Qn (Nat.ne_of_lt (Heap.lt_size e))];exact n) (fun c o hc e=>⟨o,out c hc o e⟩)
   (fun c ts e=>by rw[Qn (QW e hT)];exact e) (fun c o u e=>by rw[Qn (QW e hT)];exact e) (fun c ts e=>⟨#[],by rw[Qn (QW e hT),e];simp⟩)
   (fun m hm=>by
    obtain⟨o,es,ep,ho,r⟩:=hm
    exact⟨o,es,ep,out _ (fun hc=>(fp _ hc).2.1 rfl) o ho,r⟩) hok I.bare
  have lt:∀{c o},s.heap.get? c=some o->s.heap.objs.size≠c:=fun e=>Nat.ne_of_gt (Heap.lt_size e)
  refine⟨_,rfl,wpAny_letOwnedTupleGo_zip a1 fun h2 hz2 hs2=>?_⟩
  obtain⟨z0,z1,z2,z3,z4,z5⟩:=hf z (by simp)
  have I2:Inv X pins σ (upd H s.heap.objs.size (.tup [x,y])) { s with heap:=h2 }:=Inv.turned (s:={ s with heap:=h',gens:=s.gens,drawn:=s.drawn,toks:=s.toks }) (t':=s.toks) (it:=z) I1 (fun b o hb e=>(hs2.2 b hb).trans e) (by rw[Qn (lt s1).symm];exact z0) z1 z3 z4 z5
  refine⟨.ref s.heap.objs.size,_,I2,rfl,⟨_,x,y,hT,rfl,rfl,fun xs' q'=>by rw[I.list_inj q' q1];exact hx,fun ys' q'=>by rw[I.list_inj q' q2];exact hy⟩,
   ⟨hz2,hs2.extBut _ _ D.TIz (out TI (by simp[D.TIz,D.TITO,D.TIi1,D.TIi2]) _ s2),⟨_,_,hs2.extBut _ _ D.TOz a2⟩,a3.extBut hs2.extBut D.i1z,a4.extBut hs2.extBut D.i2z⟩,fun c hc=>?_⟩
  have:H c=none:=(hf c hc).1
  obtain⟨oc,hoc⟩:∃ o,s.heap.get? c=some o:=by
   simp only[List.mem_cons,List.not_mem_nil,or_false]at hc
   rcases hc with rfl | rfl | rfl | rfl | rfl
   ·exact⟨_,s1⟩
   ·exact⟨_,s2⟩
   ·exact⟨_,s3⟩
   ·obtain⟨o,e,_⟩:=s4;exact⟨o,e⟩
   ·obtain⟨o,e,_⟩:=s5;exact⟨o,e⟩
  rw[Qn (lt hoc).symm];exact this
 done:=by
  intro X hP hw hK hc i pins s σ H E I hf st hg
  subst hP hw hK
  obtain⟨xs,ys,q1,q2,hend⟩:=hg
  obtain⟨its1,rv1,p1,hz1⟩:=I.list q1
  obtain⟨its2,rv2,p2,hz2⟩:=I.list q2
  have l1:=rv1.length
  have l2:=rv2.length
  obtain⟨s1,s2,⟨a,b,s3⟩,s4,s5⟩:=st
  have fp:∀ c∈[z,TO,i1,i2],FpOk X pins H c:=fun c hc=>hf c (by
   simp only[List.mem_cons,List.not_mem_nil,or_false]at hc ⊢
   rcases hc with rfl | rfl | rfl | rfl<;>simp)
  refine wpAny_pyNext_zip_end (I.ok.hd hc) D s1 s2 s3 s4 s5 p1.isList p2.isList (by simp;omega) fun h' hk=>⟨rfl,?_⟩
  have out:∀ c,c∉[z,TO,i1,i2]->∀ o,s.heap.get? c=some o->h'.get? c=some o:=fun c hc o e=>hk c o (fun q=>hc (by simp[q])) (fun q=>hc (by simp[q])) (fun q=>hc (by simp[q])) (fun q=>hc (by simp[q])) e
  have trk:∀ c o,H c=some o->c∉[z,TO,i1,i2]:=fun c o e hc=>by rw[(fp c hc).1]at e;cases e
  exact I.step (g':=s.gens) (d':=s.drawn) (t':=s.toks) (ch:=[z,TO,i1,i2]) ‹"K"› (fun c o _ _ hc e _=>out c hc o e) (fun c o _ _ hc e _=>⟨o.slots,out c hc o e⟩)
   (fun c o hc e n=>n) (fun c o hc e=>⟨o,out c hc o e⟩) (fun c ts e=>e) (fun c o u e=>e) (fun c ts e=>⟨#[],by rw[e];simp⟩)
   (fun m hm=>by
    obtain⟨o,es,ep,ho,r⟩:=hm
    exact⟨o,es,ep,out _ (fun hc=>(fp _ hc).2.1 rfl) o ho,r⟩)
   (fun c o e=>(I.hok c o e).stay (fun b u hb q=>out b (by
    rcases hb with rfl | hb
    ·exact trk b _ e
    ·exact trk b _ hb) u q) (fun b q=>q) fun b ts q=>q) I.bare
 self:=fun _ _ _ _ _ st h=>wpAny_pyIter_zip st.1 h
section
variable{X:Cx}
theorem QJe(n l1 l2:Nat)(h1:l1<n)(h2:l2<n):ZipApart (n+4) (n+2) (n+3) n (n+1) l1 l2:=⟨(show ¬ ((n+2:Nat)=n+4) by omega),(show ¬ ((n+3:Nat)=n+4) by omega),(show ¬ ((n:Nat)=n+4) by omega),(show ¬ ((n+1:Nat)=n+4) by omega),(show ¬ ((n+2:Nat)=n+3) by omega),(show ¬ ((n+2:Nat)=n) by omega),(show ¬ ((n+2:Nat)=n+1) by omega),(show ¬ ((n+3:Nat)=n) by omega),(show ¬ ((n+3:Nat)=n+1) by omega),(show ¬ ((n:Nat)=n+1) by omega),(show ¬ ((l1:Nat)=n+4) by omega),(show ¬ ((l1:Nat)=n+3) by omega),(show ¬ ((l1:Nat)=n) by omega),(show ¬ ((l1:Nat)=n+1) by omega),(show ¬ ((l2:Nat)=n+4) by omega),(show ¬ ((l2:Nat)=n+3) by omega),(show ¬ ((l2:Nat)=n) by omega),(show ¬ ((l2:Nat)=n+1) by omega)⟩
def iZip(K:W.Frag)(ta:TA):TI:=fun σ H R=>ta σ H fun vs H1=>∃ a b,vs=[.ref a,.ref b]/\(∃ xs,SqL K H1 a xs)/\(∃ ys,SqL K H1 b ys)/\R (Itz K a b) H1
theorem QQd{elts:List Expr}{k1:Nat}{tpos:Pos}{a b:Expr}{ta:TA}{p pos:Pos}(hg:Gl X "zip")(hm:X.mg "zip"=none)(ha:PA X [a,b] ta)(hs:starEach [a,b] X.env=[(false,eval a X.env),(false,eval b X.env)]:=by rfl)(hs2:starEach [b] X.env=[(false,eval b X.env)]:=by rfl):
 PI X (.Tuple elts k1 tpos) (.Call (.Name "zip" p) [a,b] [] pos) (iZip X.K ta):=by
 intro pins s σ H R I h
 refine Call_ (Qgg I hg hm PyProof.Rows.Boot.«zip» (PyProof.Rows.callWith_type1 (thn (ha pos pins s σ H _ I h) fun us s1 ⟨vs,H1,I1,r1,q1⟩=>?_) (by rw[hs,hs2]) (by rw[hs2];rfl)))
 obtain⟨l1,l2,e,⟨xs,hx⟩,⟨ys,hy⟩,q⟩:=q1
 subst e
 cases r1 with
 | cons r rr=>
  cases rr with
  | cons r' rr=>
   cases rr
   cases r
   cases r'
   obtain⟨its1,rv1,p1,hz1⟩:=I1.list hx
   obtain⟨its2,rv2,p2,hz2⟩:=I1.list hy
   have n1:l1<s1.heap.objs.size:=by obtain⟨o,n,ho,_⟩:=p1;exact Heap.lt_size ho
   have n2:l2<s1.heap.objs.size:=by obtain⟨o,n,ho,_⟩:=p2;exact Heap.lt_size ho
   refine call_zip_2 p1.isList p2.isList fun h' c1 c2 c3 c4 c5 c6 hk=>?_
   refine wpAny_pyIter_zip c1 ?_
   refine⟨_,_,_,Itz X.K l1 l2,H1,rfl,I1.kept (t':=s1.toks) fun b o e=>hk b o e,QL8 (i1:=s1.heap.objs.size) (i2:=s1.heap.objs.size+1) (TI:=s1.heap.objs.size+2) (TO:=s1.heap.objs.size+3) (z:=s1.heap.objs.size+4) (l1:=l1) (l2:=l2)
    (QJe s1.heap.objs.size l1 l2 n1 n2),⟨c1,c2,⟨_,_,c3⟩,c4,c5⟩,fun b hb=>?_,q⟩
   have hb':s1.heap.objs.size<=b:=by
    simp only[List.mem_cons,List.not_mem_nil,or_false]at hb
    rcases hb with rfl | rfl | rfl | rfl | rfl<;>omega
   exact I1.fpOk hb' (I1.hok.fresh hb')
end
end L2
namespace DL
open PySem PySem.Spec PyProof.Rows L2
def itZ(A B:SD->Out D):SD->Out (List D):=fun ς=>A ς>>=fun x=>B ς>>=fun y=>match x,y with
 | .lst xs,.lst ys=>.ok (List.zipWith (fun a b=>.tup [a,b]) xs ys)
 | _,_=>.stuck
section
variable{C:Dc}{a b:Expr}{A B:SD->Out D}
theorem QOo{K:W.Frag}{CT:CTab}{G1:Hp}{p q:Addr}{xs ys:List D}{us vs:List V}(h1:SqL K G1 p us)(r1:RepL K CT G1 xs us)(h2:SqL K G1 q vs)(r2:RepL K CT G1 ys vs):DIt K CT G1 (Itz K p q) (List.zipWith (fun a b=>D.tup [a,b]) xs ys) where
 go:=fun G H i d s1 sH hd=>by
  rw[List.getElem?_zipWith]at hd
  cases e1:xs[i]? with
  | none=>rw[e1]at hd;cases hd
  | some x=>
   cases e2:ys[i]? with
   | none=>rw[e1,e2]at hd;cases hd
   | some y=>
    rw[e1,e2]at hd
    cases hd
    obtain⟨u,hu,ru⟩:=r1.get e1
    obtain⟨v,hv,rv⟩:=r2.get e2
    have q1:SqL K H p us:=sH.seq (s1.seq h1)
    have q2:SqL K H q vs:=sH.seq (s1.seq h2)
    refine⟨⟨us,vs,u,v,q1,q2,hu,hv⟩,fun w H' ⟨t,x',y',n,e,e',k1,k2⟩=>?_⟩
    have z1:=k1 us q1
    have z2:=k2 vs q2
    rw[hu]at z1;cases z1
    rw[hv]at z2;cases z2
    subst e e'
    have gn:G t=none:=sH.free n
    refine⟨upd G t (.tup [u,v]),QF gn,QF n,QkV sH,fun b g g'=>?_,t,[u,v],rfl,SqT.of QP,⟨u,_,rfl,Rep.mono (s1.trans (QF gn)) x u ru,v,_,rfl,Rep.mono (s1.trans (QF gn)) y v rv,rfl⟩⟩
    by_cases hb:b=t
    ·subst hb;exact n
    ·rw[Qn hb]at g';exact absurd g g'
 stop:=fun G H s1 sH=>by
  refine⟨us,vs,sH.seq (s1.seq h1),sH.seq (s1.seq h2),?_⟩
  have l1:=r1.length
  have l2:=r2.length
  rw[List.length_zipWith]
  omega
theorem Qgt{elts:List Expr}{k1:Nat}{tpos p pos:Pos}(hgl:Gl C.X "zip")(hm:C.X.mg "zip"=none)(ha:DE C a A)(hb:DE C b B)
 (hst:starEach [a,b] C.X.env=(false,eval a C.X.env)::starEach [b] C.X.env:=by rfl) (hst2:starEach [b] C.X.env=(false,eval b C.X.env)::starEach [] C.X.env:=by rfl):DI C (.Tuple elts k1 tpos) (.Call (.Name "zip" p) [a,b] [] pos) (itZ A B):=by
 obtain⟨t0,p0,q0⟩:=ha
 obtain⟨t3,p3,q3⟩:=hb
 refine⟨_,QQd hgl hm (Qbc p0 (Qbc p3 Qdo hst2) hst) (by rw[hst,hst2];rfl) (by rw[hst2];rfl),fun G H σ ς R S k=>?_⟩
 unfold itZ at k
 rw[Out.post_bind]at k
 refine q0 G H σ ς _ S (Out.post_mono k fun d k v H1 G1 S1 a1 b1 r=>?_)
 rw[Out.post_bind]at k
 refine q3 G1 H1 σ ς _ S1 (Out.post_mono k fun d2 k v2 H2 G2 S2 a2 b2 r'=>?_)
 cases d with
 | lst xs=>
  cases d2 with
  | lst ys=>
   obtain⟨p1,us,rfl,h1,r1⟩:=Rep.mono b2 _ v r
   obtain⟨p2,vs,rfl,h2,r2⟩:=r'
   exact⟨p1,p2,rfl,⟨us,S2.sub.seq h1⟩,⟨vs,S2.sub.seq h2⟩,k _ H2 G2 S2 (a1.trans a2) (b1.trans b2) (QOo h1 r1 h2 r2)⟩
  | _=>exact k.elim
 | _=>exact k.elim
end
end DL
namespace DL
open PySem PySem.Spec PyProof.Rows L2
def putD(f:Str)(d:D):List (Str×D)->List (Str×D)
 | []=>[(f,d)]
 | (g,x)::r=>if g=f then(g,d)::r else(g,x)::putD f d r
section
variable{K:W.Frag}{CT:CTab}{H H':Hp}
theorem RepF.look:∀{fds:List (Str×D)}{fs:List (Str×V)}{f:Str},RepF K CT H fds fs->(∀ d,fds.lookup f=some d->∃ v,fs.lookup f=some v/\Rep K CT H d v)/\(fds.lookup f=none->fs.lookup f=none)
 | [],_,f,h=>by cases h;exact⟨fun d z=>(by cases z),fun _=>rfl⟩
 | (k,d)::fds,_,f,⟨v,r,h1,h2,h3⟩=>by
  subst h1
  have ih:=RepF.look (f:=f) h3
  rw[List.lookup_cons,List.lookup_cons]
  cases f == k with
  | true=>exact⟨fun d' z=>by cases z;exact⟨v,rfl,h2⟩,fun z=>by cases z⟩
  | false=>exact ih
theorem RepF.len:∀{fds:List (Str×D)}{fs:List (Str×V)},RepF K CT H fds fs->fds.length=fs.length
 | [],_,h=>by cases h;rfl
 | (k,d)::fds,_,⟨v,r,h1,h2,h3⟩=>by subst h1;rw[List.length_cons,List.length_cons,RepF.len h3]
theorem RepF.put{f:Str}{d:D}{v:V}(q:Rep K CT H d v):∀{fds:List (Str×D)}{fs:List (Str×V)},RepF K CT H fds fs->RepF K CT H (putD f d fds) (putF f v fs)
 | [],_,h=>by cases h;exact⟨v,[],rfl,q,rfl⟩
 | (k,x)::fds,_,⟨u,r,h1,h2,h3⟩=>by
  subst h1
  unfold putD putF
  by_cases hk:k=f
  ·rw[if_pos hk,if_pos hk];exact⟨v,r,rfl,q,h3⟩
  ·rw[if_neg hk,if_neg hk];exact⟨u,_,rfl,h2,RepF.put q h3⟩
end
def FldOk(K:W.Frag)(CT:CTab)(cs:List Str)(f:Str):Prop:=∀ c,cs.contains c=true->∀ A,CT c=some A->Cls K A/\Qhj K A f
def dFld(cs:List Str)(f:Str):D->Out D
 | .ins c fs=>if cs.contains c=true then optO (fs.lookup f) else .stuck
 | _=>.stuck
section
variable{C:Dc}{e:Expr}{E:SD->Out D}{f:Str}{cs:List Str}{pos:Pos}
theorem QfD(hF:FldOk C.X.K C.CT cs f)(h:DE C e E)(hb:attributeBase e f C.X.env (eval e C.X.env)=eval e C.X.env:=by rfl):DE C (.Attribute e f pos) (e1 (dFld cs f) E):=by
 obtain⟨t,p,q⟩:=h
 refine⟨_,QPA p hb,fun G H σ ς Q S k=>?_⟩
 unfold e1 at k
 rw[Out.post_bind]at k
 refine q G H σ ς _ S (Out.post_mono k fun d k v H1 G1 S1 a1 b1 r=>?_)
 cases d with
 | ins c fds=>
  rcases QT k with⟨hc,k⟩ | ⟨_,k⟩
  ·obtain⟨d,e1',kd⟩:=QcD k
   obtain⟨a,A,dx,fs,rfl,h1,h2,h3⟩:=r
   obtain⟨v,e2',rv⟩:=(RepF.look h3).1 d e1'
   obtain⟨cl,na⟩:=hF c hc A h1
   exact⟨a,A,dx,fs,v,rfl,S1.sub _ _ h2,cl,na,e2',KD.now (KD.later kd a1 b1) S1 rv⟩
  ·exact k.elim
 | _=>exact k.elim
theorem StR.writeS{G H:Hp}{σ:St}{ς:SD}(S:StR C G H σ ς){i:Nat}{p A dx:Addr}{c:Str}{fds fds':List (Str×D)}{fs':List (Str×V)}(hi:ς[i]?=some (some (.s,.ins c fds)))(hp:σ[i]?=some (some (.ref p)))(hc:C.CT c=some A)(r:RepF C.X.K C.CT G fds' fs'):
 StR C G (upd H p (.ins A dx fs')) σ (ς.set i (some (.s,.ins c fds'))):=by
 obtain⟨p',e1,hg,h0,⟨hM,hW⟩,hB,ow⟩:=S.sf i _ hi
 rw[hp]at e1;cases e1
 have ne:∀ b o,G b=some o->b≠p:=fun b o e z=>by subst z;rw[hg]at e;cases e
 have S':StR C G (upd H p (.ins A dx fs')) (σ.set i (some (.ref p))) (ς.set i (some (.s,.ins c fds'))):={
  sub:=fun b o e=>by rw[Qn (ne b o e)];exact S.sub b o e
  g0:=S.g0
  new:=S.new
  fr:=fun b o e m=>by
   rw[Qn (by rintro rfl;exact m hM)];exact S.fr b o e m
  dom:=fun b e=>by
   by_cases hb:b=p
   ·subst hb;rw[QP]at e;cases e
   ·rw[Qn hb]at e;exact S.dom b e
  bs:=fun b o e=>by
   rw[Qn (by rintro rfl;rw[hB]at e;cases e)];exact S.bs b o e
  bh:=S.bh
  len:=by rw[List.length_set,List.length_set];exact S.len
  fz:=fun j d h=>by
   rcases QK h with⟨rfl,h2,l⟩ | ⟨hne,h2⟩
   ·cases h2
   ·rw[Qq hne];exact S.fz j d h2
  ow:=fun j d h=>by
   rcases QK h with⟨rfl,h2,l⟩ | ⟨hne,h2⟩
   ·cases h2
   ·rw[Qq hne]
    obtain⟨q,a,b,c',w⟩:=S.ow j d h2
    have qp:q≠p:=by
     rintro rfl
     exact h0 c'
    exact⟨q,a,b,c',w.mono (Same.refl G) fun o z=>by rw[Qn qp];exact z⟩
  ln:=fun j d h=>by
   rcases QK h with⟨rfl,h2,l⟩ | ⟨hne,h2⟩
   ·cases h2
   ·rw[Qq hne];exact S.ln j d h2
  inj:=fun j k d1 d2 q hjk h1 h2 h3=>by
   rcases QK h1 with⟨rfl,q1,l⟩ | ⟨n1,q1⟩
   ·cases q1
   ·rcases QK h2 with⟨rfl,q2,l⟩ | ⟨n2,q2⟩
    ·cases q2
    ·rw[Qq n1]at h3
     rw[Qq n2]
     exact S.inj j k d1 d2 q hjk q1 q2 h3
  sf:=fun j d h=>by
   rcases QK h with⟨rfl,h2,l⟩ | ⟨hne,h2⟩
   ·cases h2
    exact⟨p,Qfa (by rw[S.len];exact l),hg,h0,⟨hM,hW⟩,hB,⟨A,dx,fs',hc,QP,r⟩⟩
   ·rw[Qq hne]
    obtain⟨q,a,b,c2,m,z,w⟩:=S.sf j d h2
    have qp:q≠p:=by
     rintro rfl
     exact S.su i j _ _ q hne hi h2 hp a
    exact⟨q,a,b,c2,m,z,w.mono (Same.refl G) fun o z=>by rw[Qn qp];exact z⟩
  su:=fun j k d1 d2 q hjk h1 h2 h3=>by
   have get:∀(j:Nat) d,(ς.set i (some (.s,D.ins c fds')))[j]?=some (some (.s,d))->∃ d',ς[j]?=some (some (.s,d')):=fun j d h=>by
    rcases QK h with⟨rfl,h2,l⟩ | ⟨hne,h2⟩
    ·exact⟨_,hi⟩
    ·exact⟨_,h2⟩
   obtain⟨d1',g1⟩:=get j d1 h1
   obtain⟨d2',g2⟩:=get k d2 h2
   rw[QfR hp]at h3 ⊢
   exact S.su j k d1' d2' q hjk g1 g2 h3 }
 rw[QfR hp]at S'
 exact S'
def sFldS(cs:List Str)(f:Str)(i:Nat)(E:SD->Out D):SD->Out Fl:=fun ς=>E ς>>=fun d=>match ς[i]? with
 | some (some (.s,.ins c fds))=>if (cs.contains c&&decide (fds.length<1000))=true then .ok (.nx (ς.set i (some (.s,.ins c (putD f d fds))))) else .stuck
 | _=>.stuck
theorem Qe3(i:Nat){x:Str}{px pa:Pos}(hF:FldOk C.X.K C.CT cs f)(h:DE C e E)(hN:C.X.N[i]?=some x:=by rfl)(hv:Vis C.X.env.scope x:=by first | exact Or.inl rfl | exact Or.inr (oi rfl) | exact Or.inr (Or.inr rfl))
 (hd:‹"d"›:=by decide) (hcd:‹"I"›:=by decide)
 (hs:swapsWith e (some (.Attribute (.Name x px) f pa)) pos.line C.X.env=pure false:=by rfl):DS C (.Assign [.Attribute (.Name x px) f pa] e pos) (sFldS cs f i E):=by
 obtain⟨t,p,q⟩:=h
 refine⟨_,QP0 (Qex (i:=i) hN hv hd hcd) p hs,fun G H σ ς W S k=>?_⟩
 unfold sFldS at k
 rw[Out.post_bind]at k
 refine q G H σ ς _ S (Out.post_mono k fun d k v H1 G1 S1 a1 b1 r=>?_)
 split at k
 ·rename_i c fds z
  rcases QT k with⟨hc,k⟩ | ⟨_,k⟩
  ·rw[Bool.and_eq_true]at hc
   obtain⟨pp,e1',hg,h0,hM,hB,A,dx,fs,hA,hH,rf⟩:=S1.sf i _ z
   obtain⟨cl,na⟩:=hF c hc.1 A hA
   refine⟨_,e1',pp,A,dx,fs,rfl,hH,cl,na,by rw[← rf.len];exact of_decide_eq_true hc.2,?_⟩
   exact(show FlK C G W (.nx (ς.set i (some (.s,.ins c (putD f d fds))))) from k) σ _ G1 (S1.writeS z e1' hA (rf.put r)) b1
  ·exact k.elim
 ·exact k.elim
end
end DL
namespace L2
open PySem PySem.Spec PyProof.Rows
section
variable{X:Cx}{CX:CXT}{k:Nat}{m:Str}{dvs:List V}{E:XK}{o e:Expr}{es:List Expr}{ta:TE}{t:TA}{apos pos:Pos}{cs:Addr->Sp->Prop}
def MTab(X:Cx)(CX:CXT)(k:Nat)(m:Str)(dvs:List V)(cs:Addr->Sp->Prop):Prop:=
 ∀ C sp,cs C sp->Cls X.K C/\∃ f fd ps ds,Meth X.K C m f/\FnOk X.prog X.w X.K X.mg X.base CX k f fd ps sp/\Binds X.K fd ps ds/\Vals dvs ds
def QIJ(m:Str)(dvs:List V)(cs:Addr->Sp->Prop)(E:XK)(ta:TE)(t:TA):TE:=fun σ H Q=>ta σ H fun x H1=>∃ a C dx fs sp,x=.ref a/\H1 a=some (.ins C dx fs)/\cs C sp/\fs.lookup m=none/\t σ H1 fun vs H2=>sp (x::(vs++dvs)) H2 Q E
theorem QxC{pl:Sem Bool}(he:PE X o ta)(tab:MTab X CX k m dvs cs)(hr:Room k X.A)(hx:Qfp CX X E)(ha:PA X (e::es) t)
 (hst:‹"n"›:=by rfl) (hpl:(backTo pos (starEach es X.env)).any (·.1)=false:=by rfl)
 (ht:eval (.Call (.Attribute o m apos) (e::es) [] pos) X.env=(do
  let ov ← eval o X.env
  standAt apos.atName
  let (f,first) ← holding [ov] (getMethod ov m pl)
  callWith pos f first (backTo pos (starEach (e::es) X.env)) (backToKw pos (keywordEach [] X.env))):=by rfl):
 PE X (.Call (.Attribute o m apos) (e::es) [] pos) (QIJ m dvs cs E ta t):=by
 intro pins s σ H Q I h
 refine W.methodCall_KW (pl:=pl) (thn (he pins s σ H _ I h) fun u s1 ⟨x,H1,I1,rx,a,C,dx,fs,sp,ex,ea,hc,l,q⟩=>?_) ht
 subst ex
 obtain rfl:u=Value.ref a:=rx
 obtain⟨c,f,fd,ps,ds,hm,F,hb,hd⟩:=tab C sp hc
 refine Qo3 I1 ea c hm l ?_
 refine W.callWith_K (first:=[.ref a]) (h₀:=X.base) I.ok.mod.kin hm.kp (thn (ha pos pins s1 σ H1 _ I1 q) fun us s2 ⟨vs,H2,I2,r,q2⟩=>⟨I2.kIn,?_⟩) hst hpl
 exact Qwk (us:=.ref a::us) (vs:=.ref a::vs) F hr hb hd hx I2 (.cons rfl r) q2
theorem QJM{pl:Sem Bool}(he:PE X o ta)(tab:MTab X CX k m dvs cs)(hr:Room k X.A)(hx:Qfp CX X E)
 (ht:eval (.Call (.Attribute o m apos) [] [] pos) X.env=(do
  let ov ← eval o X.env
  standAt apos.atName
  let (f,first) ← holding [ov] (getMethod ov m pl)
  callWith pos f first (backTo pos (starEach [] X.env)) (backToKw pos (keywordEach [] X.env))):=by rfl):
 PE X (.Call (.Attribute o m apos) [] [] pos) (QIJ m dvs cs E ta tNil):=by
 intro pins s σ H Q I h
 refine W.methodCall_KW (pl:=pl) (thn (he pins s σ H _ I h) fun u s1 ⟨x,H1,I1,rx,a,C,dx,fs,sp,ex,ea,hc,l,q⟩=>?_) ht
 subst ex
 obtain rfl:u=Value.ref a:=rx
 obtain⟨c,f,fd,ps,ds,hm,F,hb,hd⟩:=tab C sp hc
 refine Qo3 I1 ea c hm l ?_
 exact W.callWith_K0 (first:=[.ref a]) I1.kIn hm.kp (Qwk (us:=[.ref a]) (vs:=[.ref a]) F hr hb hd hx I1 (.cons rfl .nil) q)
end
end L2
namespace DL
open PySem PySem.Spec PyProof.Rows L2
def XDofI(CT:CTab)(E:XK)(H:Hp)(p:Addr):D->Prop:=fun d=>∃ c C,d=.err c/\CT c=some C/\∀ H',(∀ b o,H b=some o->b≠p->H' b=some o)->E (.ref C) none H'
def SpI(K:W.Frag)(CT:CTab)(m:Str->List (Str×D)->List D->Out (List (Str×D))):Sp:=fun vs H Q E=>∃ p c A dx fs fds vs' ds G0,vs=.ref p::vs'/\CT c=some A/\H p=some (.ins A dx fs)/\G0 p=none/\Same G0 H/\RepF K CT G0 fds fs/\RepL K CT G0 ds vs'/\
 (m c fds ds).post (fun fds'=>∀ H' G' fs' dx',Same G0 G'->(∀ b o,H b=some o->b≠p->H' b=some o)->Same G' H'->(∀ b,G0 b=none->G' b≠none->H b=none)->H' p=some (.ins A dx' fs')->RepF K CT G' fds' fs'->Q .non H') (XDofI CT E H p)
def Qle(c:Str)(ς:SD):Out (List (Str×D)):=match (ς[0]?:Option (Option (SM×D))) with
 | some (some (SM.s,D.ins c' fds))=>if c'=c then .ok fds else .stuck
 | _=>.stuck
def Qd3(c:Str):Fl->Out (List (Str×D))
 | .nx ς=>Qle c ς
 | _=>.stuck
def bodyI(n len:Nat)(T:SD->Out Fl):Str->List (Str×D)->List D->Out (List (Str×D)):=fun c fds ds=>
 if ds.length+1=n then T (some (.s,.ins c fds)::(ds.map (fun d=>some (.k,d))++List.replicate (len - n) none))>>=Qd3 c else .stuck
abbrev dcI(P:Program)(w:World)(K:W.Frag)(mg:Str->Option Value)(base:Heap)(CT:CTab)(N:List Str)(qual:Str)(sc:Scope)(f:Addr)(cdv:Value)(A:Around)(outer:List Env)(s:Shared)(H:Hp)(E:XK)(G:Hp)(p:Addr):Dc:=
 { X:=cxOf (CXR P w) P w K mg base N qual sc f cdv A outer s H E,CT:=CT,G0:=G,XD:=XDofI CT E H p,B:=fun b=>if b=p then none else H b,M:=fun b=>b=p,W:=fun _=>some p }
theorem fnI{P:Program}{w:World}{K:W.Frag}{mg:Str->Option Value}{base:Heap}{CT:CTab}{x qual:Str}{st:Stmt}{f:Addr}{fd:FuncData}{dV:Value}{N ps:List Str}{k:Nat}{T:SD->Out Fl}
 (F:FunV K x qual st f fd dV) (S:Qm N ps (Qd st))
 (hb:∀(cdv:Value)(A:Around)(outer:List Env)(s:Shared)(H:Hp)(E:XK)(G:Hp)(p:Addr),Room k (A.deeper (envOfC qual (Qd st) s.heap.objs.size f cdv))->DSs (dcI P w K mg base CT N qual (Qd st) f cdv A outer s H E G p) (Qk st) T):
 FnOk P w K mg base (CXR P w) (k+1) f fd ps (SpI K CT (bodyI ps.length N.length T)):=by
 obtain⟨oc,od,kV,doc,pm,an,cdv,ct,osl,rfl,lk,hcd⟩:=F.ex
 have hpl:ps.length<=N.length:=by have:=congrArg List.length S.pre;rw[List.length_take]at this;omega
 have len:∀ vs H Q E,SpI K CT (bodyI ps.length N.length T) vs H Q E->vs.length=ps.length:=by
  intro vs H Q E ⟨p,c,A,dx,fs,fds,vs',ds,G0,e,_,_,_,_,_,r,q⟩
  unfold bodyI at q
  by_cases hl:ds.length+1=ps.length
  ·rw[e,List.length_cons, ← r.length];exact hl
  ·rw[if_neg hl]at q;exact q.elim
 refine fn_of lk hcd S len fun A outer s H vs Q E hr hsp=>?_
 have hlen:=len vs H Q E hsp
 obtain⟨p,c,Ac,dx,fs,fds,vs',ds,G0,rfl,hct,hp,hg,sub,rf,r,q⟩:=hsp
 obtain⟨t,p1,q1⟩:=hb cdv A outer s H E G0 p hr
 have hl:ds.length+1=ps.length:=by rw[r.length];exact hlen
 refine⟨t,p1,?_⟩
 unfold bodyI at q
 rw[if_pos hl,Out.post_bind]at q
 have get:∀(i:Nat) x,(some (SM.s,D.ins c fds)::(ds.map (fun d=>some (SM.k,d))++List.replicate (N.length - ps.length) none))[i]?=some (some x)->(i=0/\x=(.s,.ins c fds))∨∃ j d,i=j+1/\ds[j]?=some d/\x=(.k,d):=fun i x h=>by
  cases i with
  | zero=>exact .inl ⟨rfl,by simpa using h.symm⟩
  | succ j=>
   rw[List.getElem?_cons_succ]at h
   obtain⟨d,e1,e2⟩:=QdN h
   exact .inr ⟨j,d,rfl,e1,e2⟩
 have S0:StR (dcI P w K mg base CT N qual (Qd st) f cdv A outer s H E G0 p) G0 H (L2.start N (.ref p::vs')) (some (.s,.ins c fds)::(ds.map (fun d=>some (.k,d))++List.replicate (N.length - ps.length) none)):={
  sub:=sub
  g0:=Same.refl _
  new:=fun b h1 h2=>absurd h1 h2
  fr:=fun b o e _=>e
  dom:=fun b e=>e
  bs:=fun b o e=>by
   have e':(if b=p then none else H b)=some o:=e
   by_cases hb:b=p
   ·rw[if_pos hb]at e';cases e'
   ·rw[if_neg hb]at e';exact e'
  bh:=fun b e=>by
   show(if b=p then none else H b)=none
   by_cases hb:b=p
   ·rw[if_pos hb]
   ·rw[if_neg hb];exact e
  len:=by unfold L2.start;simp;have:=r.length;simp at hlen;omega
  fz:=fun i d e=>by
   rcases get i _ e with⟨_,z⟩ | ⟨j,d',rfl,e1,z⟩
   ·cases z
   ·cases z
    obtain⟨v,e3,rv⟩:=r.get e1
    exact⟨v,QdQ (by simpa using e3),rv⟩
  ow:=fun i d e=>by
   rcases get i _ e with⟨_,z⟩ | ⟨j,d',rfl,e1,z⟩<;>cases z
  ln:=fun i d e=>by
   rcases get i _ e with⟨_,z⟩ | ⟨j,d',rfl,e1,z⟩<;>cases z
  inj:=fun i j d e p _ h=>by
   rcases get i _ h with⟨_,z⟩ | ⟨j,d',rfl,e1,z⟩<;>cases z
  sf:=fun i d e=>by
   rcases get i _ e with⟨rfl,z⟩ | ⟨j,d',rfl,e1,z⟩
   ·cases z
    exact⟨p,QdQ rfl,hg,(by show H p≠none;rw[hp];simp),⟨rfl,rfl⟩,if_pos rfl,⟨Ac,dx,fs,hct,hp,rf⟩⟩
   ·cases z
  su:=fun i j d e q hij h1 h2=>by
   rcases get i _ h1 with⟨rfl,z⟩ | ⟨j,d',rfl,e1,z⟩
   ·rcases get j _ h2 with⟨rfl,z⟩ | ⟨j,d',rfl,e1,z⟩
    ·exact absurd rfl hij
    ·cases z
   ·cases z }
 refine q1 G0 H (L2.start N (.ref p::vs')) _ _ S0 (Out.post_mono q fun fl kk=>?_)
 cases fl with
 | nx ς'=>
  intro σ' H' G' S' s'
  have kk:(Qle c ς').post _ _:=kk
  unfold Qle at kk
  split at kk
  ·rename_i c' fds' z
   rcases QT kk with⟨rfl,k2⟩ | ⟨_,k2⟩
   ·obtain⟨p',e1,hg',h0,⟨hM,_⟩,hB,A',dx',fs',hA',hH',rf'⟩:=S'.sf 0 _ z
    have hM:p'=p:=hM
    subst hM
    have hA':CT c'=some A':=hA'
    rw[hct]at hA'
    cases hA'
    exact k2 H' G' fs' dx' s' (fun b o e hb=>S'.fr b o e hb) S'.sub S'.new hH' rf'
   ·exact k2.elim
  ·exact kk.elim
 | bk ς'=>exact kk.elim
 | ct ς'=>exact kk.elim
 | rt b d=>exact kk.elim
end DL
namespace DL
open PySem PySem.Spec PyProof.Rows L2
theorem Qqc{P:Program}{w:World}{K:W.Frag}{mg:Str->Option Value}{base:Heap}{CT:CTab}{N:List Str}{qual:Str}{sc:Scope}{f:Addr}{cdv:Value}{A:Around}{outer:List Env}{s:Shared}{H:Hp}{E:XK}{G:Hp}{p:Addr}:
 Rz (dcI P w K mg base CT N qual sc f cdv A outer s H E G p) E where
 pass:=passR
 xd:=fun d ⟨c,Cc,h1,h2,h3⟩=>⟨c,Cc,h1,h2,fun H' k=>h3 H' fun b o e hb=>k b o e hb⟩
 made:=fun Cc pins σ H1 s1 ea h' vs I hx hE=>QFs I rfl rfl rfl hx hE
 calm:=rfl
section
variable{C:Dc}{E:XK}{c:Str}{A f:Addr}{fd:FuncData}{ps:List Str}{ds:List Value}{dd:List D}{k:Nat}{m:Str->List (Str×D)->List D->Out (List (Str×D))}{e:Expr}{es:List Expr}{AA:SD->Out (List D)}{p pos:Pos}
def eMake(c:Str)(m:Str->List (Str×D)->List D->Out (List (Str×D)))(a:SD->Out (List D)):SD->Out D:=fun ς=>a ς>>=fun xs=>m c [] xs>>=fun fds=>.ok (.ins c fds)
def MkOk(P:Program)(w:World)(K:W.Frag)(mg:Str->Option Value)(base:Heap)(CT:CTab)(c:Str)(k:Nat)(m:Str->List (Str×D)->List D->Out (List (Str×D))):Prop:=
 ∃ A f fd ps,CT c=some A/\mg c=some (.ref A)/\Mk K A f/\FnOk P w K mg base (CXR P w) k f fd ps (SpI K CT m)/\Binds K fd ps []
theorem QiI(rz:Rz C E)(h:MkOk C.X.prog C.X.w C.X.K C.X.mg C.X.base C.CT c k m)(hr:Room (k+1) C.X.A)(ha:DA C (e::es) AA)(hg:Gl C.X c)
 (hdb:(c == ("__debug__":Str))=false:=by decide) (he:‹"b"›:=by rfl) (hpl:(backTo pos (starEach es C.X.env)).any (·.1)=false:=by rfl):
 DF C (.Call (.Name c p) (e::es) [] pos) (eMake c m AA):=by
 obtain⟨A,f,fd,ps,hct,hm,M,F,hb⟩:=h
 obtain⟨t,p1,q1⟩:=ha
 refine⟨_,QNm M F hr hg hm hb .nil rz.pass p1 hdb he hpl,fun G H σ ς Q S q=>?_⟩
 unfold eMake at q
 rw[Out.post_bind]at q
 refine q1 G H σ ς _ S (Out.post_mono q fun xs kk vs H1 G1 S1 a1 b1 r1=>?_)
 intro x dx nx ndx ne
 rw[Out.post_bind]at kk
 have keep:∀ b o,H1 b=some o->upd (upd H1 dx (.own x)) x (.ins A dx []) b=some o:=fun b o e=>by
  rw[Qn (QW e nx),Qn (QW e ndx)];exact e
 have back:∀ b,upd (upd H1 dx (.own x)) x (.ins A dx []) b=none->H1 b=none:=fun b e=>by
  by_cases hx:b=x
  ·subst hx;exact nx
  ·rw[Qn hx]at e
   by_cases hd:b=dx
   ·subst hd;exact ndx
   ·rw[Qn hd]at e;exact e
 refine⟨x,c,A,dx,[],[],vs++[],xs,G1,rfl,hct,QP,S1.sub.free nx,fun b o e=>keep b o (S1.sub b o e),rfl,by rw[List.append_nil];exact r1,?_⟩
 cases z:m c [] xs with
 | stuck=>rw[z]at kk;exact kk.elim
 | exc y=>
  rw[z]at kk
  obtain⟨c',Cc,e1',e2',e3'⟩:=rz.xd y kk
  exact⟨c',Cc,e1',e2',fun H' s'=>e3' H' fun b o q m'=>s' b o (keep b o (S1.fr b o q m')) (QW (S1.fr b o q m') nx)⟩
 | ok fds=>
  rw[z]at kk
  intro H' G' fs' dx' g1 h1 s1 n1 hp rf
  have hh:Same H1 H':=fun b o e=>h1 b o (keep b o e) (QW e nx)
  have hgp:G' x=none:=by
   cases zz:G' x with
   | none=>rfl
   | some o=>have:=n1 x (S1.sub.free nx) (by rw[zz];simp);rw[QP]at this;cases this
  exact⟨rfl,(show KF C G H σ ς Q (.ins c fds) from kk) x H' G' (S1.grow hh g1 s1 fun b g g'=>back b (n1 b g g')) (a1.trans hh) (b1.trans g1) (a1.free nx) hgp ⟨A,dx',fs',hct,hp,rf⟩⟩
end
def MtOk(P:Program)(w:World)(K:W.Frag)(mg:Str->Option Value)(base:Heap)(CT:CTab)(CX:CXT)(name:Str)(k:Nat)(cs:List Str)(sp:Str->Sp):Prop:=
 ∀ c,cs.contains c=true->∃ A f fd ps,CT c=some A/\Cls K A/\Meth K A name f/\FnOk P w K mg base CX k f fd ps (sp c)/\Binds K fd ps []
def csOf(CT:CTab)(cs:List Str)(sp:Str->Sp):Addr->Sp->Prop:=fun A s=>∃ c,cs.contains c=true/\CT c=some A/\s=sp c
theorem mtab{X:Cx}{CT:CTab}{CX:CXT}{name:Str}{k:Nat}{cs:List Str}{sp:Str->Sp}(h:MtOk X.prog X.w X.K X.mg X.base CT CX name k cs sp):MTab X CX k name [] (csOf CT cs sp):=by
 rintro A s ⟨c,hc,hA,rfl⟩
 obtain⟨A',f,fd,ps,h1,h2,h3,h4,h5⟩:=h c hc
 rw[hA]at h1;cases h1
 exact⟨h2,f,fd,ps,[],h3,h4,h5,.nil⟩
section
variable{C:Dc}{name:Str}{k:Nat}{cs:List Str}{fr:Bool}{mt:Str->List D->Out D}{o e:Expr}{es:List Expr}{O:SD->Out D}{AA:SD->Out (List D)}{apos pos:Pos}
def eMeth(cs:List Str)(name:Str)(mt:Str->List D->Out D)(O:SD->Out D)(A:SD->Out (List D)):SD->Out D:=fun ς=>O ς>>=fun d=>match d with
 | .ins c fds=>if (cs.contains c&&(fds.lookup name).isNone)=true then A ς>>=fun xs=>mt c (.ins c fds::xs) else .stuck
 | _=>.stuck
theorem QEG{G H:Hp}{σ:St}{ς:SD}{Q:VK}{t:TA}{c:Str}{fds:List (Str×D)}{v1:V}{H1 G1:Hp}(S1:StR C G1 H1 σ ς)(a1:Same H H1)(b1:Same G G1)(r1:Rep C.X.K C.CT G1 (.ins c fds) v1)
 (tk:MtOk C.X.prog C.X.w C.X.K C.X.mg C.X.base C.CT CX0 name k cs (fun c=>SpD C.X.K C.CT fr (mt c))) (hx:∀ x,¬ C.XD x)
 (hq:∀ G H σ ς Q,StR C G H σ ς->(AA ς).post (fun ds=>∀ vs H' G',StR C G' H' σ ς->Same H H'->Same G G'->RepL C.X.K C.CT G' ds vs->Q vs H') C.XD->t σ H Q)
 {K':D->Prop} (hK:∀ d v H2 G2 H' G',StR C G2 H2 σ ς->Same H H2->Same G G2->K' d->Same G2 G'->Same H2 H'->Same G' H'->(∀ b,G2 b=none->G' b≠none->H2 b=none)->RetG C.X.K C.CT fr H2 G' H' d v->Q v H')
 (kk:(if (cs.contains c&&(fds.lookup name).isNone)=true then AA ς>>=fun xs=>mt c (.ins c fds::xs) else .stuck).post K' C.XD):
 ∃ a Cc dx fs sp,v1=.ref a/\H1 a=some (.ins Cc dx fs)/\csOf C.CT cs (fun c=>SpD C.X.K C.CT fr (mt c)) Cc sp/\fs.lookup name=none/\t σ H1 fun vs H2=>sp (v1::(vs++[])) H2 Q E0:=by
 rcases QT kk with⟨hc,kk⟩ | ⟨_,kk⟩
 ·rw[Bool.and_eq_true]at hc
  obtain⟨a,Cc,dx,fs,rfl,hct,hh,rf⟩:=r1
  refine⟨a,Cc,dx,fs,_,rfl,S1.sub _ _ hh,⟨c,hc.1,hct,rfl⟩,(RepF.look rf).2 (by simpa using hc.2),?_⟩
  rw[Out.post_bind]at kk
  refine hq G1 H1 σ ς _ S1 (Out.post_mono kk fun xs k2 vs H2 G2 S2 a2 b2 r2=>?_)
  refine⟨.ins c fds::xs,G2,S2.sub,⟨_,_,rfl,Rep.mono b2 (.ins c fds) (.ref a) ⟨a,Cc,dx,fs,rfl,hct,hh,rf⟩,by rw[List.append_nil];exact r2⟩,?_⟩
  cases z:mt c (.ins c fds::xs) with
  | stuck=>rw[z]at k2;exact k2.elim
  | exc y=>rw[z]at k2;exact absurd k2 (hx y)
  | ok d=>
   rw[z]at k2
   intro v H' G' g1 h1 s1 n1 ret
   exact hK d v H2 G2 H' G' S2 (a1.trans a2) (b1.trans b2) k2 g1 h1 s1 n1 ret
 ·exact kk.elim
theorem retKD{G H:Hp}{σ:St}{ς:SD}{Q:VK}:∀ d v H2 G2 H' G',StR C G2 H2 σ ς->Same H H2->Same G G2->KD C G H σ ς Q d->Same G2 G'->Same H2 H'->Same G' H'->(∀ b,G2 b=none->G' b≠none->H2 b=none)->RetG C.X.K C.CT fr H2 G' H' d v->Q v H':=by
 intro d v H2 G2 H' G' S2 a b kd g1 h1 s1 n1 ret
 unfold RetG at ret
 by_cases hc:(fr && !d.scal)=true
 ·rw[if_pos hc]at ret
  obtain⟨pp,rfl,h0,hg',ow⟩:=ret
  obtain⟨o,ho⟩:=ow.there
  have S3:=(S2.grow h1 g1 s1 n1).freeze ho hg' (S2.h0none h0) (fun i d' z1 z2=>by
   obtain⟨o',ho'⟩:=S2.own_ne z1 z2
   rw[h0]at ho';cases ho')
  exact kd _ _ _ S3 (a.trans h1) ((b.trans g1).trans (QF hg')) (ow.known hg' ho)
 ·rw[if_neg hc]at ret
  exact kd v H' G' (S2.grow h1 g1 s1 n1) (a.trans h1) (b.trans g1) ret
theorem Qe6{pl:Sem Bool}(tk:MtOk C.X.prog C.X.w C.X.K C.X.mg C.X.base C.CT CX0 name k cs (fun c=>SpD C.X.K C.CT fr (mt c)))(hr:Room k C.X.A)(ho:DE C o O)(ha:DA C (e::es) AA)(hx:∀ x,¬ C.XD x:=by exact fun _ h=>h)
 (hst:‹"b"›:=by rfl) (hpl:(backTo pos (starEach es C.X.env)).any (·.1)=false:=by rfl)
 (ht:eval (.Call (.Attribute o name apos) (e::es) [] pos) C.X.env=(do
  let ov ← eval o C.X.env
  standAt apos.atName
  let (f,first) ← holding [ov] (getMethod ov name pl)
  callWith pos f first (backTo pos (starEach (e::es) C.X.env)) (backToKw pos (keywordEach [] C.X.env))):=by rfl):
 DE C (.Call (.Attribute o name apos) (e::es) [] pos) (eMeth cs name mt O AA):=by
 obtain⟨t1,p1,q1⟩:=ho
 obtain⟨t2,p2,q2⟩:=ha
 refine⟨_,QxC (pl:=pl) p1 (mtab tk) hr pass0 p2 hst hpl ht,fun G H σ ς Q S q=>?_⟩
 unfold eMeth at q
 rw[Out.post_bind]at q
 refine q1 G H σ ς _ S (Out.post_mono q fun d kk v1 H1 G1 S1 a1 b1 r1=>?_)
 cases d with
 | ins c fds=>exact QEG S1 a1 b1 r1 tk hx q2 retKD kk
 | _=>exact kk.elim
theorem Qb7{pl:Sem Bool}(tk:MtOk C.X.prog C.X.w C.X.K C.X.mg C.X.base C.CT CX0 name k cs (fun c=>SpD C.X.K C.CT fr (mt c)))(hr:Room k C.X.A)(ho:DE C o O)(hx:∀ x,¬ C.XD x:=by exact fun _ h=>h)
 (ht:eval (.Call (.Attribute o name apos) [] [] pos) C.X.env=(do
  let ov ← eval o C.X.env
  standAt apos.atName
  let (f,first) ← holding [ov] (getMethod ov name pl)
  callWith pos f first (backTo pos (starEach [] C.X.env)) (backToKw pos (keywordEach [] C.X.env))):=by rfl):
 DE C (.Call (.Attribute o name apos) [] [] pos) (eMeth cs name mt O aNil):=by
 obtain⟨t1,p1,q1⟩:=ho
 refine⟨_,QJM (pl:=pl) p1 (mtab tk) hr pass0 ht,fun G H σ ς Q S q=>?_⟩
 unfold eMeth at q
 rw[Out.post_bind]at q
 refine q1 G H σ ς _ S (Out.post_mono q fun d kk v1 H1 G1 S1 a1 b1 r1=>?_)
 cases d with
 | ins c fds=>exact QEG (AA:=aNil) (t:=tNil) S1 a1 b1 r1 tk hx (fun G H σ ς Q S q=>q [] H G S (Same.refl H) (Same.refl G) rfl) retKD kk
 | _=>exact kk.elim
end
end DL
namespace DL
open PySem PySem.Spec PyProof.Rows L2
section
variable{C:Dc}{name:Str}{k:Nat}{cs:List Str}{mt:Str->List D->Out D}{o e:Expr}{es:List Expr}{O:SD->Out D}{AA:SD->Out (List D)}{apos pos:Pos}
variable{E:XK}{m:Str->List (Str×D)->List D->Out (List (Str×D))}{x:Str}{px spos:Pos}
def Qgr(cs:List Str)(name:Str)(m:Str->List (Str×D)->List D->Out (List (Str×D)))(i:Nat)(A:SD->Out (List D)):SD->Out Fl:=fun ς=>match (ς[i]?:Option (Option (SM×D))) with
 | some (some (SM.s,D.ins c fds))=>if (cs.contains c&&(fds.lookup name).isNone)=true then A ς>>=fun xs=>m c fds xs>>=fun fds'=>.ok (.nx (ς.set i (some (.s,.ins c fds')))) else .stuck
 | _=>.stuck
theorem Qjn{pl:Sem Bool}(i:Nat)(rz:Rz C E)(tk:MtOk C.X.prog C.X.w C.X.K C.X.mg C.X.base C.CT (CXR C.X.prog C.X.w) name k cs (fun _=>SpI C.X.K C.CT m))(hr:Room k C.X.A)(ha:DA C (e::es) AA)
 (hN:C.X.N[i]?=some x:=by rfl) (hv:Vis C.X.env.scope x:=by first | exact Or.inl rfl | exact Or.inr (oi rfl) | exact Or.inr (Or.inr rfl))
 (hd:‹"d"›:=by decide) (hcd:‹"I"›:=by decide)
 (hst:‹"b"›:=by rfl) (hpl:(backTo pos (starEach es C.X.env)).any (·.1)=false:=by rfl)
 (ht:eval (.Call (.Attribute (.Name x px) name apos) (e::es) [] pos) C.X.env=(do
  let ov ← eval (.Name x px) C.X.env
  standAt apos.atName
  let (f,first) ← holding [ov] (getMethod ov name pl)
  callWith pos f first (backTo pos (starEach (e::es) C.X.env)) (backToKw pos (keywordEach [] C.X.env))):=by rfl)
 (hsw:swapsWith (.Call (.Attribute (.Name x px) name apos) (e::es) [] pos) none spos.line C.X.env=pure false:=by rfl):
 DS C (.Expr (.Call (.Attribute (.Name x px) name apos) (e::es) [] pos) spos) (Qgr cs name m i AA):=by
 obtain⟨t2,p2,q2⟩:=ha
 refine⟨_,QsJ (QxC (pl:=pl) (Qex (i:=i) hN hv hd hcd) (mtab tk) hr rz.pass p2 hst hpl ht) hsw,fun G H σ ς W S kk=>?_⟩
 unfold Qgr at kk
 split at kk
 ·rename_i c fds z
  rcases QT kk with⟨hc,kk⟩ | ⟨_,kk⟩
  ·rw[Bool.and_eq_true]at hc
   obtain⟨p,e1',hg,h0,⟨hM,_⟩,hB,A,dx,fs,hct,hh,rf⟩:=S.sf i _ z
   refine⟨_,e1',p,A,dx,fs,_,rfl,hh,⟨c,hc.1,hct,rfl⟩,(RepF.look rf).2 (by simpa using hc.2),?_⟩
   rw[Out.post_bind]at kk
   refine q2 G H σ ς _ S (Out.post_mono kk fun xs k2 vs H2 G2 S2 a2 b2 r2=>?_)
   obtain⟨p',e2',hg2,_,_,_,A2,dx2,fs2,hct2,hh2,rf2⟩:=S2.sf i _ z
   rw[e1']at e2';cases e2'
   rw[Out.post_bind]at k2
   refine⟨p,c,A2,dx2,fs2,fds,vs++[],xs,G2,rfl,hct2,hh2,hg2,S2.sub,rf2,by rw[List.append_nil];exact r2,?_⟩
   cases zz:m c fds xs with
   | stuck=>rw[zz]at k2;exact k2.elim
   | exc y=>
    rw[zz]at k2
    obtain⟨c',Cc,f1,f2,f3⟩:=rz.xd y k2
    exact⟨c',Cc,f1,f2,fun H' s'=>f3 H' fun b o q mm=>s' b o (S2.fr b o q mm) (by rintro rfl;exact mm hM)⟩
   | ok fds'=>
    rw[zz]at k2
    intro H' G' fs' dx' g1 h1 s1 n1 hp rf'
    have gp:G' p=none:=by
     cases y:G' p with
     | none=>rfl
     | some o=>have:=n1 p hg2 (by rw[y];simp);rw[hh2]at this;cases this
    have S3:StR C G' (upd H' p (.ins A2 dx2 fs2)) σ ς:=S2.grow (fun b o e=>by
     by_cases hb:b=p
     ·subst hb;rw[QP];rw[hh2]at e;exact e
     ·rw[Qn hb];exact h1 b o e hb) g1 (fun b o e=>by
     rw[Qn (by rintro rfl;rw[gp]at e;cases e)];exact s1 b o e) n1
    have S4:=S3.writeS (dx:=dx') z e1' hct2 rf'
    have eq:upd (upd H' p (.ins A2 dx2 fs2)) p (.ins A2 dx' fs')=H':=by
     rw[QNi]
     funext b
     by_cases hb:b=p
     ·subst hb;rw[QP,hp]
     ·rw[Qn hb]
    rw[eq]at S4
    exact(show FlK C G W (.nx (ς.set i (some (.s,.ins c fds')))) from k2) σ H' G' S4 (b2.trans g1)
  ·exact kk.elim
 ·exact kk.elim
end
end DL
namespace DL
open PySem PySem.Spec PyProof.Rows L2
def inCls(s:Stmt)(j:Nat):Stmt:=match s with
 | .ClassDef _ _ _ b _ _ _ _ _ _ _=>b.getD j (.Pass ⟨0,0,0,0⟩)
 | _=>.Pass ⟨0,0,0,0⟩
def KitI(K:W.Frag)(CT:CTab)(uc:Value)(tbl:List (Str×Bool)):Prop:=∀ c b,tbl.lookup c=some b->∀ A,CT c=some A->ClsD K A/\W.kitOne K (.ref A) uc=some b
theorem QjB{K:W.Frag}{CT:CTab}{uc:Value}:KitI K CT uc []:=fun _ _ h=>nomatch h
theorem Qaa{K:W.Frag}{CT:CTab}{uc:Value}{c:Str}{b:Bool}{A:Addr}{tbl:List (Str×Bool)}(hc:CT c=some A)(hx:ClsD K A)(hk:W.kitOne K (.ref A) uc=some b)(r:KitI K CT uc tbl):KitI K CT uc ((c,b)::tbl):=by
 intro c' b' h A' hA
 rw[List.lookup_cons]at h
 cases e:c' == c with
 | true=>
  rw[e]at h
  cases h
  rw[beq_iff_eq.mp e,hc]at hA
  cases hA
  exact⟨hx,hk⟩
 | false=>
  rw[e]at h
  exact r c' b' h A' hA
section
variable{C:Dc}{pos p:Pos}{e cx:Expr}{E:SD->Out D}
end
def eIxO(i:Nat)(b:SD->Out D):SD->Out D:=fun ς=>match (ς[i]?:Option (Option (SM×D))) with
 | some (some (SM.o,D.lst xs))=>b ς>>=fun k=>match k with | .int k=>optO (atI xs k) | _=>.stuck
 | _=>.stuck
section
variable{C:Dc}{pos px:Pos}{b:Expr}{B:SD->Out D}{x f:Str}{cs:List Str}
theorem QQn(i:Nat)(hb:DB C b B)(hN:C.X.N[i]?=some x:=by rfl)(hv:Vis C.X.env.scope x:=by first | exact Or.inl rfl | exact Or.inr (oi rfl) | exact Or.inr (Or.inr rfl))
 (hd:‹"d"›:=by decide) (hcd:‹"I"›:=by decide) (hs:Ql2 b:=by intro _ _;rfl):DE C (.Subscript (.Name x px) b pos) (eIxO i B):=by
 obtain⟨tb,p2,q2⟩:=hb
 refine⟨_,pe_ix QwA (Qex (i:=i) hN hv hd hcd) p2 hs,fun G H σ ς Q S q=>?_⟩
 unfold eIxO at q
 split at q
 ·rename_i xs z
  obtain⟨p,e1',hg,h0,ow⟩:=S.ow i _ z
  rw[Out.post_bind]at q
  refine⟨_,e1',q2 G H σ ς _ S (Out.post_mono q fun y k2 v2 H2 G2 S2 a2 b2 r2=>?_)⟩
  cases y with
  | int k=>
   cases r2
   obtain⟨d,e2',kd⟩:=QcD k2
   obtain⟨p',e3',hg',h0',vs,hv1,hv2⟩:=S2.ow i _ z
   rw[e1']at e3';cases e3'
   obtain⟨v,e4',rv⟩:=QiL hv2 e2'
   exact .inl ⟨p,vs,k,v,rfl,rfl,SqL.of hv1,e4',KD.now (KD.later kd a2 b2) S2 rv⟩
  | _=>exact k2.elim
 ·exact q.elim
end
end DL
namespace L2
open PySem PySem.Spec PyProof.Rows
def Ite(K:W.Frag)(a:Addr):It:=
 ⟨fun i H=>∃ xs x,SqL K H a xs/\xs[i]?=some x,
  fun i H v H'=>∃ p x,H p=none/\v=.ref p/\H'=upd H p (.tup [.int i,x])/\(∀ xs,SqL K H a xs->xs[i]?=some x),
  fun i H=>∃ xs,SqL K H a xs/\xs.length<=i⟩
theorem QIV{P:Program}{w:World}{K:W.Frag}{elts:List Expr}{k1:Nat}{pos:Pos}{e it l:Addr}(D1:e≠it):
 Turn P w K (.Tuple elts k1 pos) (Ite K l) [e,it] e (fun i h=>(∃ old,IsEnum h e it (i:Int) old)/\h.IsListIter it l i) where
 mem:=by simp
 obj:=fun i h st b hb=>by
  obtain⟨⟨old,s1⟩,⟨o4,e4,c4,d4⟩⟩:=st
  simp only[List.mem_cons,List.not_mem_nil,or_false]at hb
  rcases hb with rfl | rfl
  ·exact⟨_,s1,fun v q=>by cases q⟩
  ·exact⟨_,e4,fun v q=>by rw[d4]at q;cases q⟩
 keep:=fun i h h' st k=>by
  obtain⟨⟨old,s1⟩,s4⟩:=st
  exact⟨⟨old,k e (by simp) _ s1⟩,s4.at fun o q=>k it (by simp) o q⟩
 item:=by
  intro X hP hw hK hc i pins s σ H E I hf st hg
  subst hP hw hK
  obtain⟨xs,x,q1,hx⟩:=hg
  obtain⟨its1,rv1,p1,hz1⟩:=I.list q1
  obtain⟨u1,hu1,ru1⟩:=rv1.get hx
  obtain⟨⟨old,s1⟩,s4⟩:=st
  refine wpAny_pyNext_enum_item s1 s4 p1.isList (x:=u1) (by simpa using hu1) D1 fun h' a1 a3 a5 a6 hk=>?_
  have hT:H s.heap.objs.size=none:=I.hok.fresh (Nat.le_refl _)
  have fp:∀ c∈[e,it],FpOk X pins H c:=hf
  have out:∀ c,c∉[e,it]->∀ o,s.heap.get? c=some o->h'.get? c=some o:=fun c hc o q=>hk c o (fun q=>hc (by simp[q])) (fun q=>hc (by simp[q])) q
  have trk:∀ c o,H c=some o->c∉[e,it]:=fun c o q hc=>by rw[(fp c hc).1]at q;cases q
  have hok:HOk X.prog X.w (upd H s.heap.objs.size (.tup [.int i,x])) h':=fun c o q=>by
   by_cases hcT:c=s.heap.objs.size
   ·subst hcT
    rw[QP]at q
    cases q
    exact⟨by show 2<=sizeLine;decide,[.int i s.toks,u1],.cons ⟨_,rfl⟩ (.cons ru1 .nil),⟨_,a5,rfl,_,rfl⟩⟩
   ·rw[Qn hcT]at q
    refine(I.hok c o q).stay (fun b u hb q'=>out b ?_ u q') (fun b q'=>?_) fun b ts q'=>?_
    ·rcases hb with rfl | hb
     ·exact trk b _ q
     ·exact trk b _ hb
    ·rw[Qn (QW q' hT)];exact q'
    ·rw[Qn (QW q' hT)];exact q'
  have I1:Inv X pins σ (upd H s.heap.objs.size (.tup [.int i,x])) { s with heap:=h',gens:=s.gens,drawn:=s.drawn,toks:=s.toks+1 }:=I.step (ch:=[e,it])
   ‹"K"› (fun c o _ _ hc q _=>out c hc o q) (fun c o _ _ hc q _=>⟨o.slots,out c hc o q⟩)
   (fun c o hc q n=>by rw[Qn (Nat.ne_of_lt (Heap.lt_size q))];exact n) (fun c o hc q=>⟨o,out c hc o q⟩)
   (fun c ts q=>by rw[Qn (QW q hT)];exact q) (fun c o u q=>by rw[Qn (QW q hT)];exact q) (fun c ts q=>⟨#[],by rw[Qn (QW q hT),q];simp⟩)
   (fun m hm=>by
    obtain⟨o,es,ep,ho,r⟩:=hm
    exact⟨o,es,ep,out _ (fun hc=>(fp _ hc).2.1 rfl) o ho,r⟩) hok I.bare
  have lt:∀{c o},s.heap.get? c=some o->s.heap.objs.size≠c:=fun q=>Nat.ne_of_gt (Heap.lt_size q)
  refine⟨_,rfl,wpAny_letOwnedTupleGo_enum a1 fun h2 hz2 hs2=>?_⟩
  obtain⟨z0,z1,z2,z3,z4,z5⟩:=hf e (by simp)
  have I2:Inv X pins σ (upd H s.heap.objs.size (.tup [.int i,x])) { s with heap:=h2,toks:=s.toks+1 }:=Inv.turned (s:={ s with heap:=h',gens:=s.gens,drawn:=s.drawn,toks:=s.toks+1 }) (t':=s.toks+1) (it:=e) I1 (fun b o hb q=>(hs2.2 b hb).trans q) (by rw[Qn (lt s1).symm];exact z0) z1 z3 z4 z5
  refine⟨.ref s.heap.objs.size,_,I2,rfl,⟨_,x,hT,rfl,rfl,fun xs' q'=>by rw[I.list_inj q' q1];exact hx⟩,
   ⟨⟨_,by have:((i+1:Nat):Int)=(i:Int)+1:=by push_cast;rfl
          rw[this];exact hz2⟩,a3.extBut hs2.extBut D1.symm⟩,fun c hc=>?_⟩
  have:H c=none:=(hf c hc).1
  obtain⟨oc,hoc⟩:∃ o,s.heap.get? c=some o:=by
   simp only[List.mem_cons,List.not_mem_nil,or_false]at hc
   rcases hc with rfl | rfl
   ·exact⟨_,s1⟩
   ·obtain⟨o,q,_⟩:=s4;exact⟨o,q⟩
  rw[Qn (lt hoc).symm];exact this
 done:=by
  intro X hP hw hK hc i pins s σ H E I hf st hg
  subst hP hw hK
  obtain⟨xs,q1,hend⟩:=hg
  obtain⟨its1,rv1,p1,hz1⟩:=I.list q1
  have l1:=rv1.length
  obtain⟨⟨old,s1⟩,s4⟩:=st
  obtain⟨z0,z1,z2,z3,z4,z5⟩:=hf it (by simp)
  refine wpAny_pyNext_enum_end (I.ok.hd hc) s1 s4 p1.isList (by simp;omega) fun h' hk=>⟨rfl,?_⟩
  have fp:∀ c∈[it],FpOk X pins H c:=fun c hc=>hf c (by simp only[List.mem_cons,List.not_mem_nil,or_false]at hc ⊢;exact Or.inr hc)
  have out:∀ c,c∉[it]->∀ o,s.heap.get? c=some o->h'.get? c=some o:=fun c hc o q=>hk c o (fun q=>hc (by simp[q])) q
  have trk:∀ c o,H c=some o->c∉[it]:=fun c o q hc=>by rw[(fp c hc).1]at q;cases q
  exact I.step (g':=s.gens) (d':=s.drawn) (t':=s.toks) (ch:=[it]) ‹"K"› (fun c o _ _ hc q _=>out c hc o q) (fun c o _ _ hc q _=>⟨o.slots,out c hc o q⟩)
   (fun c o hc q n=>n) (fun c o hc q=>⟨o,out c hc o q⟩) (fun c ts q=>q) (fun c o u q=>q) (fun c ts q=>⟨#[],by rw[q];simp⟩)
   (fun m hm=>by
    obtain⟨o,es,ep,ho,r⟩:=hm
    exact⟨o,es,ep,out _ (fun hc=>(fp _ hc).2.1 rfl) o ho,r⟩)
   (fun c o q=>(I.hok c o q).stay (fun b u hb q'=>out b (by
    rcases hb with rfl | hb
    ·exact trk b _ q
    ·exact trk b _ hb) u q') (fun b q'=>q') fun b ts q'=>q') I.bare
 self:=fun _ _ _ _ _ st h=>wpAny_pyIter_enum st.1.choose_spec h
section
variable{X:Cx}
def iEnum(K:W.Frag)(ta:TA):TI:=fun σ H R=>ta σ H fun vs H1=>∃ a,vs=[.ref a]/\(∃ xs,SqL K H1 a xs)/\R (Ite K a) H1
theorem QMs{elts:List Expr}{k1:Nat}{tpos:Pos}{a:Expr}{ta:TA}{p pos:Pos}(hg:Gl X "enumerate")(hm:X.mg "enumerate"=none)(ha:PA X [a] ta)(hs:starEach [a] X.env=[(false,eval a X.env)]:=by rfl):
 PI X (.Tuple elts k1 tpos) (.Call (.Name "enumerate" p) [a] [] pos) (iEnum X.K ta):=by
 intro pins s σ H R I h
 refine Call_ (Qgg I hg hm PyProof.Rows.Boot.«enumerate» (PyProof.Rows.callWith_type1 (thn (ha pos pins s σ H _ I h) fun us s1 ⟨vs,H1,I1,r1,q1⟩=>?_) (by rw[hs];rfl) (by rfl)))
 obtain⟨l1,e,⟨xs,hx⟩,q⟩:=q1
 subst e
 cases r1 with
 | cons r rr=>
  cases rr
  cases r
  obtain⟨its1,rv1,p1,hz1⟩:=I1.list hx
  refine call_enumerate_list p1.isList fun h' c1 c4 c6 hk=>?_
  refine wpAny_pyIter_enum c1 ?_
  refine⟨_,_,_,Ite X.K l1,H1,rfl,I1.kept (t':=s1.toks) fun b o e=>hk b o e,QIV (e:=s1.heap.objs.size+1) (it:=s1.heap.objs.size) (l:=l1) (show ¬ ((s1.heap.objs.size+1:Nat)=s1.heap.objs.size) by omega),
   ⟨⟨_,c1⟩,c4⟩,fun b hb=>?_,q⟩
  have hb':s1.heap.objs.size<=b:=by
   simp only[List.mem_cons,List.not_mem_nil,or_false]at hb
   rcases hb with rfl | rfl<;>omega
  exact I1.fpOk hb' (I1.hok.fresh hb')
end
end L2
namespace DL
open PySem PySem.Spec PyProof.Rows L2
def enumD(i:Nat):List D->List D
 | []=>[]
 | x::xs=>.tup [.int i,x]::enumD (i+1) xs
theorem Qtw:∀(xs:List D)(i:Nat),(enumD i xs).length=xs.length
 | [],_=>rfl
 | x::xs,i=>by simp[enumD,Qtw xs]
theorem QlK:∀(xs:List D)(n i:Nat),(enumD n xs)[i]?=xs[i]?.map fun x=>.tup [.int (n+i:Nat),x]
 | [],_,_=>rfl
 | x::xs,n,0=>rfl
 | x::xs,n,i+1=>by
  show(enumD (n+1) xs)[i]?=_
  rw[QlK xs (n+1) i,show n+1+i=n+(i+1) by omega]
  rfl
def itE(A:SD->Out D):SD->Out (List D):=fun ς=>A ς>>=fun x=>match x with
 | .lst xs=>.ok (enumD 0 xs)
 | _=>.stuck
section
variable{C:Dc}{a:Expr}{A:SD->Out D}
theorem QLr{K:W.Frag}{CT:CTab}{G1:Hp}{p:Addr}{xs:List D}{us:List V}(h1:SqL K G1 p us)(r1:RepL K CT G1 xs us):DIt K CT G1 (Ite K p) (enumD 0 xs) where
 go:=fun G H i d s1 sH hd=>by
  rw[QlK,Nat.zero_add]at hd
  cases e1':xs[i]? with
  | none=>rw[e1']at hd;cases hd
  | some x=>
   rw[e1']at hd
   cases hd
   obtain⟨u,hu,ru⟩:=r1.get e1'
   have q1:SqL K H p us:=sH.seq (s1.seq h1)
   refine⟨⟨us,u,q1,hu⟩,fun w H' ⟨t,x',n,e,e',k1⟩=>?_⟩
   have z1:=k1 us q1
   rw[hu]at z1;cases z1
   subst e e'
   have gn:G t=none:=sH.free n
   refine⟨upd G t (.tup [.int i,u]),QF gn,QF n,QkV sH,fun b g g'=>?_,t,[.int i,u],rfl,SqT.of QP,⟨.int i,_,rfl,rfl,u,_,rfl,Rep.mono (s1.trans (QF gn)) x u ru,rfl⟩⟩
   by_cases hb:b=t
   ·subst hb;exact n
   ·rw[Qn hb]at g';exact absurd g g'
 stop:=fun G H s1 sH=>by
  refine⟨us,sH.seq (s1.seq h1),?_⟩
  have l1:=r1.length
  rw[Qtw]
  omega
theorem Qq6{elts:List Expr}{k1:Nat}{tpos p pos:Pos}(hgl:Gl C.X "enumerate")(hm:C.X.mg "enumerate"=none)(ha:DE C a A)
 (hst:starEach [a] C.X.env=(false,eval a C.X.env)::starEach [] C.X.env:=by rfl):DI C (.Tuple elts k1 tpos) (.Call (.Name "enumerate" p) [a] [] pos) (itE A):=by
 obtain⟨t0,p0,q0⟩:=ha
 refine⟨_,QMs hgl hm (Qbc p0 Qdo hst) (by rw[hst];rfl),fun G H σ ς R S k=>?_⟩
 unfold itE at k
 rw[Out.post_bind]at k
 refine q0 G H σ ς _ S (Out.post_mono k fun d k v H1 G1 S1 a1 b1 r=>?_)
 cases d with
 | lst xs=>
  obtain⟨p1,us,rfl,h1,r1⟩:=r
  exact⟨p1,rfl,⟨us,S1.sub.seq h1⟩,k _ H1 G1 S1 a1 b1 (QLr h1 r1)⟩
 | _=>exact k.elim
end
end DL
namespace L2
open PySem PySem.Spec PyProof.Rows
section
variable{X:Cx}
end
end L2
namespace DL
open PySem PySem.Spec PyProof.Rows L2
section
variable{C:Dc}{o e:Expr}{O E:SD->Out D}{apos cpos:Pos}
end
end DL
namespace L2
open PySem PySem.Spec PyProof.Rows
section
variable{X:Cx}{k:Nat}{f ea:Addr}{fd:FuncData}{ps:List Str}{sp:Sp}{dvs:List V}{ds:List Value}{x:Str}{p pos:Pos}{e:Expr}{es:List Expr}{t:TA}
end
end L2
namespace DL
open PySem PySem.Spec PyProof.Rows L2
section
variable{C:Dc}{ea:Addr}{x:Str}{k:Nat}{m:List D->Out D}{e:Expr}{es:List Expr}{A:SD->Out (List D)}{p pos:Pos}
end
end DL
namespace L2
open PySem PySem.Spec PyProof.Rows
section
variable{X:Cx}{tg:Expr}
theorem QIM:∀{ns:List Int}{its:List Value},Vals (ns.map V.int) its->∃ xs:List (Int×Tok),its=xs.map (fun p=>Value.int p.1 p.2)/\xs.map (·.1)=ns
 | [],_,.nil=>⟨[],rfl,rfl⟩
 | n::ns,_,.cons r rr=>by
  obtain⟨t,rfl⟩:=r
  obtain⟨xs,rfl,e⟩:=QIM rr
  exact⟨(n,t)::xs,rfl,by rw[List.map_cons,e]⟩
theorem QIv(hc:X.calm=true):CallR X (.builtin "sum") (fun xs H Q=>∃(p:Addr)(ns:List Int),xs=[.ref p]/\SqL X.K H p (ns.map V.int)/\Q (.int ns.sum) H):=by
 intro pins s σ H xs us Q I r h
 obtain⟨p,ns,rfl,hq,q⟩:=h
 obtain⟨u,rfl,rx⟩:=vals1 r
 cases rx
 obtain⟨its,rv,pl,hz⟩:=I.list hq
 obtain⟨ys,rfl,e⟩:=QIM rv
 have hl:s.heap.IsList p (intItems ys.toArray):=by
  have:(ys.map fun p=>Value.int p.1 p.2).toArray=intItems ys.toArray:=by simp[intItems]
  rw[← this];exact pl.isList
 refine sum_intListG (I.ok.hd hc) hl fun h' tk t' kk=>⟨.int ns.sum,H,I.kept kk,⟨t',?_⟩,q⟩
 congr 1
 rw[preSum_eq,List.take_of_length_le (by simp), ← e]
end
end L2
namespace DL
open PySem PySem.Spec PyProof.Rows L2
def intsD:List D->Option (List Int)
 | []=>some []
 | .int i::r=>(intsD r).map (i :: ·)
 | _::_=>none
theorem Qtf{K:W.Frag}{CT:CTab}{H:Hp}:∀{ds:List D}{ns:List Int}{vs:List V},intsD ds=some ns->RepL K CT H ds vs->vs=ns.map V.int
 | [],ns,vs,h,r=>by cases h;exact r
 | d::ds,ns,vs,h,⟨v,w,h1,h2,h3⟩=>by
  cases d with
  | int i=>
   cases e:intsD ds with
   | none=>rw[intsD,e]at h;cases h
   | some ms=>
    rw[intsD,e]at h
    cases h
    subst h1
    cases h2
    rw[Qtf e h3];rfl
  | _=>cases h
def fSum:D->Out D
 | .lst xs=>match intsD xs with | some ns=>.ok (.int ns.sum) | none=>.stuck
 | _=>.stuck
section
variable{C:Dc}{a b c e:Expr}{es:List Expr}{A B E:SD->Out D}{AA:SD->Out (List D)}{tg:Expr}{p pos:Pos}
theorem QPi(hc:C.X.calm=true)(hg:Gl C.X "sum")(hm:C.X.mg "sum"=none)(ha:DAB C (e::es) AA)
 (he:‹"b"›:=by rfl) (hpl:(backTo pos (starEach es C.X.env)).any (·.1)=false:=by rfl):DE C (.Call (.Name "sum" p) (e::es) [] pos) (eA (f1 fSum) AA):=by
 refine Qhz (QIv hc) (Qld ?_) (Qjc ?_) hg hm PyProof.Rows.Boot.«sum» ha (by decide) (by decide) he hpl
 ·intro G H σ ς Q x v S r q
  cases x with
  | lst xs=>
   cases eb:intsD xs with
   | none=>rw[fSum,eb]at q;exact q.elim
   | some ns=>
    rw[fSum,eb]at q
    obtain⟨a,vs,rfl,h2,h3⟩:=r
    rw[Qtf eb h3]at h2
    exact⟨a,ns,rfl,h2,q.2⟩
  | _=>exact q.elim
 ·intro x
  cases x with
  | lst xs=>
   rw[fSum]
   cases intsD xs with
   | none=>exact True.intro
   | some bs=>exact rfl
  | _=>exact True.intro
def frz(j:Nat)(ς:SD):SD:=match (ς[j]?:Option (Option (SM×D))) with
 | some (some (SM.o,d))=>ς.set j (some (.k,d))
 | _=>ς
theorem StR.frz{G H:Hp}{σ:L2.St}{ς:SD}(S:StR C G H σ ς){j:Nat}{d:D}(z:ς[j]?=some (some (.o,d))):∃ G',Same G G'/\StR C G' H σ (ς.set j (some (.k,d))):=by
 obtain⟨p,e,hg,h0,ow⟩:=S.ow j d z
 obtain⟨o,ho⟩:=ow.there
 have hj:j<ς.length:=(List.getElem?_eq_some_iff.mp z).1
 have get:∀(i:Nat) x,(ς.set j (some (.k,d)))[i]?=some (some x)->(i=j/\x=(.k,d))∨(i≠j/\ς[i]?=some (some x)):=fun i x h=>by
  rw[List.getElem?_set]at h
  by_cases q:j=i
  ·rw[if_pos q,if_pos (by omega)]at h
   cases h
   exact .inl ⟨q.symm,rfl⟩
  ·rw[if_neg q]at h
   exact .inr ⟨fun w=>q w.symm,h⟩
 refine⟨upd G p o,QF hg,?_⟩
 have hn:∀(i:Nat) d',i≠j->ς[i]?=some (some (.o,d'))->σ[i]?≠some (some (.ref p)):=fun i d' hi q w=>S.inj i j d' d p hi q z w e
 exact {
  toGH:=GH.freezeR S.toGH ho hg h0
  len:=by rw[List.length_set];exact S.len
  fz:=fun i d' q=>by
   rcases get i _ q with⟨rfl,w⟩ | ⟨_,w⟩
   ·cases w
    exact⟨_,e,ow.known hg ho⟩
   ·obtain⟨v,a,b⟩:=S.fz i d' w
    exact⟨v,a,Rep.mono (QF hg) d' v b⟩
  ow:=fun i d' q=>by
   rcases get i _ q with⟨rfl,w⟩ | ⟨hi,w⟩
   ·cases w
   ·obtain⟨r,a,b,c,w'⟩:=S.ow i d' w
    refine⟨r,a,?_,c,w'.mono (QF hg) fun _ z=>z⟩
    rw[Qn (by rintro rfl;exact hn i d' hi w a)];exact b
  ln:=fun i d' q=>by
   rcases get i _ q with⟨rfl,w⟩ | ⟨_,w⟩
   ·cases w
   ·exact S.ln i d' w
  inj:=fun i k d1 d2 q hne h1 h2=>by
   rcases get i _ h1 with⟨rfl,w⟩ | ⟨_,w⟩
   ·cases w
   ·rcases get k _ h2 with⟨rfl,w2⟩ | ⟨_,w2⟩
    ·cases w2
    ·exact S.inj i k d1 d2 q hne w w2
  sf:=fun i d' q=>by
   rcases get i _ q with⟨rfl,w⟩ | ⟨_,w⟩
   ·cases w
   ·obtain⟨r,a,b,c,m,z',w'⟩:=S.sf i d' w
    refine⟨r,a,?_,c,m,z',w'.mono (QF hg) fun _ z=>z⟩
    rw[Qn (by rintro rfl;exact c h0)];exact b
  su:=fun i k d1 d2 q hne h1 h2=>by
   rcases get i _ h1 with⟨rfl,w⟩ | ⟨_,w⟩
   ·cases w
   ·rcases get k _ h2 with⟨rfl,w2⟩ | ⟨_,w2⟩
    ·cases w2
    ·exact S.su i k d1 d2 q hne w w2 }
theorem QlN(j:Nat){st:Stmt}{T:SD->Out Fl}(h:DS C st T):DS C st (fun ς=>T (frz j ς)):=by
 obtain⟨t,p1,q⟩:=h
 refine⟨t,p1,fun G H σ ς W S k=>?_⟩
 have k:(T (frz j ς)).post (FlK C G W) C.XD:=k
 by_cases z:∃ d,ς[j]?=some (some (SM.o,d))
 ·obtain⟨d,z⟩:=z
  have e:frz j ς=ς.set j (some (.k,d)):=by unfold frz;rw[z]
  rw[e]at k
  obtain⟨G',sG,S'⟩:=S.frz z
  exact q G' H σ _ W S' (Out.post_mono k fun f kf=>FlK.later kf sG)
 ·have e:frz j ς=ς:=by
   unfold frz
   split
   ·rename_i d w;exact absurd ⟨d,w⟩ z
   ·rfl
  rw[e]at k
  exact q G H σ ς W S k
end
end DL
namespace LS
open PySem PySem.Spec PyProof.Rows
def met(f:Nat->Str):Nat->List Str
 | 0=>[]
 | i+1=>if f i∈met f i then met f i else met f i++[f i]
theorem met_le(f:Nat->Str):∀ i,(met f i).length<=i
 | 0=>Nat.le_refl _
 | i+1=>by
  have h:=met_le f i
  show(if _ then _ else _:List Str).length<=_
  split
  ·omega
  ·rw[List.length_append,List.length_singleton];omega
abbrev isIn(f:Nat->Str)(i:Nat):Str->Bool:=fun y=>decide (y∈met f i)
theorem QHQ(f:Nat->Str)(i:Nat)(y:Str):(isIn f i y||decide (y=f i))=isIn f (i+1) y:=by
 show _=decide (y∈(if _ then _ else _:List Str))
 by_cases h:f i∈met f i
 ·rw[if_pos h]
  by_cases e:y=f i
  ·subst e;simp[isIn,h]
  ·simp[isIn,e]
 ·rw[if_neg h]
  simp[isIn,Bool.decide_or]
theorem QLG(f:Nat->Str)(i:Nat):(if isIn f i (f i)=true then(met f i).length else(met f i).length+1)=(met f (i+1)).length:=by
 show _=(if _ then _ else _:List Str).length
 by_cases h:f i∈met f i
 ·rw[if_pos h,if_pos (decide_eq_true h)]
 ·rw[if_neg h,if_neg (by simpa [isIn] using h),List.length_append];rfl
section
variable{pg:Program}{wd:World}
theorem QIL{hp:Heap}{p:Addr}{f g:Str->Bool}{m n:Nat}(h:hp.SetOf (strKind pg wd) p f m)(hf:f=g)(hn:m=n):hp.SetOf (strKind pg wd) p g n:=hn ▸ hf ▸ h
variable{ar:Around}{Res:Result->Shared->Prop}{it:Addr}{ff wt:List Addr}{Gn:Array GenState->Array GenState->Prop}{n:Nat}{Pv:Nat->Value->Prop}{Sv:Nat->Shared->Prop}
theorem fill(Wk:WalksS pg wd ar.in1 it ff wt Gn n Pv Sv){p:Addr}(off:p∉ff){f:Nat->Str}(txt:∀ i v,Pv i v->∃ t,v=.str (f i) t)(few:n+1<scanBound):
 ∀(m i:Nat)(st:Shared),i+m=n->Sv i st->st.heap.SetOf (strKind pg wd) p (isIn f i) (met f i).length->
  (∀ st',Moved (p::wt) Gn st st'->st'.heap.SetOf (strKind pg wd) p (isIn f n) (met f n).length->Res (.ok (.ret .none)) st')->
  codeAny (model pg wd) ar (.builtin "set.update.loop" ⟨[.ref p,.ref it],[]⟩) Res st:=by
 have off':p∉wt:=fun z=>off (Wk.sub _ z)
 have more:∀ b,b∈wt->b∈p::wt:=fun b hb=>List.mem_cons_of_mem p hb
 have stays:∀{s s':Shared}{i:Nat},Moved wt Gn s s'->s.heap.SetOf (strKind pg wd) p (isIn f i) (met f i).length->s'.heap.SetOf (strKind pg wd) p (isIn f i) (met f i).length:=
  fun mv ⟨o,es,ep,tb,ho,rest⟩=>⟨o,es,ep,tb,mv.heap p o off' ho,rest⟩
 intro m
 induction m with
 | zero=>
  intro i st him hs hset fin
  obtain rfl:i=n:=by omega
  refine codeAny_builtin PyProof.Rows.F.entry_set_update_loop ?_
  rw[Around.under_plainId PyProof.Rows.F.plain_set_update_loop _]
  exact wpAny_bind (m:=pyNext (.ref it)) (Wk.done st _ _ hs fun st' mv=>wpAny_pure (fin st' (mv.mono more) (stays mv hset)))
 | succ m next=>
  intro i st him hs hset fin
  refine codeAny_builtin PyProof.Rows.F.entry_set_update_loop ?_
  rw[Around.under_plainId PyProof.Rows.F.plain_set_update_loop _]
  refine wpAny_bind (m:=pyNext (.ref it)) (Wk.item i st _ _ (by omega) hs fun v st' hv hs' mv=>?_)
  obtain⟨t,rfl⟩:=txt i v hv
  have key:=strKind_is pg wd (f i) t
  have hset1:=stays mv hset
  refine wpAny_bind (m:=holding [.str (f i) t] (setAdd p (.str (f i) t))) (wpAny_holding ?_)
  unfold setAdd
  refine wpAny_holding (wpAny_bind ((strKind pg wd).pyHash (k:=f i) key ?_))
  refine wpAny_setAddHashed_of (knd:=strKind pg wd) key rfl hset1 (by have:=met_le f i;omega) fun hp' same hset'=>?_
  have now:=QIL hset' (g:=isIn f (i+1)) (funext fun y=>QHQ f i y) (QLG f i)
  have tt:st'.toks<=st'.toks+1:=Nat.le_succ _
  refine wpAny_pure ⟨plainId_quiet PyProof.Rows.F.plain_set_update_loop _,next (i+1) _ (by omega) (Wk.frame _ st' _ _ hs' tt fun b hb o e=>?_) now fun st2 mv2 hset2=>fin st2 (Moved.trans Wk.gtrans ((mv.mono more).then_heap tt fun b o hb e=>?_) mv2) hset2⟩
  ·rw[same.2 b fun z=>off (z ▸ hb)];exact e
  ·rw[same.2 b fun z=>hb (z ▸ List.mem_cons_self)];exact e
end
abbrev Qde(led:Bool):Obj:={ cls:=.type "set",dict:=none,data:=.set #[] 0 (.fresh 0 0 led) }
section
variable{pg:Program}{wd:World}{ar:Around}{Ex:Value->Shared->Prop}{st:Shared}
set_option maxHeartbeats 4000000 in
theorem of_list{l:Addr}{vs:Array Value}{f:Nat->Str}{Q:‹"m"›}(nh:ar.handled=none)(isl:st.heap.IsList l vs)(txt:∀ i v,vs[i]?=some v->∃ t,v=Value.str (f i) t)(few:vs.size+1<scanBound)
 (goal:∀(hp:Heap)(tk:Nat),hp.SetOf (strKind pg wd) st.heap.objs.size (isIn f vs.size) (met f vs.size).length->(∀ b o,b<st.heap.objs.size->st.heap.get? b=some o->hp.get? b=some o)->Q (.ref st.heap.objs.size) { st with heap:=hp,toks:=tk }):
 wpAny (model pg wd) ar (call (.type "set") [.ref l]) Q Ex st:=by
 have made:=PySem.F.called_set.made
 have sub:=PySem.F.called_set.sub
 have nt:=PySem.F.called_set.notType
 have cc:=PySem.F.called_set.canCreate
 have tc:=PySem.F.typeCall_set_1 (.ref l)
 obtain⟨c1,c2,mro⟩:=PySem.F.called_set.mro
 refine wpAny_call (codeAny_of_tree ?_)
 show wpAny (model pg wd) _ (callAny (.type "set") ⟨[.ref l],[]⟩) _ _ st
 refine wpAny_pure ⟨Code.quiet_builtin _ (dk),codeAny_builtin F.entry_type_call ?_⟩
 rw[Around.under_plain (weight_type_call_type "set" [.ref l] []) rfl]
 repeat (any_goals (first | assumption | wp_step))
 let mid:Shared->Prop:=fun s2=>∃ hp tk,s2={ st with heap:=hp,toks:=tk }/\hp.SetOf (strKind pg wd) st.heap.objs.size (isIn f vs.size) (met f vs.size).length/\∀ b o,b<st.heap.objs.size->st.heap.get? b=some o->hp.get? b=some o
 refine codeAny_mono (code_set_new_1 (.ref l) (E:=Ex) (Q₁:=fun v s1=>∃ led,v=.ref st.heap.objs.size/\s1={ st with heap:=st.heap.push (Qde led) }) fun led=>⟨led,rfl,rfl⟩) fun r1 s1 h1=>?_
 cases r1 with
 | error _=>exact h1
 | ok fl1=>
  cases fl1 with
  | ret v1=>
   obtain⟨led,rfl,rfl⟩:=h1
   have at1:(st.heap.push (Qde led)).get? st.heap.objs.size=some (Qde led):=Heap.get?_push_size _ rfl
   have ty1:Shared.TypeIs { st with heap:=st.heap.push (Qde led) } (.ref st.heap.objs.size) "set":=⟨_,at1,rfl⟩
   have lk:=PySem.F.called_set.init.lookup
   have bd:=PySem.F.called_set.init.bind (.ref st.heap.objs.size)
   repeat (any_goals (first | assumption | wp_step))
   refine codeAny_mono (codeAny_call_builtin (R:=wants (fun v s2=>v=.none/\mid s2) Ex) PySem.F.called_set.init.plain F.entry_set_init (check_set_init_1 ty1 ?_)) fun r2 s2 h2=>?_
   ·obtain⟨⟨oc,od,dt,os⟩,hol,e1,nl,e2⟩:=isl
    obtain rfl:oc=.type "list":=e1
    obtain rfl:dt=.seq vs nl:=e2
    have hol1:(st.heap.push (Qde led)).get? l=some ⟨.type "list",od,.seq vs nl,os⟩:=Heap.get?_push_of_some _ hol
    have isl1:(st.heap.push (Qde led)).IsList l vs:=⟨_,hol1,rfl,nl,rfl⟩
    have n1:=PySem.F.sub_list_set
    have n2:=PySem.F.sub_list_frozenset
    have n3:(Value.type "list" == Value.type "dict")=false:=by decide
    have lt : @LT.lt Nat _ l st.heap.objs.size:=Heap.lt_size hol
    have sz:=Heap.size_push st.heap (Qde led)
    unfold Builtin.«set.__init__» noKeywords Builtin.Frozenset.updateFrom
    generalize keep:pyIter=ITER
    wp_walk
    subst keep
    refine wpAny_pyIter_list isl1 (wpAny_bind (wpAny_runValue ?_))
    have off:st.heap.objs.size∉[(st.heap.push (Qde led)).objs.size,l]:=by
     rw[sz]
     intro z
     rcases List.mem_cons.mp z with z | z
     ·exact Nat.ne_of_lt (Nat.lt_succ_self _) z
     ·exact Nat.ne_of_gt lt (List.mem_singleton.mp z)
    have off2:l≠(st.heap.push (Qde led)).objs.size:=by rw[sz];exact Nat.ne_of_lt (Nat.lt_succ_of_lt lt)
    refine fill ((Walks.list (by simp[nh]) _ l off2 vs).toS) off txt few vs.size 0 _ (Nat.zero_add _) ⟨⟨_,Heap.get?_push_size _ rfl,rfl,rfl⟩,isl1.push _⟩ ?_ fun s3 mv hs3=>?_
    ·exact QIL ((setObjOf_fresh (knd:=strKind pg wd) led).setOf (Heap.get?_push_of_some _ at1) (by unfold scanBound;omega)) (funext fun y=>by simp[isIn,met]) rfl
    ·obtain⟨hp3,g3,d3,tk3,os3⟩:=s3
     obtain rfl:g3=st.gens:=mv.gens
     obtain rfl:d3=st.drawn:=mv.drawn
     obtain rfl:os3=st.os:=mv.os
     refine wpAny_pure (wpAny_pure ⟨rfl,hp3,tk3,rfl,hs3,fun b o hb e=>?_⟩)
     refine mv.heap b o (fun z=>?_) (Heap.get?_push_of_some _ (Heap.get?_push_of_some _ e))
     rw[sz]at z
     rcases List.mem_cons.mp z with z | z
     ·exact Nat.ne_of_lt hb z
     ·rcases List.mem_cons.mp z with z | z
      ·exact Nat.ne_of_lt (Nat.lt_succ_of_lt hb) z
      ·exact absurd z List.not_mem_nil
   ·cases r2 with
    | error _=>exact h2
    | ok fl2=>
     cases fl2 with
     | ret v2=>
      obtain⟨rfl,hp,tk,rfl,hs2,kp⟩:=h2
      repeat (any_goals (first | assumption | wp_step))
      exact goal hp tk hs2 kp
     | _=>exact h2.elim
  | _=>exact h1.elim
end
end LS
namespace DL
open PySem PySem.Spec PyProof.Rows L2
def dkey:D->Option Key
 | .int i=>some (.inl i)
 | .str x=>some (.inr x)
 | _=>none
def valD(kds:List (Key×D))(k:Key):Option D:=(kds.find? fun kv=>decide (kv.1=k)).map (·.2)
def putKD(kds:List (Key×D))(k:Key)(d:D):List (Key×D):=
 if (kds.any fun kv=>decide (kv.1=k))=true then kds.map (fun kv=>if kv.1=k then(kv.1,d) else kv) else kds++[(k,d)]
section
variable{K:W.Frag}{CT:CTab}{H:Hp}
theorem Qnh{d:D}{v:V}{k:Key}(h:dkey d=some k)(r:Rep K CT H d v):v=kV k:=by
 cases d with
 | int i=>cases h;exact r
 | str x=>cases h;exact r
 | _=>cases h
theorem RepK.len:∀{ds:List (Key×D)}{vs:List (Key×V)},RepK K CT H ds vs->ds.length=vs.length
 | [],_,h=>by cases h;rfl
 | (k,d)::ds,_,⟨v,r,h1,h2,h3⟩=>by rw[h1,List.length_cons,List.length_cons,RepK.len h3]
theorem RepK.val(k:Key):∀{ds:List (Key×D)}{vs:List (Key×V)},RepK K CT H ds vs->(valD ds k=none/\valV vs k=none)∨∃ d v,valD ds k=some d/\valV vs k=some v/\Rep K CT H d v
 | [],_,h=>by cases h;exact .inl ⟨rfl,rfl⟩
 | (k',d)::ds,_,⟨v,r,h1,h2,h3⟩=>by
  subst h1
  by_cases e:k'=k
  ·subst e
   exact .inr ⟨d,v,by simp[valD],by simp[valV],h2⟩
  ·have a:valD ((k',d)::ds) k=valD ds k:=by simp[valD,List.find?_cons,e]
   have b:valV ((k',v)::r) k=valV r k:=by simp[valV,List.find?_cons,e]
   rw[a,b];exact RepK.val k h3
theorem RepK.any(k:Key):∀{ds:List (Key×D)}{vs:List (Key×V)},RepK K CT H ds vs->(ds.any fun kv=>decide (kv.1=k))=vs.any fun kv=>decide (kv.1=k)
 | [],_,h=>by cases h;rfl
 | (k',d)::ds,_,⟨v,r,h1,h2,h3⟩=>by
  subst h1
  rw[List.any_cons,List.any_cons,RepK.any k h3]
theorem RepK.repl(k:Key){d:D}{v:V}(hd:Rep K CT H d v):∀{ds:List (Key×D)}{vs:List (Key×V)},RepK K CT H ds vs->RepK K CT H (ds.map fun kv=>if kv.1=k then(kv.1,d) else kv) (vs.map fun kv=>if kv.1=k then(kv.1,v) else kv)
 | [],_,h=>by cases h;rfl
 | (k',d')::ds,_,⟨v',r,h1,h2,h3⟩=>by
  subst h1
  rw[List.map_cons,List.map_cons]
  by_cases e:k'=k
  ·rw[if_pos (show(k',d').1=k from e),if_pos (show(k',v').1=k from e)]
   exact⟨v,_,rfl,hd,RepK.repl k hd h3⟩
  ·rw[if_neg (show ¬ (k',d').1=k from e),if_neg (show ¬ (k',v').1=k from e)]
   exact⟨v',_,rfl,h2,RepK.repl k hd h3⟩
theorem RepK.snoc(k:Key){d:D}{v:V}(hd:Rep K CT H d v):∀{ds:List (Key×D)}{vs:List (Key×V)},RepK K CT H ds vs->RepK K CT H (ds++[(k,d)]) (vs++[(k,v)])
 | [],_,h=>by cases h;exact⟨v,[],rfl,hd,rfl⟩
 | (k',d')::ds,_,⟨v',r,h1,h2,h3⟩=>by
  subst h1
  exact⟨v',_,rfl,h2,RepK.snoc k hd h3⟩
theorem RepK.put(k:Key){d:D}{v:V}(hd:Rep K CT H d v){ds:List (Key×D)}{vs:List (Key×V)}(h:RepK K CT H ds vs):RepK K CT H (putKD ds k d) (putK vs k v):=by
 unfold putKD putK
 rw[RepK.any k h]
 split
 ·exact RepK.repl k hd h
 ·exact RepK.snoc k hd h
end
def eDix(A B:SD->Out D):SD->Out D:=fun ς=>A ς>>=fun x=>match x with
 | .dic kds=>B ς>>=fun y=>match dkey y with | some k=>optO (valD kds k) | none=>.stuck
 | _=>.stuck
def eDget(A B:SD->Out D):SD->Out D:=fun ς=>A ς>>=fun x=>match x with
 | .dic kds=>B ς>>=fun y=>match dkey y with | some k=>.ok ((valD kds k).getD .non) | none=>.stuck
 | _=>.stuck
def sPutD(i:Nat)(I E:SD->Out D):SD->Out Fl:=fun ς=>E ς>>=fun d=>match ς[i]? with
 | some (some (.o,.dic kds))=>I ς>>=fun y=>match dkey y with
  | some k=>if decide (kds.length<sizeLine)=true then .ok (.nx (ς.set i (some (.o,.dic (putKD kds k d))))) else .stuck
  | none=>.stuck
 | _=>.stuck
section
variable{C:Dc}{a b c:Expr}{A B Z:SD->Out D}{pos apos:Pos}
theorem QOQ(hu:C.X.A.units+64<cLine)(ha:DE C a A)(hb:DB C b B)(hs:NoSl b:=by intro _ _;rfl):DE C (.Subscript a b pos) (eDix A B):=by
 obtain⟨ta,p1,q1⟩:=ha
 obtain⟨tb,p2,q2⟩:=hb
 refine⟨_,QN9 (by omega) p1 p2 hs,fun G H σ ς Q S q=>?_⟩
 unfold eDix at q
 rw[Out.post_bind]at q
 refine q1 G H σ ς _ S (Out.post_mono q fun x k v1 H1 G1 S1 a1 b1 r1=>?_)
 cases x with
 | dic kds=>
  have k:(B ς>>=fun y=>match dkey y with | some k=>optO (valD kds k) | none=>.stuck).post (KD C G H σ ς Q) C.XD:=k
  rw[Out.post_bind]at k
  refine q2 G1 H1 σ ς _ S1 (Out.post_mono k fun y k2 v2 H2 G2 S2 a2 b2 r2=>?_)
  cases e:dkey y with
  | none=>rw[e]at k2;exact k2.elim
  | some kk=>
   rw[e]at k2
   obtain⟨d,ed,kd⟩:=QcD k2
   obtain⟨p,kvs,rfl,h2,h3⟩:=Rep.mono b2 _ v1 r1
   rcases RepK.val kk h3 with⟨n1,n2⟩ | ⟨d',v,n1,n2,r⟩
   ·rw[n1]at ed;cases ed
   ·rw[n1]at ed;cases ed
    exact⟨p,v,rfl,.inl ⟨kvs,kk,Same.rd S2.sub h2,Qnh e r2,n2.symm⟩,KD.now (KD.later kd (a1.trans a2) (b1.trans b2)) S2 r⟩
 | _=>exact k.elim
theorem QNy{K:W.Frag}{CT:CTab}{H:Hp}:Rep K CT H .non .non:=rfl
theorem QMY(hu:C.X.A.units+64<cLine)(ha:DE C a A)(hb:DB C b B)
 (hbase:attributeBase a "get" C.X.env (eval a C.X.env)=eval a C.X.env:=by rfl)
 (hfew:((backTo pos (starEach [b] C.X.env)).all (fun x => !x.1)&&(backToKw pos (keywordEach [] C.X.env)).all (fun x=>x.1.isSome)
  && decide (([b]:List Expr).length+([]:List Keyword).length+(if ([]:List Keyword).isEmpty then 0 else 1)<30))=true:=by rfl)
 (hline:(apos.endLine == pos.line)=true:=by rfl) (htr:backTo pos (starEach [b] C.X.env)=[(false,eval b C.X.env)]:=by rfl):DE C (.Call (.Attribute a "get" apos) [b] [] pos) (eDget A B):=by
 obtain⟨ta,p1,q1⟩:=ha
 obtain⟨tb,p2,q2⟩:=hb
 refine⟨_,QK4 (by omega) p1 p2 ⟨hbase,hfew,hline,htr⟩,fun G H σ ς Q S q=>?_⟩
 unfold eDget at q
 rw[Out.post_bind]at q
 refine q1 G H σ ς _ S (Out.post_mono q fun x k v1 H1 G1 S1 a1 b1 r1=>?_)
 cases x with
 | dic kds=>
  have k:(B ς>>=fun y=>match dkey y with | some k=>Out.ok ((valD kds k).getD .non) | none=>.stuck).post (KD C G H σ ς Q) C.XD:=k
  rw[Out.post_bind]at k
  obtain⟨p,kvs,rfl,h2,h3⟩:=r1
  refine⟨p,rfl,.inl ⟨kvs,Same.rd S1.sub h2⟩,q2 G1 H1 σ ς _ S1 (Out.post_mono k fun y k2 v2 H2 G2 S2 a2 b2 r2=>?_)⟩
  cases e:dkey y with
  | none=>rw[e]at k2;exact k2.elim
  | some kk=>
   rw[e]at k2
   have kd:KD C G H σ ς Q ((valD kds kk).getD .non):=k2
   refine⟨valV kvs kk,.inl ⟨kvs,kk,Same.rd (S1.sub.trans a2) h2,Qnh e r2,rfl⟩,?_⟩
   rcases RepK.val kk (RepK.mono b2 kds kvs h3) with⟨n1,n2⟩ | ⟨d',v,n1,n2,r⟩
   ·rw[n1]at kd;rw[n2];exact KD.now (KD.later kd (a1.trans a2) (b1.trans b2)) S2 QNy
   ·rw[n1]at kd;rw[n2];exact KD.now (KD.later kd (a1.trans a2) (b1.trans b2)) S2 r
 | _=>exact k.elim
theorem StR.writeD{G H:Hp}{σ:St}{ς:SD}(S:StR C G H σ ς){i:Nat}{p:Addr}{xs ys:List (Key×D)}{vs ws:List (Key×V)}(hi:ς[i]?=some (some (.o,.dic xs)))(hp:σ[i]?=some (some (.ref p)))(hH:H p=some (.dK vs))(r:RepK C.X.K C.CT G ys ws):
 StR C G (upd H p (.dK ws)) σ (ς.set i (some (.o,.dic ys))):=by
 obtain⟨p',e1,hg,h0,ow⟩:=S.ow i _ hi
 rw[hp]at e1;cases e1
 have hil:i<ς.length:=(List.getElem?_eq_some_iff.mp hi).1
 have ne:∀ b o,G b=some o->b≠p:=fun b o e z=>by subst z;rw[hg]at e;cases e
 have S':StR C G (upd H p (.dK ws)) (σ.set i (some (.ref p))) (ς.set i (some (.o,.dic ys))):={
  sub:=fun b o e=>by rw[Qn (ne b o e)];exact S.sub b o e
  g0:=S.g0
  new:=S.new
  fr:=fun b o e m=>by
   rw[Qn (by rintro rfl;rw[h0]at e;cases e)];exact S.fr b o e m
  dom:=fun b e=>by
   by_cases hb:b=p
   ·subst hb;exact h0
   ·rw[Qn hb]at e;exact S.dom b e
  bs:=fun b o e=>by
   rw[Qn (by rintro rfl;rw[S.bh _ h0]at e;cases e)];exact S.bs b o e
  bh:=S.bh
  len:=by rw[List.length_set,List.length_set];exact S.len
  fz:=fun j d h=>by
   rcases QK h with⟨rfl,h2,l⟩ | ⟨hne,h2⟩
   ·cases h2
   ·rw[Qq hne];exact S.fz j d h2
  ow:=fun j d h=>by
   rcases QK h with⟨rfl,h2,l⟩ | ⟨hne,h2⟩
   ·cases h2
    exact⟨p,Qfa (by rw[S.len];exact l),hg,h0,⟨ws,QP,r⟩⟩
   ·rw[Qq hne]
    obtain⟨q,a,b,c,w⟩:=S.ow j d h2
    have qp:q≠p:=by
     rintro rfl
     exact S.inj i j _ _ q hne hi h2 hp a
    exact⟨q,a,b,c,w.mono (Same.refl G) fun o z=>by rw[Qn qp];exact z⟩
  ln:=fun j d h=>by
   rcases QK h with⟨rfl,h2,l⟩ | ⟨hne,h2⟩
   ·cases h2
   ·rw[Qq hne];exact S.ln j d h2
  inj:=fun j k d1 d2 q hjk h1 h2 h3=>by
   have get:∀(j:Nat) d,(ς.set i (some (.o,D.dic ys)))[j]?=some (some (.o,d))->∃ d',ς[j]?=some (some (.o,d')):=fun j d h=>by
    rcases QK h with⟨rfl,h2,l⟩ | ⟨hne,h2⟩
    ·exact⟨_,hi⟩
    ·exact⟨_,h2⟩
   obtain⟨d1',g1⟩:=get j d1 h1
   obtain⟨d2',g2⟩:=get k d2 h2
   rw[QfR hp]at h3 ⊢
   exact S.inj j k d1' d2' q hjk g1 g2 h3
  sf:=fun j d h=>by
   rcases QK h with⟨rfl,h2,l⟩ | ⟨hne,h2⟩
   ·cases h2
   ·rw[Qq hne]
    obtain⟨q,a,b,c,m,z,w⟩:=S.sf j d h2
    have qp:q≠p:=by
     rintro rfl
     exact c h0
    exact⟨q,a,b,c,m,z,w.mono (Same.refl G) fun o z=>by rw[Qn qp];exact z⟩
  su:=fun j k d1 d2 q hjk h1 h2 h3=>by
   rcases QK h1 with⟨rfl,q1,l⟩ | ⟨n1,q1⟩
   ·cases q1
   ·rcases QK h2 with⟨rfl,q2,l⟩ | ⟨n2,q2⟩
    ·cases q2
    ·rw[Qq n1]at h3
     rw[Qq n2];exact S.su j k d1 d2 q hjk q1 q2 h3 }
 rw[QfR hp]at S'
 exact S'
variable{e:Expr}{E:SD->Out D}{p1 p2:Pos}{x:Str}
theorem QEu(hu:C.X.A.units+64<cLine)(i:Nat)(hi:DB C a A)(he:DE C e E)(hN:C.X.N[i]?=some x:=by rfl)(hv:Vis C.X.env.scope x:=by first | exact Or.inl rfl | exact Or.inr (oi rfl) | exact Or.inr (Or.inr rfl))
 (hd:‹"d"›:=by decide) (hcd:‹"I"›:=by decide)
 (hs:swapsWith e (some (.Subscript (.Name x p1) a p2)) pos.line C.X.env=pure false:=by rfl):DS C (.Assign [.Subscript (.Name x p1) a p2] e pos) (sPutD i A E):=by
 obtain⟨t,p,q⟩:=he
 obtain⟨t2,p2',q2⟩:=hi
 refine⟨_,QNt (by omega) (Qex (i:=i) hN hv hd hcd) p2' p hs,fun G H σ ς W S k=>?_⟩
 unfold sPutD at k
 rw[Out.post_bind]at k
 refine q G H σ ς _ S (Out.post_mono k fun d k v H1 G1 S1 a1 b1 r1=>?_)
 split at k
 ·rename_i kds z
  obtain⟨pp,e1,hg,h0,ow⟩:=S1.ow i _ z
  rw[Out.post_bind]at k
  refine⟨_,e1,q2 G1 H1 σ ς _ S1 (Out.post_mono k fun y k2 w H2 G2 S2 a2 b2 r2=>?_)⟩
  cases ey:dkey y with
  | none=>rw[ey]at k2;exact k2.elim
  | some kk=>
   rw[ey]at k2
   obtain⟨pp',e1',hg',h0',kvs,hv1,hv2⟩:=S2.ow i _ z
   rw[e1]at e1';cases e1'
   rcases QT k2 with⟨hc,k3⟩ | ⟨_,k3⟩
   ·refine⟨pp,_,rfl,.inl ⟨kvs,kk,hv1,Qnh ey r2,by rw[← hv2.len];exact of_decide_eq_true hc,rfl⟩,?_⟩
    exact k3 σ _ G2 (S2.writeD z e1 hv1 (RepK.put kk (Rep.mono b2 d v r1) hv2)) (b1.trans b2)
   ·exact k3.elim
 ·exact k.elim
end
end DL
namespace DL
open PySem PySem.Spec PyProof.Rows L2
def Qdp(xs:List Str):Nat:=(LS.met (fun i=>xs.getD i "") xs.length).length
def QMC(K:W.Frag)(te:TA):TE:=fun σ H Q=>te σ H fun vs H1=>∃ p xs,vs=[V.ref p]/\SqL K H1 p (xs.map V.str)/\xs.length<4000/\Q (.int (Qdp xs)) H1
section
variable{X:Cx}{e:Expr}{te:TA}{p1 p2 p3 pos:Pos}
theorem QzS:∀{xs:List Str}{us:List Value},Vals (xs.map V.str) us->∀(i:Nat) v,us[i]?=some v->∃ t,v=.str (xs.getD i "") t
 | [],_,h,i,v,hv=>by cases h;simp at hv
 | x::xs,_,h,i,v,hv=>by
  cases h with
  | cons hx hr=>
   cases i with
   | zero=>
    obtain⟨t,ht⟩:=hx
    refine⟨t,?_⟩
    simp at hv
    rw[← hv,ht];rfl
   | succ i=>
    have:=QzS hr i v (by simpa using hv)
    simpa using this
theorem QJ6(hh:X.A.handled=none)(gl:Gl X "len")(ml:X.mg "len"=none)(gs:Gl X "set")(ms:X.mg "set"=none)(he:PA X [e] te)
 (h1:starEach [e] X.env=(false,eval e X.env)::starEach [] X.env:=by rfl)
 (h2:starEach [.Call (.Name "set" p2) [e] [] p3] X.env=(false,eval (.Call (.Name "set" p2) [e] [] p3) X.env)::starEach [] X.env:=by rfl)
 (h3:backTo pos (starEach [.Call (.Name "set" p2) [e] [] p3] X.env)=[(false,eval (.Call (.Name "set" p2) [e] [] p3) X.env)]:=by rfl):
 PE X (.Call (.Name "len" p1) [.Call (.Name "set" p2) [e] [] p3] [] pos) (QMC X.K te):=by
 intro pins s σ H Q I h
 have inner:wpAny ‹"i"› X.A (eval (.Call (.Name "set" p2) [e] [] p3) X.env) (fun u s'=>∃ D H1 xs,u=.ref D/\Inv X pins σ H1 s'/\s'.heap.SetOf (strKind X.prog X.w) D (LS.isIn (fun i=>xs.getD i "") xs.length) (Qdp xs)/\Qdp xs<4000/\Q (.int (Qdp xs)) H1) X.xe s:=by
  refine wpAny_Call_Name_kw (Qgg I gs ms PyProof.Rows.Boot.«set» ?_ (by decide) (by decide))
  refine PyProof.Rows.callWith_type1 (thn (he p3 pins s σ H _ I h) fun us s1 ⟨vs,H1,I1,r1,p,xs,ev,sq,few,q⟩=>?_) h1 rfl
  ·subst ev
   obtain⟨u,rfl,rx⟩:=vals1 r1
   cases rx
   obtain⟨its,rv,pl,hz⟩:=I1.list sq
   have hl:=rv.length
   rw[List.length_map]at hl
   have le:=LS.met_le (fun i=>xs.getD i "") xs.length
   refine LS.of_list hh pl.isList (f:=fun i=>xs.getD i "") (fun i v hv=>QzS rv i v (by simpa using hv)) (by rw[List.size_toArray, ← hl];unfold scanBound;omega) fun hp tk hs kp=>?_
   have sz:its.toArray.size=xs.length:=by rw[List.size_toArray];omega
   rw[sz]at hs
   exact⟨_,H1,xs,rfl,I1.kept fun b o eb=>kp b o (Heap.lt_size eb) eb,hs,by unfold Qdp;omega,q⟩
 refine wpAny_Call_Name_kw (Qgg I gl ml PySem.boot_len ?_ (by decide) (by decide))
 refine PyProof.Rows.callWith_builtin1 ?_ h2 rfl
 rw[h3]
 refine Calls.spliced_cons (thn inner fun u s1 ⟨D,H1,xs,eu,I1,hs,few,q⟩=>Calls.spliced_nil ?_)
 subst eu
 obtain⟨o,es,ep,t,ho,hex,hd,hel,hmem,hb,hf,hn⟩:=hs
 refine call_len_set ho hex hd hf (by rw[hn];omega) ?_
 rw[hn]
 exact⟨.int (Qdp xs),H1,(I1.tok _).tok _,⟨_,rfl⟩,q⟩
end
def strsD:List D->Option (List Str)
 | []=>some []
 | .str x::ds=>(strsD ds).map (x :: ·)
 | _::_=>none
theorem QxN{K:W.Frag}{CT:CTab}{H:Hp}:∀{ds:List D}{vs:List V}{xs:List Str},strsD ds=some xs->RepL K CT H ds vs->vs=xs.map V.str
 | [],_,_,h,r=>by cases h;cases r;rfl
 | d::ds,_,xs,h,⟨v,r,h1,h2,h3⟩=>by
  cases d with
  | str x=>
   obtain⟨ys,hy,rfl⟩:=Option.map_eq_some_iff.mp (show(strsD ds).map (x :: ·)=some xs from h)
   rw[h1,QxN hy h3,show v=V.str x from h2];rfl
  | _=>cases h
def Qss:D->Out D
 | .lst ds=>match strsD ds with
  | some xs=>if decide (xs.length<4000)=true then .ok (.int (Qdp xs)) else .stuck
  | none=>.stuck
 | _=>.stuck
section
variable{C:Dc}{a:Expr}{A:SD->Out D}{p1 p2 p3 pos:Pos}
theorem QIA(hh:C.X.A.handled=none)(gl:Gl C.X "len")(ml:C.X.mg "len"=none)(gs:Gl C.X "set")(ms:C.X.mg "set"=none)(ha:DB C a A)
 (h1:starEach [a] C.X.env=(false,eval a C.X.env)::starEach [] C.X.env:=by rfl)
 (h2:starEach [.Call (.Name "set" p2) [a] [] p3] C.X.env=(false,eval (.Call (.Name "set" p2) [a] [] p3) C.X.env)::starEach [] C.X.env:=by rfl)
 (h3:backTo pos (starEach [.Call (.Name "set" p2) [a] [] p3] C.X.env)=[(false,eval (.Call (.Name "set" p2) [a] [] p3) C.X.env)]:=by rfl):
 DE C (.Call (.Name "len" p1) [.Call (.Name "set" p2) [a] [] p3] [] pos) (e1 Qss A):=by
 obtain⟨ta,q1,q2⟩:=ha
 refine⟨_,QJ6 hh gl ml gs ms (Qbc q1 Qdo h1) h1 h2 h3,fun G H σ ς Q S q=>?_⟩
 unfold e1 at q
 rw[Out.post_bind]at q
 refine q2 G H σ ς _ S (Out.post_mono q fun x k v1 H1 G1 S1 a1 b1 r1=>?_)
 cases x with
 | lst ds=>
  obtain⟨p,vs,rfl,sq,r⟩:=r1
  have k:(match strsD ds with | some xs=>if decide (xs.length<4000)=true then Out.ok (D.int (Qdp xs)) else .stuck | none=>.stuck).post (KD C G H σ ς Q) C.XD:=k
  cases es:strsD ds with
  | none=>rw[es]at k;exact k.elim
  | some xs=>
   rw[es]at k
   have ev:=QxN es r
   subst ev
   rcases QT k with⟨hc,kd⟩ | ⟨_,kd⟩
   ·exact⟨p,xs,rfl,sq,of_decide_eq_true hc,KD.now (KD.later (show KD C G H σ ς Q (.int (Qdp xs)) from kd) a1 b1) S1 rfl⟩
   ·exact kd.elim
 | _=>exact k.elim
end
end DL
namespace DL
open PySem PySem.Spec PyProof.Rows L2
def tVs(vs:List V):TA:=fun _ H Q=>Q vs H
def anyT:List (List (Str×Bool))->Str->Option Bool
 | [],_=>some false
 | t::ts,c=>match t.lookup c with
  | some true=>some true
  | some false=>anyT ts c
  | none=>none
def KitsT(K:W.Frag)(CT:CTab):List Value->List (List (Str×Bool))->Prop
 | [],[]=>True
 | u::us,t::ts=>KitI K CT u t/\KitsT K CT us ts
 | _,_=>False
theorem Qzs{K:W.Frag}{CT:CTab}{c:Str}{A:Addr}(hA:CT c=some A):∀{us:List Value}{ts:List (List (Str×Bool))}{b:Bool},KitsT K CT us ts->anyT ts c=some b->W.kitAny K (.ref A) us=some b
 | [],[],b,_,h=>h
 | u::us,t::ts,b,⟨h1,h2⟩,h=>by
  unfold anyT at h
  unfold W.kitAny
  cases e:t.lookup c with
  | none=>rw[e]at h;cases h
  | some z=>
   rw[(h1 c z e A hA).2]
   rw[e]at h
   cases z with
   | true=>exact h
   | false=>exact Qzs hA h2 h
theorem QKx{K:W.Frag}{CT:CTab}{c:Str}{A:Addr}(hA:CT c=some A){u:Value}{us:List Value}{t:List (Str×Bool)}{ts:List (List (Str×Bool))}{b:Bool}(h:KitsT K CT (u::us) (t::ts))(e:anyT (t::ts) c=some b):ClsD K A:=by
 unfold anyT at e
 cases q:t.lookup c with
 | none=>rw[q]at e;cases e
 | some z=>exact(h.1 c z q A hA).1
def isaTs(ts:List (List (Str×Bool))):D->Out Bool
 | .ins c _=>match anyT ts c with | some b=>.ok b | none=>.stuck
 | _=>.stuck
section
variable{C:Dc}{e:Expr}{E:SD->Out D}{p pos tp1:Pos}{cs:List Expr}
theorem QMO{X:Cx}:PA X [] (tVs []):=Qdo
theorem QjX{X:Cx}{e:Expr}{es:List Expr}{v:V}{vs:List V}(h:PE X e (tC v))(r:PA X es (tVs vs))(he:‹"n"›:=by rfl):PA X (e::es) (tVs (v::vs)):=Qbc h r he
theorem Qwi:∀{as:List Addr}{us:List Value},Vals (as.map V.ref) us->us=as.map Value.ref
 | [],_,h=>by cases h;rfl
 | a::as,_,h=>by
  cases h with
  | cons h1 h2=>rw[Qwi h2,show _=Value.ref a from h1];rfl
theorem QNb{x1}{a:Addr}{as:List Addr}{t:List (Str×Bool)}{ts:List (List (Str×Bool))}(hc:PA C.X cs (tVs ((a::as).map V.ref)))(hk:KitsT C.X.K C.CT ((a::as).map Value.ref) (t::ts))(hz:(a::as).length<=20)(hg:Gl C.X "isinstance")(hm:C.X.mg "isinstance"=none)(h:DB C e E)
 (he:starEach (e::[.Tuple cs x1 tp1]) C.X.env=(false,eval e C.X.env)::starEach [.Tuple cs x1 tp1] C.X.env:=by rfl) (he2:starEach (.Tuple cs x1 tp1::[]) C.X.env=(false,eval (.Tuple cs x1 tp1) C.X.env)::starEach [] C.X.env:=by rfl)
 (hpl:(backTo pos (starEach [.Tuple cs x1 tp1] C.X.env)).any (·.1)=false:=by rfl):DE C (.Call (.Name "isinstance" p) [e,.Tuple cs x1 tp1] [] pos) (eIsa (isaTs (t::ts)) E):=by
 obtain⟨te,p1,q1⟩:=h
 have hR:CallR C.X (.builtin "isinstance") (fun xs H Q=>∃ c fs x tp b,xs=[x,V.ref tp]/\Rep C.X.K C.CT H (.ins c fs) x/\H tp=some (.tup ((a::as).map V.ref))/\anyT (t::ts) c=some b/\Q (.bl b) H):=by
  intro pins s σ H xs us Q I r hq
  obtain⟨c,fs,x,tp,b,rfl,h1,h2,h3,q⟩:=hq
  obtain⟨u,w,rfl,r1,r2⟩:=vals2 r
  obtain rfl:w=Value.ref tp:=r2
  obtain⟨p',A',dx,fs',rfl,g1,g2,_⟩:=h1
  obtain rfl:u=Value.ref p':=r1
  have cd:=QKx g1 hk h3
  obtain⟨mA,O,_⟩:=QiY I.hok g2
  obtain⟨od,J,_⟩:=O.look
  obtain⟨_,its,rv,pt⟩:=(show ObjOk C.X.prog C.X.w H s.heap tp (.tup ((a::as).map V.ref)) from I.hok tp _ h2)
  obtain⟨⟨oc,odd,odt,osl⟩,ho,hcl,nn,hd⟩:=pt
  obtain rfl:oc=.type "tuple":=hcl
  obtain rfl:odt=.seq its.toArray nn:=hd
  obtain rfl:=Qwi rv
  exact W.kia_tup (W.kitx_own (cd.cl.get _) cd.cl.hd cd.ha cd.hn cd.htk cd.hm) I.kIn J ho (Qzs g1 hk h3) (fun z=>nomatch z) fun tk=>⟨.bl b,H,I.tok _,rfl,q⟩
 refine⟨_,Qnk hR hg hm PyProof.Rows.Boot.«isinstance» (Qbc p1 (Qbc (QJh hc) Qdo he2) he) (by decide) (by decide) he hpl,fun G H σ ς Q S q=>?_⟩
 unfold eIsa at q
 rw[Out.post_bind]at q
 refine q1 G H σ ς _ S (Out.post_mono q fun d k v1 H1 G1 S1 a1 b1 r1=>?_)
 rw[Out.post_bind]at k
 cases d with
 | ins c fs=>
  cases ea:anyT (t::ts) c with
  | none=>
   have hs:isaTs (t::ts) (D.ins c fs)=.stuck:=by show(match anyT (t::ts) c with | some b=>Out.ok b | none=>Out.stuck)=_;rw[ea]
   rw[hs]at k;exact k.elim
  | some b=>
   have hs:isaTs (t::ts) (D.ins c fs)=.ok b:=by show(match anyT (t::ts) c with | some b=>Out.ok b | none=>Out.stuck)=_;rw[ea]
   rw[hs]at k
   refine⟨by rw[List.length_map];exact Nat.le_trans hz (by decide),fun tp htp=>?_⟩
   have S2:=S1.allocO (o:=.tup ((a::as).map V.ref)) htp
   exact⟨c,fs,v1,tp,b,rfl,Rep.mono (QF htp) _ v1 r1,QP,ea,KD.now (KD.later (show KD C G H σ ς Q (.bl b) from k) (a1.trans (QF htp)) b1) S2 rfl⟩
 | _=>exact k.elim
end
end DL
namespace DL
open PySem PySem.Spec PyProof.Rows L2
theorem Qxj{K:W.Frag}{CT:CTab}{H:Hp}{d:D}{v:V}(h:d.scal=true)(r:Rep K CT H d v):v=toV d:=by
 cases d with
 | non=>exact r
 | bl b=>exact r
 | int i=>exact r
 | str x=>exact r
 | _=>cases h
theorem Qs5{K:W.Frag}{CT:CTab}{H:Hp}:∀{ds:List D}{vs:List V},ds.all D.scal=true->RepL K CT H ds vs->vs=ds.map toV
 | [],_,_,r=>by cases r;rfl
 | d::ds,_,h,⟨v,r,h1,h2,h3⟩=>by
  rw[List.all_cons,Bool.and_eq_true]at h
  rw[h1,Qxj h.1 h2,Qs5 h.2 h3];rfl
theorem Qtj{d:D}(h:d.scal=true):flatV (toV d)=true:=by
 cases d with
 | non=>rfl
 | bl b=>rfl
 | int i=>rfl
 | str x=>rfl
 | _=>cases h
theorem QoQ:∀{ds:List D},ds.all D.scal=true->(ds.map toV).all flatV=true
 | [],_=>rfl
 | d::ds,h=>by
  rw[List.all_cons,Bool.and_eq_true]at h
  rw[List.map_cons,List.all_cons,Qtj h.1,QoQ h.2];rfl
def dInL:D->D->Out D
 | x,.lst ds=>if (x.scal&&ds.all D.scal)=true then .ok (.bl (inV (toV x) (ds.map toV))) else .stuck
 | _,_=>.stuck
section
variable{C:Dc}{a b:Expr}{A B:SD->Out D}{pos:Pos}
theorem QMq:DRS C (rIn C.X.K false) dInL:=by
 intro G H σ ς Q x y vx vy S hx hy q
 cases y with
 | lst ds=>
  have q:(if (x.scal&&ds.all D.scal)=true then Out.ok (D.bl (inV (toV x) (ds.map toV))) else .stuck).post _ _:=q
  rcases QT q with⟨hc,q⟩ | ⟨_,q⟩
  ·rw[Bool.and_eq_true]at hc
   obtain⟨p,vs,rfl,h2,h3⟩:=hy
   have e1:=Qxj hc.1 hx
   have e2:=Qs5 hc.2 h3
   subst e1;subst e2
   exact⟨p,_,rfl,.inl h2,Qtj hc.1,QoQ hc.2,q.2⟩
  ·exact q.elim
 | _=>exact q.elim
theorem QLs:scal2 dInL:=fun x y=>by
 cases y with
 | lst ds=>
  show match (if (x.scal&&ds.all D.scal)=true then Out.ok (D.bl (inV (toV x) (ds.map toV))) else .stuck) with | .ok d=>d.scal=true | .exc _=>False | .stuck=>True
  split<;>rename_i h<;>(split at h<;>cases h)<;>first | rfl | trivial
 | _=>exact True.intro
theorem QKu(ha:DB C a A)(hb:DB C b B)(hm:behindInMarks .In b=false:=by rfl):DE C (.Compare a [.In] [b] pos) (e2 dInL A B):=Qxf QJa QMq QLs ha hb hm
end
end DL
namespace DL
open PySem PySem.Spec PyProof.Rows L2
section
variable{C:Dc}{a b:Expr}{A B:SD->Out D}{pos:Pos}
end
end DL
namespace DL
open PySem PySem.Spec PyProof.Rows L2
section
variable{C:Dc}{e:Expr}{E:SD->Out D}{pos p1 p2 p3:Pos}{x:Str}
end
end DL
namespace DL
open PySem PySem.Spec PyProof.Rows L2
section
variable{K:W.Frag}{CT:CTab}{G H:Hp}
end
section
variable{C:Dc}{a b:Expr}{A B:SD->Out D}{pos:Pos}
end
end DL
namespace DL
open PySem PySem.Spec PyProof.Rows L2
def frzs:List Nat->SD->SD
 | [],ς=>ς
 | i::is,ς=>frzs is (frz i ς)
theorem QEy{C:Dc}{st:Stmt}:∀(is:List Nat){T:SD->Out Fl},DS C st T->DS C st (fun ς=>T (frzs is ς))
 | [],_,h=>h
 | i::is,_,h=>QlN i (QEy is h)
section
variable{X:Cx}{e:Expr}{te:TA}{p1 p2 p3 pos:Pos}
end
section
variable{C:Dc}{e:Expr}{A:SD->Out (List D)}{p1 p2 p3 pos:Pos}
end
end DL
namespace DL
open PySem PySem.Spec PyProof.Rows L2
section
variable{C:Dc}{e:Expr}{E:SD->Out D}{pos:Pos}
end
end DL
namespace DL
open PySem PySem.Spec PyProof.Rows L2
section
variable{C:Dc}{o e:Expr}{es:List Expr}{O:SD->Out D}{A:SD->Out (List D)}{apos cpos:Pos}{m:Str}{id:String}{r:V->List V->Hp->VK->Prop}{f:D->List D->Out D}
end
end DL
namespace L2
open PySem PySem.Spec PyProof.Rows
section
variable{X:Cx}
end
end L2
namespace DL
open PySem PySem.Spec PyProof.Rows L2
section
variable{C:Dc}{a:Expr}{A:SD->Out D}
end
end DL
namespace DL
open PySem PySem.Spec PyProof.Rows L2
section
variable{C:Dc}{G G' H H':Hp}{σ:St}{ς ς':SD}
theorem StR.swap(S:StR C G H σ ς)(P:Addr->Prop)(hl:ς'.length=ς.length)(g1:Same G G')(h1:∀ b o,H b=some o->¬ P b->H' b=some o)(s1:Same G' H')(n1:∀ b,G b=none->G' b≠none->H b=none)
 (hP:∀ b,P b->H' b≠none/\((C.X.H₀ b=none)∨(C.M b/\C.B b=none)))
 (hs:∀(i:Nat) m d',ς'[i]?=some (some (m,d'))->(ς[i]?=some (some (m,d'))/\∀ b,(m=.o∨m=.s)->σ[i]?=some (some (.ref b))->¬ P b)∨
  ((m=.o∨m=.s)/\∃ d b,ς[i]?=some (some (m,d))/\σ[i]?=some (some (.ref b))/\Own C.X.K C.CT G' H' b d')):StR C G' H' σ ς':=by
 have gn:∀ b,G b=none->(∃ o,H b=some o)->G' b=none:=fun b hb ⟨o,ho⟩=>by
  cases q:G' b with
  | none=>rfl
  | some u=>have:=n1 b hb (by rw[q];simp);rw[ho]at this;cases this
 have back:∀(i:Nat) m d',(m=.o∨m=.s)->ς'[i]?=some (some (m,d'))->∃ d,ς[i]?=some (some (m,d)):=fun i m d' hm h=>by
  rcases hs i m d' h with⟨e,_⟩ | ⟨_,d,b,e,_⟩
  ·exact⟨_,e⟩
  ·exact⟨_,e⟩
 exact {
  sub:=s1
  g0:=S.g0.trans g1
  new:=fun b h0 hn=>by
   cases q:G b with
   | none=>exact S.h0none (n1 b q hn)
   | some o=>exact S.new b h0 (by rw[q];simp)
  fr:=fun b o e m=>h1 b o (S.fr b o e m) fun p=>by
   rcases(hP b p).2 with z | z
   ·rw[z]at e;cases e
   ·exact m z.1
  dom:=fun b e=>by
   cases q:H b with
   | none=>exact S.dom b q
   | some o=>
    by_cases p:P b
    ·exact absurd e (hP b p).1
    ·rw[h1 b o q p]at e;cases e
  bs:=fun b o e=>h1 b o (S.bs b o e) fun p=>by
   rcases(hP b p).2 with z | z
   ·rw[S.bh b z]at e;cases e
   ·rw[z.2]at e;cases e
  bh:=S.bh
  len:=by rw[hl];exact S.len
  fz:=fun i d h=>by
   rcases hs i _ d h with⟨e,_⟩ | ⟨z | z,_⟩
   ·obtain⟨v,a,b⟩:=S.fz i d e
    exact⟨v,a,Rep.mono g1 d v b⟩
   ·cases z
   ·cases z
  ow:=fun i d h=>by
   rcases hs i _ d h with⟨e,np⟩ | ⟨_,d0,b,e,eb,w⟩
   ·obtain⟨p,a,hg,h0,w⟩:=S.ow i d e
    exact⟨p,a,gn p hg w.there,h0,w.mono g1 fun o z=>h1 p o z (np p (.inl rfl) a)⟩
   ·obtain⟨p,a,hg,h0,w0⟩:=S.ow i d0 e
    rw[eb]at a;cases a
    exact⟨b,eb,gn b hg w0.there,h0,w⟩
  ln:=fun i d h=>by
   rcases hs i _ d h with⟨e,_⟩ | ⟨z | z,_⟩
   ·exact S.ln i d e
   ·cases z
   ·cases z
  inj:=fun i j d e p n h1 h2=>by
   obtain⟨d1,q1⟩:=back i _ d (.inl rfl) h1
   obtain⟨d2,q2⟩:=back j _ e (.inl rfl) h2
   exact S.inj i j d1 d2 p n q1 q2
  sf:=fun i d h=>by
   rcases hs i _ d h with⟨e,np⟩ | ⟨_,d0,b,e,eb,w⟩
   ·obtain⟨p,a,hg,h0,m,z,w⟩:=S.sf i d e
    exact⟨p,a,gn p hg w.there,h0,m,z,w.mono g1 fun o z=>h1 p o z (np p (.inr rfl) a)⟩
   ·obtain⟨p,a,hg,h0,m,z,w0⟩:=S.sf i d0 e
    rw[eb]at a;cases a
    exact⟨b,eb,gn b hg w0.there,h0,m,z,w⟩
  su:=fun i j d e p n h1 h2=>by
   obtain⟨d1,q1⟩:=back i _ d (.inr rfl) h1
   obtain⟨d2,q2⟩:=back j _ e (.inr rfl) h2
   exact S.su i j d1 d2 p n q1 q2 }
theorem StR.wslot(S:StR C G H σ ς){i:Nat}{m:SM}{d:D}(hm:m=.o∨m=.s)(h:ς[i]?=some (some (m,d))):∃ p,σ[i]?=some (some (.ref p))/\G p=none/\(C.X.H₀ p=none∨(C.M p/\C.B p=none))/\Own C.X.K C.CT G H p d/\
 ∀(j:Nat) m' d',j≠i->(m'=.o∨m'=.s)->ς[j]?=some (some (m',d'))->σ[j]?≠some (some (.ref p)):=by
 rcases hm with rfl | rfl
 ·obtain⟨p,a,hg,h0,w⟩:=S.ow i d h
  refine⟨p,a,hg,.inl h0,w,fun j m' d' hj hm' h2 z=>?_⟩
  rcases hm' with rfl | rfl
  ·exact S.inj i j d d' p (Ne.symm hj) h h2 a z
  ·obtain⟨q,a2,_,hq,_⟩:=S.sf j d' h2
   rw[z]at a2;cases a2
   exact hq h0
 ·obtain⟨p,a,hg,h0,m,z,w⟩:=S.sf i d h
  refine⟨p,a,hg,.inr ⟨m.1,z⟩,w,fun j m' d' hj hm' h2 z=>?_⟩
  rcases hm' with rfl | rfl
  ·obtain⟨q,a2,_,hq,_⟩:=S.ow j d' h2
   rw[z]at a2;cases a2
   exact h0 hq
  ·exact S.su i j d d' p (Ne.symm hj) h h2 a z
theorem StR.writeW(S:StR C G H σ ς){i:Nat}{m:SM}{p:Addr}{xs ys:List D}{ws:List V}(hm:m=.o∨m=.s)(hi:ς[i]?=some (some (m,.lst xs)))(hp:σ[i]?=some (some (.ref p)))(r:RepL C.X.K C.CT G ys ws):
 StR C G (upd H p (.lst ws)) σ (ς.set i (some (m,.lst ys))):=by
 obtain⟨p',a,hg,h0,w,hne⟩:=S.wslot hm hi
 rw[hp]at a;cases a
 refine S.swap (fun b=>b=p) (List.length_set ..) (Same.refl G) (fun b o e n=>by rw[Qn n];exact e) (fun b o e=>by rw[Qn (by rintro rfl;rw[hg]at e;cases e)];exact S.sub b o e) (fun b e n=>absurd e n)
  (fun b e=>by subst e;exact⟨by rw[QP];simp,h0⟩) fun j m' d' h=>?_
 rcases QK h with⟨rfl,h2,l⟩ | ⟨ne,h2⟩
 ·cases h2
  exact .inr ⟨hm,_,p,hi,hp,ws,QP,r⟩
 ·exact .inl ⟨h2,fun b hm' e z=>by subst z;exact hne j m' d' (Ne.symm ne) hm' h2 e⟩
end
end DL
namespace DL
open PySem PySem.Spec PyProof.Rows L2
def wr:SM->Bool
 | .o=>true
 | .s=>true
 | _=>false
theorem wr_of{m:SM}(h:wr m=true):m=.o∨m=.s:=by cases m<;>first | exact .inl rfl | exact .inr rfl | cases h
def sPutW(i:Nat)(A E:SD->Out D):SD->Out Fl:=fun ς=>E ς>>=fun d=>match (ς[i]?:Option (Option (SM×D))) with
 | some (some (m,.lst xs))=>if wr m=true then A ς>>=fun y=>match y with
  | .int j=>optO (ixN xs.length j)>>=fun j=>.ok (.nx (ς.set i (some (m,.lst (xs.set j d)))))
  | _=>.stuck else .stuck
 | _=>.stuck
section
variable{C:Dc}{a e:Expr}{A E:SD->Out D}{pos p1 p2:Pos}{x:Str}
theorem Qmc(i:Nat)(hi:DB C a A)(he:DE C e E)(hN:C.X.N[i]?=some x:=by rfl)(hv:Vis C.X.env.scope x:=by first | exact Or.inl rfl | exact Or.inr (oi rfl) | exact Or.inr (Or.inr rfl))
 (hd:‹"d"›:=by decide) (hcd:‹"I"›:=by decide)
 (hst:∀ v,assign (.Subscript (.Name x p1) a p2) C.X.env v=(do
  let ov ← holding [v] (eval (.Name x p1) C.X.env)
  let iv ← holding [v,ov] (eval a C.X.env)
  standAt p2
  holding [v,ov,iv] (setItem ov iv v)
  release [v,ov,iv] []):=by intro _;rfl)
 (hs:swapsWithSole [.Subscript (.Name x p1) a p2] e pos.line C.X.env=pure false:=by rfl) (hw:swappedStores [.Subscript (.Name x p1) a p2] e C.X.env=pure none:=by rfl)
 (h1:(assignEach [.Subscript (.Name x p1) a p2] C.X.env).map (·.2)=[assign (.Subscript (.Name x p1) a p2) C.X.env]:=by rfl):DS C (.Assign [.Subscript (.Name x p1) a p2] e pos) (sPutW i A E):=by
 obtain⟨t,p,q⟩:=he
 obtain⟨t2,p2,q2⟩:=hi
 refine⟨_,QJk p (QOG (Qex (i:=i) hN hv hd hcd) p2 QKH hst) hs hw h1,fun G H σ ς W S k=>?_⟩
 unfold sPutW at k
 rw[Out.post_bind]at k
 refine q G H σ ς _ S (Out.post_mono k fun d k v H1 G1 S1 a1 b1 r1=>?_)
 split at k
 ·rename_i m xs z
  rcases QT k with⟨hc,k⟩ | ⟨_,k⟩
  ·obtain⟨pp,e1,hg,h0,ow,_⟩:=S1.wslot (wr_of hc) z
   obtain⟨vs,hv1,hv2⟩:=ow
   rw[Out.post_bind]at k
   refine⟨_,e1,q2 G1 H1 σ ς _ S1 (Out.post_mono k fun y k2 w H2 G2 S2 a2 b2 r2=>?_)⟩
   cases y with
   | int j=>
    cases r2
    have k2':(optO (ixN xs.length j)>>=fun j=>Out.ok (Fl.nx (ς.set i (some (m,D.lst (xs.set j d)))))).post (FlK C G W) C.XD:=k2
    rw[Out.post_bind]at k2'
    obtain⟨jj,ej,k3⟩:=QcD k2'
    refine⟨pp,vs,j,jj,rfl,rfl,a2 _ _ hv1,by rw[← hv2.length];exact ej,?_⟩
    exact k3 σ _ G2 (S2.writeW (wr_of hc) z e1 ((RepL.mono b2 xs vs hv2).set (Rep.mono b2 d v r1) jj)) (b1.trans b2)
   | _=>exact k2.elim
  ·exact k.elim
 ·exact k.elim
end
def ArgW(K:W.Frag)(CT:CTab)(G H:Hp):List Bool->List D->List V->List Addr->Prop
 | [],[],[],ps=>ps=[]
 | true::bs,d::ds,v::vs,ps=>∃ p ps',v=.ref p/\ps=p::ps'/\p∉ps'/\G p=none/\Own K CT G H p d/\ArgW K CT G H bs ds vs ps'
 | false::bs,d::ds,v::vs,ps=>Rep K CT G d v/\ArgW K CT G H bs ds vs ps
 | _,_,_,_=>False
def OwnL(K:W.Frag)(CT:CTab)(G H:Hp):List D->List Addr->Prop
 | [],[]=>True
 | d::ds,p::ps=>Own K CT G H p d/\OwnL K CT G H ds ps
 | _,_=>False
section
variable{K:W.Frag}{CT:CTab}{G H:Hp}
theorem ArgW.len:∀{bs:List Bool}{ds:List D}{vs:List V}{ps:List Addr},ArgW K CT G H bs ds vs ps->bs.length=vs.length/\ds.length=vs.length
 | [],[],[],_,_=>⟨rfl,rfl⟩
 | true::bs,d::ds,v::vs,ps,⟨_,_,_,_,_,_,_,h⟩=>by have:=ArgW.len h;simp[this.1,this.2]
 | false::bs,d::ds,v::vs,ps,⟨_,h⟩=>by have:=ArgW.len h;simp[this.1,this.2]
theorem ArgW.mem:∀{bs:List Bool}{ds:List D}{vs:List V}{ps:List Addr}{i:Nat}{v:V},ArgW K CT G H bs ds vs ps->bs[i]?=some true->vs[i]?=some v->∃ p,v=.ref p/\p∈ps
 | true::bs,d::ds,v::vs,ps,0,w,⟨p,ps',e,e2,_,_,_,_⟩,_,h=>by
  cases h;exact⟨p,e,by rw[e2];exact List.mem_cons_self ..⟩
 | true::bs,d::ds,v::vs,ps,i+1,w,⟨p,ps',e,e2,_,_,_,hh⟩,h1,h2=>by
  obtain⟨q,a,b⟩:=ArgW.mem (i:=i) hh (by simpa using h1) (by simpa using h2)
  exact⟨q,a,by rw[e2];exact List.mem_cons_of_mem _ b⟩
 | false::bs,d::ds,v::vs,ps,0,w,_,h,_=>by cases h
 | false::bs,d::ds,v::vs,ps,i+1,w,⟨_,hh⟩,h1,h2=>ArgW.mem (i:=i) hh (by simpa using h1) (by simpa using h2)
theorem ArgW.get:∀{bs:List Bool}{ds:List D}{vs:List V}{ps:List Addr}{i:Nat}{b:Bool}{d:D},ArgW K CT G H bs ds vs ps->bs[i]?=some b->ds[i]?=some d->∃ v,vs[i]?=some v/\(b=false->Rep K CT G d v)/\(b=true->∃ p,v=.ref p/\p∈ps/\G p=none/\Own K CT G H p d)
 | true::bs,d::ds,v::vs,ps,0,b,d',⟨p,ps',e,e2,_,g,o,_⟩,h1,h2=>by
  cases h1;cases h2;exact⟨v,rfl,fun z=>(nomatch z),fun _=>⟨p,e,by rw[e2];exact List.mem_cons_self ..,g,o⟩⟩
 | true::bs,d::ds,v::vs,ps,i+1,b,d',⟨p,ps',e,e2,_,_,_,hh⟩,h1,h2=>by
  obtain⟨w,a,a1,a2⟩:=ArgW.get (i:=i) hh (by simpa using h1) (by simpa using h2)
  exact⟨w,by simpa using a,a1,fun z=>let ⟨q,c1,c2,c3⟩:=a2 z;⟨q,c1,by rw[e2];exact List.mem_cons_of_mem _ c2,c3⟩⟩
 | false::bs,d::ds,v::vs,ps,0,b,d',⟨r,_⟩,h1,h2=>by
  cases h1;cases h2;exact⟨v,rfl,fun _=>r,fun z=>by cases z⟩
 | false::bs,d::ds,v::vs,ps,i+1,b,d',⟨_,hh⟩,h1,h2=>by
  obtain⟨w,a,a1,a2⟩:=ArgW.get (i:=i) hh (by simpa using h1) (by simpa using h2)
  exact⟨w,by simpa using a,a1,a2⟩
theorem ArgW.ne:∀{bs:List Bool}{ds:List D}{vs:List V}{ps:List Addr}{i j:Nat}{p:Addr},ArgW K CT G H bs ds vs ps->i<j->bs[i]?=some true->bs[j]?=some true->vs[i]?=some (.ref p)->vs[j]?≠some (.ref p)
 | true::bs,d::ds,v::vs,ps,0,j+1,p,⟨q,ps',e,_,n,_,_,hh⟩,_,_,hb,h1,h2=>by
  cases h1;cases e
  obtain⟨q',a,b⟩:=ArgW.mem (i:=j) hh (by simpa using hb) (by simpa using h2)
  cases a;exact n b
 | true::bs,d::ds,v::vs,ps,i+1,j+1,p,⟨q,ps',_,_,_,_,_,hh⟩,hl,ha,hb,h1,h2=>ArgW.ne (i:=i) (j:=j) hh (by omega) (by simpa using ha) (by simpa using hb) (by simpa using h1) (by simpa using h2)
 | false::bs,d::ds,v::vs,ps,0,j,p,_,_,h,_,_,_=>by cases h
 | false::bs,d::ds,v::vs,ps,i+1,j+1,p,⟨_,hh⟩,hl,ha,hb,h1,h2=>ArgW.ne (i:=i) (j:=j) hh (by omega) (by simpa using ha) (by simpa using hb) (by simpa using h1) (by simpa using h2)
end
def finW:List Bool->SD->Out (List D)
 | [],_=>.ok []
 | true::bs,some (.s,d)::ς=>finW bs ς>>=fun ws=>.ok (d::ws)
 | false::bs,_::ς=>finW bs ς
 | _,_=>.stuck
theorem Qsf{K:W.Frag}{CT:CTab}{G H G' H':Hp}:∀{bs:List Bool}{ds:List D}{vs:List V}{ps:List Addr}{ς:SD}{k:List D->Prop}{X:D->Prop},ArgW K CT G H bs ds vs ps->
 (∀(i:Nat) d v,bs[i]?=some true->ς[i]?=some (some (.s,d))->vs[i]?=some v->∃ p,v=.ref p/\Own K CT G' H' p d)->(finW bs ς).post k X->∃ ws,k ws/\OwnL K CT G' H' ws ps
 | [],[],[],ps,ς,k,X,h,_,q=>⟨[],q,by have h:ps=[]:=h;rw[h];trivial⟩
 | true::bs,d::ds,v::vs,ps,some (.s,d')::ς,k,X,⟨p,ps',e,e2,_,_,_,hh⟩,f,q=>by
  have q:(finW bs ς>>=fun ws=>.ok (d'::ws)).post k X:=q
  rw[Out.post_bind]at q
  obtain⟨ws,kw,ow⟩:=Qsf hh (fun i d v a b c=>f (i+1) d v (by simpa using a) (by simpa using b) (by simpa using c)) q
  obtain⟨p',e3,o⟩:=f 0 d' v rfl rfl rfl
  rw[e]at e3;cases e3
  exact⟨d'::ws,kw,by rw[e2];exact⟨o,ow⟩⟩
 | false::bs,d::ds,v::vs,ps,x::ς,k,X,⟨_,hh⟩,f,q=>Qsf (ς:=ς) hh (fun i d v a b c=>f (i+1) d v (by simpa using a) (by simpa using b) (by simpa using c)) q
 | true::bs,d::ds,v::vs,ps,[],k,X,_,_,q=>q.elim
 | true::bs,d::ds,v::vs,ps,none::ς,k,X,_,_,q=>q.elim
 | true::bs,d::ds,v::vs,ps,some (.k,_)::ς,k,X,_,_,q=>q.elim
 | true::bs,d::ds,v::vs,ps,some (.o,_)::ς,k,X,_,_,q=>q.elim
 | true::bs,d::ds,v::vs,ps,some (.l,_)::ς,k,X,_,_,q=>q.elim
 | false::bs,d::ds,v::vs,ps,[],k,X,_,_,q=>q.elim
end DL
namespace DL
open PySem PySem.Spec PyProof.Rows L2
def Qhk:List Bool->List D->SD
 | b::bs,d::ds=>some (if b=true then SM.s else SM.k,d)::Qhk bs ds
 | _,_=>[]
theorem QoD:∀{bs:List Bool}{ds:List D},bs.length=ds.length->(Qhk bs ds).length=bs.length
 | [],[],_=>rfl
 | _::bs,_::ds,h=>by
  show(Qhk bs ds).length+1=_
  rw[QoD (by simpa using h)];rfl
theorem Qc6:∀{bs:List Bool}{ds:List D}{i:Nat}{x:SM×D}{n:Nat},(Qhk bs ds++List.replicate n none)[i]?=some (some x)->∃ b d,bs[i]?=some b/\ds[i]?=some d/\x=(if b=true then SM.s else SM.k,d)
 | b::bs,d::ds,0,x,n,h=>by
  have h:some (some (if b=true then SM.s else SM.k,d))=some (some x):=h
  cases h;exact⟨b,d,rfl,rfl,rfl⟩
 | b::bs,d::ds,i+1,x,n,h=>by
  have h:(Qhk bs ds++List.replicate n none)[i]?=some (some x):=h
  obtain⟨b',d',h1,h2,h3⟩:=Qc6 h
  exact⟨b',d',by simpa using h1,by simpa using h2,h3⟩
 | [],_,i,x,n,h=>by
  have h:([]++List.replicate n (none:Option (SM×D)))[i]?=some (some x):=h
  rw[List.nil_append,List.getElem?_replicate]at h
  split at h<;>cases h
 | b::bs,[],i,x,n,h=>by
  have h:([]++List.replicate n (none:Option (SM×D)))[i]?=some (some x):=h
  rw[List.nil_append,List.getElem?_replicate]at h
  split at h<;>cases h
def retW(fr:Bool)(bs:List Bool):Fl->Out (D×Option (List D))
 | .nx ς=>finW bs ς>>=fun ws=>.ok (.non,some ws)
 | .rt b d=>if (!fr||b||d.scal)=true then .ok (d,none) else .stuck
 | _=>.stuck
def bodyW(fr:Bool)(bs:List Bool)(len:Nat)(T:SD->Out Fl):List D->Out (D×Option (List D)):=fun ds=>
 if ds.length=bs.length then T (Qhk bs ds++List.replicate (len - bs.length) none)>>=retW fr bs else .stuck
def SpW(K:W.Frag)(CT:CTab)(fr:Bool)(bs:List Bool)(m:List D->Out (D×Option (List D))):Sp:=fun vs H Q _=>∃ ds ps G0,Same G0 H/\ArgW K CT G0 H bs ds vs ps/\
 (m ds).post (fun r=>∀ v H' G',Same G0 G'->(∀ b o,H b=some o->b∉ps->H' b=some o)->Same G' H'->(∀ b,G0 b=none->G' b≠none->H b=none)->(∀ b,H' b=none->H b=none)->(∀ ws,r.2=some ws->OwnL K CT G' H' ws ps)->RetG K CT fr H G' H' r.1 v->Q v H') (fun _=>False)
abbrev dcW(P:Program)(w:World)(K:W.Frag)(mg:Str->Option Value)(base:Heap)(CT:CTab)(N:List Str)(qual:Str)(sc:Scope)(f:Addr)(cdv:Value)(A:Around)(outer:List Env)(s:Shared)(H:Hp)(E:XK)(G:Hp)(ps:List Addr)(vs:List V):Dc:=
 { X:=(cxOf CX0 P w K mg base N qual sc f cdv A outer s H E).nox,CT:=CT,G0:=G,XD:=fun _=>False,B:=fun b=>if b∈ps then none else H b,M:=fun b=>b∈ps,W:=fun i=>match vs[i]? with | some (.ref p)=>some p | _=>none }
theorem fnW{P:Program}{w:World}{K:W.Frag}{mg:Str->Option Value}{base:Heap}{CT:CTab}{fr:Bool}{x qual:Str}{st:Stmt}{f:Addr}{fd:FuncData}{dV:Value}{N pn:List Str}{k:Nat}{T:SD->Out Fl}{bs:List Bool}(hbs:bs.length=pn.length)
 (F:FunV K x qual st f fd dV) (S:Qm N pn (Qd st))
 (hb:∀(cdv:Value)(A:Around)(outer:List Env)(s:Shared)(H:Hp)(E:XK)(G:Hp)(ps:List Addr)(vs:List V),Room k (A.deeper (envOfC qual (Qd st) s.heap.objs.size f cdv))->DSs (dcW P w K mg base CT N qual (Qd st) f cdv A outer s H E G ps vs) (Qk st) T):
 FnOk P w K mg base CX0 (k+1) f fd pn (SpW K CT fr bs (bodyW fr bs N.length T)):=by
 obtain⟨oc,od,kV,doc,pm,an,cdv,ct,osl,rfl,lk,hcd⟩:=F.ex
 have hpl:pn.length<=N.length:=by have:=congrArg List.length S.pre;rw[List.length_take]at this;omega
 have len:∀ vs H Q E,SpW K CT fr bs (bodyW fr bs N.length T) vs H Q E->vs.length=pn.length:=by
  intro vs H Q E ⟨ds,ps,G0,sub,r,q⟩
  rw[← hbs,r.len.1]
 refine fn_of lk hcd S len fun A outer s H vs Q E hr hsp=>?_
 obtain⟨ds,ps,G0,sub,r,q⟩:=hsp
 obtain⟨t,p1,q1⟩:=hb cdv A outer s H E G0 ps vs hr
 have hl:=r.len
 refine⟨t,p1.nox,?_⟩
 unfold bodyW at q
 rw[if_pos (by rw[hl.1,hl.2]),Out.post_bind]at q
 have S0:StR (dcW P w K mg base CT N qual (Qd st) f cdv A outer s H E G0 ps vs) G0 H (L2.start N vs) (Qhk bs ds++List.replicate (N.length - bs.length) none):={
  sub:=sub
  g0:=Same.refl _
  new:=fun b h1 h2=>absurd h1 h2
  fr:=fun b o e _=>e
  dom:=fun b e=>e
  bs:=fun b o e=>by
   have e':(if b∈ps then none else H b)=some o:=e
   by_cases hb:b∈ps
   ·rw[if_pos hb]at e';cases e'
   ·rw[if_neg hb]at e';exact e'
  bh:=fun b e=>by
   show(if b∈ps then none else H b)=none
   by_cases hb:b∈ps
   ·rw[if_pos hb]
   ·rw[if_neg hb];exact e
  len:=by unfold L2.start;rw[List.length_append,List.length_append,QoD (by rw[hl.1,hl.2]),List.length_map,List.length_replicate,List.length_replicate];omega
  fz:=fun i d e=>by
   obtain⟨b,d',h1,h2,h3⟩:=Qc6 e
   cases b with
   | true=>cases h3
   | false=>
    cases h3
    obtain⟨v,a,a1,_⟩:=r.get h1 h2
    exact⟨v,QdQ a,a1 rfl⟩
  ow:=fun i d e=>by
   obtain⟨b,d',h1,h2,h3⟩:=Qc6 e
   cases b<;>cases h3
  ln:=fun i d e=>by
   obtain⟨b,d',h1,h2,h3⟩:=Qc6 e
   cases b<;>cases h3
  inj:=fun i j d e p _ h=>by
   obtain⟨b,d',h1,h2,h3⟩:=Qc6 h
   cases b<;>cases h3
  sf:=fun i d e=>by
   obtain⟨b,d',h1,h2,h3⟩:=Qc6 e
   cases b with
   | false=>cases h3
   | true=>
    cases h3
    obtain⟨v,a,_,a2⟩:=r.get h1 h2
    obtain⟨p,rfl,hm,hg,o⟩:=a2 rfl
    obtain⟨u,hu⟩:=o.there
    refine⟨p,QdQ a,hg,(by show H p≠none;rw[hu];simp),⟨hm,?_⟩,if_pos hm,o⟩
    show(match vs[i]? with | some (.ref p)=>some p | _=>none)=some p
    rw[a]
  su:=fun i j d e p hij h1 h2 g1 g2=>by
   obtain⟨b,d1,c1,c2,c3⟩:=Qc6 h1
   obtain⟨b',d2,c4,c5,c6⟩:=Qc6 h2
   cases b with
   | false=>cases c3
   | true=>
    cases b' with
    | false=>cases c6
    | true=>
     obtain⟨v1,a1,_⟩:=r.get c1 c2
     obtain⟨v2,a2,_⟩:=r.get c4 c5
     rw[QdQ a1]at g1;cases g1
     rw[QdQ a2]at g2;cases g2
     rcases Nat.lt_or_gt_of_ne hij with l | l
     ·exact r.ne l c1 c4 a1 a2
     ·exact r.ne l c4 c1 a2 a1 }
 refine q1 G0 H (L2.start N vs) _ _ S0 (Out.post_mono q fun fl kk=>?_)
 cases fl with
 | nx ς'=>
  intro σ' H' G' S' s'
  have kk:(finW bs ς'>>=fun ws=>Out.ok (D.non,some ws)).post _ _:=kk
  rw[Out.post_bind]at kk
  obtain⟨ws,kw,ow⟩:=Qsf (G':=G') (H':=H') r (fun i d v b1 b2 b3=>by
   obtain⟨p,a,_,_,⟨_,hW⟩,_,o⟩:=S'.sf i d b2
   have hW:(match vs[i]? with | some (.ref p)=>some p | _=>none)=some p:=hW
   obtain⟨p',e,_⟩:=r.mem b1 b3
   subst e
   rw[b3]at hW
   cases hW
   exact⟨_,rfl,o⟩) kk
  exact kw .non H' G' s' (fun b o e hb=>S'.fr b o e hb) S'.sub S'.new S'.dom (fun ws' e=>by cases e;exact ow) (by
   show RetG K CT fr H G' H' D.non V.non
   unfold RetG;rw[if_neg (by cases fr<;>decide)];rfl)
 | bk ς'=>exact fun σ' H' G' S' s'=>kk.elim
 | ct ς'=>exact fun σ' H' G' S' s'=>kk.elim
 | rt b d=>
  intro v H' G' S' s' ret
  rcases QT (show(if (!fr||b||d.scal)=true then Out.ok (d,none) else Out.stuck).post _ _ from kk) with⟨hc,k2⟩ | ⟨_,k2⟩
  ·cases b with
   | false=>
    refine k2 v H' G' s' (fun b o e hb=>S'.fr b o e hb) S'.sub S'.new S'.dom (fun ws' e=>by cases e) ?_
    unfold RetG
    have hn:¬ (fr && !d.scal)=true:=by revert hc;cases fr<;>cases d.scal<;>simp
    rw[if_neg hn]
    exact ret
   | true=>
    obtain⟨p,rfl,h0,hg,ow⟩:=(show ∃ p,v=.ref p/\H p=none/\G' p=none/\Own K CT G' H' p d from ret)
    cases fr with
    | true=>
     refine k2 _ H' G' s' (fun b o e hb=>S'.fr b o e hb) S'.sub S'.new S'.dom (fun ws' e=>by cases e) ?_
     have hs:d.scal=false:=by cases d<;>first | rfl | exact ow.elim
     unfold RetG
     rw[if_pos (by rw[hs];rfl)]
     exact⟨p,rfl,h0,hg,ow⟩
    | false=>
     obtain⟨o,ho⟩:=ow.there
     have S2:=GH.freezeR S' ho hg h0
     refine k2 _ H' _ (s'.trans (QF hg)) (fun b o e hb=>S2.fr b o e hb) S2.sub S2.new S2.dom (fun ws' e=>by cases e) ?_
     unfold RetG
     rw[if_neg (by simp)]
     exact ow.known hg ho
  ·exact k2.elim
end DL
namespace DL
open PySem PySem.Spec PyProof.Rows L2
def eVarW(i:Nat):SD->Out D:=fun ς=>match (ς[i]?:Option (Option (SM×D))) with
 | some (some (m,d))=>if wr m=true then .ok d else .stuck
 | _=>.stuck
def RepA(K:W.Frag)(CT:CTab)(G:Hp)(σ:St)(ς:SD):List (Option Nat)->List D->List V->Prop
 | [],[],[]=>True
 | some s::ms,d::ds,v::vs=>(∃ m,wr m=true/\ς[s]?=some (some (m,d)))/\σ[s]?=some (some v)/\RepA K CT G σ ς ms ds vs
 | none::ms,d::ds,v::vs=>Rep K CT G d v/\RepA K CT G σ ς ms ds vs
 | _,_,_=>False
def DAW(C:Dc)(es:List Expr)(ms:List (Option Nat))(A:SD->Out (List D)):Prop:=∃ t,PA C.X es t/\∀ G H σ ς Q,StR C G H σ ς->
 (A ς).post (fun ds=>∀ vs H' G',StR C G' H' σ ς->Same H H'->Same G G'->RepA C.X.K C.CT G' σ ς ms ds vs->Q vs H') C.XD->t σ H Q
def Qeo(s:Nat)(w:D)(ς:SD):SD:=match (ς[s]?:Option (Option (SM×D))) with
 | some (some (m,_))=>ς.set s (some (m,w))
 | _=>ς
def setW:List (Option Nat)->List D->SD->SD
 | some s::ms,w::ws,ς=>setW ms ws (Qeo s w ς)
 | none::ms,ws,ς=>setW ms ws ς
 | _,_,ς=>ς
section
variable{C:Dc}{e:Expr}{es:List Expr}{E:SD->Out D}{A:SD->Out (List D)}{ms:List (Option Nat)}
theorem QEB:DAW C [] [] aNil:=⟨_,Qdo,fun G H σ ς Q S q=>q [] H G S (Same.refl H) (Same.refl G) trivial⟩
theorem daw_k(ha:DE C e E)(hr:DAW C es ms A)(hs:‹"b"›:=by rfl):DAW C (e::es) (none::ms) (aCons E A):=by
 obtain⟨t1,p1,q1⟩:=ha
 obtain⟨t2,p2,q2⟩:=hr
 refine⟨_,Qbc p1 p2 hs,fun G H σ ς Q S q=>?_⟩
 unfold aCons at q
 rw[Out.post_bind]at q
 refine q1 G H σ ς _ S (Out.post_mono q fun x k v1 H1 G1 S1 a1 b1 r1=>?_)
 rw[Out.post_bind]at k
 refine q2 G1 H1 σ ς _ S1 (Out.post_mono k fun xs k2 vs H2 G2 S2 a2 b2 r2=>?_)
 exact k2 (v1::vs) H2 G2 S2 (a1.trans a2) (b1.trans b2) ⟨Rep.mono b2 x v1 r1,r2⟩
theorem daw_w(i:Nat){x:Str}{px:Pos}(hr:DAW C es ms A)(hN:C.X.N[i]?=some x:=by rfl)(hv:Vis C.X.env.scope x:=by first | exact Or.inl rfl | exact Or.inr (oi rfl) | exact Or.inr (Or.inr rfl))
 (hd:‹"d"›:=by decide) (hcd:‹"I"›:=by decide) (hs:starEach (.Name x px::es) C.X.env=(false,eval (.Name x px) C.X.env)::starEach es C.X.env:=by rfl):
 DAW C (.Name x px::es) (some i::ms) (aCons (eVarW i) A):=by
 obtain⟨t2,p2,q2⟩:=hr
 refine⟨_,Qbc (Qex (i:=i) hN hv hd hcd) p2 hs,fun G H σ ς Q S q=>?_⟩
 unfold aCons eVarW at q
 rw[Out.post_bind]at q
 split at q
 ·rename_i m d z
  rcases QT q with⟨hc,k⟩ | ⟨_,k⟩
  ·obtain⟨p,a,_⟩:=S.wslot (wr_of hc) z
   have k:(A ς>>=fun xs=>Out.ok (d::xs)).post (fun ds=>∀ vs H' G',StR C G' H' σ ς->Same H H'->Same G G'->RepA C.X.K C.CT G' σ ς (some i::ms) ds vs->Q vs H') C.XD:=k
   rw[Out.post_bind]at k
   refine⟨_,a,q2 G H σ ς _ S (Out.post_mono k fun xs k2 vs H2 G2 S2 a2 b2 r2=>?_)⟩
   exact k2 (.ref p::vs) H2 G2 S2 a2 b2 ⟨⟨m,hc,z⟩,a,r2⟩
  ·exact k.elim
 ·exact q.elim
theorem Qjd{G H:Hp}{σ:St}{ς:SD}(S:StR C G H σ ς):∀{ms:List (Option Nat)}{ds:List D}{vs:List V},(ms.filterMap id).Nodup->RepA C.X.K C.CT G σ ς ms ds vs->
 ∃ ps,ArgW C.X.K C.CT G H (ms.map Option.isSome) ds vs ps/\∀ p,p∈ps↔∃ s,some s∈ms/\σ[s]?=some (some (.ref p))
 | [],[],[],_,_=>⟨[],rfl,fun p=>⟨fun h=>(nomatch h),fun⟨s,h,_⟩=>(nomatch h)⟩⟩
 | some s::ms,d::ds,v::vs,nd,⟨⟨m,hm,z⟩,e,r⟩=>by
  have nd:(s::ms.filterMap id).Nodup:=nd
  rw[List.nodup_cons]at nd
  obtain⟨ps,h1,h2⟩:=Qjd S nd.2 r
  obtain⟨p,a,hg,h0,o,ne⟩:=S.wslot (wr_of hm) z
  rw[e]at a;cases a
  refine⟨p::ps,⟨p,ps,rfl,rfl,fun hp=>?_,hg,o,h1⟩,fun q=>?_⟩
  ·obtain⟨s',m1,m2⟩:=(h2 p).1 hp
   have hs:s'≠s:=by rintro rfl;exact nd.1 (List.mem_filterMap.mpr ⟨_,m1,rfl⟩)
   have:∃ m' d',wr m'=true/\ς[s']?=some (some (m',d')):=rep_slot r m1
   obtain⟨m',d',w',z'⟩:=this
   exact ne s' m' d' hs (wr_of w') z' m2
  ·rw[List.mem_cons,h2]
   constructor
   ·rintro (rfl | ⟨s',m1,m2⟩)
    ·exact⟨s,List.mem_cons_self ..,e⟩
    ·exact⟨s',List.mem_cons_of_mem _ m1,m2⟩
   ·rintro ⟨s',m1,m2⟩
    rcases List.mem_cons.mp m1 with q1 | q1
    ·cases q1
     rw[e]at m2;cases m2;exact .inl rfl
    ·exact .inr ⟨s',q1,m2⟩
 | none::ms,d::ds,v::vs,nd,⟨rr,r⟩=>by
  obtain⟨ps,h1,h2⟩:=Qjd S (show(ms.filterMap id).Nodup from nd) r
  refine⟨ps,⟨rr,h1⟩,fun p=>?_⟩
  rw[h2]
  constructor
  ·rintro ⟨s',m1,m2⟩;exact⟨s',List.mem_cons_of_mem _ m1,m2⟩
  ·rintro ⟨s',m1,m2⟩
   rcases List.mem_cons.mp m1 with q1 | q1
   ·cases q1
   ·exact⟨s',q1,m2⟩
where rep_slot {G:Hp} {σ:St} {ς:SD}:∀{ms:List (Option Nat)}{ds:List D}{vs:List V}{s:Nat},RepA C.X.K C.CT G σ ς ms ds vs->some s∈ms->∃ m d,wr m=true/\ς[s]?=some (some (m,d))
 | [],[],[],_,_,h=>(nomatch h)
 | some s'::ms,d::ds,v::vs,s,⟨⟨m,hm,z⟩,_,r⟩,h=>by
  rcases List.mem_cons.mp h with q | q
  ·cases q;exact⟨m,d,hm,z⟩
  ·exact rep_slot r q
 | none::ms,d::ds,v::vs,s,⟨_,r⟩,h=>by
  rcases List.mem_cons.mp h with q | q
  ·cases q
  ·exact rep_slot r q
theorem QDA(s:Nat)(w:D)(ς:SD):(Qeo s w ς).length=ς.length:=by
 unfold Qeo;split<;>simp
theorem QnU:∀(ms:List (Option Nat))(ws:List D)(ς:SD),(setW ms ws ς).length=ς.length
 | some s::ms,w::ws,ς=>by show(setW ms ws (Qeo s w ς)).length=_;rw[QnU ms ws,QDA]
 | none::ms,ws,ς=>QnU ms ws ς
 | [],ws,ς=>rfl
 | some s::ms,[],ς=>rfl
theorem QsC{K:W.Frag}{CT:CTab}{G H G' H':Hp}{σ:St}{ς:SD}:∀{ms:List (Option Nat)}{ds:List D}{vs:List V}{ws:List D}{ps:List Addr}{τ:SD},RepA K CT G σ ς ms ds vs->ArgW K CT G H (ms.map Option.isSome) ds vs ps->OwnL K CT G' H' ws ps->
 (∀(i:Nat) m d,some i∈ms->ς[i]?=some (some (m,d))->∃ d',τ[i]?=some (some (m,d')))->
 ∀(i:Nat) m d',(setW ms ws τ)[i]?=some (some (m,d'))->(τ[i]?=some (some (m,d'))/\some i∉ms)∨(wr m=true/\∃ d b,τ[i]?=some (some (m,d))/\σ[i]?=some (some (.ref b))/\Own K CT G' H' b d')
 | [],[],[],ws,ps,τ,_,_,_,_,i,m,d',h=>.inl ⟨h,fun z=>(nomatch z)⟩
 | none::ms,d::ds,v::vs,ws,ps,τ,⟨_,r⟩,⟨_,a⟩,o,f,i,m,d',h=>by
  rcases QsC (τ:=τ) r a o (fun i m d hi=>f i m d (List.mem_cons_of_mem _ hi)) i m d' h with⟨e,n⟩ | e
  ·exact .inl ⟨e,fun z=>by
    rcases List.mem_cons.mp z with q | q
    ·cases q
    ·exact n q⟩
  ·exact .inr e
 | some s::ms,d::ds,v::vs,[],ps,τ,_,⟨p,ps',e1,e2,_⟩,o,_,i,m,d',h=>by rw[e2]at o;exact o.elim
 | some s::ms,d::ds,v::vs,w::ws,ps,τ,⟨⟨m0,hm0,z⟩,e,r⟩,⟨p,ps',e1,e2,_,_,_,a⟩,o,f,i,m,d',h=>by
  rw[e2]at o
  obtain⟨o1,o2⟩:=o
  obtain⟨d0,t0⟩:=f s m0 d (List.mem_cons_self ..) z
  have es:Qeo s w τ=τ.set s (some (m0,w)):=by unfold Qeo;rw[t0]
  have h:(setW ms ws (Qeo s w τ))[i]?=some (some (m,d')):=h
  have back:∀(j:Nat) m1 d1,(Qeo s w τ)[j]?=some (some (m1,d1))->(j=s/\m1=m0/\d1=w)∨(j≠s/\τ[j]?=some (some (m1,d1))):=fun j m1 d1 hj=>by
   rw[es]at hj
   rcases QK hj with⟨rfl,h2,l⟩ | ⟨ne,h2⟩
   ·cases h2;exact .inl ⟨rfl,rfl,rfl⟩
   ·exact .inr ⟨Ne.symm ne,h2⟩
  have fwd:∀(j:Nat) m1 d1,some j∈ms->ς[j]?=some (some (m1,d1))->∃ d2,(Qeo s w τ)[j]?=some (some (m1,d2)):=fun j m1 d1 hj hz=>by
   rw[es]
   by_cases hjs:j=s
   ·subst hjs
    rw[z]at hz;cases hz
    exact⟨w,Qfa (List.getElem?_eq_some_iff.mp t0).1⟩
   ·obtain⟨d2,q⟩:=f j m1 d1 (List.mem_cons_of_mem _ hj) hz
    exact⟨d2,by rw[Qq (Ne.symm hjs)];exact q⟩
  rcases QsC r a o2 fwd i m d' h with⟨q,n⟩ | ⟨hw,d1,b,q1,q2,q3⟩
  ·rcases back i m d' q with⟨rfl,rfl,rfl⟩ | ⟨ne,q⟩
   ·exact .inr ⟨hm0,d0,p,t0,by rw[e,e1],o1⟩
   ·exact .inl ⟨q,fun zz=>by
     rcases List.mem_cons.mp zz with y | y
     ·cases y;exact ne rfl
     ·exact n y⟩
  ·rcases back i m d1 q1 with⟨rfl,rfl,rfl⟩ | ⟨ne,q⟩
   ·exact .inr ⟨hw,d0,b,t0,q2,q3⟩
   ·exact .inr ⟨hw,d1,b,q,q2,q3⟩
def DefW(P:Program)(w:World)(K:W.Frag)(mg:Str->Option Value)(base:Heap)(CT:CTab)(x:Str)(k:Nat)(fr:Bool)(bs:List Bool)(m:List D->Out (D×Option (List D))):Prop:=
 ∃ f fd ps,FnOk P w K mg base CX0 k f fd ps (SpW K CT fr bs m)/\mg x=some (.ref f)/\W.keepIn K (.ref f)=true/\Binds K fd ps []
def QiO(ms:List (Option Nat))(m:List D->Out (D×Option (List D)))(A:SD->Out (List D)):SD->Out Fl:=fun ς=>A ς>>=fun ds=>m ds>>=fun r=>match r.2 with
 | some ws=>.ok (.nx (setW ms ws ς))
 | none=>.stuck
theorem Qyl{x:Str}{k:Nat}{fr:Bool}{bs:List Bool}{m:List D->Out (D×Option (List D))}{p pos spos:Pos}(h:DefW C.X.prog C.X.w C.X.K C.X.mg C.X.base C.CT x k fr bs m)(hr:Room k C.X.A)(ha:DAW C (e::es) ms A)(hg:Gl C.X x)
 (hbs:bs=ms.map Option.isSome:=by rfl) (nd:(ms.filterMap id).Nodup:=by decide) (hx:∀ x,¬ C.XD x:=by exact fun _ h=>h)
 (hdb:‹"d"›:=by decide) (he:‹"b"›:=by rfl) (hpl:(backTo pos (starEach es C.X.env)).any (·.1)=false:=by rfl)
 (hsw:swapsWith (.Call (.Name x p) (e::es) [] pos) none spos.line C.X.env=pure false:=by rfl):
 DS C (.Expr (.Call (.Name x p) (e::es) [] pos) spos) (QiO ms m A):=by
 obtain⟨f,fd,pn,F,hm,hk,hb⟩:=h
 obtain⟨t,p1,q1⟩:=ha
 subst hbs
 refine⟨_,QsJ (QrW F hr hg hm hk hb .nil pass0 p1 hdb he hpl) hsw,fun G H σ ς W S q=>?_⟩
 unfold QiO at q
 rw[Out.post_bind]at q
 refine q1 G H σ ς _ S (Out.post_mono q fun ds kk vs H1 G1 S1 a1 b1 r1=>?_)
 obtain⟨ps,hA,hps⟩:=Qjd S1 nd r1
 refine⟨ds,ps,G1,S1.sub,by rw[List.append_nil];exact hA,?_⟩
 rw[Out.post_bind]at kk
 cases z:m ds with
 | stuck=>rw[z]at kk;exact kk.elim
 | exc y=>rw[z]at kk;exact absurd kk (hx y)
 | ok r=>
  rw[z]at kk
  intro v H' G' g1 h1 s1 n1 d1 ow ret
  obtain⟨rv,rw'⟩:=r
  cases rw' with
  | none=>exact kk.elim
  | some ws=>
   have ow:=ow ws rfl
   refine(show FlK C G W (.nx (setW ms ws ς)) from kk) σ H' G' ?_ (b1.trans g1)
   refine S1.swap (fun b=>b∈ps) (QnU ms ws ς) g1 h1 s1 n1 (fun b hb=>?_) fun i mm d' hi=>?_
   ·obtain⟨s',m1,m2⟩:=(hps b).1 hb
    obtain⟨m',dd,w',z'⟩:=Qjd.rep_slot r1 m1
    obtain⟨p',a,_,h0,o,_⟩:=S1.wslot (wr_of w') z'
    rw[m2]at a;cases a
    obtain⟨u,hu⟩:=o.there
    exact⟨fun y=>(by rw[d1 b y]at hu;cases hu),h0⟩
   ·rcases QsC (τ:=ς) r1 hA ow (fun i m d _ y=>⟨d,y⟩) i mm d' hi with⟨e1,e2⟩ | ⟨hw,d,b,e1,e2,e3⟩
    ·refine .inl ⟨e1,fun b hmm eb hb=>?_⟩
     obtain⟨s',m1,m2⟩:=(hps b).1 hb
     obtain⟨m',dd,w',z'⟩:=Qjd.rep_slot r1 m1
     obtain⟨p',a,_,_,_,ne⟩:=S1.wslot (wr_of w') z'
     rw[m2]at a;cases a
     exact ne i mm d' (by rintro rfl;exact e2 m1) hmm e1 eb
    ·exact .inr ⟨wr_of hw,d,b,e1,e2,e3⟩
end
end DL
namespace DL
open PySem PySem.Spec PyProof.Rows L2
section
variable{C:Dc}{e:Expr}{es:List Expr}{E:SD->Out D}{A:SD->Out (List D)}{bs:List Bool}
end
end DL
namespace L2
open PySem PySem.Spec PyProof.Rows
section
variable{X:Cx}
end
end L2
namespace DL
open PySem PySem.Spec PyProof.Rows L2
section
variable{C:Dc}{e:Expr}{es:List Expr}{AA:SD->Out (List D)}{p pos:Pos}
end
end DL
namespace DL
open PySem PySem.Spec PyProof.Rows L2
section
variable{C:Dc}{x:Str}{k:Nat}{dd:List D}{m:List D->Out D}{e:Expr}{es:List Expr}{A:SD->Out (List D)}{p pos:Pos}
end
end DL
namespace L2
open PySem PySem.Spec PyProof.Rows
section
variable{prog:Program}{w:World}{A:Around}{E:Value->Shared->Prop}{s:Shared}{I l:Addr}
end
section
variable{prog:Program}{w:World}{A:Around}{s:Shared}{R:Result->Shared->Prop}{I l:Addr}
end
section
variable{prog:Program}{w:World}{A:Around}{E:Value->Shared->Prop}{s:Shared}{I l:Addr}
end
section
variable{X:Cx}{e:Expr}{te:TA}{p1 p2 p3 pos:Pos}
end
end L2
namespace DL
open PySem PySem.Spec PyProof.Rows L2
section
variable{C:Dc}{e:Expr}{A:SD->Out (List D)}{p1 p2 p3 pos:Pos}
end
end DL
namespace DL
open PySem PySem.Spec PyProof.Rows L2
theorem Qe0{i j:Int}(h:0<j):dMod (.int i) (.int j)=.ok (.int (i % j)):=by
 show(if decide (j≠0)=true then Out.ok (D.int (i.fmod j)) else Out.stuck)=_
 rw[if_pos (decide_eq_true (by omega)),Int.fmod_eq_emod_of_nonneg i (by omega)]
theorem QzF{j:Int}{n:Nat}(h:j.natAbs<2 ^ n)(hn:n<=9000):big j=true:=decide_eq_true (Nat.lt_of_lt_of_le h (Nat.pow_le_pow_right (by decide) hn))
theorem Qnb{i j:Int}(h:j≠0)(hb:big j=true):dFdiv (.int i) (.int j)=.ok (.int (i.fdiv j)):=by
 show(if (decide (j≠0)&&big j)=true then Out.ok (D.int (i.fdiv j)) else Out.stuck)=_
 rw[if_pos (by rw[hb,decide_eq_true h];rfl)]
theorem Qtx{i j:Int}(h:0<j)(hb:big j=true):dFdiv (.int i) (.int j)=.ok (.int (i / j)):=by
 rw[Qnb (by omega) hb,Int.fdiv_eq_ediv_of_nonneg i (by omega)]
theorem QS{i:Int}{n:Nat}(h:i.natAbs<2 ^ n):bitsI i<=n:=PySem.intBits_le_iff.mpr h
theorem Qbt{i:Int}{n:Nat}(h:bitsI i<=n):i.natAbs<2 ^ n:=PySem.intBits_le_iff.mp h
theorem QNI{i j:Int}(h:bitsI i+bitsI j<=134217728):dMul (.int i) (.int j)=.ok (.int (i * j)):=by
 show(if decide (bitsI i+bitsI j<=134217728)=true then Out.ok (D.int (i * j)) else Out.stuck)=_
 rw[if_pos (decide_eq_true h)]
theorem QEE{i j:Int}{m n:Nat}(hi:bitsI i<=m)(hj:bitsI j<=n)(h:m+n<=134217728):dMul (.int i) (.int j)=.ok (.int (i * j)):=QNI (by omega)
theorem Q7(i j:Int):dAdd (.int i) (.int j)=.ok (.int (i+j)):=rfl
theorem QaD(i j:Int):dSub (.int i) (.int j)=.ok (.int (i - j)):=rfl
theorem QaV(i:Int):dNeg (.int i)=.ok (.int (-i)):=rfl
theorem QaN(i:Int):dAbs (.int i)=.ok (.int (i.natAbs:Int)):=by
 show Out.ok (D.int (if i<0 then -i else i))=_
 congr 2;split<;>omega
theorem Qam(i j:Int):dLt (.int i) (.int j)=.ok (.bl (decide (i<j))):=rfl
theorem QaG(i j:Int):dLe (.int i) (.int j)=.ok (.bl (decide (i<=j))):=rfl
theorem Qbu(i j:Int):dGt (.int i) (.int j)=.ok (.bl (decide (j<i))):=rfl
theorem Qbd(i j:Int):dGe (.int i) (.int j)=.ok (.bl (decide (j<=i))):=rfl
theorem QEK{i j:Int}(h:(decide (0<=j)&&decide (j<=1000000)&&decide (i.natAbs<2 ^ 64))=true):dPow (.int i) (.int j)=.ok (.int (i ^ j.toNat)):=by
 show(if _=true then Out.ok (D.int (i ^ j.toNat)) else Out.stuck)=_
 rw[if_pos h]
mutual
def layD:D->Bool
 | .non=>true
 | .bl _=>true
 | .int _=>true
 | .str x=>PyData.strOk x
 | .lst xs=>layDs xs
 | .tup xs=>layDs xs
 | _=>false
def layDs:List D->Bool
 | []=>true
 | x::xs=>layD x&&layDs xs
end
mutual
def dep:D->Nat
 | .lst xs=>deps xs+1
 | .tup xs=>deps xs+1
 | _=>0
def deps:List D->Nat
 | []=>0
 | x::xs=>max (dep x) (deps xs)
end
mutual
theorem Qye:∀ d:D,layD d=true->d.py.canLay0=true
 | .non,_=>rfl
 | .bl _,_=>rfl
 | .int _,_=>rfl
 | .str x,h=>h
 | .lst xs,h=>Qq0 xs h
 | .tup xs,h=>Qq0 xs h
theorem Qq0:∀ ds:List D,layDs ds=true->PyData.canLayAll0 (D.pys ds)=true
 | [],_=>rfl
 | x::xs,h=>by
  rw[layDs,Bool.and_eq_true]at h
  rw[D.pys,PyData.canLayAll0,Bool.and_eq_true]
  exact⟨Qye x h.1,Qq0 xs h.2⟩
end
mutual
theorem QIr:∀ d:D,layD d=true->d.py.depth=dep d
 | .non,_=>rfl
 | .bl _,_=>rfl
 | .int _,_=>rfl
 | .str x,h=>rfl
 | .lst xs,h=>by rw[D.py,PyData.depth,dep,QsN xs h]
 | .tup xs,h=>by rw[D.py,PyData.depth,dep,QsN xs h]
theorem QsN:∀ ds:List D,layDs ds=true->PyData.depthAll (D.pys ds)=deps ds
 | [],_=>rfl
 | x::xs,h=>by
  rw[layDs,Bool.and_eq_true]at h
  rw[D.pys,PyData.depthAll,deps,QIr x h.1,QsN xs h.2]
end
theorem Qy1{d:D}(h:layD d=true)(hd:dep d<=64):shp d=true:=by
 unfold shp SeqAt.shaped
 rw[Qye d h,QIr d h]
 simpa using hd
theorem Ql7(i:Int):shp (.int i)=true:=Qy1 rfl (Nat.zero_le _)
theorem Qzi{x y:D}(hx:shp x=true)(hy:shp y=true):dEq x y=.ok (.bl (PyData.eqv x.py y.py)):=by
 unfold dEq;rw[hx,hy];rfl
theorem QPn{x y:D}(hx:shp x=true)(hy:shp y=true):dNe x y=.ok (.bl (!PyData.eqv x.py y.py)):=by
 unfold dNe;rw[hx,hy];rfl
theorem QEf(i j:Int):(i == j)=decide (i=j):=by
 by_cases h:i=j
 ·subst h;simp
 ·simp[h]
theorem QG(i j:Int):dEq (.int i) (.int j)=.ok (.bl (decide (i=j))):=by
 rw[Qzi (Ql7 i) (Ql7 j), ← QEf]
 rfl
theorem QaH(i j:Int):dNe (.int i) (.int j)=.ok (.bl (!decide (i=j))):=by
 rw[QPn (Ql7 i) (Ql7 j), ← QEf]
 rfl
theorem Qah{n:Nat}(h:n<=1000:=by decide):fits n=true:=decide_eq_true (Nat.le_trans h (by decide))
theorem ixT{xs:List D}{x:D}(k:Nat)(h:xs[k]?=some x):dIx (.tup xs) (.int (k:Int))=.ok x:=by
 show optO (atI xs (k:Int))=_
 rw[QEg h];rfl
theorem ixL{xs:List D}{x:D}(k:Nat)(h:xs[k]?=some x):dIx (.lst xs) (.int (k:Int))=.ok x:=by
 show optO (atI xs (k:Int))=_
 rw[QEg h];rfl
theorem QOe(x:D)(xs:List D):dIx (.tup (x::xs)) (.int 0)=.ok x:=ixT 0 rfl
theorem QNW(x y:D)(xs:List D):dIx (.tup (x::y::xs)) (.int 1)=.ok y:=ixT 1 rfl
theorem QQa{α:Type}(xs:List α)(k:Nat):cutD xs none (some (k:Int))=xs.take k:=by
 unfold cutD
 rw[HT.sIx_none,HT.sIx_nat,List.drop_zero,Nat.sub_zero]
 by_cases h:k<=xs.length
 ·rw[Nat.min_eq_left h]
 ·rw[Nat.min_eq_right (by omega),List.take_of_length_le (Nat.le_refl _),List.take_of_length_le (by omega)]
theorem QL7{α:Type}(xs:List α)(k:Nat):cutD xs (some (k:Int)) none=xs.drop k:=by
 unfold cutD
 rw[HT.sIx_none,HT.sIx_nat]
 by_cases h:k<=xs.length
 ·rw[Nat.min_eq_left h,List.take_of_length_le (by rw[List.length_drop];exact Nat.le_refl _)]
 ·rw[Nat.min_eq_right (by omega),List.drop_length,List.drop_eq_nil_of_le (by omega)];simp
theorem QEr{xs ys:List D}(h:xs.length+ys.length<=1000):dCat (.lst xs) (.lst ys)=.ok (.lst (xs++ys)):=by
 show(if fits _=true then _ else _)=_
 rw[if_pos (Qah h)]
theorem Qa2{g:D->SD->Out SD}{its:SD->Out (List D)}{T:SD->Out Fl}{ς:SD}{xs:List D}{r:Out Fl}(h:its ς=.ok xs)(hL:loopD (fun x ς=>g x ς>>=fun ς'=>T ς') xs ς=r):sFor g its T ς=r:=by
 unfold sFor
 rw[h];exact hL
theorem Qca{A:SD->Out D}{ς:SD}(m:Nat)(h:A ς=.ok (.int (m:Int)))(hm:m<=1000000):itR1 A ς=.ok (Qa4 0 m):=by
 have hs:Qjg (m:Int)=true:=by
  unfold Qjg
  rw[Bool.and_eq_true]
  exact⟨decide_eq_true (by omega),decide_eq_true (by omega)⟩
 unfold itR1
 rw[h,Out.bind_ok]
 simp only[hs,if_true,Int.toNat_natCast]
end DL
namespace DL
open PySem PySem.Spec PyProof.Rows L2
theorem QbA{body:D->SD->Out Fl}{P:Nat->SD->Prop}{n:Nat}(h:∀ k:Nat,k<n->∀ ς,P k ς->∃ ς',body (.int (k:Int)) ς=.ok (.nx ς')/\P (k+1) ς'):∀ ς,P 0 ς->∃ ς',loopD body (Qa4 0 n) ς=.ok (.nx ς')/\P n ς':=by
 have key:∀(j:Nat)(k:Nat),k+j=n->∀ ς,P k ς->∃ ς',loopD body ((List.range' k j).map fun(i:Nat)=>D.int ((0:Int)+i)) ς=.ok (.nx ς')/\P n ς':=by
  intro j
  induction j with
  | zero=>
   intro k hk ς p
   have:k=n:=by omega
   subst this
   exact⟨ς,rfl,p⟩
  | succ j ih=>
   intro k hk ς p
   obtain⟨ς1,e1,p1⟩:=h k (by omega) ς p
   obtain⟨ς2,e2,p2⟩:=ih (k+1) (by omega) ς1 p1
   refine⟨ς2,?_,p2⟩
   rw[List.range'_succ,List.map_cons,loopD,Int.zero_add,e1]
   exact e2
 intro ς p
 have:=key n 0 (by omega) ς p
 unfold Qa4
 rw[List.range_eq_range']
 exact this
theorem QyH{f:D->Out (Option D)}{h:D->Option D}:∀{xs:List D},(∀ x∈xs,f x=.ok (h x))->compM f xs=.ok (xs.filterMap h)
 | [],_=>rfl
 | x::xs,hf=>by
  rw[compM,hf x List.mem_cons_self,Out.bind_ok,QyH (xs:=xs) (fun y hy=>hf y (List.mem_cons_of_mem _ hy)),Out.bind_ok,List.filterMap_cons]
  cases h x<;>rfl
theorem QlJ{α:Type}(f:α->Bool):∀ xs:List α,blsOf (xs.map fun x=>D.bl (f x))=some (xs.map f)
 | []=>rfl
 | x::xs=>by rw[List.map_cons,blsOf,QlJ f xs];rfl
theorem QnN{α:Type}(f:α->Bool)(xs:List α):fAll (.lst (xs.map fun x=>D.bl (f x)))=.ok (.bl (xs.all f)):=by
 rw[fAll,QlJ]
 show Out.ok (D.bl ((xs.map f).all id))=_
 rw[List.all_map];rfl
theorem QLe{α:Type}(f:α->Bool)(xs:List α):fAny (.lst (xs.map fun x=>D.bl (f x)))=.ok (.bl (xs.any f)):=by
 rw[fAny,QlJ]
 show Out.ok (D.bl ((xs.map f).any id))=_
 rw[List.any_map];rfl
theorem QgX{n:Nat}(h:n<=1000):fits n=true:=Qah h
end DL
namespace My
def shD(a b:Int):Int:=if b<0 then -(a.gcd b:Int) else(a.gcd b:Int)
def low(p q:Int):Prop:=1<=q/\p.gcd q=1
theorem QfG{a b:Int}(h:b≠0):0<a.gcd b:=Int.gcd_pos_of_ne_zero_right a h
theorem Qyq{a b:Int}(h:b≠0):shD a b≠0:=by
 have:=QfG (a:=a) h
 unfold shD;split<;>omega
theorem Qma(a b:Int):(shD a b).natAbs=a.gcd b:=by
 unfold shD;split<;>omega
theorem Qxl(a b:Int):shD a b∣a:=by
 rw[← Int.natAbs_dvd,Qma];exact Int.gcd_dvd_left a b
theorem Qvn(a b:Int):shD a b∣b:=by
 rw[← Int.natAbs_dvd,Qma];exact Int.gcd_dvd_right a b
theorem Qw6{a b:Int}(h:b≠0):∃ x y,a=shD a b * x/\b=shD a b * y/\a.fdiv (shD a b)=x/\b.fdiv (shD a b)=y:=by
 obtain⟨x,hx⟩:=Qxl a b
 obtain⟨y,hy⟩:=Qvn a b
 have hs:=Qyq (a:=a) h
 refine⟨x,y,hx,hy,?_,?_⟩
 ·have e:a.fdiv (shD a b)=(shD a b * x).fdiv (shD a b):=congrArg (fun z=>Int.fdiv z (shD a b)) hx
  rw[e,Int.mul_fdiv_cancel_left x hs]
 ·have e:b.fdiv (shD a b)=(shD a b * y).fdiv (shD a b):=congrArg (fun z=>Int.fdiv z (shD a b)) hy
  rw[e,Int.mul_fdiv_cancel_left y hs]
theorem Qfs{a b:Int}(h:b≠0):low (a.fdiv (shD a b)) (b.fdiv (shD a b)):=by
 obtain⟨x,y,hx,hy,e1,e2⟩:=Qw6 (a:=a) h
 rw[e1,e2]
 constructor
 ·have hs:=Qyq (a:=a) h
  by_cases hb:b<0
  ·have hd:shD a b<0:=by
    have:=QfG (a:=a) h
    unfold shD;rw[if_pos hb];omega
   rcases Int.lt_or_le 0 y with h0 | h0
   ·omega
   ·have:0<=shD a b * y:=Int.mul_nonneg_of_nonpos_of_nonpos (by omega) h0
    omega
  ·have hd:0<shD a b:=by
    have:=QfG (a:=a) h
    unfold shD;rw[if_neg hb];omega
   rcases Int.lt_or_le 0 y with h0 | h0
   ·omega
   ·have:shD a b * y<=0:=Int.mul_nonpos_of_nonneg_of_nonpos (by omega) h0
    omega
 ·have g0:=QfG (a:=a) h
  have e:a.gcd b=(shD a b).natAbs * x.gcd y:=by
   have e0:(shD a b * x).gcd (shD a b * y)=(shD a b).natAbs * x.gcd y:=Int.gcd_mul_left ..
   rw[← hx, ← hy]at e0
   exact e0
  rw[Qma]at e
  have:a.gcd b * 1=a.gcd b * x.gcd y:=by omega
  exact(Nat.eq_of_mul_eq_mul_left g0 this).symm
theorem QMb{a b:Int}(h:b≠0):(a.fdiv (shD a b)) * b=a * (b.fdiv (shD a b)):=by
 obtain⟨x,y,hx,hy,e1,e2⟩:=Qw6 (a:=a) h
 rw[e1,e2]
 generalize shD a b=s at *
 subst hx hy
 rw[Int.mul_assoc,Int.mul_left_comm]
theorem QjD{k m n:Int}(h:k∣m * n)(g:k.gcd m=1):k∣n:=by
 rw[← Int.natAbs_dvd_natAbs]at h ⊢
 rw[Int.natAbs_mul]at h
 exact Nat.Coprime.dvd_of_dvd_mul_left (show Nat.Coprime k.natAbs m.natAbs from g) h
theorem QHB{p q r s:Int}(h1:low p q)(h2:low r s)(e:p * s=r * q):p=r/\q=s:=by
 obtain⟨q1,g1⟩:=h1
 obtain⟨s1,g2⟩:=h2
 have d1:q∣s:=QjD (m:=p) ⟨r,by rw[e,Int.mul_comm]⟩ (by rw[Int.gcd_comm];exact g1)
 have d2:s∣q:=QjD (m:=r) ⟨p,by rw[← e,Int.mul_comm]⟩ (by rw[Int.gcd_comm];exact g2)
 have eq:q=s:=Int.dvd_antisymm (by omega) (by omega) d1 d2
 subst eq
 exact⟨Int.eq_of_mul_eq_mul_right (by omega) e,rfl⟩
theorem Qwy(a b:Int):b.gcd (a % b)=a.gcd b:=by
 have h:a % b=a - b * (a / b):=Int.emod_def a b
 rw[h,Int.gcd_sub_mul_left_right,Int.gcd_comm]
end My
namespace DL
open PySem PySem.Spec L2
section
variable{i j:Nat}{d x y:D}{m:SM}{ς ς' ς1:SD}{E A B:SD->Out D}{AA:SD->Out (List D)}{f:D->Out D}{g:D->D->Out D}{h:List D->Out D}{r:Out D}{xs ys:List D}{T U:SD->Out Fl}{P Q:SD->Out Bool}{b c:Bool}{fl:Fl}{rf:Out Fl}{rb:Out Bool}
theorem r_var(e:ς[i]?=some (some (.k,d))):eVar i ς=.ok d:=by unfold eVar;rw[e]
theorem QiR(e:ς[i]?=some (some (m,d))):eVarB i ς=.ok d:=by unfold eVarB;rw[e]
theorem r_C:eC d ς=.ok d:=rfl
theorem r_e1(a:A ς=.ok x)(k:f x=r):e1 f A ς=r:=by unfold e1;rw[a];exact k
theorem r_e2(a:A ς=.ok x)(a':B ς=.ok y)(k:g x y=r):e2 g A B ς=r:=by unfold e2;rw[a,Out.bind_ok,a'];exact k
theorem r_eA(a:AA ς=.ok xs)(k:h xs=r):eA h AA ς=r:=by unfold eA;rw[a];exact k
theorem Qa0{dd:List D}(a:AA ς=.ok xs)(e:xs++dd=ys)(k:h ys=r):eA (fun xs=>h (xs++dd)) AA ς=r:=by unfold eA;rw[a];show h (xs++dd)=r;rw[e];exact k
theorem r_nil:aNil ς=.ok []:=rfl
theorem Qo(a:A ς=.ok x)(k:AA ς=.ok xs):aCons A AA ς=.ok (x::xs):=by unfold aCons;rw[a,Out.bind_ok,k];rfl
theorem r_tup(a:AA ς=.ok xs)(k:xs.length<=1000):eTup AA ς=.ok (.tup xs):=by unfold eTup;rw[a,Out.bind_ok,if_pos (QgX k)]
theorem r_lst(a:AA ς=.ok xs)(k:xs.length<=1000):eLst AA ς=.ok (.lst xs):=by unfold eLst;rw[a,Out.bind_ok,if_pos (QgX k)]
theorem Qg7(a:A ς=.ok (.bl b)):tVal A ς=.ok b:=by unfold tVal;rw[a];rfl
theorem QyZ(a:P ς=.ok b):tNot' P ς=.ok (!b):=by unfold tNot';rw[a];rfl
theorem r_or'(a:P ς=.ok b)(k:(if b=true then .ok true else Q ς)=rb):tOr' P Q ς=rb:=by unfold tOr';rw[a];exact k
theorem QOD(a:P ς=.ok b)(k:(if b=true then Q ς else .ok false)=rb):tAnd' P Q ς=rb:=by unfold tAnd';rw[a];exact k
theorem QIS(a:A ς=.ok (.bl b))(k:(if b=true then B ς else .ok (.bl false))=r):eAnd A B ς=r:=by unfold eAnd;rw[a];cases b<;>exact k
theorem r_eIf(a:P ς=.ok b)(k:(if b=true then A ς else B ς)=r):eIf P A B ς=r:=by unfold eIf;rw[a];exact k
theorem r_isa{F:D->Out Bool}(a:A ς=.ok x)(k:F x=.ok b):eIsa F A ς=.ok (.bl b):=by unfold eIsa;rw[a,Out.bind_ok,k];rfl
theorem QD7{g':D->D->Out D}{E':SD->Out D}(a:A ς=.ok x)(a':B ς=.ok y)(k:g x y=.ok (.bl b))(k':(if b=true then E' ς>>=fun w=>g' y w else .ok (.bl false))=r):QdK g g' A B E' ς=r:=by unfold QdK;rw[a,Out.bind_ok,a',Out.bind_ok,k];cases b<;>exact k'
theorem QIO{z:D}(a:E ς=.ok z)(k:f z=r):(E ς>>=fun w=>f w)=r:=by rw[a];exact k
theorem r_set(a:E ς=.ok d)(k:ς.set i (some (.k,d))=ς'):sSet i E ς=.ok (.nx ς'):=by unfold sSet;rw[a,Out.bind_ok,k]
theorem Qlh(a:E ς=.ok d)(k:ς.set i (some (.o,d))=ς'):sSetO i E ς=.ok (.nx ς'):=by unfold sSetO;rw[a,Out.bind_ok,k]
theorem r_seq(a:T ς=.ok fl)(k:thenF U fl=rf):sSeq T U ς=rf:=by unfold sSeq;rw[a];exact k
theorem r_okR{α:Type}{a:α}:(Out.ok a)=Out.ok a:=rfl
theorem QY(k:U ς=rf):thenF U (.nx ς)=rf:=k
theorem QrG{z:Bool}:thenF U (.rt z d)=.ok (.rt z d):=rfl
theorem r_if(a:P ς=.ok b)(k:(if b=true then T ς else U ς)=rf):sIf P T U ς=rf:=by unfold sIf;rw[a];exact k
theorem Qxa{α:Type}{u v w:α}(a:b=true)(k:u=w):(if b=true then u else v)=w:=by rw[if_pos a];exact k
theorem Qwx{α:Type}{u v w:α}(a:b=false)(k:v=w):(if b=true then u else v)=w:=by subst a;exact k
theorem r_ret(a:E ς=.ok d):sRet E ς=.ok (.rt false d):=by unfold sRet;rw[a];rfl
theorem QyJ(a:E ς=.ok d):sRetF E ς=.ok (.rt true d):=by unfold sRetF;rw[a];rfl
theorem QJ0(e:ς[i]?=some (some (.o,d))):sRetO i ς=.ok (.rt true d):=by unfold sRetO;rw[e]
theorem Qpj:sNil ς=.ok (.nx ς):=rfl
theorem QEn{n:Nat}(k:n<=1000):decide (n<sizeLine)=true:=decide_eq_true (Nat.lt_of_le_of_lt k (by decide))
theorem r_app(e:ς[i]?=some (some (.o,.lst xs)))(a:E ς=.ok d)(k:xs.length<=1000)(l:ς.set i (some (.o,.lst (xs++[d])))=ς'):QaX i E ς=.ok (.nx ς'):=by
 unfold QaX;rw[e];show(E ς>>=fun d=>if decide (xs.length<sizeLine)=true then _ else _)=_;rw[a,Out.bind_ok,if_pos (QEn k),l]
theorem QwD{o:Out D}(a:o=.ok d)(k:d.scal=true):QiP o=.ok d:=by unfold QiP;rw[a,Out.bind_ok,if_pos k]
theorem QtG{o:Out D}(a:o=.ok d)(k:d.scal=false):Qje o=.ok d:=by unfold Qje;rw[a,Out.bind_ok,k];rfl
theorem r_noX{α:Type}{o:Out α}{a:α}(k:o=.ok a):noX o=.ok a:=by rw[k];rfl
theorem r_sl{l u:SD->Out (Option Int)}{p q:Option Int}(a:A ς=.ok (.lst xs))(k1:l ς=.ok p)(k2:u ς=.ok q)(e:cutD xs p q=ys):eSl A l u ς=.ok (.lst ys):=by unfold eSl;rw[a,Out.bind_ok,k1,Out.bind_ok,k2,Out.bind_ok];show Out.ok (D.lst _)=_;rw[e]
theorem r_oNo:oNo ς=.ok none:=rfl
theorem QiU{k:Int}(a:E ς=.ok (.int k)):oSome E ς=.ok (some k):=by unfold oSome;rw[a];rfl
theorem Qs8:QX [] [] ς=.ok ς:=rfl
theorem QtF{is:List Nat}{rs:Out SD}(a:ς.set i (some (.k,d))=ς1)(k:QX is ys ς1=rs):QX (i::is) (d::ys) ς=rs:=by show QX is ys (ς.set i (some (.k,d)))=rs;rw[a];exact k
theorem r_unp{is:List Nat}(a:E ς=.ok (.tup ys))(k:QX is ys ς=.ok ς'):sUnp is E ς=.ok (.nx ς'):=by unfold sUnp;rw[a,Out.bind_ok];show(QX is ys ς>>=_)=_;rw[k];rfl
theorem Qgq{fr:Bool}(a:T ς=.ok fl)(k:retF fr fl=r):(T ς>>=retF fr)=r:=by rw[a];exact k
theorem r_rt{z:Bool}:retF false (.rt z d)=.ok d:=by unfold retF;simp
theorem r_rtT:retF true (.rt true d)=.ok d:=by unfold retF;simp
theorem r_gN{L:SD->Out Fl}(a:ς.set i (some (.k,d))=ς1)(k:L ς1=rf):(gN i d ς>>=fun ς'=>L ς')=rf:=by unfold gN;rw[a];exact k
theorem r_gT{L:SD->Out Fl}{is:List Nat}(a:QX is ys ς=.ok ς1)(k:L ς1=rf):(gT is (.tup ys) ς>>=fun ς'=>L ς')=rf:=by unfold gT;show(QX is ys ς>>=fun ς'=>L ς')=rf;rw[a];exact k
theorem QQe{cl:Str}{fds:List (Str×D)}{mk:Str->List (Str×D)->List D->Out (List (Str×D))}(a:AA ς=.ok xs)(k:mk cl [] xs=.ok fds):eMake cl mk AA ς=.ok (.ins cl fds):=by unfold eMake;rw[a,Out.bind_ok,k];rfl
theorem QNL{cs:List Str}{n cl:Str}{fds fds':List (Str×D)}{mk:Str->List (Str×D)->List D->Out (List (Str×D))}(e:ς[i]?=some (some (.s,.ins cl fds)))(k1:cs.contains cl=true)(k2:fds.lookup n=none)(a:AA ς=.ok xs)(k:mk cl fds xs=.ok fds')(l:ς.set i (some (.s,.ins cl fds'))=ς'):Qgr cs n mk i AA ς=.ok (.nx ς'):=by
 unfold Qgr;rw[e]
 show(if (cs.contains cl&&(fds.lookup n).isNone)=true then _ else _)=_
 rw[k1,k2]
 show(AA ς>>=_)=_
 rw[a,Out.bind_ok,k,Out.bind_ok,l]
theorem r_itL(a:E ς=.ok (.lst xs)):itL E ς=.ok xs:=by unfold itL;rw[a];rfl
end
theorem QO8{T:SD->Out Fl}{ς τ:SD}{c:Str}{fds:List (Str×D)}(a:T ς=.ok (.nx (some (.s,.ins c fds)::τ))):(T ς>>=Qd3 c)=.ok fds:=by
 rw[a];simp[Qd3,Qle]
theorem c_nil{ς:SD}:captD [] ς=[]:=rfl
theorem QcY{ς τ:SD}{js:List (Option Nat)}(k:captD js ς=τ):captD (none::js) ς=none::τ:=by rw[← k];rfl
theorem c_k{ς τ:SD}{js:List (Option Nat)}{j:Nat}{d:D}(e:ς[j]?=some (some (.k,d)))(k:captD js ς=τ):captD (some j::js) ς=some (.k,d)::τ:=by
 rw[← k];show captS ς j::_=_;unfold captS;rw[e];rfl
theorem Qab{js:List (Option Nat)}{i:Nat}{e:SD->Out D}{ς τ0 τ:SD}{x d:D}(c:captD js ς=τ0)(a:τ0.set i (some (.k,x))=τ)(k:e τ=.ok d):turnC js (gN i) cTrue e ς x=.ok (some d):=by
 unfold turnC gN cTrue
 rw[c,a,Out.bind_ok,Out.bind_ok,if_pos rfl,k];rfl
theorem Ql5{js:List (Option Nat)}{is:List Nat}{e:SD->Out D}{ς τ0 τ:SD}{xs:List D}{d:D}(c:captD js ς=τ0)(a:QX is xs τ0=.ok τ)(k:e τ=.ok d):turnC js (gT is) cTrue e ς (.tup xs)=.ok (some d):=by
 unfold turnC gT cTrue
 show((QX is xs (captD js ς))>>=_)=_
 rw[c,a,Out.bind_ok,Out.bind_ok,if_pos rfl,k];rfl
theorem QNw{js:List (Option Nat)}{i:Nat}{q:SD->Out Bool}{e:SD->Out D}{ς τ0 τ:SD}{x d:D}{b:Bool}(c:captD js ς=τ0)(a:τ0.set i (some (.k,x))=τ)(h:q τ=.ok b)(k:e τ=.ok d):turnC js (gN i) q e ς x=.ok (if b=true then some d else none):=by
 unfold turnC gN
 rw[c,a,Out.bind_ok,h,Out.bind_ok,k];cases b<;>rfl
theorem Q1{α:Type}{js:List (Option Nat)}{its:SD->Out (List D)}{g:D->SD->Out SD}{e:SD->Out D}{ς:SD}{l:List α}(f:α->D)(h:α->D)(hi:its ς=.ok (l.map f))(ht:∀ x∈l,turnC js g cTrue e ς (f x)=.ok (some (h x)))(hl:l.length<=1000):
 eComp js its g cTrue e ς=.ok (.lst (l.map h)):=by
 have go:∀ l:List α,(∀ x∈l,turnC js g cTrue e ς (f x)=.ok (some (h x)))->compM (turnC js g cTrue e ς) (l.map f)=.ok (l.map h):=by
  intro l
  induction l with
  | nil=>intro _;rfl
  | cons x xs ih=>
   intro H
   have h1:=H x (List.mem_cons_self ..)
   have h2:=ih fun y hy=>H y (List.mem_cons_of_mem _ hy)
   show compM (turnC js g cTrue e ς) (f x::xs.map f)=_
   unfold compM
   rw[h1,Out.bind_ok,h2];rfl
 unfold eComp
 rw[hi,Out.bind_ok,go l ht,Out.bind_ok,if_pos (QgX (by rw[List.length_map];exact hl))]
theorem Qg9{js:List (Option Nat)}{its:SD->Out (List D)}{g:D->SD->Out SD}{e:SD->Out D}{ς:SD}{n:Nat}(h:Nat->D)(hi:its ς=.ok (Qa4 0 n))(ht:∀ k:Nat,k<n->turnC js g cTrue e ς (.int (k:Int))=.ok (some (h k)))(hl:n<=1000):
 eComp js its g cTrue e ς=.ok (.lst ((List.range n).map h)):=by
 refine Q1 (fun i:Nat=>D.int (0+(i:Int))) h hi (fun k hk=>?_) (by rw[List.length_range];exact hl)
 show turnC js g cTrue e ς (.int (0+(k:Int)))=_
 rw[Int.zero_add]
 exact ht k (List.mem_range.mp hk)
theorem r_get{ς:SD}{i:Nat}{m:SM}{d:D}(h:ς[i]?=some (some (m,d))):ς[i]?=some (some (m,d)):=h
theorem r_len{n:Nat}(h:n<=1000):n<=1000:=h
theorem QPE{i:Int}{n:Nat}(h:bitsI i<=n):bitsI i<=n:=h
theorem r_dec{m n:Nat}(h:decide (m<=n)=true):decide (m<=n)=true:=h
theorem r_id{α:Type}{a b:α}(h:a=b):a=b:=h
theorem QMD{n:Str}:List.lookup n ([]:List (Str×D))=none:=rfl
theorem QPs{α:Type}{x:α}{xs:List α}:(x::xs)[0]?=some x:=rfl
theorem QQu{α:Type}{x:α}{xs:List α}{n:Nat}{r:Option α}(h:xs[n]?=r):(x::xs)[n+1]?=r:=by rw[List.getElem?_cons_succ];exact h
theorem QH2{α:Type}{x y:α}{xs:List α}:(x::xs).set 0 y=y::xs:=rfl
theorem QJt{α:Type}{x y:α}{xs ys:List α}{n:Nat}(h:xs.set n y=ys):(x::xs).set (n+1) y=x::ys:=by rw[List.set_cons_succ,h]
theorem QOU{α:Type}{ys:List α}:[]++ys=ys:=rfl
theorem QON{α:Type}{x:α}{xs ys zs:List α}(h:xs++ys=zs):x::xs++ys=x::zs:=by rw[List.cons_append,h]
theorem QiX{i:Int}(h:decide (i.natAbs<2 ^ 300)=true):bitsI i<=300:=QS (of_decide_eq_true h)
theorem QQf{i j:Int}{m n:Nat}(a:bitsI i<=m)(b:bitsI j<=n):bitsI (i+j)<=m+n+1:=by
 have a:=Qbt a
 have b:=Qbt b
 refine QS ?_
 have c1:2 ^ m<=2 ^ (m+n):=Nat.pow_le_pow_right (by decide) (by omega)
 have c2:2 ^ n<=2 ^ (m+n):=Nat.pow_le_pow_right (by decide) (by omega)
 rw[Nat.pow_succ]
 omega
theorem Qcu{i j:Int}{m n:Nat}(a:bitsI i<=m)(b:bitsI j<=n):bitsI (i * j)<=m+n:=by
 have a:=Qbt a
 have b:=Qbt b
 refine QS ?_
 rw[Int.natAbs_mul,Nat.pow_add]
 exact Nat.mul_lt_mul'' a b
theorem QQm{i j:Int}{n:Nat}(h:0<j)(b:bitsI j<=n):bitsI (i % j)<=n:=by
 have b:=Qbt b
 have h1:=Int.emod_nonneg i (show j≠0 by omega)
 have h2:=Int.emod_lt_of_pos i h
 exact QS (by omega)
theorem Qgl{i j:Int}{n:Nat}(a:bitsI i<=n):bitsI (i / j)<=n:=by
 have a:=Qbt a
 exact QS (Nat.lt_of_le_of_lt (Int.natAbs_ediv_le_natAbs i j) a)
theorem Qk4{n m:Nat}(h:n<2 ^ m):bitsI (n:Int)<=m:=QS (by simpa using h)
theorem bd_in{i:Int}{n:Nat}(h0:0<=i)(h:i<2 ^ n):bitsI i<=n:=QS (by
 have:((2 ^ n:Nat):Int)=2 ^ n:=by simp
 omega)
theorem r_mul{i j:Int}{m n:Nat}(hi:bitsI i<=m)(hj:bitsI j<=n)(h:decide (m+n<=134217728)=true):dMul (.int i) (.int j)=.ok (.int (i * j)):=QEE hi hj (of_decide_eq_true h)
theorem QO0{i j:Int}{n:Nat}(h:0<j)(hj:bitsI j<=n)(hn:decide (n<=9000)=true):dFdiv (.int i) (.int j)=.ok (.int (i / j)):=Qtx h (QzF (Qbt hj) (of_decide_eq_true hn))
end DL
namespace Bar
def sm:Nat->(Nat->Rat)->Rat
 | 0,_=>0
 | n+1,f=>sm n f+f n
theorem sm_congr:∀{n:Nat}{f g:Nat->Rat},(∀ i,i<n->f i=g i)->sm n f=sm n g
 | 0,_,_,_=>rfl
 | n+1,f,g,h=>by
  show sm n f+f n=sm n g+g n
  rw[sm_congr fun i hi=>h i (by omega),h n (by omega)]
theorem sm_add:∀(n:Nat)(f g:Nat->Rat),sm n (fun i=>f i+g i)=sm n f+sm n g
 | 0,_,_=>by simp[sm,Rat.zero_add]
 | n+1,f,g=>by
  show sm n (fun i=>f i+g i)+(f n+g n)=(sm n f+f n)+(sm n g+g n)
  rw[sm_add n f g];grind
theorem sm_mul:∀(n:Nat)(c:Rat)(f:Nat->Rat),sm n (fun i=>c * f i)=c * sm n f
 | 0,c,_=>by simp[sm,Rat.mul_zero]
 | n+1,c,f=>by
  show sm n (fun i=>c * f i)+c * f n=c * (sm n f+f n)
  rw[sm_mul n c f];grind
theorem sm_zero:∀{n:Nat}{f:Nat->Rat},(∀ i,i<n->f i=0)->sm n f=0
 | 0,_,_=>rfl
 | n+1,f,h=>by
  show sm n f+f n=0
  rw[sm_zero fun i hi=>h i (by omega),h n (by omega)];grind
theorem Qnz(m:Nat):∀(k:Nat)(f:Nat->Rat),sm (m+k) f=sm m f+sm k (fun e=>f (m+e))
 | 0,f=>by show sm m f=sm m f+0;grind
 | k+1,f=>by
  show sm (m+k) f+f (m+k)=sm m f+(sm k (fun e=>f (m+e))+f (m+k))
  rw[Qnz m k f];grind
abbrev Mx:=Nat->Nat->Rat
def S:Nat->Mx->Mx
 | 0,A=>A
 | k+1,A=>fun i j=>S k A i j - S k A i k / S k A k k * S k A k j
def p:Nat->Mx->Rat
 | 0,_=>1
 | k+1,A=>p k A * S k A k k
def isZ(x:Rat):Prop:=∃ z:Int,x=(z:Rat)
theorem sm_unit{n e:Nat}(he:e<n)(f:Nat->Rat):sm n (fun c=>f c * (if c=e then 1 else 0))=f e:=by
 rw[show n=e+(n - e) by omega,Qnz e (n - e),sm_zero (n:=e) fun c hc=>by rw[if_neg (by omega)];grind,show n - e=1+(n - e - 1) by omega,Qnz 1]
 show 0+(0+f (e+0) * (if e+0=e then 1 else 0)+sm (n - e - 1) (fun x=>f (e+(1+x)) * (if e+(1+x)=e then 1 else 0)))=f e
 rw[sm_zero fun c hc=>by rw[if_neg (by omega)];grind,if_pos (by omega),Nat.add_zero]
 grind
def Xl(A:Mx)(n:Nat):Nat->Nat->Rat
 | 0,_=>0
 | m+1,c=>if c+(m+1)=n then(S c A c n - sm m (fun e=>S c A c (c+1+e) * Xl A n m (c+1+e))) / S c A c c else Xl A n m c
def X(A:Mx)(n c:Nat):Rat:=Xl A n n c
end Bar
namespace Bar
def E(A:Mx)(m i j:Nat):Int:=(p m A * S m A i j).num
def P(A:Mx)(k:Nat):Int:=(p k A).num
section
variable{A:Mx}(hz:∀ i c,isZ (A i c))
include hz
end
section
variable{A:Mx}(hz:∀ i c,isZ (A i c))
include hz
end
end Bar
set_option maxHeartbeats 4000000
namespace My
open PySem PySem.Spec L2 DL
set_option hygiene false
local macro_rules
 | `("e"^$q $s $k $b) => `(DefOk P w K mg base CT $s $k $b [] $q)
 | `("f"^$k $l $b $q) => `(FnOk P w K mg base CX0 $k f fd $l (SpD K CT $b $q))
set_option hygiene true
theorem Rm{k k1:Nat}{A:Around}(h:Room k1 A)(e:k<=k1:=by decide):Room k A:=h.mono e
def top(i:Nat):Stmt:=PySem.Challenge.pw_dockethall_k58_one_handling_in_the_book.main.body.getD i (.Pass ⟨0,0,0,0⟩)
def Qj:List Str:=["Deal","Bundle","Copy","Rows","Office"]
def Qc:List Str:=["Deal","Bundle","Copy","Rows"]
def Qu:List Str:=["Office"]
noncomputable section
variable{P:Program}{w:World}{K:W.Frag}{mg:Str->Option Value}{base:Heap}{CT:CTab}{f:Addr}{fd:FuncData}{dV:Value}
abbrev Qd8:Stmt:=top 62
theorem QC7:Qm ["_law_script","_law_k"] ["_law_script","_law_k"] (Qd Qd8):=⟨rfl,rfl,rfl,dk,rfl,dk,dk⟩
def Qfr:SD->Out Fl:=(sSeq (sIf (tVal (e2 dLt (eVar 1) (eA fLen ‹"w"›))) (sRet (e2 dIx (eVar 0) (eVar 1))) sNil) (sRet (eC (.int 0))))
def Q3:List D->Out D:=bodyF false 2 2 Qfr
theorem Qqr(d0 d1:D):Q3 [d0,d1]=(Qfr ‹"u"›>>=retF false):=rfl
theorem QFy(F:FunV K "_law_cell" "_law_cell" Qd8 f fd dV)(z_len:mg "len"=none):"f"^1 ["_law_script","_law_k"] false Q3:=
 (@fnV P w K mg base CT false _ _ _ f fd dV _ _ 0 Qfr F QC7 fun cdv A outer s H E G hr=>
  (Qf (ds_if (dt_lt (DE.db (Qa 1)) ‹"k"›) (Qh (Qx (de_ix (Qa 0) (DE.db (Qa 1))))) QV) (Qh (Qx Qe))) :)
abbrev Qdv:Stmt:=top 64
theorem Qhn:Qm ["_law_cell_here","_law_k","_law_number"] ["_law_cell_here","_law_k"] (Qd Qdv):=⟨rfl,rfl,rfl,dk,rfl,dk,dk⟩
def Qgd:SD->Out Fl:=(sSeq (sSet 2 (e2 dMul (e2 dAdd (e2 dAdd (e2 dAdd (e2 dMod (eVar 0) (eC (.int 1000000007))) (e2 dMul (e2 dMul (eC (.int 7919)) (eVar 1)) (eVar 1))) (e2 dMul (eC (.int 31)) (eVar 1))) (eC (.int 1))) (eC (.int 6364136223846793005)))) (sSeq (sSet 2 (e2 dMod (eVar 2) (eC (.int 2305843009213693951)))) (sRet (e2 dMod (e2 dMul (eVar 2) (eVar 2)) (eC (.int 2305843009213693951))))))
def QH:List D->Out D:=bodyF false 2 3 Qgd
theorem QBu(d0 d1:D):QH [d0,d1]=(Qgd [some (.k,d0),some (.k,d1),none]>>=retF false):=rfl
theorem QAK(F:FunV K "_law_mixed" "_law_mixed" Qdv f fd dV)  : "f"^1 ["_law_cell_here","_law_k"] false QH:=
 (@fnV P w K mg base CT false _ _ _ f fd dV _ _ 0 Qgd F Qhn fun cdv A outer s H E G hr=>
  (Qf (Qw (i:=2) Qhn.nd rfl (oi rfl) (QaC (DE.db (Qaf (DE.db (Qaf (DE.db (Qaf (DE.db (Qar (DE.db (Qa 0)) (DE.db Qe))) (DE.db (QaC (DE.db (QaC (DE.db Qe) (DE.db (Qa 1)))) (DE.db (Qa 1)))))) (DE.db (QaC (DE.db Qe) (DE.db (Qa 1)))))) (DE.db Qe))) (DE.db Qe))) (Qf (Qw (i:=2) Qhn.nd rfl (oi rfl) (Qar (DE.db (Qa 2)) (DE.db Qe))) (Qh (Qx (Qar (DE.db (QaC (DE.db (Qa 2)) (DE.db (Qa 2)))) (DE.db Qe)))))) :)
abbrev Qc2:Stmt:=top 70
theorem QeJ:Qm ["_law_number","_law_many","_law_found","_law_k"] ["_law_number","_law_many"] (Qd Qc2):=⟨rfl,rfl,rfl,dk,rfl,dk,dk⟩
def QcZ:SD->Out Fl:=(sSeq (QaX 2 (e2 dIx (eLst (aCons (eC (.int 0)) (aCons (eC (.int 1)) (aCons (eC (.int 0)) (aCons (eC (.int 2)) (aCons (eC (.int 1)) (aCons (eC (.int 0)) (aCons (eC (.int 1)) (aCons (eC (.int 0)) aNil))))))))) (e2 dMod (eVar 0) (eC (.int 8))))) (sSet 0 (e2 dFdiv (eVar 0) (eC (.int 8)))))
def QfL:SD->Out Fl:=(sSeq (sSetO 2 (eLst aNil)) (sSeq (sFor (gN 3) (itR1 (eVar 1)) QcZ) (sRetO 2)))
def QbF:List D->Out D:=bodyF true 2 4 QfL
theorem Qzm(d0 d1:D):QbF [d0,d1]=(QfL [some (.k,d0),some (.k,d1),none,none]>>=retF true):=rfl
theorem QyD(F:FunV K "_law_counts" "_law_counts" Qc2 f fd dV)(z_range:mg "range"=none):"f"^1 ["_law_number","_law_many"] true QbF:=
 (@fnV P w K mg base CT true _ _ _ f fd dV _ _ 0 QfL F QeJ fun cdv A outer s H E G hr=>
  (Qf (Qb4 (i:=2) QeJ.nd rfl (oi rfl) (Qa7 Qg)) (Qf (Qbp PassesOwn.never rfl (QaP rfl z_range (DE.db (Qa 1))) (Qy (i:=3) QeJ.nd rfl (oi rfl)) (Qt _) (Qf (QbW 2 (de_ix (DF.de (Qa7 (Qb Qe (Qb Qe (Qb Qe (Qb Qe (Qb Qe (Qb Qe (Qb Qe (Qb Qe Qg)))))))))) (DE.db (Qar (DE.db (Qa 0)) (DE.db Qe)))) rfl (oi rfl)) (Qh (Qw (i:=0) QeJ.nd rfl (oi rfl) (Qbf (DE.db (Qa 0)) (DE.db Qe)))))) (Qh (QiM 2 rfl (oi rfl))))) :)
abbrev Qda:Stmt:=top 71
theorem QdB:Qm ["_law_number","_law_kind","_law_size","_law_rows_here","_law_s"] ["_law_number"] (Qd Qda):=⟨rfl,rfl,rfl,dk,rfl,dk,dk⟩
abbrev QuZ:Scope:={ kind:=ScopeKind.function,names:=[ (Str.ofString ".0",NameKind.local),(Str.ofString "_law_k",NameKind.local),(Str.ofString "int",NameKind.globalImplicit),(Str.ofString "_law_s",NameKind.free)],isGenerator:=false,isCoroutine:=false,more:=[]:Scope }
theorem Qlr:QB ["_law_k","_law_s"] [none,some 4] QuZ (Qd Qda) ["_law_number","_law_kind","_law_size","_law_rows_here","_law_s"]:=⟨rfl,dk,dk,rfl,dk,dk⟩
def Qhq:SD->Out D:=(eA (f1 dInt) (aCons (e2 dEq (eVar 0) (eVar 1)) aNil))
def Q6:SD->Out Fl:=(sSeq (sIf (tVal (e2 dEq (eVar 1) (eC (.int 0)))) (QaX 3 (eComp [none,some 4] (itR1 (eVar 2)) (gN 0) cTrue Qhq)) sNil) (sSeq (sIf (tVal (e2 dEq (eVar 1) (eC (.int 1)))) (QaX 3 (eLst (aCons (eA (f1 dInt) (aCons (e2 dEq (eVar 4) (e2 dSub (eVar 2) (eC (.int 1)))) aNil)) aNil))) sNil) (sIf (tVal (e2 dEq (eVar 1) (eC (.int 3)))) (QaX 3 (eA (fun xs=>QbF (xs++[])) (aCons (e2 dAdd (e2 dFdiv (eVar 0) (eC (.int 64))) (e2 dMul (e2 dMul (eC (.int 48271)) (eVar 4)) (eVar 4))) (aCons (e2 dMod (e2 dFdiv (eVar 0) (eC (.int 16))) (eC (.int 4))) aNil)))) sNil)))
def Qdd:SD->Out Fl:=(sSeq (sSet 1 (e2 dMod (eVar 0) (eC (.int 4)))) (sSeq (sSet 2 (e2 dAdd (eC (.int 1)) (e2 dMod (e2 dFdiv (eVar 0) (eC (.int 4))) (eC (.int 4))))) (sSeq (sSetO 3 (eLst aNil)) (sSeq (sFor (gN 4) (itR1 (eVar 2)) Q6) (sSeq (sIf (tVal (e2 dEq (eVar 1) (eC (.int 2)))) (sSetO 3 (eLst (aCons (eA (fun xs=>QbF (xs++[])) (aCons (e2 dFdiv (eVar 0) (eC (.int 64))) (aCons (e2 dSub (eVar 2) (eC (.int 1))) aNil))) aNil))) sNil) (fun ς=>(sRet (eTup (aCons (eVar 1) (aCons (eVar 3) aNil)))) (frz 3 ς)))))))
def Qcq:List D->Out D:=bodyF false 1 5 Qdd
theorem QgT(d0:D):Qcq [d0]=(Qdd [some (.k,d0),none,none,none,none]>>=retF false):=rfl
theorem QE0(F:FunV K "_law_rows" "_law_rows" Qda f fd dV)(QlT:"e"^QbF "_law_counts" 1 true)(z_range:mg "range"=none)(z_int:mg "int"=none):"f"^2 ["_law_number"] false Qcq:=
 (@fnV P w K mg base CT false _ _ _ f fd dV _ _ 1 Qdd F QdB fun cdv A outer s H E G hr=>
  (Qf (Qw (i:=1) QdB.nd rfl (oi rfl) (Qar (DE.db (Qa 0)) (DE.db Qe))) (Qf (Qw (i:=2) QdB.nd rfl (oi rfl) (Qaf (DE.db Qe) (DE.db (Qar (DE.db (Qbf (DE.db (Qa 0)) (DE.db Qe))) (DE.db Qe))))) (Qf (Qb4 (i:=3) QdB.nd rfl (oi rfl) (Qa7 Qg)) (Qf (Qbp PassesOwn.never rfl (QaP rfl z_range (DE.db (Qa 2))) (Qy (i:=4) QdB.nd rfl (Or.inr rfl)) (Qt _) (Qf (ds_if (dt_eq hr.units (DE.db (Qa 1)) (DE.db Qe)) (Qh (QbW 3 (DF.de (QU rfl Qlr (DI.b (QaP rfl z_range (DE.db (Qa 2)))) ‹"f"› (Qt _) (fun fp s H G p=>⟨(Qy (i:=0) Qlr.nd rfl (oi rfl) (hf:=Or.inr rfl)),QM,(QEO rfl z_int (Qv (DE.db (de_eq hr.units (DE.db (Qa 0)) (DE.db (Qa 1)))) Qz))⟩))) rfl (oi rfl))) QV) (Qf (ds_if (dt_eq hr.units (DE.db (Qa 1)) (DE.db Qe)) (Qh (QbW 3 (DF.de (Qa7 (Qb (QEO rfl z_int (Qv (DE.db (de_eq hr.units (DE.db (Qa 4)) (DE.db (Qa6 (DE.db (Qa 2)) (DE.db Qe))))) Qz)) Qg))) rfl (oi rfl))) QV) (Qh (ds_if (dt_eq hr.units (DE.db (Qa 1)) (DE.db Qe)) (Qh (QbW 3 (de_f QlT (Rm hr) (Qb (Qaf (DE.db (Qbf (DE.db (Qa 0)) (DE.db Qe))) (DE.db (QaC (DE.db (QaC (DE.db Qe) (DE.db (Qa 4)))) (DE.db (Qa 4))))) (Qb (Qar (DE.db (Qbf (DE.db (Qa 0)) (DE.db Qe))) (DE.db Qe)) Qg)) rfl) rfl (oi rfl))) QV))))) (Qf (ds_if (dt_eq hr.units (DE.db (Qa 1)) (DE.db Qe)) (Qh (Qb4 (i:=3) QdB.nd rfl (oi rfl) (Qa7 (Qb (de_f QlT (Rm hr) (Qb (Qbf (DE.db (Qa 0)) (DE.db Qe)) (Qb (Qa6 (DE.db (Qa 2)) (DE.db Qe)) Qg)) rfl) Qg)))) QV) (Qh (QlN 3 (Qx (Qb9 (Qb (Qa 1) (Qb (Qa 3) Qg))))))))))) :)
abbrev Qeh:Stmt:=top 72
theorem Qap:Qm ["_law_script","_law_first","_law_many","_law_doors","_law_ring","_law_plan_here","_law_k","_law_number","_law_kind","_law_rows_here","_law_leads","_law_o","_law_to"] ["_law_script"] (Qd Qeh):=⟨rfl,rfl,rfl,dk,rfl,dk,dk⟩
def QdL:SD->Out Fl:=(sSeq (sSet 12 (e2 dMod (eA (fun xs=>QH (xs++[])) (aCons (eVar 7) (aCons (eVar 11) aNil))) (e2 dAdd (eVar 2) (eVar 3)))) (sSeq (sIf (tAnd' (tNot' (tVal (eVar 4))) (tVal (e2 dLe (eVar 12) (eVar 6)))) (sSet 12 (e2 dAdd (eVar 2) (e2 dMod (eVar 12) (eVar 3)))) sNil) (QaX 10 (eIf (tVal (e2 dLt (eVar 12) (eVar 2))) (eVar 12) (e2 dSub (e2 dSub (eVar 2) (eC (.int 1))) (eVar 12))))))
def QfF:SD->Out Fl:=(sSeq (sSet 7 (eA (fun xs=>QH (xs++[])) (aCons (eA (fun xs=>Q3 (xs++[])) (aCons (eVar 0) (aCons (e2 dAdd (eC (.int 1)) (eVar 6)) aNil))) (aCons (e2 dAdd (eVar 6) (eC (.int 3))) aNil)))) (sSeq (sUnp [8,9] (eA (fun xs=>Qcq (xs++[])) (aCons (e2 dFdiv (eVar 7) (eC (.int 7))) aNil))) (sSeq (sSetO 10 (eLst aNil)) (sSeq (sFor (gN 11) (itR1 (eA fLen (aCons (e2 dIx (eVar 9) (eC (.int 0))) aNil))) QdL) (fun ς=>(QaX 5 ‹"z"›) (frz 10 ς))))))
def QgQ:SD->Out Fl:=(sSeq (sSet 1 (eA (fun xs=>Q3 (xs++[])) (aCons (eVar 0) (aCons (eC (.int 0)) aNil)))) (sSeq (sSet 2 (e2 dAdd (eC (.int 1)) (e2 dMod (eA (fun xs=>QH (xs++[])) (aCons (eVar 1) (aCons (eC (.int 0)) aNil))) (eC (.int 5))))) (sSeq (sSet 3 (e2 dAdd (eC (.int 1)) (e2 dMod (eA (fun xs=>QH (xs++[])) (aCons (eVar 1) (aCons (eC (.int 1)) aNil))) (eC (.int 3))))) (sSeq (sSet 4 (e2 dEq (e2 dMod (eA (fun xs=>QH (xs++[])) (aCons (eVar 1) (aCons (eC (.int 2)) aNil))) (eC (.int 2))) (eC (.int 1)))) (sSeq (sSetO 5 (eLst aNil)) (sSeq (sFor (gN 6) (itR1 (eVar 2)) QfF) (fun ς=>(sRet (eTup (aCons (eVar 5) (aCons (eVar 3) aNil)))) (frz 5 ς))))))))
def Qdh:List D->Out D:=bodyF false 1 13 QgQ
theorem QHj(d0:D):Qdh [d0]=(QgQ [some (.k,d0),none,none,none,none,none,none,none,none,none,none,none,none]>>=retF false):=rfl
theorem QGy(F:FunV K "_law_plan" "_law_plan" Qeh f fd dV)(Qeq:"e"^Q3 "_law_cell" 1 false)(Qau:"e"^QH "_law_mixed" 1 false)(QE8:"e"^Qcq "_law_rows" 2 false)(z_range:mg "range"=none)(z_len:mg "len"=none):"f"^3 ["_law_script"] false Qdh:=
 (@fnV P w K mg base CT false _ _ _ f fd dV _ _ 2 QgQ F Qap fun cdv A outer s H E G hr=>
  (Qf (Qw (i:=1) Qap.nd rfl (oi rfl) (de_f Qeq (Rm hr) (Qb (Qa 0) (Qb Qe Qg)) rfl)) (Qf (Qw (i:=2) Qap.nd rfl (oi rfl) (Qaf (DE.db Qe) (DE.db (Qar (DE.db (de_f Qau (Rm hr) (Qb (Qa 1) (Qb Qe Qg)) rfl)) (DE.db Qe))))) (Qf (Qw (i:=3) Qap.nd rfl (oi rfl) (Qaf (DE.db Qe) (DE.db (Qar (DE.db (de_f Qau (Rm hr) (Qb (Qa 1) (Qb Qe Qg)) rfl)) (DE.db Qe))))) (Qf (Qw (i:=4) Qap.nd rfl (oi rfl) (de_eq hr.units (DE.db (Qar (DE.db (de_f Qau (Rm hr) (Qb (Qa 1) (Qb Qe Qg)) rfl)) (DE.db Qe))) (DE.db Qe))) (Qf (Qb4 (i:=5) Qap.nd rfl (oi rfl) (Qa7 Qg)) (Qf (Qbp PassesOwn.never rfl (QaP rfl z_range (DE.db (Qa 2))) (Qy (i:=6) Qap.nd rfl (oi rfl)) (Qt _) (Qf (Qw (i:=7) Qap.nd rfl (oi rfl) (de_f Qau (Rm hr) (Qb (de_f Qeq (Rm hr) (Qb (Qa 0) (Qb (Qaf (DE.db Qe) (DE.db (Qa 6))) Qg)) rfl) (Qb (Qaf (DE.db (Qa 6)) (DE.db Qe)) Qg)) rfl)) (Qf (QlW rfl (de_f QE8 (Rm hr) (Qb (Qbf (DE.db (Qa 7)) (DE.db Qe)) Qg) rfl) (QE (i:=8) Qap.nd rfl (oi rfl) (QE (i:=9) Qap.nd rfl (oi rfl) Qbe))) (Qf (Qb4 (i:=10) Qap.nd rfl (oi rfl) (Qa7 Qg)) (Qf (Qbp PassesOwn.never rfl (QaP rfl z_range (DE.db (Qak rfl z_len (Qv (DE.db (de_ix (Qa 9) (DE.db Qe))) Qz)))) (Qy (i:=11) Qap.nd rfl (oi rfl)) (Qt _) (Qf (Qw (i:=12) Qap.nd rfl (oi rfl) (Qar (DE.db (de_f Qau (Rm hr) (Qb (Qa 7) (Qb (Qa 11) Qg)) rfl)) (DE.db (Qaf (DE.db (Qa 2)) (DE.db (Qa 3)))))) (Qf (ds_if (DW.dt (QQh (Qae (Qag (Qa 4))) (QMN (dt_le (DE.db (Qa 12)) (DE.db (Qa 6)))))) (Qh (Qw (i:=12) Qap.nd rfl (oi rfl) (Qaf (DE.db (Qa 2)) (DE.db (Qar (DE.db (Qa 12)) (DE.db (Qa 3))))))) QV) (Qh (QbW 10 (de_if (dt_lt (DE.db (Qa 12)) (DE.db (Qa 2))) (Qa 12) (Qa6 (DE.db (Qa6 (DE.db (Qa 2)) (DE.db Qe))) (DE.db (Qa 12)))) rfl (oi rfl)))))) (Qh (QlN 10 (QbW 5 (Qb9 (Qb (Qa 8) (Qb (Qa 9) (Qb (Qa 10) (Qb (Qar (DE.db (Qar (DE.db (Qa 7)) (DE.db Qe))) (DE.db (Qak rfl z_len (Qv (DE.db (Qa 9)) Qz)))) Qg))))) rfl (oi rfl))))))))) (Qh (QlN 5 (Qx (Qb9 (Qb (Qa 5) (Qb (Qa 3) Qg)))))))))))) :)
abbrev Qdu:Stmt:=top 75
theorem Qfz:Qm ["_law_script","_law_many","_law_desks_here","_law_k","_law_number"] ["_law_script","_law_many"] (Qd Qdu):=⟨rfl,rfl,rfl,dk,rfl,dk,dk⟩
def QeG:SD->Out Fl:=(sSeq (sSet 4 (eA (fun xs=>QH (xs++[])) (aCons (eA (fun xs=>Q3 (xs++[])) (aCons (eVar 0) (aCons (e2 dAdd (eC (.int 6)) (eVar 3)) aNil))) (aCons (e2 dAdd (eVar 3) (eC (.int 20))) aNil)))) (QaX 2 (e2 dIx (eLst (aCons (eC (.int 0)) (aCons (eC (.int 1)) (aCons (eC (.int 2)) (aCons (eC (.int 3)) (aCons (eC (.int 0)) (aCons (eC (.int 5)) aNil))))))) (e2 dMod (eVar 4) (eC (.int 6))))))
def Qf0:SD->Out Fl:=(sSeq (sSetO 2 (eLst aNil)) (sSeq (sFor (gN 3) (itR1 (eVar 1)) QeG) (sRetO 2)))
def Qcv:List D->Out D:=bodyF true 2 5 Qf0
theorem QBB(d0 d1:D):Qcv [d0,d1]=(Qf0 [some (.k,d0),some (.k,d1),none,none,none]>>=retF true):=rfl
theorem QB5(F:FunV K "_law_desks" "_law_desks" Qdu f fd dV)(Qau:"e"^QH "_law_mixed" 1 false)(Qeq:"e"^Q3 "_law_cell" 1 false)(z_range:mg "range"=none):"f"^2 ["_law_script","_law_many"] true Qcv:=
 (@fnV P w K mg base CT true _ _ _ f fd dV _ _ 1 Qf0 F Qfz fun cdv A outer s H E G hr=>
  (Qf (Qb4 (i:=2) Qfz.nd rfl (oi rfl) (Qa7 Qg)) (Qf (Qbp PassesOwn.never rfl (QaP rfl z_range (DE.db (Qa 1))) (Qy (i:=3) Qfz.nd rfl (oi rfl)) (Qt _) (Qf (Qw (i:=4) Qfz.nd rfl (oi rfl) (de_f Qau (Rm hr) (Qb (de_f Qeq (Rm hr) (Qb (Qa 0) (Qb (Qaf (DE.db Qe) (DE.db (Qa 3))) Qg)) rfl) (Qb (Qaf (DE.db (Qa 3)) (DE.db Qe)) Qg)) rfl)) (Qh (QbW 2 (de_ix (DF.de (Qa7 (Qb Qe (Qb Qe (Qb Qe (Qb Qe (Qb Qe (Qb Qe Qg)))))))) (DE.db (Qar (DE.db (Qa 4)) (DE.db Qe)))) rfl (oi rfl))))) (Qh (QiM 2 rfl (oi rfl))))) :)
abbrev QcG:Stmt:=top 80
theorem Qhb:Qm ["_law_script","_law_plan_here","_law_doors"] ["_law_script"] (Qd QcG):=⟨rfl,rfl,rfl,dk,rfl,dk,dk⟩
abbrev QsL:Scope:={ kind:=ScopeKind.function,names:=[(Str.ofString ".0",NameKind.local),(Str.ofString "_law_row",NameKind.local)],isGenerator:=false,isCoroutine:=false,more:=[]:Scope }
theorem Qj9:QB ["_law_row"] [none] QsL (Qd QcG) ["_law_script","_law_plan_here","_law_doors"]:=⟨rfl,dk,dk,rfl,dk,dk⟩
def QgE:SD->Out D:=(e2 dIx (eVar 0) (eC (.int 3)))
def Qf4:SD->Out Fl:=(sSeq (sUnp [1,2] (eA (fun xs=>Qdh (xs++[])) ‹"w"›)) (sRet (eTup (aCons (eVar 1) (aCons (eVar 2) (aCons (eComp [none] (itL (eVar 1)) (gN 0) cTrue QgE) (aCons (eA (fun xs=>Qcv (xs++[])) (aCons (eVar 0) (aCons (eA fLen ‹"q"›) aNil))) aNil)))))))
def QcF:List D->Out D:=bodyF false 1 3 Qf4
theorem QBA(d0:D):QcF [d0]=(Qf4 [some (.k,d0),none,none]>>=retF false):=rfl
theorem QAI(F:FunV K "_law_begin" "_law_begin" QcG f fd dV)(QF9:"e"^Qdh "_law_plan" 3 false)(QBJ:"e"^Qcv "_law_desks" 2 true)(z_len:mg "len"=none):"f"^4 ["_law_script"] false QcF:=
 (@fnV P w K mg base CT false _ _ _ f fd dV _ _ 3 Qf4 F Qhb fun cdv A outer s H E G hr=>
  (Qf (QlW rfl (de_f QF9 (Rm hr) (Qb (Qa 0) Qg) rfl) (QE (i:=1) Qhb.nd rfl (oi rfl) (QE (i:=2) Qhb.nd rfl (oi rfl) Qbe))) (Qh (Qx (Qb9 (Qb (Qa 1) (Qb (Qa 2) (Qb (DF.de (QU rfl Qj9 (DI.b (QZ (Qa 1))) ‹"f"› (Qt _) (fun fp s H G p=>⟨(Qy (i:=0) Qj9.nd rfl (oi rfl) (hf:=Or.inr rfl)),QM,‹"e"›⟩))) (Qb (de_f QBJ (Rm hr) (Qb (Qa 0) (Qb (Qak rfl z_len (Qv (DE.db (Qa 1)) Qz)) Qg)) rfl) Qg)))))))) :)
abbrev Qdy:Stmt:=top 58
theorem QcW:Qm ["names","doors","places","k","name","d","door"] ["names","doors"] (Qd Qdy):=⟨rfl,rfl,rfl,dk,rfl,dk,dk⟩
def QeS:SD->Out Fl:=(sPutD 2 (eVar 4) (eVar 3))
def QeP:SD->Out Fl:=(sPutD 2 (eVar 6) (e2 dSub (e1 dNeg (eC (.int 1))) (eVar 5)))
def Qf5:SD->Out Fl:=(sSeq (sSetO 2 eDic0) (sSeq (sFor (gT [3,4]) (itE (eVar 0)) QeS) (sSeq (sFor (gT [5,6]) (itE (eVar 1)) QeP) (sRetO 2))))
def QcL:List D->Out D:=bodyF true 2 7 Qf5
theorem QBP(d0 d1:D):QcL [d0,d1]=(Qf5 [some (.k,d0),some (.k,d1),none,none,none,none,none]>>=retF true):=rfl
theorem QC9(F:FunV K "places_of" "places_of" Qdy f fd dV)(z_enumerate:mg "enumerate"=none):"f"^1 ["names","doors"] true QcL:=
 (@fnV P w K mg base CT true _ _ _ f fd dV _ _ 0 Qf5 F QcW fun cdv A outer s H E G hr=>
  (Qf (Qb4 (i:=2) QcW.nd rfl (oi rfl) QMP) (Qf (Qbp PassesOwn.never rfl (Qq6 rfl z_enumerate (Qa 0)) (QdY rfl (QE (i:=3) QcW.nd rfl (oi rfl) (QE (i:=4) QcW.nd rfl (oi rfl) Qbe))) (Qcd _) (Qh (QEu hr.units 2 (DE.db (Qa 4)) (Qa 3) rfl (oi rfl)))) (Qf (Qbp PassesOwn.never rfl (Qq6 rfl z_enumerate (Qa 1)) (QdY rfl (QE (i:=5) QcW.nd rfl (oi rfl) (QE (i:=6) QcW.nd rfl (oi rfl) Qbe))) (Qcd _) (Qh (QEu hr.units 2 (DE.db (Qa 6)) (Qa6 (DE.db (Qgu (DE.db Qe))) (DE.db (Qa 5))) rfl (oi rfl)))) (Qh (QiM 2 rfl (oi rfl)))))) :)
abbrev Qe7:Stmt:=top 50
theorem QGH:Qm ["thing","most"] ["thing","most"] (Qd Qe7):=⟨rfl,rfl,rfl,dk,rfl,dk,dk⟩
def QhS:SD->Out Fl:=(sRet (eAnd (eIsa (isaT "list") (eVar 0)) (QdK dLe dLe (eC (.int 1)) (eA fLen ‹"w"›) (eVar 1))))
def Qbk:List D->Out D:=bodyF false 2 2 QhS
theorem QHO(d0 d1:D):Qbk [d0,d1]=(QhS ‹"u"›>>=retF false):=rfl
theorem QH7(F:FunV K "is_list" "is_list" Qe7 f fd dV)(z_isinstance:mg "isinstance"=none)(z_list:mg "list"=none)(z_len:mg "len"=none):"f"^1 ["thing","most"] false Qbk:=
 (@fnV P w K mg base CT false _ _ _ f fd dV _ _ 0 QhS F QGH fun cdv A outer s H E G hr=>
  (Qh (Qx (QdS ‹"N"› (Qgh (Qx0 op_le Qb3 (Qbx fun _ _=>rfl) op_le Qb3 (Qbx fun _ _=>rfl) (DE.db Qe) ‹"k"› (DE.db (Qa 1))))))) :)
abbrev QcT:Stmt:=top 51
theorem Qua:Qm ["names"] ["names"] (Qd QcT):=⟨rfl,rfl,rfl,dk,rfl,dk,dk⟩
def Qfm:SD->Out Fl:=(sRet (e2 dEq (e1 Qss (eVar 0)) (eA fLen ‹"w"›)))
def Q8:List D->Out D:=bodyF false 1 1 Qfm
theorem Qyn(d0:D):Q8 [d0]=(Qfm [some (.k,d0)]>>=retF false):=rfl
theorem QwN(F:FunV K "all_unlike" "all_unlike" QcT f fd dV)(z_len:mg "len"=none)(z_set:mg "set"=none):"f"^1 ["names"] false Q8:=
 (@fnV P w K mg base CT false _ _ _ f fd dV _ _ 0 Qfm F Qua fun cdv A outer s H E G hr=>
  (Qh (Qx (de_eq hr.units (DE.db (QIA hr.hd rfl z_len rfl z_set (DE.db (Qa 0)))) ‹"k"›))) :)
abbrev QdW:Stmt:=top 49
theorem QFr:Qm ["thing"] ["thing"] (Qd QdW):=⟨rfl,rfl,rfl,dk,rfl,dk,dk⟩
abbrev Qzf:Scope:={ kind:=ScopeKind.function,names:=[ (Str.ofString ".0",NameKind.local),(Str.ofString "sign",NameKind.local),(Str.ofString "LETTERS",NameKind.globalImplicit)],isGenerator:=false,isCoroutine:=false,more:=[]:Scope }
theorem Qm3:QB ["sign"] [none] Qzf (Qd QdW) ["thing"]:=⟨rfl,dk,dk,rfl,dk,dk⟩
def QCY:SD->Out D:=(e2 dIn (eVar 0) (eC (.str "abcdefghijklmnopqrstuvwxyz")))
def Qti:SD->Out Fl:=(sSeq (sIf (tOr' (tNot' (tVal (eIsa (isaT "str") (eVar 0)))) (tNot' (tVal (QdK dLe dLe (eC (.int 1)) (eA fLen ‹"w"›) (eC (.int 6)))))) (sRet (eC (.bl false))) sNil) (sRet (eA (f1 fAll) (aCons (eComp [none] (itS (eVar 0)) (gN 0) cTrue QCY) aNil))))
def QaB:List D->Out D:=bodyF false 1 1 Qti
theorem QJV{u_MOST_SIGNS:Value}{u_LETTERS:Value}(F:FunV K "is_name" "is_name" QdW f fd dV)(z_isinstance:mg "isinstance"=none)(z_str:mg "str"=none)(z_len:mg "len"=none)(z_all:mg "all"=none)(c_MOST_SIGNS:mg "MOST_SIGNS"=some u_MOST_SIGNS)(r_MOST_SIGNS:RelV (toV (.int 6)) u_MOST_SIGNS)(c_LETTERS:mg "LETTERS"=some u_LETTERS)(r_LETTERS:RelV (toV (.str "abcdefghijklmnopqrstuvwxyz")) u_LETTERS):"f"^1 ["thing"] false QaB:=
 (@fnV P w K mg base CT false _ _ _ f fd dV _ _ 0 Qti F QFr fun cdv A outer s H E G hr=>
  (Qf (ds_if (DW.dt (dw_or (Qae (Qag (QbY "str" QEi rfl z_str PyProof.Rows.Boot.«str» rfl z_isinstance (DE.db (Qa 0))))) (QdT (Qae (Qz6 op_le Qb3 (Qbx fun _ _=>rfl) op_le Qb3 (Qbx fun _ _=>rfl) (DE.db Qe) ‹"k"› (DE.db (Qdw (d:=(.int 6)) rfl c_MOST_SIGNS rfl r_MOST_SIGNS))))))) (Qh (Qx de_bl)) QV) (Qh (Qx (Qgi rfl rfl z_all (Qv (DE.db (DF.de (QU rfl Qm3 (DI.b (QO9 (DE.db (Qa 0)))) ‹"f"› (Qt _) (fun fp s H G p=>⟨(Qy (i:=0) Qm3.nd rfl (oi rfl) (hf:=Or.inr rfl)),QM,(de_in (DE.db (Qa 0)) (DE.db (Qdw (d:=(.str "abcdefghijklmnopqrstuvwxyz")) rfl c_LETTERS rfl r_LETTERS)))⟩)))) Qz))))) :)
abbrev Qcy:Stmt:=top 52
theorem QyK:Qm ["thing","most"] ["thing","most"] (Qd Qcy):=⟨rfl,rfl,rfl,dk,rfl,dk,dk⟩
abbrev QsT:Scope:={ kind:=ScopeKind.function,names:=[ (Str.ofString ".0",NameKind.local),(Str.ofString "name",NameKind.local),(Str.ofString "is_name",NameKind.globalImplicit)],isGenerator:=false,isCoroutine:=false,more:=[]:Scope }
theorem Qkd:QB ["name"] [none] QsT (Qd Qcy) ["thing","most"]:=⟨rfl,dk,dk,rfl,dk,dk⟩
def Qgw:SD->Out D:=(eA (fun xs=>QaB (xs++[])) ‹"w"›)
def Qf9:SD->Out Fl:=(sRet (eAnd (eA (fun xs=>Qbk (xs++[])) (aCons (eVar 0) ‹"q"›)) (eAnd (eA (f1 fAll) (aCons (eComp [none] (itL (eVar 0)) (gN 0) cTrue Qgw) aNil)) (eA (fun xs=>Q8 (xs++[])) ‹"w"›))))
def QcA:List D->Out D:=bodyF false 2 2 Qf9
theorem QA0(d0 d1:D):QcA [d0,d1]=(Qf9 ‹"u"›>>=retF false):=rfl
theorem QDn(F:FunV K "are_names" "are_names" Qcy f fd dV)(Qgs:"e"^Qbk "is_list" 1 false)(Qe9:"e"^QaB "is_name" 1 false)(Qd2:"e"^Q8 "all_unlike" 1 false)(z_all:mg "all"=none):"f"^2 ["thing","most"] false QcA:=
 (@fnV P w K mg base CT false _ _ _ f fd dV _ _ 1 Qf9 F QyK fun cdv A outer s H E G hr=>
  (Qh (Qx (QdS (de_f Qgs (Rm hr) (Qb (Qa 0) (Qb (Qa 1) Qg)) rfl) (QdS (Qgi rfl rfl z_all (Qv (DE.db (DF.de (QU rfl Qkd (DI.b (QZ (Qa 0))) ‹"f"› (Qt _) (fun fp s H G p=>⟨(Qy (i:=0) Qkd.nd rfl (oi rfl) (hf:=Or.inr rfl)),QM,(de_f Qe9 (Rm hr) (Qb (Qa 0) Qg) rfl)⟩)))) Qz)) (Qgh (de_f Qd2 (Rm hr) (Qb (Qa 0) Qg) rfl)))))) :)
abbrev QcC:Stmt:=top 53
theorem QwU:Qm ["thing","many"] ["thing","many"] (Qd QcC):=⟨rfl,rfl,rfl,dk,rfl,dk,dk⟩
abbrev Qrf:Scope:={ kind:=ScopeKind.function,names:=[ (Str.ofString ".0",NameKind.local),(Str.ofString "text",NameKind.local),(Str.ofString "isinstance",NameKind.globalImplicit),(Str.ofString "str",NameKind.globalImplicit)],isGenerator:=false,isCoroutine:=false,more:=[]:Scope }
theorem Qkj:QB ["text"] [none] Qrf (Qd QcC) ["thing","many"]:=⟨rfl,dk,dk,rfl,dk,dk⟩
def Qgv:SD->Out D:=(eIsa (isaT "str") (eVar 0))
def Qgc:SD->Out Fl:=(sRet (eAnd (eIsa (isaT "list") (eVar 0)) (eAnd (e2 dEq (eA fLen ‹"w"›) (eVar 1)) (eA (f1 fAll) (aCons (eComp [none] (itL (eVar 0)) (gN 0) cTrue Qgv) aNil)))))
def QcJ:List D->Out D:=bodyF false 2 2 Qgc
theorem QB9(d0 d1:D):QcJ [d0,d1]=(Qgc ‹"u"›>>=retF false):=rfl
theorem QAB(F:FunV K "are_texts" "are_texts" QcC f fd dV)(z_isinstance:mg "isinstance"=none)(z_list:mg "list"=none)(z_len:mg "len"=none)(z_all:mg "all"=none)(z_str:mg "str"=none):"f"^1 ["thing","many"] false QcJ:=
 (@fnV P w K mg base CT false _ _ _ f fd dV _ _ 0 Qgc F QwU fun cdv A outer s H E G hr=>
  (Qh (Qx (QdS ‹"N"› (QdS (de_eq hr.units ‹"k"› (DE.db (Qa 1))) (Qgh (Qgi rfl rfl z_all (Qv (DE.db (DF.de (QU rfl Qkj (DI.b (QZ (Qa 0))) ‹"f"› (Qt _) (fun fp s H G p=>⟨(Qy (i:=0) Qkj.nd rfl (oi rfl) (hf:=Or.inr rfl)),QM,(QbY "str" QEi rfl z_str PyProof.Rows.Boot.«str» rfl z_isinstance (DE.db (Qa 0)))⟩)))) Qz))))))) :)
abbrev Qel:Stmt:=top 8
theorem QD4:Qm ["thing"] ["thing"] (Qd Qel):=⟨rfl,rfl,rfl,dk,rfl,dk,dk⟩
def QfN:SD->Out Fl:=(sRet (eAnd (eIsa (isaT "int") (eVar 0)) (eNot (eIsa (isaT "bool") (eVar 0)))))
def QaU:List D->Out D:=bodyF false 1 1 QfN
theorem QGF(d0:D):QaU [d0]=(QfN [some (.k,d0)]>>=retF false):=rfl
theorem QFc(F:FunV K "is_whole" "is_whole" Qel f fd dV)(z_isinstance:mg "isinstance"=none)(z_int:mg "int"=none)(z_bool:mg "bool"=none):"f"^1 ["thing"] false QaU:=
 (@fnV P w K mg base CT false _ _ _ f fd dV _ _ 0 QfN F QD4 fun cdv A outer s H E G hr=>
  (Qh (Qx (QdS (QbY "int" QD9 rfl z_int PyProof.Rows.Boot.«int» rfl z_isinstance (DE.db (Qa 0))) (Qgh (QIe (QbY "bool" QwY rfl z_bool PyProof.Rows.Boot.«bool» rfl z_isinstance (DE.db (Qa 0)))))))) :)
abbrev QdA:Stmt:=top 9
theorem QzT:Qm ["thing","least","most"] ["thing","least","most"] (Qd QdA):=⟨rfl,rfl,rfl,dk,rfl,dk,dk⟩
def Qew:SD->Out Fl:=(sRet (eAnd (eA (fun xs=>QaU (xs++[])) ‹"w"›) (QdK dLe dLe (eVar 1) (eVar 0) (eVar 2))))
def Q5:List D->Out D:=bodyF false 3 3 Qew
theorem QmU(d0 d1 d2:D):Q5 [d0,d1,d2]=(Qew [some (.k,d0),some (.k,d1),some (.k,d2)]>>=retF false):=rfl
theorem QBs(F:FunV K "is_within" "is_within" QdA f fd dV)(QgU:"e"^QaU "is_whole" 1 false):"f"^2 ["thing","least","most"] false Q5:=
 (@fnV P w K mg base CT false _ _ _ f fd dV _ _ 1 Qew F QzT fun cdv A outer s H E G hr=>
  (Qh (Qx (QdS (de_f QgU (Rm hr) (Qb (Qa 0) Qg) rfl) (Qgh (Qx0 op_le Qb3 (Qbx fun _ _=>rfl) op_le Qb3 (Qbx fun _ _=>rfl) (DE.db (Qa 1)) (DE.db (Qa 0)) (DE.db (Qa 2))))))) :)
abbrev Qeg:Stmt:=top 41
theorem QCV:Qm ["thing"] ["thing"] (Qd Qeg):=⟨rfl,rfl,rfl,dk,rfl,dk,dk⟩
def QgO:SD->Out Fl:=(sRet (eIsa (isaTs [[("Deal",true),("Bundle",false),("Copy",false),("Rows",false),("Office",false)],[("Deal",false),("Bundle",true),("Copy",false),("Rows",false),("Office",false)],[("Deal",false),("Bundle",false),("Copy",true),("Rows",false),("Office",false)],[("Deal",false),("Bundle",false),("Copy",false),("Rows",true),("Office",false)]]) (eVar 0)))
def Qdc:List D->Out D:=bodyF false 1 1 QgO
theorem QGT(d0:D):Qdc [d0]=(QgO [some (.k,d0)]>>=retF false):=rfl
theorem QFR{QD:Addr}{Qs:Addr}{QA:Addr}{QC:Addr}(F:FunV K "is_clerk" "is_clerk" Qeg f fd dV)(z_isinstance:mg "isinstance"=none)(QPP:mg "Deal"=some (.ref QD))(QK1:mg "Bundle"=some (.ref Qs))(QQb:mg "Copy"=some (.ref QA))(QOI:mg "Rows"=some (.ref QC))(Qr9:KitI K CT (.ref QD) [("Deal",true),("Bundle",false),("Copy",false),("Rows",false),("Office",false)])(Qlm:KitI K CT (.ref Qs) [("Deal",false),("Bundle",true),("Copy",false),("Rows",false),("Office",false)])(Qq1:KitI K CT (.ref QA) [("Deal",false),("Bundle",false),("Copy",true),("Rows",false),("Office",false)])(Qrq:KitI K CT (.ref QC) [("Deal",false),("Bundle",false),("Copy",false),("Rows",true),("Office",false)]):"f"^1 ["thing"] false Qdc:=
 (@fnV P w K mg base CT false _ _ _ f fd dV _ _ 0 QgO F QCV fun cdv A outer s H E G hr=>
  (Qh (Qx (QNb (a:=QD) (as:=[Qs,QA,QC]) (QjX (QiJ (v:=.ref QD) rfl QPP rfl) (QjX (QiJ (v:=.ref Qs) rfl QK1 rfl) (QjX (QiJ (v:=.ref QA) rfl QQb rfl) (QjX (QiJ (v:=.ref QC) rfl QOI rfl) QMO)))) ⟨Qr9,Qlm,Qq1,Qrq,True.intro⟩ (by simp) rfl z_isinstance (DE.db (Qa 0))))) :)
abbrev QcV:Stmt:=inCls (top 33) 3
theorem Qvf:Qm ["self"] ["self"] (Qd QcV):=⟨rfl,rfl,rfl,dk,rfl,dk,dk⟩
def Qfo:SD->Out Fl:=(sRet (eA fLen (aCons (e2 dIx (e1 (dFld Qj "table") (eVar 0)) (eC (.int 0))) aNil)))
def QbG:List D->Out D:=bodyF false 1 1 Qfo
theorem QzN(d0:D):QbG [d0]=(Qfo [some (.k,d0)]>>=retF false):=rfl
theorem Qzk(F:FunV K "outs" "Clerk.outs" QcV f fd dV)(z_len:mg "len"=none)(fo_table:FldOk K CT Qj "table"):"f"^1 ["self"] false QbG:=
 (@fnV P w K mg base CT false _ _ _ f fd dV _ _ 0 Qfo F Qvf fun cdv A outer s H E G hr=>
  (Qh (Qx (Qak rfl z_len (Qv (DE.db (de_ix (QfD fo_table (Qa 0)) (DE.db Qe))) Qz)))) :)
abbrev QbZ:Stmt:=inCls (top 33) 2
theorem Qpg:Qm ["self"] ["self"] (Qd QbZ):=⟨rfl,rfl,rfl,dk,rfl,dk,dk⟩
def Qd9:SD->Out Fl:=(sRet (eA fLen (aCons (e1 (dFld Qj "table") (eVar 0)) aNil)))
def QI:List D->Out D:=bodyF false 1 1 Qd9
theorem Qsv(d0:D):QI [d0]=(Qd9 [some (.k,d0)]>>=retF false):=rfl
theorem Qrn(F:FunV K "period" "Clerk.period" QbZ f fd dV)(z_len:mg "len"=none)(fo_table:FldOk K CT Qj "table"):"f"^1 ["self"] false QI:=
 (@fnV P w K mg base CT false _ _ _ f fd dV _ _ 0 Qd9 F Qpg fun cdv A outer s H E G hr=>
  (Qh (Qx (Qak rfl z_len (Qv (DE.db (QfD fo_table (Qa 0))) Qz)))) :)
abbrev Qfc:Stmt:=top 54
theorem QE9:Qm ["thing"] ["thing"] (Qd Qfc):=⟨rfl,rfl,rfl,dk,rfl,dk,dk⟩
def Qh1:SD->Out Fl:=(sSeq (sIf (tOr' (tNot' (tVal (eIsa (isaT "tuple") (eVar 0)))) (tVal (e2 dNe (eA fLen ‹"w"›) (eC (.int 4))))) (sRet (eC (.bl false))) sNil) (sSeq (sIf (tOr' (tNot' (tVal (eA (fun xs=>QaB (xs++[])) (aCons ‹"t"› aNil)))) (tNot' (tVal (eA (fun xs=>Qdc (xs++[])) (aCons ‹"p"› aNil))))) (sRet (eC (.bl false))) sNil) (sRet (eAnd (eA (fun xs=>QcJ (xs++[])) (aCons (e2 dIx (eVar 0) (eC (.int 2))) (aCons (eMeth Qc "outs" (fun _=>QbG) ‹"p"› aNil) aNil))) (eA (fun xs=>Q5 (xs++[])) (aCons (e2 dIx (eVar 0) (eC (.int 3))) (aCons (eC (.int 0)) (aCons (e2 dSub (eMeth Qc "period" (fun _=>QI) ‹"p"› aNil) (eC (.int 1))) aNil))))))))
def QdZ:List D->Out D:=bodyF false 1 1 Qh1
theorem QIj(d0:D):QdZ [d0]=(Qh1 [some (.k,d0)]>>=retF false):=rfl
theorem QKk(F:FunV K "is_seat" "is_seat" Qfc f fd dV)(Qe9:"e"^QaB "is_name" 1 false)(QGk:"e"^Qdc "is_clerk" 1 false)(QA5:"e"^QcJ "are_texts" 1 false)(Qby:"e"^Q5 "is_within" 2 false)(z_isinstance:mg "isinstance"=none)(z_tuple:mg "tuple"=none)(z_len:mg "len"=none)(mt_outs:MtOk P w K mg base CT CX0 "outs" 1 Qc (fun c=>SpD K CT false ((fun _=>QbG) c)))(mt_period:‹"y"›):"f"^3 ["thing"] false QdZ:=
 (@fnV P w K mg base CT false _ _ _ f fd dV _ _ 2 Qh1 F QE9 fun cdv A outer s H E G hr=>
  (Qf (ds_if (DW.dt (dw_or (Qae (Qag (QbY "tuple" QkJ rfl z_tuple PyProof.Rows.Boot.«tuple» rfl z_isinstance (DE.db (Qa 0))))) (QdT (dt_ne hr.units ‹"k"› (DE.db Qe))))) (Qh (Qx de_bl)) QV) (Qf (ds_if (DW.dt (dw_or (Qae (Qag (de_f Qe9 (Rm hr) (Qb ‹"e"› Qg) rfl))) (QdT (Qae (Qag (de_f QGk (Rm hr) (Qb ‹"e"› Qg) rfl)))))) (Qh (Qx de_bl)) QV) (Qh (Qx (QdS (de_f QA5 (Rm hr) (Qb ‹"e"› (Qb (Qb7 mt_outs (Rm hr) ‹"e"›) Qg)) rfl) (Qgh (de_f Qby (Rm hr) (Qb ‹"e"› (Qb Qe (Qb (Qa6 (DE.db (Qb7 mt_period (Rm hr) ‹"e"›)) (DE.db Qe)) Qg))) rfl))))))) :)
abbrev QbU:Stmt:=top 55
theorem QzI:Qm ["thing","doors"] ["thing","doors"] (Qd QbU):=⟨rfl,rfl,rfl,dk,rfl,dk,dk⟩
abbrev QsA:Scope:={ kind:=ScopeKind.function,names:=[ (Str.ofString ".0",NameKind.local),(Str.ofString "seat",NameKind.local),(Str.ofString "is_seat",NameKind.globalImplicit)],isGenerator:=false,isCoroutine:=false,more:=[]:Scope }
theorem Qkp:QB ["seat"] [none] QsA (Qd QbU) ["thing","doors"]:=⟨rfl,dk,dk,rfl,dk,dk⟩
def QgC:SD->Out D:=(eA (fun xs=>QdZ (xs++[])) ‹"w"›)
abbrev QqZ:Scope:={ kind:=ScopeKind.function,names:=[(Str.ofString ".0",NameKind.local),(Str.ofString "seat",NameKind.local)],isGenerator:=false,isCoroutine:=false,more:=[]:Scope }
theorem Qke:QB ["seat"] [none] QqZ (Qd QbU) ["thing","doors"]:=⟨rfl,dk,dk,rfl,dk,dk⟩
def QgA:SD->Out D:=‹"t"›
def Qf6:SD->Out Fl:=(sSeq (sIf (tOr' (tNot' (tVal (eA (fun xs=>Qbk (xs++[])) (aCons (eVar 0) (aCons (eC (.int 60)) aNil))))) (tNot' (tVal (eA (f1 fAll) (aCons (eComp [none] (itL (eVar 0)) (gN 0) cTrue QgC) aNil))))) (sRet (eC (.bl false))) sNil) (sRet (eA (fun xs=>Q8 (xs++[])) (aCons (e2 dCat (eComp [none] (itL (eVar 0)) (gN 0) cTrue QgA) (eVar 1)) aNil))))
def QcH:List D->Out D:=bodyF false 2 2 Qf6
theorem QAL(d0 d1:D):QcH [d0,d1]=(Qf6 ‹"u"›>>=retF false):=rfl
theorem QDi{u_MOST_CLERKS:Value}(F:FunV K "are_seats" "are_seats" QbU f fd dV)(Qgs:"e"^Qbk "is_list" 1 false)(QKa:"e"^QdZ "is_seat" 3 false)(Qd2:"e"^Q8 "all_unlike" 1 false)(z_all:mg "all"=none)(c_MOST_CLERKS:mg "MOST_CLERKS"=some u_MOST_CLERKS)(r_MOST_CLERKS:RelV (toV (.int 60)) u_MOST_CLERKS):"f"^4 ["thing","doors"] false QcH:=
 (@fnV P w K mg base CT false _ _ _ f fd dV _ _ 3 Qf6 F QzI fun cdv A outer s H E G hr=>
  (Qf (ds_if (DW.dt (dw_or (Qae (Qag (de_f Qgs (Rm hr) (Qb (Qa 0) (Qb (Qdw (d:=(.int 60)) rfl c_MOST_CLERKS rfl r_MOST_CLERKS) Qg)) rfl))) (QdT (Qae (Qag (Qgi rfl rfl z_all (Qv (DE.db (DF.de (QU rfl Qkp (DI.b (QZ (Qa 0))) ‹"f"› (Qt _) (fun fp s H G p=>⟨(Qy (i:=0) Qkp.nd rfl (oi rfl) (hf:=Or.inr rfl)),QM,(de_f QKa (Rm hr) (Qb (Qa 0) Qg) rfl)⟩)))) Qz))))))) (Qh (Qx de_bl)) QV) (Qh (Qx (de_f Qd2 (Rm hr) (Qb (DF.de (QwG (DF.de (QU rfl Qke (DI.b (QZ (Qa 0))) ‹"f"› (Qt _) (fun fp s H G p=>⟨(Qy (i:=0) Qke.nd rfl (oi rfl) (hf:=Or.inr rfl)),QM,‹"e"›⟩))) (Qa 1))) Qg) rfl)))) :)
abbrev Qec:Stmt:=top 56
theorem QAv:Qm ["thing","names"] ["thing","names"] (Qd Qec):=⟨rfl,rfl,rfl,dk,rfl,dk,dk⟩
def QgV:SD->Out Fl:=(sSeq (sIf (tOr' (tNot' (tVal (eIsa (isaT "tuple") (eVar 0)))) (tVal (e2 dNe (eA fLen ‹"w"›) (eC (.int 2))))) (sRet (eC (.bl false))) sNil) (sRet (eAnd (eA (fun xs=>QaB (xs++[])) (aCons ‹"t"› aNil)) (eAnd (eA (fun xs=>QaB (xs++[])) (aCons ‹"p"› aNil)) (e2 dInL ‹"p"› (eVar 1))))))
def Qc9:List D->Out D:=bodyF false 2 2 QgV
theorem QHc(d0 d1:D):Qc9 [d0,d1]=(QgV ‹"u"›>>=retF false):=rfl
theorem QFM(F:FunV K "is_entry" "is_entry" Qec f fd dV)(Qe9:"e"^QaB "is_name" 1 false)(z_isinstance:mg "isinstance"=none)(z_tuple:mg "tuple"=none)(z_len:mg "len"=none):"f"^2 ["thing","names"] false Qc9:=
 (@fnV P w K mg base CT false _ _ _ f fd dV _ _ 1 QgV F QAv fun cdv A outer s H E G hr=>
  (Qf (ds_if (DW.dt (dw_or (Qae (Qag (QbY "tuple" QkJ rfl z_tuple PyProof.Rows.Boot.«tuple» rfl z_isinstance (DE.db (Qa 0))))) (QdT (dt_ne hr.units ‹"k"› (DE.db Qe))))) (Qh (Qx de_bl)) QV) (Qh (Qx (QdS (de_f Qe9 (Rm hr) (Qb ‹"e"› Qg) rfl) (QdS (de_f Qe9 (Rm hr) (Qb ‹"e"› Qg) rfl) (Qgh (QKu (DE.db ‹"e"›) (DE.db (Qa 1))))))))) :)
abbrev Qbi:Stmt:=top 57
theorem QqN:Qm ["thing","names"] ["thing","names"] (Qd Qbi):=⟨rfl,rfl,rfl,dk,rfl,dk,dk⟩
abbrev Qnp:Scope:={ kind:=ScopeKind.function,names:=[ (Str.ofString ".0",NameKind.local),(Str.ofString "entry",NameKind.local),(Str.ofString "is_entry",NameKind.globalImplicit),(Str.ofString "names",NameKind.free)],isGenerator:=false,isCoroutine:=false,more:=[]:Scope }
theorem QhX:QB ["entry","names"] [none,some 1] Qnp (Qd Qbi) ["thing","names"]:=⟨rfl,dk,dk,rfl,dk,dk⟩
def Qft:SD->Out D:=(eA (fun xs=>Qc9 (xs++[])) (aCons (eVar 0) ‹"q"›))
abbrev QnL:Scope:={ kind:=ScopeKind.function,names:=[(Str.ofString ".0",NameKind.local),(Str.ofString "entry",NameKind.local)],isGenerator:=false,isCoroutine:=false,more:=[]:Scope }
theorem Qid:QB ["entry"] [none] QnL (Qd Qbi) ["thing","names"]:=⟨rfl,dk,dk,rfl,dk,dk⟩
def Qfq:SD->Out D:=‹"t"›
def QeH:SD->Out Fl:=(sSeq (sIf (tOr' (tNot' (tVal (eA (fun xs=>Qbk (xs++[])) (aCons (eVar 0) (aCons (eC (.int 6)) aNil))))) (tNot' (tVal (eA (f1 fAll) (aCons (eComp [none,some 1] (itL (eVar 0)) (gN 0) cTrue Qft) aNil))))) (sRet (eC (.bl false))) sNil) (sRet (eA (fun xs=>Q8 (xs++[])) (aCons (eComp [none] (itL (eVar 0)) (gN 0) cTrue Qfq) aNil))))
def QbN:List D->Out D:=bodyF false 2 2 QeH
theorem Qvr(d0 d1:D):QbN [d0,d1]=(QeH ‹"u"›>>=retF false):=rfl
theorem QuT{u_MOST_ENTRIES:Value}(F:FunV K "are_entries" "are_entries" Qbi f fd dV)(Qgs:"e"^Qbk "is_list" 1 false)(QFq:"e"^Qc9 "is_entry" 2 false)(Qd2:"e"^Q8 "all_unlike" 1 false)(z_all:mg "all"=none)(c_MOST_ENTRIES:mg "MOST_ENTRIES"=some u_MOST_ENTRIES)(r_MOST_ENTRIES:RelV (toV (.int 6)) u_MOST_ENTRIES):"f"^3 ["thing","names"] false QbN:=
 (@fnV P w K mg base CT false _ _ _ f fd dV _ _ 2 QeH F QqN fun cdv A outer s H E G hr=>
  (Qf (ds_if (DW.dt (dw_or (Qae (Qag (de_f Qgs (Rm hr) (Qb (Qa 0) (Qb (Qdw (d:=(.int 6)) rfl c_MOST_ENTRIES rfl r_MOST_ENTRIES) Qg)) rfl))) (QdT (Qae (Qag (Qgi rfl rfl z_all (Qv (DE.db (DF.de (QU rfl QhX (DI.b (QZ (Qa 0))) ‹"f"› (Qt _) (fun fp s H G p=>⟨(Qy (i:=0) QhX.nd rfl (oi rfl) (hf:=Or.inr rfl)),QM,(de_f QFq (Rm hr) (Qb (Qa 0) (Qb (Qa 1) Qg)) rfl)⟩)))) Qz))))))) (Qh (Qx de_bl)) QV) (Qh (Qx (de_f Qd2 (Rm hr) (Qb (DF.de (QU rfl Qid (DI.b (QZ (Qa 0))) ‹"f"› (Qt _) (fun fp s H G p=>⟨(Qy (i:=0) Qid.nd rfl (oi rfl) (hf:=Or.inr rfl)),QM,‹"e"›⟩))) Qg) rfl)))) :)
abbrev Qdf:Stmt:=top 59
theorem QBd:Qm ["seat","places"] ["seat","places"] (Qd Qdf):=⟨rfl,rfl,rfl,dk,rfl,dk,dk⟩
abbrev Qu1:Scope:={ kind:=ScopeKind.function,names:=[ (Str.ofString ".0",NameKind.local),(Str.ofString "text",NameKind.local),(Str.ofString "places",NameKind.free)],isGenerator:=false,isCoroutine:=false,more:=[]:Scope }
theorem QkZ:QB ["text","places"] [none,some 1] Qu1 (Qd Qdf) ["seat","places"]:=⟨rfl,dk,dk,rfl,dk,dk⟩
def QhB:SD->Out D:=(eDget (eVar 1) (eVar 0))
def QgK:SD->Out Fl:=(sRetF (eComp [none,some 1] (itL (e2 dIx (eVar 0) (eC (.int 2)))) (gN 0) cTrue QhB))
def Qc7:List D->Out D:=bodyF true 2 2 QgK
theorem QFW(d0 d1:D):Qc7 [d0,d1]=(QgK ‹"u"›>>=retF true):=rfl
theorem QER(F:FunV K "leads_to" "leads_to" Qdf f fd dV)  : "f"^1 ["seat","places"] true Qc7:=
 (@fnV P w K mg base CT true _ _ _ f fd dV _ _ 0 QgK F QBd fun cdv A outer s H E G hr=>
  (Qh (Qa1 (QU rfl QkZ (DI.b (QZ ‹"e"›)) ‹"f"› (Qt _) (fun fp s H G p=>⟨(Qy (i:=0) QkZ.nd rfl (oi rfl) (hf:=Or.inr rfl)),QM,(QMY hr.units (Qa 1) (DE.db (Qa 0)))⟩)))) :)
abbrev Qaj:Stmt:=inCls (top 60) 0
theorem Qen:Qm ["self","clerks","entries","doors","names","places","ways"] ["self","clerks","entries","doors"] (Qd Qaj):=⟨rfl,rfl,rfl,dk,rfl,dk,dk⟩
abbrev QnY:Scope:={ kind:=ScopeKind.function,names:=[(Str.ofString ".0",NameKind.local),(Str.ofString "seat",NameKind.local)],isGenerator:=false,isCoroutine:=false,more:=[]:Scope }
theorem QhQ:QB ["seat"] [none] QnY (Qd Qaj) ["self","clerks","entries","doors","names","places","ways"]:=⟨rfl,dk,dk,rfl,dk,dk⟩
def Qfd:SD->Out D:=‹"t"›
abbrev Qnn:Scope:={ kind:=ScopeKind.function,names:=[ (Str.ofString ".0",NameKind.local),(Str.ofString "seat",NameKind.local),(Str.ofString "leads_to",NameKind.globalImplicit),(Str.ofString "places",NameKind.free)],isGenerator:=false,isCoroutine:=false,more:=[]:Scope }
theorem QhP:QB ["seat","places"] [none,some 5] Qnn (Qd Qaj) ["self","clerks","entries","doors","names","places","ways"]:=⟨rfl,dk,dk,rfl,dk,dk⟩
def QfJ:SD->Out D:=(eA (fun xs=>Qc7 (xs++[])) (aCons (eVar 0) ‹"q"›))
abbrev QnQ:Scope:={ kind:=ScopeKind.function,names:=[(Str.ofString ".0",NameKind.local),(Str.ofString "way",NameKind.local)],isGenerator:=false,isCoroutine:=false,more:=[]:Scope }
theorem Qh6:QB ["way"] [none] QnQ (Qd Qaj) ["self","clerks","entries","doors","names","places","ways"]:=⟨rfl,dk,dk,rfl,dk,dk⟩
def Qfy:SD->Out D:=(e2 dInL (eC .non) (eVar 0))
abbrev QnB:Scope:={ kind:=ScopeKind.function,names:=[ (Str.ofString ".0",NameKind.local),(Str.ofString "entry",NameKind.local),(Str.ofString "places",NameKind.free)],isGenerator:=false,isCoroutine:=false,more:=[]:Scope }
theorem Qh2:QB ["entry","places"] [none,some 5] QnB (Qd Qaj) ["self","clerks","entries","doors","names","places","ways"]:=⟨rfl,dk,dk,rfl,dk,dk⟩
def QdF:SD->Out D:=(eTup (aCons ‹"t"› (aCons (eDix (eVar 1) ‹"p"›) aNil)))
abbrev QnD:Scope:={ kind:=ScopeKind.function,names:=[(Str.ofString ".0",NameKind.local),(Str.ofString "seat",NameKind.local)],isGenerator:=false,isCoroutine:=false,more:=[]:Scope }
theorem Qh3:QB ["seat"] [none] QnD (Qd Qaj) ["self","clerks","entries","doors","names","places","ways"]:=⟨rfl,dk,dk,rfl,dk,dk⟩
def QdG:SD->Out D:=‹"p"›
abbrev Qny:Scope:={ kind:=ScopeKind.function,names:=[(Str.ofString ".0",NameKind.local),(Str.ofString "seat",NameKind.local)],isGenerator:=false,isCoroutine:=false,more:=[]:Scope }
theorem Qif:QB ["seat"] [none] Qny (Qd Qaj) ["self","clerks","entries","doors","names","places","ways"]:=⟨rfl,dk,dk,rfl,dk,dk⟩
def QdE:SD->Out D:=(e2 dIx (eVar 0) (eC (.int 3)))
def QeN:SD->Out Fl:=(sSeq (fun ς=>noX ((sIf (tNot' (tVal (eA (fun xs=>QcA (xs++[])) (aCons (eVar 3) (aCons (eC (.int 6)) aNil))))) Qd0 sNil) ς)) (sSeq (fun ς=>noX ((sIf (tNot' (tVal (eA (fun xs=>QcH (xs++[])) (aCons (eVar 1) (aCons (eVar 3) aNil))))) Qd0 sNil) ς)) (sSeq (fun ς=>noX ((sSet 4 (eComp [none] (itL (eVar 1)) (gN 0) cTrue Qfd)) ς)) (sSeq (fun ς=>noX ((sIf (tNot' (tVal (eA (fun xs=>QbN (xs++[])) (aCons (eVar 2) (aCons (eVar 4) aNil))))) Qd0 sNil) ς)) (sSeq (fun ς=>noX ((sSet 5 (eA (fun xs=>QcL (xs++[])) (aCons (eVar 4) (aCons (eVar 3) aNil)))) ς)) (sSeq (fun ς=>noX ((sSet 6 (eComp [none,some 5] (itL (eVar 1)) (gN 0) cTrue QfJ)) ς)) (sSeq (fun ς=>noX ((sIf (tVal (eA (f1 fAny) (aCons (eComp [none] (itL (eVar 6)) (gN 0) cTrue Qfy) aNil))) Qd0 sNil) ς)) (sSeq (fun ς=>noX (sFldS Qj "clerk_names" 0 (eVar 4) ς)) (sSeq (fun ς=>noX (sFldS Qj "door_names" 0 (e1 dList (eVar 3)) ς)) (sSeq (fun ς=>noX (sFldS Qj "entry_places" 0 (eComp [none,some 5] (itL (eVar 2)) (gN 0) cTrue QdF) ς)) (sSeq (fun ς=>noX (sFldS Qj "staff" 0 (eComp [none] (itL (eVar 1)) (gN 0) cTrue QdG) ς)) (sSeq (fun ς=>noX (sFldS Qj "first_states" 0 (eComp [none] (itL (eVar 1)) (gN 0) cTrue QdE) ς)) (fun ς=>noX (sFldS Qj "ways" 0 (eVar 6) ς))))))))))))))
def QaF:Str->List (Str×D)->List D->Out (List (Str×D)):=bodyI 4 7 QeN
theorem Quc(c:Str)(fds:List (Str×D))(d1 d2 d3:D):QaF c fds [d1,d2,d3]=(QeN [some (.s,.ins c fds),some (.k,d1),some (.k,d2),some (.k,d3),none,none,none]>>=Qd3 c):=rfl
theorem QvY{u_MOST_DOORS:Value}(F:FunV K "__init__" "Office.__init__" Qaj f fd dV)(QDI:"e"^QcA "are_names" 2 false)(QDm:"e"^QcH "are_seats" 4 false)(Qt5:"e"^QbN "are_entries" 3 false)(QCu:"e"^QcL "places_of" 1 true)(QFm:"e"^Qc7 "leads_to" 1 true)(z_any:mg "any"=none)(z_list:mg "list"=none)(c_MOST_DOORS:mg "MOST_DOORS"=some u_MOST_DOORS)(r_MOST_DOORS:RelV (toV (.int 6)) u_MOST_DOORS)(fo_clerk_names:FldOk K CT Qj "clerk_names")(fo_door_names:FldOk K CT Qj "door_names")(fo_entry_places:FldOk K CT Qj "entry_places")(fo_staff:FldOk K CT Qj "staff")(fo_first_states:FldOk K CT Qj "first_states")(fo_ways:FldOk K CT Qj "ways"):FnOk P w K mg base (CXR P w) 5 f fd ["self","clerks","entries","doors"] (SpI K CT QaF):=
 (@fnI P w K mg base CT _ _ _ f fd dV _ _ 4 QeN F Qen fun cdv A outer s H E G p hr=>
  (Qf (DS.lift (ds_if (Qae (Qag (de_f QDI (Rm hr) (Qb (Qa 3) (Qb (Qdw (d:=(.int 6)) rfl c_MOST_DOORS rfl r_MOST_DOORS) Qg)) rfl))) (Qh QcI) QV)) (Qf (DS.lift (ds_if (Qae (Qag (de_f QDm (Rm hr) (Qb (Qa 1) (Qb (Qa 3) Qg)) rfl))) (Qh QcI) QV)) (Qf (DS.lift (Qe5 (i:=4) rfl QhQ (DI.b (QZ (Qa 1))) ‹"f"› (Qt _) (fun fp s H G p=>⟨(Qy (i:=0) QhQ.nd rfl (oi rfl) (hf:=Or.inr rfl)),QM,‹"e"›⟩) Qen.nd rfl (oi rfl))) (Qf (DS.lift (ds_if (Qae (Qag (de_f Qt5 (Rm hr) (Qb (Qa 2) (Qb (Qa 4) Qg)) rfl))) (Qh QcI) QV)) (Qf (DS.lift (Qw (i:=5) Qen.nd rfl (Or.inr rfl) (de_f QCu (Rm hr) (Qb (Qa 4) (Qb (Qa 3) Qg)) rfl))) (Qf (DS.lift (Qe5 (i:=6) rfl QhP (DI.b (QZ (Qa 1))) ‹"f"› (Qt _) (fun fp s H G p=>⟨(Qy (i:=0) QhP.nd rfl (oi rfl) (hf:=Or.inr rfl)),QM,(de_f QFm (Rm hr) (Qb (Qa 0) (Qb (Qa 1) Qg)) rfl)⟩) Qen.nd rfl (oi rfl))) (Qf (DS.lift (ds_if (Qag (QO3 rfl rfl z_any (Qv (DE.db (DF.de (QU rfl Qh6 (DI.b (QZ (Qa 6))) ‹"f"› (Qt _) (fun fp s H G p=>⟨(Qy (i:=0) Qh6.nd rfl (oi rfl) (hf:=Or.inr rfl)),QM,(QKu (DE.db QOV) (DE.db (Qa 0)))⟩)))) Qz))) (Qh QcI) QV)) (Qf (DS.lift (Qe3 0 fo_clerk_names (Qa 4) rfl (oi rfl))) (Qf (DS.lift (Qe3 0 fo_door_names (DF.de (Qdz rfl z_list (Qa 3))) rfl (oi rfl))) (Qf (DS.lift (Qe3 0 fo_entry_places (DF.de (QU rfl Qh2 (DI.b (QZ (Qa 2))) ‹"f"› (Qt _) (fun fp s H G p=>⟨(Qy (i:=0) Qh2.nd rfl (oi rfl) (hf:=Or.inr rfl)),QM,(Qb9 (Qb ‹"e"› (Qb (QOQ hr.units (Qa 1) (DE.db ‹"e"›)) Qg)))⟩))) rfl (oi rfl))) (Qf (DS.lift (Qe3 0 fo_staff (DF.de (QU rfl Qh3 (DI.b (QZ (Qa 1))) ‹"f"› (Qt _) (fun fp s H G p=>⟨(Qy (i:=0) Qh3.nd rfl (oi rfl) (hf:=Or.inr rfl)),QM,‹"e"›⟩))) rfl (oi rfl))) (Qf (DS.lift (Qe3 0 fo_first_states (DF.de (QU rfl Qif (DI.b (QZ (Qa 1))) ‹"f"› (Qt _) (fun fp s H G p=>⟨(Qy (i:=0) Qif.nd rfl (oi rfl) (hf:=Or.inr rfl)),QM,‹"e"›⟩))) rfl (oi rfl))) (Qh (DS.lift (Qe3 0 fo_ways (Qa 6) rfl (oi rfl)))))))))))))))) :)
abbrev QdX:Stmt:=top 31
theorem QHw:Qm ["one","other"] ["one","other"] (Qd QdX):=⟨rfl,rfl,rfl,dk,rfl,dk,dk⟩
abbrev Qw5:Scope:={ kind:=ScopeKind.function,names:=[ (Str.ofString ".0",NameKind.local),(Str.ofString "each",NameKind.local),(Str.ofString "more",NameKind.local)],isGenerator:=false,isCoroutine:=false,more:=[]:Scope }
theorem QiA:QB ["each","more"] [none,none] Qw5 (Qd QdX) ["one","other"]:=⟨rfl,dk,dk,rfl,dk,dk⟩
def QmF:SD->Out D:=(e2 dAdd (eVar 0) (eVar 1))
def Qib:SD->Out Fl:=(sRetF (eComp [none,none] (itZ (eVar 0) (eVar 1)) (gT [0,1]) cTrue QmF))
def Qc5:List D->Out D:=bodyF true 2 2 Qib
theorem QJf(d0 d1:D):Qc5 [d0,d1]=(Qib ‹"u"›>>=retF true):=rfl
theorem QH6(F:FunV K "sums_of" "sums_of" QdX f fd dV)(z_zip:mg "zip"=none):"f"^1 ["one","other"] true Qc5:=
 (@fnV P w K mg base CT true _ _ _ f fd dV _ _ 0 Qib F QHw fun cdv A outer s H E G hr=>
  (Qh (Qa1 (QU rfl QiA (DI.b (Qgt rfl z_zip (Qa 0) (Qa 1))) (fun ς=>QeU (fun i hi=>Qr (by revert hi;revert i;decide) ς)) (Qcd _) (fun fp s H G p=>⟨(QdY rfl (QE (i:=0) QiA.nd rfl (oi rfl) (QE (i:=1) QiA.nd rfl (oi rfl) Qbe (hf:=Or.inr rfl)) (hf:=Or.inr rfl))),QM,(Qaf (DE.db (Qa 0)) (DE.db (Qa 1)))⟩)))) :)
abbrev Qbs:Stmt:=top 32
theorem QfC:Qm ["rows","sums","row"] ["rows"] (Qd Qbs):=⟨rfl,rfl,rfl,dk,rfl,dk,dk⟩
abbrev Qmo:Scope:={ kind:=ScopeKind.function,names:=[(Str.ofString ".0",NameKind.local),(Str.ofString "each",NameKind.local)],isGenerator:=false,isCoroutine:=false,more:=[]:Scope }
theorem Qhg:QB ["each"] [none] Qmo (Qd Qbs) ["rows","sums","row"]:=⟨rfl,dk,dk,rfl,dk,dk⟩
def QeY:SD->Out D:=(eC (.int 0))
def Qce:SD->Out Fl:=(QaX 1 (eA (fun xs=>Qc5 (xs++[])) (aCons (eIxO 1 (e1 dNeg (eC (.int 1)))) (aCons (eVar 2) aNil))))
def Qd7:SD->Out Fl:=(sSeq (sSetO 1 (eLst (aCons (eComp [none] (itL ‹"t"›) (gN 0) cTrue QeY) aNil))) (sSeq (sFor (gN 2) (itL (eVar 0)) Qce) (sRetO 1)))
def QaK:List D->Out D:=bodyF true 1 3 Qd7
theorem Qrl(d0:D):QaK [d0]=(Qd7 [some (.k,d0),none,none]>>=retF true):=rfl
theorem QrA(F:FunV K "running_sums" "running_sums" Qbs f fd dV)(QIs:"e"^Qc5 "sums_of" 1 true):"f"^2 ["rows"] true QaK:=
 (@fnV P w K mg base CT true _ _ _ f fd dV _ _ 1 Qd7 F QfC fun cdv A outer s H E G hr=>
  (Qf (Qb4 (i:=1) QfC.nd rfl (oi rfl) (Qa7 (Qb (DF.de (QU rfl Qhg (DI.b (QZ ‹"e"›)) ‹"f"› (Qt _) (fun fp s H G p=>⟨(Qy (i:=0) Qhg.nd rfl (oi rfl) (hf:=Or.inr rfl)),QM,Qe⟩))) Qg))) (Qf (Qbp PassesOwn.never rfl (QZ (Qa 0)) (Qy (i:=2) QfC.nd rfl (oi rfl)) (Qt _) (Qh (QbW 1 (de_f QIs (Rm hr) (Qb (QQn 1 (DE.db (Qgu (DE.db Qe))) rfl (oi rfl)) (Qb (Qa 2) Qg)) rfl) rfl (oi rfl)))) (Qh (QiM 1 rfl (oi rfl))))) :)
abbrev QaM:Stmt:=inCls (top 33) 1
theorem QkP:Qm ["self","rows"] ["self","rows"] (Qd QaM):=⟨rfl,rfl,rfl,dk,rfl,dk,dk⟩
abbrev QjU:Scope:={ kind:=ScopeKind.function,names:=[ (Str.ofString ".0",NameKind.local),(Str.ofString "row",NameKind.local),(Str.ofString "list",NameKind.globalImplicit)],isGenerator:=false,isCoroutine:=false,more:=[]:Scope }
theorem QfO:QB ["row"] [none] QjU (Qd QaM) ["self","rows"]:=⟨rfl,dk,dk,rfl,dk,dk⟩
def QdC:SD->Out D:=(e1 dList (eVar 0))
def QcQ:SD->Out Fl:=(sSeq (fun ς=>noX (sFldS Qj "table" 0 (eComp [none] (itL (eVar 1)) (gN 0) cTrue QdC) ς)) (fun ς=>noX (sFldS Qj "heads" 0 (eA (fun xs=>QaK (xs++[])) ‹"q"›) ς)))
def QQ:Str->List (Str×D)->List D->Out (List (Str×D)):=bodyI 2 2 QcQ
theorem Qmm(c:Str)(fds:List (Str×D))(d1:D):QQ c fds [d1]=(QcQ [some (.s,.ins c fds),some (.k,d1)]>>=Qd3 c):=rfl
theorem Qml(F:FunV K "keep_rows" "Clerk.keep_rows" QaM f fd dV)(Qr0:"e"^QaK "running_sums" 2 true)(z_list:mg "list"=none)(fo_table:FldOk K CT Qj "table")(fo_heads:FldOk K CT Qj "heads"):FnOk P w K mg base (CXR P w) 3 f fd ["self","rows"] (SpI K CT QQ):=
 (@fnI P w K mg base CT _ _ _ f fd dV _ _ 2 QcQ F QkP fun cdv A outer s H E G p hr=>
  (Qf (DS.lift (Qe3 0 fo_table (DF.de (QU rfl QfO (DI.b (QZ (Qa 1))) ‹"f"› (Qt _) (fun fp s H G p=>⟨(Qy (i:=0) QfO.nd rfl (oi rfl) (hf:=Or.inr rfl)),QM,(DF.de (Qdz rfl z_list (Qa 0)))⟩))) rfl (oi rfl))) (Qh (DS.lift (Qe3 0 fo_heads (de_f Qr0 (Rm hr) (Qb (Qa 1) Qg) rfl) rfl (oi rfl))))) :)
abbrev QeV:Stmt:=top 39
theorem QIb:Qm ["thing"] ["thing"] (Qd QeV):=⟨rfl,rfl,rfl,dk,rfl,dk,dk⟩
abbrev QCz:Scope:={ kind:=ScopeKind.function,names:=[ (Str.ofString ".0",NameKind.local),(Str.ofString "count",NameKind.local),(Str.ofString "is_within",NameKind.globalImplicit),(Str.ofString "MOST_SENT",NameKind.globalImplicit)],isGenerator:=false,isCoroutine:=false,more:=[]:Scope }
theorem QoX:QB ["count"] [none] QCz (Qd QeV) ["thing"]:=⟨rfl,dk,dk,rfl,dk,dk⟩
def Qjm:SD->Out D:=(eA (fun xs=>Q5 (xs++[])) (aCons (eVar 0) (aCons (eC (.int 0)) (aCons (eC (.int 9)) aNil))))
def Qjx:SD->Out Fl:=(sSeq (sIf (tOr' (tNot' (tVal (eIsa (isaT "list") (eVar 0)))) (tVal (e2 dGt (eA fLen ‹"w"›) (eC (.int 6))))) (sRet (eC (.bl false))) sNil) (sRet (eA (f1 fAll) (aCons (eComp [none] (itL (eVar 0)) (gN 0) cTrue Qjm) aNil))))
def Qdb:List D->Out D:=bodyF false 1 1 Qjx
theorem QLc(d0:D):Qdb [d0]=(Qjx [some (.k,d0)]>>=retF false):=rfl
theorem QLl{u_MOST_OUTS:Value}{u_MOST_SENT:Value}(F:FunV K "is_row" "is_row" QeV f fd dV)(Qby:"e"^Q5 "is_within" 2 false)(z_isinstance:mg "isinstance"=none)(z_list:mg "list"=none)(z_len:mg "len"=none)(z_all:mg "all"=none)(c_MOST_OUTS:mg "MOST_OUTS"=some u_MOST_OUTS)(r_MOST_OUTS:RelV (toV (.int 6)) u_MOST_OUTS)(c_MOST_SENT:mg "MOST_SENT"=some u_MOST_SENT)(r_MOST_SENT:RelV (toV (.int 9)) u_MOST_SENT):"f"^3 ["thing"] false Qdb:=
 (@fnV P w K mg base CT false _ _ _ f fd dV _ _ 2 Qjx F QIb fun cdv A outer s H E G hr=>
  (Qf (ds_if (DW.dt (dw_or (Qae (Qag ‹"N"›)) (QdT (dt_gt ‹"k"› (DE.db (Qdw (d:=(.int 6)) rfl c_MOST_OUTS rfl r_MOST_OUTS)))))) (Qh (Qx de_bl)) QV) (Qh (Qx (Qgi rfl rfl z_all (Qv (DE.db (DF.de (QU rfl QoX (DI.b (QZ (Qa 0))) ‹"f"› (Qt _) (fun fp s H G p=>⟨(Qy (i:=0) QoX.nd rfl (oi rfl) (hf:=Or.inr rfl)),QM,(de_f Qby (Rm hr) (Qb (Qa 0) (Qb Qe (Qb (Qdw (d:=(.int 9)) rfl c_MOST_SENT rfl r_MOST_SENT) Qg))) rfl)⟩)))) Qz))))) :)
abbrev Qcs:Stmt:=top 40
theorem QCv:Qm ["thing"] ["thing"] (Qd Qcs):=⟨rfl,rfl,rfl,dk,rfl,dk,dk⟩
abbrev QvE:Scope:={ kind:=ScopeKind.function,names:=[ (Str.ofString ".0",NameKind.local),(Str.ofString "row",NameKind.local),(Str.ofString "is_row",NameKind.globalImplicit)],isGenerator:=false,isCoroutine:=false,more:=[]:Scope }
theorem Qln:QB ["row"] [none] QvE (Qd Qcs) ["thing"]:=⟨rfl,dk,dk,rfl,dk,dk⟩
def Qhh:SD->Out D:=(eA (fun xs=>Qdb (xs++[])) ‹"w"›)
abbrev QvZ:Scope:={ kind:=ScopeKind.function,names:=[ (Str.ofString ".0",NameKind.local),(Str.ofString "row",NameKind.local),(Str.ofString "len",NameKind.globalImplicit),(Str.ofString "thing",NameKind.free)],isGenerator:=false,isCoroutine:=false,more:=[]:Scope }
theorem Qlc:QB ["row","thing"] [none,some 0] QvZ (Qd Qcs) ["thing"]:=⟨rfl,dk,dk,rfl,dk,dk⟩
def Qg3:SD->Out D:=(e2 dEq (eA fLen ‹"w"›) (eA fLen (aCons (e2 dIx (eVar 1) (eC (.int 0))) aNil)))
def QgJ:SD->Out Fl:=(sSeq (sIf (tOr' (tNot' (tVal (eIsa (isaT "list") (eVar 0)))) (tNot' (tVal (QdK dLe dLe (eC (.int 1)) (eA fLen ‹"w"›) (eC (.int 12)))))) (sRet (eC (.bl false))) sNil) (sSeq (sIf (tNot' (tVal (eA (f1 fAll) (aCons (eComp [none] (itL (eVar 0)) (gN 0) cTrue Qhh) aNil)))) (sRet (eC (.bl false))) sNil) (sRet (eA (f1 fAll) (aCons (eComp [none,some 0] (itL (eVar 0)) (gN 0) cTrue Qg3) aNil)))))
def Qdi:List D->Out D:=bodyF false 1 1 QgJ
theorem QEU(d0:D):Qdi [d0]=(QgJ [some (.k,d0)]>>=retF false):=rfl
theorem QFE{u_MOST_ROWS:Value}(F:FunV K "is_table" "is_table" Qcs f fd dV)(QnM:"e"^Qdb "is_row" 3 false)(z_isinstance:mg "isinstance"=none)(z_list:mg "list"=none)(z_len:mg "len"=none)(z_all:mg "all"=none)(c_MOST_ROWS:mg "MOST_ROWS"=some u_MOST_ROWS)(r_MOST_ROWS:RelV (toV (.int 12)) u_MOST_ROWS):"f"^4 ["thing"] false Qdi:=
 (@fnV P w K mg base CT false _ _ _ f fd dV _ _ 3 QgJ F QCv fun cdv A outer s H E G hr=>
  (Qf (ds_if (DW.dt (dw_or (Qae (Qag ‹"N"›)) (QdT (Qae (Qz6 op_le Qb3 (Qbx fun _ _=>rfl) op_le Qb3 (Qbx fun _ _=>rfl) (DE.db Qe) ‹"k"› (DE.db (Qdw (d:=(.int 12)) rfl c_MOST_ROWS rfl r_MOST_ROWS))))))) (Qh (Qx de_bl)) QV) (Qf (ds_if (Qae (Qag (Qgi rfl rfl z_all (Qv (DE.db (DF.de (QU rfl Qln (DI.b (QZ (Qa 0))) ‹"f"› (Qt _) (fun fp s H G p=>⟨(Qy (i:=0) Qln.nd rfl (oi rfl) (hf:=Or.inr rfl)),QM,(de_f QnM (Rm hr) (Qb (Qa 0) Qg) rfl)⟩)))) Qz)))) (Qh (Qx de_bl)) QV) (Qh (Qx (Qgi rfl rfl z_all (Qv (DE.db (DF.de (QU rfl Qlc (DI.b (QZ (Qa 0))) ‹"f"› (Qt _) (fun fp s H G p=>⟨(Qy (i:=0) Qlc.nd rfl (oi rfl) (hf:=Or.inr rfl)),QM,(de_eq hr.units ‹"k"› (DE.db (Qak rfl z_len (Qv (DE.db (de_ix (Qa 1) (DE.db Qe))) Qz))))⟩)))) Qz)))))) :)
abbrev Qdr:Stmt:=inCls (top 37) 0
theorem Qyj:Qm ["self","rows"] ["self","rows"] (Qd Qdr):=⟨rfl,rfl,rfl,dk,rfl,dk,dk⟩
def Qgf:SD->Out Fl:=(sSeq (fun ς=>noX ((sIf (tNot' (tVal (eA (fun xs=>Qdi (xs++[])) ‹"q"›))) Qd0 sNil) ς)) (Qgr Qc "keep_rows" QQ 0 (fun ς=>noX (‹"q"› ς))))
def Qcz:Str->List (Str×D)->List D->Out (List (Str×D)):=bodyI 2 2 Qgf
theorem QDC(c:Str)(fds:List (Str×D))(d1:D):Qcz c fds [d1]=(Qgf [some (.s,.ins c fds),some (.k,d1)]>>=Qd3 c):=rfl
theorem QDy(F:FunV K "__init__" "Rows.__init__" Qdr f fd dV)(QHl:"e"^Qdi "is_table" 4 false)(ms_keep_rows:MtOk P w K mg base CT (CXR P w) "keep_rows" 3 Qc (fun _=>SpI K CT QQ)):FnOk P w K mg base (CXR P w) 5 f fd ["self","rows"] (SpI K CT Qcz):=
 (@fnI P w K mg base CT _ _ _ f fd dV _ _ 4 Qgf F Qyj fun cdv A outer s H E G p hr=>
  (Qf (DS.lift (ds_if (Qae (Qag (de_f QHl (Rm hr) (Qb (Qa 1) Qg) rfl))) (Qh QcI) QV)) (Qh (Qjn 0 Qqc ms_keep_rows (Rm hr) (DA.lift (Qb (Qa 1) Qg)) rfl (oi rfl)))) :)
abbrev Qcg:Stmt:=top 38
theorem Qus:Qm ["many","place"] ["many","place"] (Qd Qcg):=⟨rfl,rfl,rfl,dk,rfl,dk,dk⟩
abbrev Qob:Scope:={ kind:=ScopeKind.function,names:=[ (Str.ofString ".0",NameKind.local),(Str.ofString "out",NameKind.local),(Str.ofString "place",NameKind.free)],isGenerator:=false,isCoroutine:=false,more:=[]:Scope }
theorem QiV:QB ["out","place"] [none,some 1] Qob (Qd Qcg) ["many","place"]:=⟨rfl,dk,dk,rfl,dk,dk⟩
def QfY:SD->Out D:=(eIf (tVal (e2 dEq (eVar 0) (eVar 1))) (eC (.int 1)) (eC (.int 0)))
def Qfk:SD->Out Fl:=(sRetF (eComp [none,some 1] (itR1 (eVar 0)) (gN 0) cTrue QfY))
def Qb6:List D->Out D:=bodyF true 2 2 Qfk
theorem Qxw(d0 d1:D):Qb6 [d0,d1]=(Qfk ‹"u"›>>=retF true):=rfl
theorem QwT(F:FunV K "single_row" "single_row" Qcg f fd dV)(z_range:mg "range"=none):"f"^1 ["many","place"] true Qb6:=
 (@fnV P w K mg base CT true _ _ _ f fd dV _ _ 0 Qfk F Qus fun cdv A outer s H E G hr=>
  (Qh (Qa1 (QU rfl QiV (DI.b (QaP rfl z_range (DE.db (Qa 0)))) ‹"f"› (Qt _) (fun fp s H G p=>⟨(Qy (i:=0) QiV.nd rfl (oi rfl) (hf:=Or.inr rfl)),QM,(de_if (dt_eq hr.units (DE.db (Qa 0)) (DE.db (Qa 1))) Qe Qe)⟩)))) :)
abbrev Qcx:Stmt:=inCls (top 34) 0
theorem QzL:Qm ["self","many"] ["self","many"] (Qd Qcx):=⟨rfl,rfl,rfl,dk,rfl,dk,dk⟩
abbrev QqO:Scope:={ kind:=ScopeKind.function,names:=[ (Str.ofString ".0",NameKind.local),(Str.ofString "state",NameKind.local),(Str.ofString "single_row",NameKind.globalImplicit),(Str.ofString "many",NameKind.free)],isGenerator:=false,isCoroutine:=false,more:=[]:Scope }
theorem Qkc:QB ["state","many"] [none,some 1] QqO (Qd Qcx) ["self","many"]:=⟨rfl,dk,dk,rfl,dk,dk⟩
def QgB:SD->Out D:=(eA (fun xs=>Qb6 (xs++[])) (aCons (eVar 1) ‹"w"›))
def Qf3:SD->Out Fl:=(sSeq (fun ς=>noX ((sIf (tNot' (tVal (eA (fun xs=>Q5 (xs++[])) (aCons (eVar 1) (aCons (eC (.int 1)) (aCons (eC (.int 6)) aNil)))))) Qd0 sNil) ς)) (Qgr Qc "keep_rows" QQ 0 (fun ς=>noX ((aCons (eComp [none,some 1] (itR1 (eVar 1)) (gN 0) cTrue QgB) aNil) ς))))
def QcK:Str->List (Str×D)->List D->Out (List (Str×D)):=bodyI 2 2 Qf3
theorem QDE(c:Str)(fds:List (Str×D))(d1:D):QcK c fds [d1]=(Qf3 [some (.s,.ins c fds),some (.k,d1)]>>=Qd3 c):=rfl
theorem QDk{u_MOST_OUTS:Value}(F:FunV K "__init__" "Deal.__init__" Qcx f fd dV)(Qby:"e"^Q5 "is_within" 2 false)(QzC:"e"^Qb6 "single_row" 1 true)(z_range:mg "range"=none)(c_MOST_OUTS:mg "MOST_OUTS"=some u_MOST_OUTS)(r_MOST_OUTS:RelV (toV (.int 6)) u_MOST_OUTS)(ms_keep_rows:MtOk P w K mg base CT (CXR P w) "keep_rows" 3 Qc (fun _=>SpI K CT QQ)):FnOk P w K mg base (CXR P w) 4 f fd ["self","many"] (SpI K CT QcK):=
 (@fnI P w K mg base CT _ _ _ f fd dV _ _ 3 Qf3 F QzL fun cdv A outer s H E G p hr=>
  (Qf (DS.lift (ds_if (Qae (Qag (de_f Qby (Rm hr) (Qb (Qa 1) (Qb Qe (Qb (Qdw (d:=(.int 6)) rfl c_MOST_OUTS rfl r_MOST_OUTS) Qg))) rfl))) (Qh QcI) QV)) (Qh (Qjn 0 Qqc ms_keep_rows (Rm hr) (DA.lift (Qb (DF.de (QU rfl Qkc (DI.b (QaP rfl z_range (DE.db (Qa 1)))) ‹"f"› (Qt _) (fun fp s H G p=>⟨(Qy (i:=0) Qkc.nd rfl (oi rfl) (hf:=Or.inr rfl)),QM,(de_f QzC (Rm hr) (Qb (Qa 1) (Qb (Qa 0) Qg)) rfl)⟩))) Qg)) rfl (oi rfl)))) :)
abbrev QbP:Stmt:=inCls (top 35) 0
theorem Qsa:Qm ["self","size"] ["self","size"] (Qd QbP):=⟨rfl,rfl,rfl,dk,rfl,dk,dk⟩
abbrev Qm7:Scope:={ kind:=ScopeKind.function,names:=[ (Str.ofString ".0",NameKind.local),(Str.ofString "state",NameKind.local),(Str.ofString "size",NameKind.free)],isGenerator:=false,isCoroutine:=false,more:=[]:Scope }
theorem QhJ:QB ["state","size"] [none,some 1] Qm7 (Qd QbP) ["self","size"]:=⟨rfl,dk,dk,rfl,dk,dk⟩
def Qfu:SD->Out D:=(eLst (aCons (eIf (tVal (e2 dEq (eVar 0) (e2 dSub (eVar 1) (eC (.int 1))))) (eC (.int 1)) (eC (.int 0))) aNil))
def QeQ:SD->Out Fl:=(sSeq (fun ς=>noX ((sIf (tNot' (tVal (eA (fun xs=>Q5 (xs++[])) (aCons (eVar 1) (aCons (eC (.int 1)) (aCons (eC (.int 12)) aNil)))))) Qd0 sNil) ς)) (Qgr Qc "keep_rows" QQ 0 (fun ς=>noX ((aCons (eComp [none,some 1] (itR1 (eVar 1)) (gN 0) cTrue Qfu) aNil) ς))))
def QbM:Str->List (Str×D)->List D->Out (List (Str×D)):=bodyI 2 2 QeQ
theorem QvX(c:Str)(fds:List (Str×D))(d1:D):QbM c fds [d1]=(QeQ [some (.s,.ins c fds),some (.k,d1)]>>=Qd3 c):=rfl
theorem QtX{u_MOST_ROWS:Value}(F:FunV K "__init__" "Bundle.__init__" QbP f fd dV)(Qby:"e"^Q5 "is_within" 2 false)(z_range:mg "range"=none)(c_MOST_ROWS:mg "MOST_ROWS"=some u_MOST_ROWS)(r_MOST_ROWS:RelV (toV (.int 12)) u_MOST_ROWS)(ms_keep_rows:MtOk P w K mg base CT (CXR P w) "keep_rows" 3 Qc (fun _=>SpI K CT QQ)):FnOk P w K mg base (CXR P w) 4 f fd ["self","size"] (SpI K CT QbM):=
 (@fnI P w K mg base CT _ _ _ f fd dV _ _ 3 QeQ F Qsa fun cdv A outer s H E G p hr=>
  (Qf (DS.lift (ds_if (Qae (Qag (de_f Qby (Rm hr) (Qb (Qa 1) (Qb Qe (Qb (Qdw (d:=(.int 12)) rfl c_MOST_ROWS rfl r_MOST_ROWS) Qg))) rfl))) (Qh QcI) QV)) (Qh (Qjn 0 Qqc ms_keep_rows (Rm hr) (DA.lift (Qb (DF.de (QU rfl QhJ (DI.b (QaP rfl z_range (DE.db (Qa 1)))) ‹"f"› (Qt _) (fun fp s H G p=>⟨(Qy (i:=0) QhJ.nd rfl (oi rfl) (hf:=Or.inr rfl)),QM,(DF.de (Qa7 (Qb (de_if (dt_eq hr.units (DE.db (Qa 0)) (DE.db (Qa6 (DE.db (Qa 1)) (DE.db Qe)))) Qe Qe) Qg)))⟩))) Qg)) rfl (oi rfl)))) :)
abbrev Qdt:Stmt:=inCls (top 36) 0
theorem Qwv:Qm ["self","counts"] ["self","counts"] (Qd Qdt):=⟨rfl,rfl,rfl,dk,rfl,dk,dk⟩
def Qf2:SD->Out Fl:=(sSeq (fun ς=>noX ((sIf (tNot' (tVal (eA (fun xs=>Qdb (xs++[])) ‹"q"›))) Qd0 sNil) ς)) (Qgr Qc "keep_rows" QQ 0 (fun ς=>noX ((aCons (eLst ‹"q"›) aNil) ς))))
def QcB:Str->List (Str×D)->List D->Out (List (Str×D)):=bodyI 2 2 Qf2
theorem QCZ(c:Str)(fds:List (Str×D))(d1:D):QcB c fds [d1]=(Qf2 [some (.s,.ins c fds),some (.k,d1)]>>=Qd3 c):=rfl
theorem QCr(F:FunV K "__init__" "Copy.__init__" Qdt f fd dV)(QnM:"e"^Qdb "is_row" 3 false)(ms_keep_rows:MtOk P w K mg base CT (CXR P w) "keep_rows" 3 Qc (fun _=>SpI K CT QQ)):FnOk P w K mg base (CXR P w) 4 f fd ["self","counts"] (SpI K CT QcB):=
 (@fnI P w K mg base CT _ _ _ f fd dV _ _ 3 Qf2 F Qwv fun cdv A outer s H E G p hr=>
  (Qf (DS.lift (ds_if (Qae (Qag (de_f QnM (Rm hr) (Qb (Qa 1) Qg) rfl))) (Qh QcI) QV)) (Qh (Qjn 0 Qqc ms_keep_rows (Rm hr) (DA.lift (Qb (DF.de (Qa7 (Qb (Qa 1) Qg))) Qg)) rfl (oi rfl)))) :)
abbrev Qcw:Stmt:=top 73
theorem Qxz:Qm ["_law_kind","_law_rows_here"] ["_law_kind","_law_rows_here"] (Qd Qcw):=⟨rfl,rfl,rfl,dk,rfl,dk,dk⟩
abbrev Qsn:Scope:={ kind:=ScopeKind.function,names:=[ (Str.ofString ".0",NameKind.local),(Str.ofString "_law_row",NameKind.local),(Str.ofString "list",NameKind.globalImplicit)],isGenerator:=false,isCoroutine:=false,more:=[]:Scope }
theorem Qkb:QB ["_law_row"] [none] Qsn (Qd Qcw) ["_law_kind","_law_rows_here"]:=⟨rfl,dk,dk,rfl,dk,dk⟩
def Qkm:SD->Out D:=(e1 dList (eVar 0))
def QcE:SD->Out Fl:=(sSeq (sIf (tVal (e2 dEq (eVar 0) (eC (.int 0)))) (sRetF (eMake "Deal" QcK (aCons (eA fLen ‹"q"›) aNil))) sNil) (sSeq (sIf (tVal (e2 dEq (eVar 0) (eC (.int 1)))) (sRetF (eMake "Bundle" QbM (aCons (eA fLen ‹"q"›) aNil))) sNil) (sSeq (sIf (tVal (e2 dEq (eVar 0) (eC (.int 2)))) (sRetF (eMake "Copy" QcB (aCons (e1 dList (e2 dIx (eVar 1) (eC (.int 0)))) aNil))) sNil) (sRetF (eMake "Rows" Qcz (aCons (eComp [none] (itL (eVar 1)) (gN 0) cTrue Qkm) aNil))))))
def Qbz:List D->Out D:=bodyF true 2 2 QcE
theorem Qge(d0 d1:D):Qbz [d0,d1]=(QcE ‹"u"›>>=retF true):=rfl
theorem QAM(F:FunV K "_law_clerk" "_law_clerk" Qcw f fd dV)(z_len:mg "len"=none)(z_list:mg "list"=none)(QsD:MkOk P w K mg base CT "Deal" 4 QcK)(QkT:MkOk P w K mg base CT "Bundle" 4 QbM)(QrJ:MkOk P w K mg base CT "Copy" 4 QcB)(Qr1:MkOk P w K mg base CT "Rows" 5 Qcz):"f"^7 ["_law_kind","_law_rows_here"] true Qbz:=
 (@fnV P w K mg base CT true _ _ _ f fd dV _ _ 6 QcE F Qxz fun cdv A outer s H E G hr=>
  (Qf (ds_if (dt_eq hr.units (DE.db (Qa 0)) (DE.db Qe)) (Qh (Qa1 (QiI rz0 QsD (Rm hr) (Qb (Qak rfl z_len (Qv (DE.db (Qa 1)) Qz)) Qg) rfl))) QV) (Qf (ds_if (dt_eq hr.units (DE.db (Qa 0)) (DE.db Qe)) (Qh (Qa1 (QiI rz0 QkT (Rm hr) (Qb (Qak rfl z_len (Qv (DE.db (Qa 1)) Qz)) Qg) rfl))) QV) (Qf (ds_if (dt_eq hr.units (DE.db (Qa 0)) (DE.db Qe)) (Qh (Qa1 (QiI rz0 QrJ (Rm hr) (Qb (DF.de (Qdz rfl z_list (de_ix (Qa 1) (DE.db Qe)))) Qg) rfl))) QV) (Qh (Qa1 (QiI rz0 Qr1 (Rm hr) (Qb (DF.de (QU rfl Qkb (DI.b (QZ (Qa 1))) ‹"f"› (Qt _) (fun fp s H G p=>⟨(Qy (i:=0) Qkb.nd rfl (oi rfl) (hf:=Or.inr rfl)),QM,(DF.de (Qdz rfl z_list (Qa 0)))⟩))) Qg) rfl)))))) :)
abbrev QbC:Stmt:=top 74
theorem QaT:Qm ["_law_plan_here","_law_doors","_law_letters","_law_clerks","_law_k","_law_kind","_law_rows_here","_law_leads","_law_state","_law_names"] ["_law_plan_here","_law_doors"] (Qd QbC):=⟨rfl,rfl,rfl,dk,rfl,dk,dk⟩
abbrev QoU:Scope:={ kind:=ScopeKind.function,names:=[ (Str.ofString ".0",NameKind.local),(Str.ofString "_law_to",NameKind.local),(Str.ofString "_law_letters",NameKind.free)],isGenerator:=false,isCoroutine:=false,more:=[]:Scope }
theorem QiD:QB ["_law_to","_law_letters"] [none,some 2] QoU (Qd QbC) ["_law_plan_here","_law_doors","_law_letters","_law_clerks","_law_k","_law_kind","_law_rows_here","_law_leads","_law_state","_law_names"]:=⟨rfl,dk,dk,rfl,dk,dk⟩
def QfU:SD->Out D:=(eIf (tVal (e2 dLt (eVar 0) (eC (.int 0)))) (e2 dAdd (eC (.str "d")) (e2 dIx (eVar 1) (e2 dSub (e1 dNeg (eC (.int 1))) (eVar 0)))) (e2 dAdd (eC (.str "c")) (e2 dIx (eVar 1) (eVar 0))))
def Qek:SD->Out Fl:=(sSeq (sUnp [5,6,7,8] (e2 dIx (eVar 0) (eVar 4))) (sSeq (sSet 9 (eComp [none,some 2] (itL (eVar 7)) (gN 0) cTrue QfU)) (QaX 3 (eTup (aCons (e2 dAdd (eC (.str "c")) (e2 dIx (eVar 2) (eVar 4))) (aCons (eA (fun xs=>Qbz (xs++[])) (aCons (eVar 5) (aCons (eVar 6) aNil))) (aCons (eVar 9) (aCons (eVar 8) aNil))))))))
abbrev Qom:Scope:={ kind:=ScopeKind.function,names:=[ (Str.ofString ".0",NameKind.local),(Str.ofString "_law_d",NameKind.local),(Str.ofString "_law_letters",NameKind.free)],isGenerator:=false,isCoroutine:=false,more:=[]:Scope }
theorem QiZ:QB ["_law_d","_law_letters"] [none,some 2] Qom (Qd QbC) ["_law_plan_here","_law_doors","_law_letters","_law_clerks","_law_k","_law_kind","_law_rows_here","_law_leads","_law_state","_law_names"]:=⟨rfl,dk,dk,rfl,dk,dk⟩
def QcU:SD->Out D:=(e2 dAdd (eC (.str "d")) (e2 dIx (eVar 1) (eVar 0)))
def Qff:SD->Out Fl:=(sSeq (sSet 2 (eC (.str "abcdef"))) (sSeq (sSetO 3 (eLst aNil)) (sSeq (sFor (gN 4) (itR1 (eA fLen ‹"w"›)) Qek) (fun ς=>(sRetF ‹"l"›) (frz 3 ς)))))
def Qcb:List D->Out D:=bodyF true 2 10 Qff
theorem Qwb(d0 d1:D):Qcb [d0,d1]=(Qff [some (.k,d0),some (.k,d1),none,none,none,none,none,none,none,none]>>=retF true):=rfl
theorem QyG(F:FunV K "_law_office" "_law_office" QbC f fd dV)(QDB:"e"^Qbz "_law_clerk" 7 true)(z_range:mg "range"=none)(z_len:mg "len"=none)(QkC:MkOk P w K mg base CT "Office" 5 QaF):"f"^8 ["_law_plan_here","_law_doors"] true Qcb:=
 (@fnV P w K mg base CT true _ _ _ f fd dV _ _ 7 Qff F QaT fun cdv A outer s H E G hr=>
  (Qf (Qw (i:=2) QaT.nd rfl (Or.inr rfl) QhE) (Qf (Qb4 (i:=3) QaT.nd rfl (oi rfl) (Qa7 Qg)) (Qf (Qbp PassesOwn.never rfl (QaP rfl z_range ‹"k"›) (Qy (i:=4) QaT.nd rfl (oi rfl)) (Qt _) (Qf (QlW rfl (de_ix (Qa 0) (DE.db (Qa 4))) (QE (i:=5) QaT.nd rfl (oi rfl) (QE (i:=6) QaT.nd rfl (oi rfl) (QE (i:=7) QaT.nd rfl (oi rfl) (QE (i:=8) QaT.nd rfl (oi rfl) Qbe))))) (Qf (Qe5 (i:=9) rfl QiD (DI.b (QZ (Qa 7))) ‹"f"› (Qt _) (fun fp s H G p=>⟨(Qy (i:=0) QiD.nd rfl (oi rfl) (hf:=Or.inr rfl)),QM,(de_if (dt_lt (DE.db (Qa 0)) (DE.db Qe)) (Qaf (DE.db QhE) (DE.db (de_ix (Qa 1) (DE.db (Qa6 (DE.db (Qgu (DE.db Qe))) (DE.db (Qa 0))))))) (Qaf (DE.db QhE) (DE.db (de_ix (Qa 1) (DE.db (Qa 0))))))⟩) QaT.nd rfl (oi rfl)) (Qh (QbW 3 (Qb9 (Qb (Qaf (DE.db QhE) (DE.db (de_ix (Qa 2) (DE.db (Qa 4))))) (Qb (de_f QDB (Rm hr) (Qb (Qa 5) (Qb (Qa 6) Qg)) rfl) (Qb (Qa 9) (Qb (Qa 8) Qg))))) rfl (oi rfl)))))) (Qh (QlN 3 (Qa1 (QiI rz0 QkC (Rm hr) (Qb (Qa 3) (Qb (DF.de (Qa7 (Qb (Qb9 (Qb QhE (Qb QhE Qg))) Qg))) (Qb (DF.de (QU rfl QiZ (DI.b (QaP rfl z_range (DE.db (Qa 1)))) ‹"f"› (Qt _) (fun fp s H G p=>⟨(Qy (i:=0) QiZ.nd rfl (oi rfl) (hf:=Or.inr rfl)),QM,(Qaf (DE.db QhE) (DE.db (de_ix (Qa 1) (DE.db (Qa 0)))))⟩))) Qg))) rfl))))))) :)
abbrev Qcn:Stmt:=top 65
theorem Qej:Qm ["_law_one","_law_other"] ["_law_one","_law_other"] (Qd Qcn):=⟨rfl,rfl,rfl,dk,rfl,dk,dk⟩
def Qct:SD->Out Bool:=(tVal (e2 dGt (eVar 1) (eC (.int 0))))
def Qcp:SD->Out Fl:=(sPar 0 1 (aCons (eVar 1) (aCons (e2 dMod (eVar 0) (eVar 1)) aNil)))
def QeI:SD->Out Fl:=(sSeq (sSet 0 (eA (f1 dAbs) ‹"w"›)) (sSeq (sSet 1 (eA (f1 dAbs) ‹"q"›)) (sSeq (QbK Qct Qcp) (sRet (eVar 0)))))
def QbL:List D->Out D:=bodyF false 2 2 QeI
theorem QtR(d0 d1:D):QbL [d0,d1]=(QeI ‹"u"›>>=retF false):=rfl
theorem QvJ(F:FunV K "_law_divisor" "_law_divisor" Qcn f fd dV)(z_abs:mg "abs"=none):"f"^1 ["_law_one","_law_other"] false QbL:=
 (@fnV P w K mg base CT false _ _ _ f fd dV _ _ 0 QeI F Qej fun cdv A outer s H E G hr=>
  (Qf (Qw (i:=0) Qej.nd rfl (oi rfl) (Qpt rfl z_abs PyProof.Rows.Boot.«abs» (Qv (DE.db (Qa 0)) Qz))) (Qf (Qw (i:=1) Qej.nd rfl (oi rfl) (Qpt rfl z_abs PyProof.Rows.Boot.«abs» (Qv (DE.db (Qa 1)) Qz))) (Qf (Qs3 PassesOwn.never (dt_gt (DE.db (Qa 1)) (DE.db Qe)) (Qh (QPX (i:=0) (j:=1) rfl Qej.nd rfl rfl (by decide) rfl rfl (Qb (Qa 1) (Qb (Qar (DE.db (Qa 0)) (DE.db (Qa 1))) Qg)) (by rfl)))) (Qh (Qx (Qa 0)))))) :)
abbrev Qe4:Stmt:=top 66
theorem Qpo:Qm ["_law_top","_law_bottom","_law_by"] ["_law_top","_law_bottom"] (Qd Qe4):=⟨rfl,rfl,rfl,dk,rfl,dk,dk⟩
def Qh5:SD->Out Fl:=(sSeq (sSet 2 (eA (fun xs=>QbL (xs++[])) (aCons (eVar 0) ‹"q"›))) (sRet (eTup (aCons (e2 dFdiv (eVar 0) (eVar 2)) (aCons (e2 dFdiv (eVar 1) (eVar 2)) aNil)))))
def QbH:List D->Out D:=bodyF false 2 3 Qh5
theorem QId(d0 d1:D):QbH [d0,d1]=(Qh5 [some (.k,d0),some (.k,d1),none]>>=retF false):=rfl
theorem QJj(F:FunV K "_law_low" "_law_low" Qe4 f fd dV)(Qvw:"e"^QbL "_law_divisor" 1 false):"f"^2 ["_law_top","_law_bottom"] false QbH:=
 (@fnV P w K mg base CT false _ _ _ f fd dV _ _ 1 Qh5 F Qpo fun cdv A outer s H E G hr=>
  (Qf (Qw (i:=2) Qpo.nd rfl (oi rfl) (de_f Qvw (Rm hr) (Qb (Qa 0) (Qb (Qa 1) Qg)) rfl)) (Qh (Qx (Qb9 (Qb (Qbf (DE.db (Qa 0)) (DE.db (Qa 2))) (Qb (Qbf (DE.db (Qa 1)) (DE.db (Qa 2))) Qg)))))) :)
abbrev QcX:Stmt:=top 76
theorem Qcj:Qm ["_law_cell_here","_law_many","_law_found","_law_bottom","_law_k","_law_number","_law_top"] ["_law_cell_here","_law_many"] (Qd QcX):=⟨rfl,rfl,rfl,dk,rfl,dk,dk⟩
def Qer:SD->Out Fl:=(sSeq (sSet 5 (eA (fun xs=>QH (xs++[])) (aCons (eVar 0) (aCons (e2 dAdd (eVar 4) (eC (.int 90))) aNil)))) (sSeq (sSet 6 (e2 dIx (eLst (aCons (e2 dSub (e2 dMod (e2 dFdiv (eVar 5) (eC (.int 4))) (eC (.int 121))) (eC (.int 60))) (aCons (e2 dSub (e2 dMod (e2 dFdiv (eVar 5) (eC (.int 4))) (e2 dMul (eC (.int 2)) (e2 dPow (eC (.int 10)) (eC (.int 15))))) (e2 dPow (eC (.int 10)) (eC (.int 15)))) (aCons (eC (.int 0)) (aCons (eC (.int 1)) aNil))))) (e2 dMod (eVar 5) (eC (.int 4))))) (QaX 2 (eA (fun xs=>QbH (xs++[])) (aCons (eVar 6) (aCons (eVar 3) aNil))))))
def QfE:SD->Out Fl:=(sSeq (sSetO 2 (eLst aNil)) (sSeq (sSet 3 (e2 dAdd (eC (.int 1)) ‹"x"›)) (sSeq (sFor (gN 4) (itR1 (eVar 1)) Qer) (sRetO 2))))
def Qch:List D->Out D:=bodyF true 2 7 QfE
theorem QwZ(d0 d1:D):Qch [d0,d1]=(QfE [some (.k,d0),some (.k,d1),none,none,none,none,none]>>=retF true):=rfl
theorem Qyh(F:FunV K "_law_worths" "_law_worths" QcX f fd dV)(Qau:"e"^QH "_law_mixed" 1 false)(Qgm:"e"^QbH "_law_low" 2 false)(z_range:mg "range"=none):"f"^3 ["_law_cell_here","_law_many"] true Qch:=
 (@fnV P w K mg base CT true _ _ _ f fd dV _ _ 2 QfE F Qcj fun cdv A outer s H E G hr=>
  (Qf (Qb4 (i:=2) Qcj.nd rfl (oi rfl) (Qa7 Qg)) (Qf (Qw (i:=3) Qcj.nd rfl (oi rfl) (Qaf (DE.db Qe) (DE.db (Qar (DE.db (Qbf (DE.db (de_f Qau (Rm hr) (Qb (Qa 0) (Qb Qe Qg)) rfl)) (DE.db Qe))) (DE.db (de_ix (DF.de (Qa7 (Qb Qe (Qb (Qz7 (DE.db Qe) (DE.db Qe)) Qg)))) (DE.db (Qar (DE.db (de_f Qau (Rm hr) (Qb (Qa 0) (Qb Qe Qg)) rfl)) (DE.db Qe))))))))) (Qf (Qbp PassesOwn.never rfl (QaP rfl z_range (DE.db (Qa 1))) (Qy (i:=4) Qcj.nd rfl (oi rfl)) (Qt _) (Qf (Qw (i:=5) Qcj.nd rfl (oi rfl) (de_f Qau (Rm hr) (Qb (Qa 0) (Qb (Qaf (DE.db (Qa 4)) (DE.db Qe)) Qg)) rfl)) (Qf (Qw (i:=6) Qcj.nd rfl (oi rfl) (de_ix (DF.de (Qa7 (Qb (Qa6 (DE.db (Qar (DE.db (Qbf (DE.db (Qa 5)) (DE.db Qe))) (DE.db Qe))) (DE.db Qe)) (Qb (Qa6 (DE.db (Qar (DE.db (Qbf (DE.db (Qa 5)) (DE.db Qe))) (DE.db (QaC (DE.db Qe) (DE.db (Qz7 (DE.db Qe) (DE.db Qe))))))) (DE.db (Qz7 (DE.db Qe) (DE.db Qe)))) (Qb Qe (Qb Qe Qg)))))) (DE.db (Qar (DE.db (Qa 5)) (DE.db Qe))))) (Qh (QbW 2 (de_f Qgm (Rm hr) (Qb (Qa 6) (Qb (Qa 3) Qg)) rfl) rfl (oi rfl)))))) (Qh (QiM 2 rfl (oi rfl)))))) :)
abbrev QaY:Stmt:=top 10
theorem Qci:Qm ["one","other","rest"] ["one","other"] (Qd QaY):=⟨rfl,rfl,rfl,dk,rfl,dk,dk⟩
def Qa3:SD->Out Bool:=(tVal (e2 dNe (eVar 1) (eC (.int 0))))
def Qa8:SD->Out Fl:=(sSeq (sSet 2 (e2 dMod (eVar 0) (eVar 1))) (sSeq (sSet 0 (eVar 1)) (sSet 1 (eVar 2))))
def QdM:SD->Out Fl:=(sSeq (QbK Qa3 Qa8) (sRet (eVar 0)))
def Q4:List D->Out D:=bodyF false 2 3 QdM
theorem QlQ(F:FunV K "greatest_divisor" "greatest_divisor" QaY f fd dV)  : "f"^1 ["one","other"] false Q4:=
 (@fnV P w K mg base CT false _ _ _ f fd dV _ _ 0 QdM F Qci fun cdv A outer s H E G hr=>
  (Qf (Qs3 PassesOwn.never (dt_ne hr.units (DE.db (Qa 1)) (DE.db Qe)) (Qf (Qw (i:=2) Qci.nd rfl (oi rfl) (Qar (DE.db (Qa 0)) (DE.db (Qa 1)))) (Qf (Qw (i:=0) Qci.nd rfl (oi rfl) (Qa 1)) (Qh (Qw (i:=1) Qci.nd rfl (oi rfl) (Qa 2)))))) (Qh (Qx (Qa 0)))) :)
abbrev QbI:Stmt:=top 19
theorem Qdj:Qm ["fractions","least","each"] ["fractions"] (Qd QbI):=⟨rfl,rfl,rfl,dk,rfl,dk,dk⟩
def QcP:SD->Out Fl:=(sSet 1 (e2 dMul (eVar 1) (e2 dFdiv (e2 dIx (eVar 2) (eC (.int 1))) (eA (fun xs=>Q4 (xs++[])) (aCons (eVar 1) (aCons (e2 dIx (eVar 2) (eC (.int 1))) aNil))))))
def QdD:SD->Out Fl:=(sSeq (sSet 1 (eC (.int 1))) (sSeq (sFor (gN 2) (itL (eVar 0)) QcP) (sRet (eVar 1))))
def QaO:List D->Out D:=bodyF false 1 3 QdD
theorem Qqu(d0:D):QaO [d0]=(QdD [some (.k,d0),none,none]>>=retF false):=rfl
theorem Qpy(F:FunV K "common_bottom" "common_bottom" QbI f fd dV)(QdU:"e"^Q4 "greatest_divisor" 1 false):"f"^2 ["fractions"] false QaO:=
 (@fnV P w K mg base CT false _ _ _ f fd dV _ _ 1 QdD F Qdj fun cdv A outer s H E G hr=>
  (Qf (Qw (i:=1) Qdj.nd rfl (oi rfl) Qe) (Qf (Qbp PassesOwn.never rfl (QZ (Qa 0)) (Qy (i:=2) Qdj.nd rfl (oi rfl)) (Qt _) (Qh (Qw (i:=1) Qdj.nd rfl (oi rfl) (QaC (DE.db (Qa 1)) (DE.db (Qbf (DE.db (de_ix (Qa 2) (DE.db Qe))) (DE.db (de_f QdU (Rm hr) (Qb (Qa 1) (Qb (de_ix (Qa 2) (DE.db Qe)) Qg)) rfl)))))))) (Qh (Qx (Qa 1))))) :)
abbrev Qcl:Stmt:=top 11
theorem QnF:Qm ["top","bottom","divisor"] ["top","bottom"] (Qd Qcl):=⟨rfl,rfl,rfl,dk,rfl,dk,dk⟩
def Qme:SD->Out Fl:=(sSeq (sIf (tOr' (tNot' (tVal (eA (fun xs=>QaU (xs++[])) ‹"w"›))) (tOr' (tNot' (tVal (eA (fun xs=>QaU (xs++[])) ‹"q"›))) (tVal (e2 dEq (eVar 1) (eC (.int 0)))))) Qd0 sNil) (sSeq (sSet 2 (eA (fun xs=>Q4 (xs++[])) (aCons (eA (f1 dAbs) ‹"w"›) (aCons (eA (f1 dAbs) ‹"q"›) aNil)))) (sSeq (sIf (tVal (e2 dLt (eVar 1) (eC (.int 0)))) (sSet 2 (e1 dNeg (eVar 2))) sNil) (sRet (eTup (aCons (e2 dFdiv (eVar 0) (eVar 2)) (aCons (e2 dFdiv (eVar 1) (eVar 2)) aNil)))))))
def QaQ:List D->Out D:=bodyF false 2 3 Qme
theorem QN4(F:FunV K "share" "share" Qcl f fd dV)(QgU:"e"^QaU "is_whole" 1 false)(QdU:"e"^Q4 "greatest_divisor" 1 false)(z_abs:mg "abs"=none):"f"^2 ["top","bottom"] false QaQ:=
 (@fnV P w K mg base CT false _ _ _ f fd dV _ _ 1 Qme F QnF fun cdv A outer s H E G hr=>
  (Qf (ds_if (DW.dt (dw_or (Qae (Qag (de_f QgU (Rm hr) (Qb (Qa 0) Qg) rfl))) (dw_or (Qae (Qag (de_f QgU (Rm hr) (Qb (Qa 1) Qg) rfl))) (QdT (dt_eq hr.units (DE.db (Qa 1)) (DE.db Qe)))))) (Qh QcI) QV) (Qf (Qw (i:=2) QnF.nd rfl (oi rfl) (de_f QdU (Rm hr) (Qb (Qpt rfl z_abs PyProof.Rows.Boot.«abs» (Qv (DE.db (Qa 0)) Qz)) (Qb (Qpt rfl z_abs PyProof.Rows.Boot.«abs» (Qv (DE.db (Qa 1)) Qz)) Qg)) rfl)) (Qf (ds_if (dt_lt (DE.db (Qa 1)) (DE.db Qe)) (Qh (Qw (i:=2) QnF.nd rfl (oi rfl) (Qgu (DE.db (Qa 2))))) QV) (Qh (Qx (Qb9 (Qb (Qbf (DE.db (Qa 0)) (DE.db (Qa 2))) (Qb (Qbf (DE.db (Qa 1)) (DE.db (Qa 2))) Qg)))))))) :)
abbrev Qco:Stmt:=top 20
theorem Qig:Qm ["shares","worths","parts","bottom"] ["shares","worths"] (Qd Qco):=⟨rfl,rfl,rfl,dk,rfl,dk,dk⟩
abbrev Qvx:Scope:={ kind:=ScopeKind.function,names:=[ (Str.ofString ".0",NameKind.local),(Str.ofString "part",NameKind.local),(Str.ofString "worth",NameKind.local)],isGenerator:=false,isCoroutine:=false,more:=[]:Scope }
theorem Qg0:QB ["part","worth"] [none,none] Qvx (Qd Qco) ["shares","worths","parts","bottom"]:=⟨rfl,dk,dk,rfl,dk,dk⟩
def QbE:SD->Out Bool:=(tVal (e2 dNe ‹"t"› (eC (.int 0))))
def Qcf:SD->Out D:=(eTup (aCons (e2 dMul ‹"t"› (e2 dIx (eVar 1) (eC (.int 0)))) (aCons (e2 dMul ‹"p"› (e2 dIx (eVar 1) (eC (.int 1)))) aNil)))
abbrev Qup:Scope:={ kind:=ScopeKind.function,names:=[ (Str.ofString ".0",NameKind.local),(Str.ofString "part",NameKind.local),(Str.ofString "bottom",NameKind.free)],isGenerator:=false,isCoroutine:=false,more:=[]:Scope }
theorem Qlb:QB ["part","bottom"] [none,some 3] Qup (Qd Qco) ["shares","worths","parts","bottom"]:=⟨rfl,dk,dk,rfl,dk,dk⟩
def Qg6:SD->Out D:=(e2 dMul ‹"t"› (e2 dFdiv (eVar 1) ‹"p"›))
def QgI:SD->Out Fl:=(sSeq (sSet 2 (eComp [none,none] (itZ (eVar 0) (eVar 1)) (gT [0,1]) QbE Qcf)) (sSeq (sSet 3 (eA (fun xs=>QaO (xs++[])) (aCons (eVar 2) aNil))) (sRet (eA (fun xs=>QaQ (xs++[])) (aCons (eA (f1 fSum) (aCons (eComp [none,some 3] (itL (eVar 2)) (gN 0) cTrue Qg6) aNil)) (aCons (eVar 3) aNil))))))
def QaI:List D->Out D:=bodyF false 2 4 QgI
theorem QFk(d0 d1:D):QaI [d0,d1]=(QgI [some (.k,d0),some (.k,d1),none,none]>>=retF false):=rfl
theorem QHh(F:FunV K "worth_of" "worth_of" Qco f fd dV)(Qo5:"e"^QaO "common_bottom" 2 false)(QiW:"e"^QaQ "share" 2 false)(z_zip:mg "zip"=none)(z_sum:mg "sum"=none):"f"^3 ["shares","worths"] false QaI:=
 (@fnV P w K mg base CT false _ _ _ f fd dV _ _ 2 QgI F Qig fun cdv A outer s H E G hr=>
  (Qf (Qe5 (i:=2) rfl Qg0 (DI.b (Qgt rfl z_zip (Qa 0) (Qa 1))) (fun ς=>QeU (fun i hi=>Qr (by revert hi;revert i;decide) ς)) (Qcd _) (fun fp s H G p=>⟨(QdY rfl (QE (i:=0) Qg0.nd rfl (oi rfl) (QE (i:=1) Qg0.nd rfl (oi rfl) Qbe (hf:=Or.inr rfl)) (hf:=Or.inr rfl))),(QEo (dt_ne hr.units (DE.db ‹"e"›) (DE.db Qe))),(Qb9 (Qb ‹"L"› (Qb ‹"L"› Qg)))⟩) Qig.nd rfl (oi rfl)) (Qf (Qw (i:=3) Qig.nd rfl (Or.inr rfl) (de_f Qo5 (Rm hr) (Qb (Qa 2) Qg) rfl)) (Qh (Qx (de_f QiW (Rm hr) (Qb (QPi rfl rfl z_sum (Qv (DE.db (DF.de (QU rfl Qlb (DI.b (QZ (Qa 2))) ‹"f"› (Qt _) (fun fp s H G p=>⟨(Qy (i:=0) Qlb.nd rfl (oi rfl) (hf:=Or.inr rfl)),QM,(QaC (DE.db ‹"e"›) (DE.db (Qbf (DE.db (Qa 1)) (DE.db ‹"e"›))))⟩)))) Qz)) (Qb (Qa 3) Qg)) rfl))))) :)
abbrev QgY:Stmt:=top 12
theorem QLP:Qm ["one","other"] ["one","other"] (Qd QgY):=⟨rfl,rfl,rfl,dk,rfl,dk,dk⟩
def Qmi:SD->Out Fl:=(sRet (eA (fun xs=>QaQ (xs++[])) (aCons (e2 dAdd (e2 dMul ‹"t"› (e2 dIx (eVar 1) (eC (.int 1)))) (e2 dMul (e2 dIx (eVar 1) (eC (.int 0))) ‹"p"›)) (aCons (e2 dMul ‹"p"› (e2 dIx (eVar 1) (eC (.int 1)))) aNil))))
def QfZ:List D->Out D:=bodyF false 2 2 Qmi
theorem QMX(d0 d1:D):QfZ [d0,d1]=(Qmi ‹"u"›>>=retF false):=rfl
theorem QMW(F:FunV K "added" "added" QgY f fd dV)(QiW:"e"^QaQ "share" 2 false):"f"^3 ["one","other"] false QfZ:=
 (@fnV P w K mg base CT false _ _ _ f fd dV _ _ 2 Qmi F QLP fun cdv A outer s H E G hr=>
  (Qh (Qx (de_f QiW (Rm hr) (Qb (Qaf (DE.db ‹"L"›) (DE.db (QaC (DE.db (de_ix (Qa 1) (DE.db Qe))) (DE.db ‹"e"›)))) (Qb ‹"L"› Qg)) rfl))) :)
abbrev Qbv:Stmt:=top 22
theorem QpX:Qm ["counts"] ["counts"] (Qd Qbv):=⟨rfl,rfl,rfl,dk,rfl,dk,dk⟩
abbrev Qmk:Scope:={ kind:=ScopeKind.function,names:=[ (Str.ofString ".0",NameKind.local),(Str.ofString "count",NameKind.local),(Str.ofString "share",NameKind.globalImplicit)],isGenerator:=false,isCoroutine:=false,more:=[]:Scope }
theorem Qho:QB ["count"] [none] Qmk (Qd Qbv) ["counts"]:=⟨rfl,dk,dk,rfl,dk,dk⟩
def QeZ:SD->Out D:=(eA (fun xs=>QaQ (xs++[(.int 1)])) ‹"w"›)
def Qd6:SD->Out Fl:=(sRetF (eComp [none] (itL (eVar 0)) (gN 0) cTrue QeZ))
def Qbw:List D->Out D:=bodyF true 1 1 Qd6
theorem QrR(d0:D):Qbw [d0]=(Qd6 [some (.k,d0)]>>=retF true):=rfl
theorem Qrt(F:FunV K "whole_shares" "whole_shares" Qbv f fd dV)(h_share_1:DefOk P w K mg base CT "share" 2 false [(.int 1)] QaQ):"f"^3 ["counts"] true Qbw:=
 (@fnV P w K mg base CT true _ _ _ f fd dV _ _ 2 Qd6 F QpX fun cdv A outer s H E G hr=>
  (Qh (Qa1 (QU rfl Qho (DI.b (QZ (Qa 0))) ‹"f"› (Qt _) (fun fp s H G p=>⟨(Qy (i:=0) Qho.nd rfl (oi rfl) (hf:=Or.inr rfl)),QM,(de_f h_share_1 (Rm hr) (Qb (Qa 0) Qg) rfl)⟩)))) :)
abbrev Qb5:Stmt:=inCls (top 60) 5
theorem QpK:Qm ["self","k"] ["self","k"] (Qd Qb5):=⟨rfl,rfl,rfl,dk,rfl,dk,dk⟩
def Qd5:SD->Out Fl:=(sRet (e2 dIx (e1 (dFld Qj "staff") (eVar 0)) (eVar 1)))
def Qao:List D->Out D:=bodyF false 2 2 Qd5
theorem QrF(d0 d1:D):Qao [d0,d1]=(Qd5 ‹"u"›>>=retF false):=rfl
theorem QrM(F:FunV K "clerk" "Office.clerk" Qb5 f fd dV)(fo_staff:FldOk K CT Qj "staff"):"f"^1 ["self","k"] false Qao:=
 (@fnV P w K mg base CT false _ _ _ f fd dV _ _ 0 Qd5 F QpK fun cdv A outer s H E G hr=>
  (Qh (Qx (de_ix (QfD fo_staff (Qa 0)) (DE.db (Qa 1))))) :)
abbrev Qck:Stmt:=inCls (top 33) 5
theorem QsQ:Qm ["self"] ["self"] (Qd Qck):=⟨rfl,rfl,rfl,dk,rfl,dk,dk⟩
def QeO:SD->Out Fl:=(sRetF (e1 dList (e2 dIx (e1 (dFld Qj "heads") (eVar 0)) (eMeth Qc "period" (fun _=>QI) (eVar 0) aNil))))
def Qai:List D->Out D:=bodyF true 1 1 QeO
theorem QvU(d0:D):Qai [d0]=(QeO [some (.k,d0)]>>=retF true):=rfl
theorem QtQ(F:FunV K "whole" "Clerk.whole" Qck f fd dV)(z_list:mg "list"=none)(fo_heads:FldOk K CT Qj "heads")(mt_period:‹"y"›):"f"^2 ["self"] true Qai:=
 (@fnV P w K mg base CT true _ _ _ f fd dV _ _ 1 QeO F QsQ fun cdv A outer s H E G hr=>
  (Qh (Qa1 (Qdz rfl z_list (de_ix (QfD fo_heads (Qa 0)) (DE.db (Qb7 mt_period (Rm hr) (Qa 0))))))) :)
abbrev Qac:Stmt:=inCls (top 33) 6
theorem Qcc:Qm ["self","count","rounds","head"] ["self","count"] (Qd Qac):=⟨rfl,rfl,rfl,dk,rfl,dk,dk⟩
abbrev QgF:Scope:={ kind:=ScopeKind.function,names:=[ (Str.ofString ".0",NameKind.local),(Str.ofString "each",NameKind.local),(Str.ofString "more",NameKind.local),(Str.ofString "rounds",NameKind.free)],isGenerator:=false,isCoroutine:=false,more:=[]:Scope }
theorem QbS:QB ["each","more","rounds"] [none,none,some 2] QgF (Qd Qac) ["self","count","rounds","head"]:=⟨rfl,dk,dk,rfl,dk,dk⟩
def QdI:SD->Out D:=(e2 dAdd (e2 dMul (eVar 2) (eVar 0)) (eVar 1))
def Qbl:SD->Out Fl:=(sSeq (sSet 2 (e2 dFdiv (eVar 1) (eMeth Qc "period" (fun _=>QI) (eVar 0) aNil))) (sSeq (sSet 3 (e2 dIx (e1 (dFld Qj "heads") (eVar 0)) (e2 dMod (eVar 1) (eMeth Qc "period" (fun _=>QI) (eVar 0) aNil)))) (sRetF (eComp [none,none,some 2] (itZ (eMeth Qc "whole" (fun _=>Qai) (eVar 0) aNil) (eVar 3)) (gT [0,1]) cTrue QdI))))
def QR:List D->Out D:=bodyF true 2 4 Qbl
theorem QhF(d0 d1:D):QR [d0,d1]=(Qbl [some (.k,d0),some (.k,d1),none,none]>>=retF true):=rfl
theorem QhG(F:FunV K "sent_from_start" "Clerk.sent_from_start" Qac f fd dV)(z_zip:mg "zip"=none)(fo_heads:FldOk K CT Qj "heads")(mt_period:‹"y"›)(mt_whole:MtOk P w K mg base CT CX0 "whole" 2 Qc (fun c=>SpD K CT true ((fun _=>Qai) c))):"f"^3 ["self","count"] true QR:=
 (@fnV P w K mg base CT true _ _ _ f fd dV _ _ 2 Qbl F Qcc fun cdv A outer s H E G hr=>
  (Qf (Qw (i:=2) Qcc.nd rfl (Or.inr rfl) (Qbf (DE.db (Qa 1)) (DE.db (Qb7 mt_period (Rm hr) (Qa 0))))) (Qf (Qw (i:=3) Qcc.nd rfl (oi rfl) (de_ix (QfD fo_heads (Qa 0)) (DE.db (Qar (DE.db (Qa 1)) (DE.db (Qb7 mt_period (Rm hr) (Qa 0))))))) (Qh (Qa1 (QU rfl QbS (DI.b (Qgt rfl z_zip (Qb7 mt_whole (Rm hr) (Qa 0)) (Qa 3))) (fun ς=>QeU (fun i hi=>Qr (by revert hi;revert i;decide) ς)) (Qcd _) (fun fp s H G p=>⟨(QdY rfl (QE (i:=0) QbS.nd rfl (oi rfl) (QE (i:=1) QbS.nd rfl (oi rfl) Qbe (hf:=Or.inr rfl)) (hf:=Or.inr rfl))),QM,(Qaf (DE.db (QaC (DE.db (Qa 2)) (DE.db (Qa 0)))) (DE.db (Qa 1)))⟩)))))) :)
abbrev Qb8:Stmt:=inCls (top 33) 7
theorem Qgx:Qm ["self","state","count","late","early"] ["self","state","count"] (Qd Qb8):=⟨rfl,rfl,rfl,dk,rfl,dk,dk⟩
abbrev Qo7:Scope:={ kind:=ScopeKind.function,names:=[ (Str.ofString ".0",NameKind.local),(Str.ofString "after",NameKind.local),(Str.ofString "before",NameKind.local)],isGenerator:=false,isCoroutine:=false,more:=[]:Scope }
theorem QfX:QB ["after","before"] [none,none] Qo7 (Qd Qb8) ["self","state","count","late","early"]:=⟨rfl,dk,dk,rfl,dk,dk⟩
def QiH:SD->Out D:=(e2 dSub (eVar 0) (eVar 1))
def QfB:SD->Out Fl:=(sSeq (sSet 3 (eMeth Qc "sent_from_start" (fun _=>QR) (eVar 0) (aCons (e2 dAdd (eVar 1) (eVar 2)) aNil))) (sSeq (sSet 4 (eMeth Qc "sent_from_start" (fun _=>QR) (eVar 0) ‹"q"›)) (sRetF (eComp [none,none] (itZ (eVar 3) (eVar 4)) (gT [0,1]) cTrue QiH))))
def QbD:List D->Out D:=bodyF true 3 5 QfB
theorem Qzn(d0 d1 d2:D):QbD [d0,d1,d2]=(QfB [some (.k,d0),some (.k,d1),some (.k,d2),none,none]>>=retF true):=rfl
theorem Qwr(F:FunV K "sent" "Clerk.sent" Qb8 f fd dV)(z_zip:mg "zip"=none)(mt_sent_from_start:MtOk P w K mg base CT CX0 "sent_from_start" 3 Qc (fun c=>SpD K CT true ((fun _=>QR) c))):"f"^4 ["self","state","count"] true QbD:=
 (@fnV P w K mg base CT true _ _ _ f fd dV _ _ 3 QfB F Qgx fun cdv A outer s H E G hr=>
  (Qf (Qw (i:=3) Qgx.nd rfl (oi rfl) (Qe6 mt_sent_from_start (Rm hr) (Qa 0) (Qb (Qaf (DE.db (Qa 1)) (DE.db (Qa 2))) Qg))) (Qf (Qw (i:=4) Qgx.nd rfl (oi rfl) (Qe6 mt_sent_from_start (Rm hr) (Qa 0) (Qb (Qa 1) Qg))) (Qh (Qa1 (QU rfl QfX (DI.b (Qgt rfl z_zip (Qa 3) (Qa 4))) (fun ς=>QeU (fun i hi=>Qr (by revert hi;revert i;decide) ς)) (Qcd _) (fun fp s H G p=>⟨(QdY rfl (QE (i:=0) QfX.nd rfl (oi rfl) (QE (i:=1) QfX.nd rfl (oi rfl) Qbe (hf:=Or.inr rfl)) (hf:=Or.inr rfl))),QM,(Qa6 (DE.db (Qa 0)) (DE.db (Qa 1)))⟩)))))) :)
abbrev Qb1:Stmt:=inCls (top 60) 7
theorem Qpu:Qm ["self","k"] ["self","k"] (Qd Qb1):=⟨rfl,rfl,rfl,dk,rfl,dk,dk⟩
def Qee:SD->Out Fl:=(sRetF (e1 dList (e2 dIx (e1 (dFld Qj "ways") (eVar 0)) (eVar 1))))
def Qad:List D->Out D:=bodyF true 2 2 Qee
theorem Qry(d0 d1:D):Qad [d0,d1]=(Qee ‹"u"›>>=retF true):=rfl
theorem Qrv(F:FunV K "leads" "Office.leads" Qb1 f fd dV)(z_list:mg "list"=none)(fo_ways:FldOk K CT Qj "ways"):"f"^1 ["self","k"] true Qad:=
 (@fnV P w K mg base CT true _ _ _ f fd dV _ _ 0 Qee F Qpu fun cdv A outer s H E G hr=>
  (Qh (Qa1 (Qdz rfl z_list (de_ix (QfD fo_ways (Qa 0)) (DE.db (Qa 1)))))) :)
abbrev Qba:Stmt:=top 24
theorem Qnl:Qm ["office","k","worths","door_worths"] ["office","k","worths","door_worths"] (Qd Qba):=⟨rfl,rfl,rfl,dk,rfl,dk,dk⟩
abbrev Qk7:Scope:={ kind:=ScopeKind.function,names:=[ (Str.ofString ".0",NameKind.local),(Str.ofString "lead",NameKind.local),(Str.ofString "door_worths",NameKind.free),(Str.ofString "worths",NameKind.free)],isGenerator:=false,isCoroutine:=false,more:=[]:Scope }
theorem QgG:QB ["lead","worths","door_worths"] [none,some 2,some 3] Qk7 (Qd Qba) ["office","k","worths","door_worths"]:=⟨rfl,dk,dk,rfl,dk,dk⟩
def Qeu:SD->Out D:=(eIf (tVal (e2 dGe (eVar 0) (eC (.int 0)))) (e2 dIx (eVar 1) (eVar 0)) (e2 dIx (eVar 2) (e2 dSub (e1 dNeg (eC (.int 1))) (eVar 0))))
def QdH:SD->Out Fl:=(sRetF (eComp [none,some 2,some 3] (itL (eMeth Qu "leads" (fun _=>Qad) (eVar 0) ‹"q"›)) (gN 0) cTrue Qeu))
def Qa5:List D->Out D:=bodyF true 4 4 QdH
theorem Qpv(d0 d1 d2 d3:D):Qa5 [d0,d1,d2,d3]=(QdH [some (.k,d0),some (.k,d1),some (.k,d2),some (.k,d3)]>>=retF true):=rfl
theorem Qoq(F:FunV K "worths_behind" "worths_behind" Qba f fd dV)(mt_leads:MtOk P w K mg base CT CX0 "leads" 1 Qu (fun c=>SpD K CT true ((fun _=>Qad) c))):"f"^2 ["office","k","worths","door_worths"] true Qa5:=
 (@fnV P w K mg base CT true _ _ _ f fd dV _ _ 1 QdH F Qnl fun cdv A outer s H E G hr=>
  (Qh (Qa1 (QU rfl QgG (DI.b (QZ (Qe6 mt_leads (Rm hr) (Qa 0) (Qb (Qa 1) Qg)))) ‹"f"› (Qt _) (fun fp s H G p=>⟨(Qy (i:=0) QgG.nd rfl (oi rfl) (hf:=Or.inr rfl)),QM,(de_if (dt_ge (DE.db (Qa 0)) (DE.db Qe)) (de_ix (Qa 1) (DE.db (Qa 0))) (de_ix (Qa 2) (DE.db (Qa6 (DE.db (Qgu (DE.db Qe))) (DE.db (Qa 0))))))⟩)))) :)
abbrev QgZ:Stmt:=top 25
theorem QiC:Qm ["office","k","state","worths","door_worths","clerk","period","ahead","shares"] ["office","k","state","worths","door_worths"] (Qd QgZ):=⟨rfl,rfl,rfl,dk,rfl,dk,dk⟩
abbrev QKj:Scope:={ kind:=ScopeKind.function,names:=[ (Str.ofString ".0",NameKind.local),(Str.ofString "whole",NameKind.local),(Str.ofString "sent",NameKind.local),(Str.ofString "share",NameKind.globalImplicit),(Str.ofString "period",NameKind.free),(Str.ofString "state",NameKind.free)],isGenerator:=false,isCoroutine:=false,more:=[]:Scope }
theorem Qna:QB ["whole","sent","state","period"] [none,none,some 2,some 6] QKj (Qd QgZ) ["office","k","state","worths","door_worths","clerk","period","ahead","shares"]:=⟨rfl,dk,dk,rfl,dk,dk⟩
def QnW:SD->Out D:=(eA (fun xs=>QaQ (xs++[])) (aCons (e2 dSub (e2 dMul (eVar 2) (eVar 0)) (e2 dMul (eVar 3) (eVar 1))) (aCons (eVar 3) aNil)))
def Qox:SD->Out Fl:=(sSeq (sSet 5 (eMeth Qu "clerk" (fun _=>Qao) (eVar 0) ‹"q"›)) (sSeq (sSet 6 (eMeth Qc "period" (fun _=>QI) (eVar 5) aNil)) (sSeq (sSet 7 (eMeth Qc "sent" (fun _=>QbD) (eVar 5) (aCons (eC (.int 0)) (aCons (eVar 2) aNil)))) (sSeq (sSet 8 (eComp [none,none,some 2,some 6] (itZ (eMeth Qc "whole" (fun _=>Qai) (eVar 5) aNil) (eVar 7)) (gT [0,1]) cTrue QnW)) (sRet (eA (fun xs=>QaI (xs++[])) (aCons (eVar 8) (aCons (eA (fun xs=>Qa5 (xs++[])) (aCons (eVar 0) (aCons (eVar 1) (aCons (eVar 3) (aCons (eVar 4) aNil))))) aNil))))))))
def Qd4:List D->Out D:=bodyF false 5 9 Qox
theorem QPK(d0 d1 d2 d3 d4:D):Qd4 [d0,d1,d2,d3,d4]=(Qox [some (.k,d0),some (.k,d1),some (.k,d2),some (.k,d3),some (.k,d4),none,none,none,none]>>=retF false):=rfl
theorem QOP(F:FunV K "lean" "lean" QgZ f fd dV)(QiW:"e"^QaQ "share" 2 false)(Qfi:"e"^QaI "worth_of" 3 false)(QpJ:"e"^Qa5 "worths_behind" 2 true)(z_zip:mg "zip"=none)(mt_clerk:MtOk P w K mg base CT CX0 "clerk" 1 Qu (fun c=>SpD K CT false ((fun _=>Qao) c)))(mt_period:‹"y"›)(mt_sent:MtOk P w K mg base CT CX0 "sent" 4 Qc (fun c=>SpD K CT true ((fun _=>QbD) c)))(mt_whole:MtOk P w K mg base CT CX0 "whole" 2 Qc (fun c=>SpD K CT true ((fun _=>Qai) c))):"f"^5 ["office","k","state","worths","door_worths"] false Qd4:=
 (@fnV P w K mg base CT false _ _ _ f fd dV _ _ 4 Qox F QiC fun cdv A outer s H E G hr=>
  (Qf (Qw (i:=5) QiC.nd rfl (oi rfl) (Qe6 mt_clerk (Rm hr) (Qa 0) (Qb (Qa 1) Qg))) (Qf (Qw (i:=6) QiC.nd rfl (Or.inr rfl) (Qb7 mt_period (Rm hr) (Qa 5))) (Qf (Qw (i:=7) QiC.nd rfl (oi rfl) (Qe6 mt_sent (Rm hr) (Qa 5) (Qb Qe (Qb (Qa 2) Qg)))) (Qf (Qe5 (i:=8) rfl Qna (DI.b (Qgt rfl z_zip (Qb7 mt_whole (Rm hr) (Qa 5)) (Qa 7))) (fun ς=>QeU (fun i hi=>Qr (by revert hi;revert i;decide) ς)) (Qcd _) (fun fp s H G p=>⟨(QdY rfl (QE (i:=0) Qna.nd rfl (oi rfl) (QE (i:=1) Qna.nd rfl (oi rfl) Qbe (hf:=Or.inr rfl)) (hf:=Or.inr rfl))),QM,(de_f QiW (Rm hr) (Qb (Qa6 (DE.db (QaC (DE.db (Qa 2)) (DE.db (Qa 0)))) (DE.db (QaC (DE.db (Qa 3)) (DE.db (Qa 1))))) (Qb (Qa 3) Qg)) rfl)⟩) QiC.nd rfl (oi rfl)) (Qh (Qx (de_f Qfi (Rm hr) (Qb (Qa 8) (Qb (de_f QpJ (Rm hr) (Qb (Qa 0) (Qb (Qa 1) (Qb (Qa 3) (Qb (Qa 4) Qg)))) rfl) Qg)) rfl))))))) :)
abbrev Qe1:Stmt:=top 23
theorem QI8:Qm ["fractions"] ["fractions"] (Qd Qe1):=⟨rfl,rfl,rfl,dk,rfl,dk,dk⟩
abbrev QCD:Scope:={ kind:=ScopeKind.function,names:=[ (Str.ofString ".0",NameKind.local),(Str.ofString "each",NameKind.local),(Str.ofString "share",NameKind.globalImplicit)],isGenerator:=false,isCoroutine:=false,more:=[]:Scope }
theorem Qoh:QB ["each"] [none] QCD (Qd Qe1) ["fractions"]:=⟨rfl,dk,dk,rfl,dk,dk⟩
def QjW:SD->Out D:=(eA (fun xs=>QaQ (xs++[(.int 1)])) (aCons (eC (.int 1)) aNil))
def QjQ:SD->Out Fl:=(sRet (eA (fun xs=>QaI (xs++[])) (aCons (eComp [none] (itL (eVar 0)) (gN 0) cTrue QjW) ‹"w"›)))
def QeT:List D->Out D:=bodyF false 1 1 QjQ
theorem QMa(d0:D):QeT [d0]=(QjQ [some (.k,d0)]>>=retF false):=rfl
theorem QLq(F:FunV K "sum_of" "sum_of" Qe1 f fd dV)(Qfi:"e"^QaI "worth_of" 3 false)(h_share_1:DefOk P w K mg base CT "share" 2 false [(.int 1)] QaQ):"f"^4 ["fractions"] false QeT:=
 (@fnV P w K mg base CT false _ _ _ f fd dV _ _ 3 QjQ F QI8 fun cdv A outer s H E G hr=>
  (Qh (Qx (de_f Qfi (Rm hr) (Qb (DF.de (QU rfl Qoh (DI.b (QZ (Qa 0))) ‹"f"› (Qt _) (fun fp s H G p=>⟨(Qy (i:=0) Qoh.nd rfl (oi rfl) (hf:=Or.inr rfl)),QM,(de_f h_share_1 (Rm hr) (Qb Qe Qg) rfl)⟩))) (Qb (Qa 0) Qg)) rfl))) :)
abbrev Qhp:Stmt:=top 26
theorem Qr4:Qm ["office","worths","door_worths","states","desks","out","dockets","leaning"] ["office","worths","door_worths","states","desks","out"] (Qd Qhp):=⟨rfl,rfl,rfl,dk,rfl,dk,dk⟩
abbrev QIF:Scope:={ kind:=ScopeKind.function,names:=[ (Str.ofString ".0",NameKind.local),(Str.ofString "k",NameKind.local),(Str.ofString "state",NameKind.local),(Str.ofString "lean",NameKind.globalImplicit),(Str.ofString "door_worths",NameKind.free),(Str.ofString "office",NameKind.free),(Str.ofString "worths",NameKind.free)],isGenerator:=false,isCoroutine:=false,more:=[]:Scope }
theorem QnX:QB ["k","state","office","worths","door_worths"] [none,none,some 0,some 1,some 2] QIF (Qd Qhp) ["office","worths","door_worths","states","desks","out","dockets","leaning"]:=⟨rfl,dk,dk,rfl,dk,dk⟩
def Qn7:SD->Out D:=(eA (fun xs=>Qd4 (xs++[])) (aCons (eVar 2) (aCons (eVar 0) (aCons (eVar 1) (aCons (eVar 3) (aCons (eVar 4) aNil))))))
def QpU:SD->Out Fl:=(sSeq (sSet 6 (eA (fun xs=>QaI (xs++[])) (aCons (eA (fun xs=>Qbw (xs++[])) (aCons (e2 dCat (eVar 4) (eVar 5)) aNil)) (aCons (e2 dCat (eVar 1) (eVar 2)) aNil)))) (sSeq (sSet 7 (eComp [none,none,some 0,some 1,some 2] (itE (eVar 3)) (gT [0,1]) cTrue Qn7)) (sRet (eA (fun xs=>QfZ (xs++[])) (aCons (eVar 6) (aCons (eA (fun xs=>QeT (xs++[])) (aCons (eVar 7) aNil)) aNil))))))
def QfI:List D->Out D:=bodyF false 6 8 QpU
theorem QPG(d0 d1 d2 d3 d4 d5:D):QfI [d0,d1,d2,d3,d4,d5]=(QpU [some (.k,d0),some (.k,d1),some (.k,d2),some (.k,d3),some (.k,d4),some (.k,d5),none,none]>>=retF false):=rfl
theorem QP6(F:FunV K "book" "book" Qhp f fd dV)(Qfi:"e"^QaI "worth_of" 3 false)(QqL:"e"^Qbw "whole_shares" 3 true)(QOW:"e"^Qd4 "lean" 5 false)(QNT:"e"^QfZ "added" 3 false)(QKB:"e"^QeT "sum_of" 4 false)(z_enumerate:mg "enumerate"=none):"f"^6 ["office","worths","door_worths","states","desks","out"] false QfI:=
 (@fnV P w K mg base CT false _ _ _ f fd dV _ _ 5 QpU F Qr4 fun cdv A outer s H E G hr=>
  (Qf (Qw (i:=6) Qr4.nd rfl (oi rfl) (de_f Qfi (Rm hr) (Qb (de_f QqL (Rm hr) (Qb (DF.de (QwG (Qa 4) (Qa 5))) Qg) rfl) (Qb (DF.de (QwG (Qa 1) (Qa 2))) Qg)) rfl)) (Qf (Qe5 (i:=7) rfl QnX (DI.b (Qq6 rfl z_enumerate (Qa 3))) (fun ς=>QeU (fun i hi=>Qr (by revert hi;revert i;decide) ς)) (Qcd _) (fun fp s H G p=>⟨(QdY rfl (QE (i:=0) QnX.nd rfl (oi rfl) (QE (i:=1) QnX.nd rfl (oi rfl) Qbe (hf:=Or.inr rfl)) (hf:=Or.inr rfl))),QM,(de_f QOW (Rm hr) (Qb (Qa 2) (Qb (Qa 0) (Qb (Qa 1) (Qb (Qa 3) (Qb (Qa 4) Qg))))) rfl)⟩) Qr4.nd rfl (oi rfl)) (Qh (Qx (de_f QNT (Rm hr) (Qb (Qa 6) (Qb (de_f QKB (Rm hr) (Qb (Qa 7) Qg) rfl) Qg)) rfl))))) :)
abbrev Qb0:Stmt:=inCls (top 60) 2
theorem Qot:Qm ["self"] ["self"] (Qd Qb0):=⟨rfl,rfl,rfl,dk,rfl,dk,dk⟩
def Qef:SD->Out Fl:=(sRetF (e1 dList (e1 (dFld Qj "door_names") (eVar 0))))
def QaJ:List D->Out D:=bodyF true 1 1 Qef
theorem QqH(d0:D):QaJ [d0]=(Qef [some (.k,d0)]>>=retF true):=rfl
theorem QrX(F:FunV K "doors" "Office.doors" Qb0 f fd dV)(z_list:mg "list"=none)(fo_door_names:FldOk K CT Qj "door_names"):"f"^1 ["self"] true QaJ:=
 (@fnV P w K mg base CT true _ _ _ f fd dV _ _ 0 Qef F Qot fun cdv A outer s H E G hr=>
  (Qh (Qa1 (Qdz rfl z_list (QfD fo_door_names (Qa 0))))) :)
abbrev QbO:Stmt:=top 14
theorem QqX:Qm ["office"] ["office"] (Qd QbO):=⟨rfl,rfl,rfl,dk,rfl,dk,dk⟩
abbrev Qm9:Scope:={ kind:=ScopeKind.function,names:=[(Str.ofString ".0",NameKind.local),(Str.ofString "door",NameKind.local)],isGenerator:=false,isCoroutine:=false,more:=[]:Scope }
theorem QhR:QB ["door"] [none] Qm9 (Qd QbO) ["office"]:=⟨rfl,dk,dk,rfl,dk,dk⟩
def QfK:SD->Out D:=(eC (.int 0))
def QeR:SD->Out Fl:=(sRetF (eComp [none] (itL (eMeth Qu "doors" (fun _=>QaJ) (eVar 0) aNil)) (gN 0) cTrue QfK))
def QbQ:List D->Out D:=bodyF true 1 1 QeR
theorem QvB(d0:D):QbQ [d0]=(QeR [some (.k,d0)]>>=retF true):=rfl
theorem Qur(F:FunV K "nothing_out" "nothing_out" QbO f fd dV)(mt_doors:MtOk P w K mg base CT CX0 "doors" 1 Qu (fun c=>SpD K CT true ((fun _=>QaJ) c))):"f"^2 ["office"] true QbQ:=
 (@fnV P w K mg base CT true _ _ _ f fd dV _ _ 1 QeR F QqX fun cdv A outer s H E G hr=>
  (Qh (Qa1 (QU rfl QhR (DI.b (QZ (Qb7 mt_doors (Rm hr) (Qa 0)))) ‹"f"› (Qt _) (fun fp s H G p=>⟨(Qy (i:=0) QhR.nd rfl (oi rfl) (hf:=Or.inr rfl)),QM,Qe⟩)))) :)
abbrev Qju:Stmt:=top 15
theorem Qyg:Qm ["desks","out","leads","dockets","lead","count"] ["desks","out","leads","dockets"] (Qd Qju):=⟨rfl,rfl,rfl,dk,rfl,dk,dk⟩
def Qmb:SD->Out Fl:=(sIf (tVal (e2 dGe (eVar 4) (eC (.int 0)))) (sPutW 0 (eVar 4) (e2 dAdd (e2 dIx (eVarB 0) (eVar 4)) (eVar 5))) (sPutW 1 (e2 dSub (e1 dNeg (eC (.int 1))) (eVar 4)) (e2 dAdd (e2 dIx (eVarB 1) (e2 dSub (e1 dNeg (eC (.int 1))) (eVar 4))) (eVar 5))))
def Qv9:SD->Out Fl:=(sFor (gT [4,5]) (itZ (eVar 2) (eVar 3)) Qmb)
def QjS:List D->Out (D×Option (List D)):=bodyW false [true,true,false,false] 6 Qv9
theorem QQB(d0 d1 d2 d3:D):QjS [d0,d1,d2,d3]=(Qv9 [some (.s,d0),some (.s,d1),some (.k,d2),some (.k,d3),none,none]>>=retW false [true,true,false,false]):=rfl
theorem QQC(F:FunV K "lay" "lay" Qju f fd dV)(z_zip:mg "zip"=none):FnOk P w K mg base CX0 1 f fd ["desks","out","leads","dockets"] (SpW K CT false [true,true,false,false] QjS):=
 @fnW P w K mg base CT false "lay" "lay" Qju f fd dV ["desks","out","leads","dockets","lead","count"] ["desks","out","leads","dockets"] 0 Qv9 [true,true,false,false] rfl F Qyg fun cdv A outer s H E G ps vs hr=>
  (Qh (Qbp PassesOwn.never rfl (Qgt rfl z_zip (Qa 2) (Qa 3)) (QdY rfl (QE (i:=4) Qyg.nd rfl (oi rfl) (QE (i:=5) Qyg.nd rfl (oi rfl) Qbe))) (Qcd _) (Qh (ds_if (dt_ge (DE.db (Qa 4)) (DE.db Qe)) (Qh (Qmc 0 (DE.db (Qa 4)) (Qaf (db_ix (QkE 0) (DE.db (Qa 4))) (DE.db (Qa 5))) rfl (oi rfl))) (Qh (Qmc 1 (DE.db (Qa6 (DE.db (Qgu (DE.db Qe))) (DE.db (Qa 4)))) (Qaf (db_ix (QkE 1) (DE.db (Qa6 (DE.db (Qgu (DE.db Qe))) (DE.db (Qa 4))))) (DE.db (Qa 5))) rfl (oi rfl)))))))
abbrev Qds:Stmt:=inCls (top 33) 4
theorem Qxv:Qm ["self","state"] ["self","state"] (Qd Qds):=⟨rfl,rfl,rfl,dk,rfl,dk,dk⟩
def Qf8:SD->Out Fl:=(sRetF (e1 dList (e2 dIx (e1 (dFld Qj "table") (eVar 0)) (eVar 1))))
def QbV:List D->Out D:=bodyF true 2 2 Qf8
theorem QCU(d0 d1:D):QbV [d0,d1]=(Qf8 ‹"u"›>>=retF true):=rfl
theorem QAU(F:FunV K "row" "Clerk.row" Qds f fd dV)(z_list:mg "list"=none)(fo_table:FldOk K CT Qj "table"):"f"^1 ["self","state"] true QbV:=
 (@fnV P w K mg base CT true _ _ _ f fd dV _ _ 0 Qf8 F Qxv fun cdv A outer s H E G hr=>
  (Qh (Qa1 (Qdz rfl z_list (de_ix (QfD fo_table (Qa 0)) (DE.db (Qa 1)))))) :)
abbrev QeW:Stmt:=top 16
theorem Qto:Qm ["office","states","desks","out","k","clerk"] ["office","states","desks","out","k"] (Qd QeW):=⟨rfl,rfl,rfl,dk,rfl,dk,dk⟩
def Qhi:SD->Out Fl:=(sSeq (sSet 5 (eMeth Qu "clerk" (fun _=>Qao) (eVar 0) (aCons (eVar 4) aNil))) (sSeq (sPutW 2 (eVar 4) (e2 dSub (e2 dIx (eVarB 2) (eVar 4)) (eC (.int 1)))) (sSeq (QiO [some 2,some 3,none,none] QjS (aCons (eVarW 2) (aCons (eVarW 3) (aCons (eMeth Qu "leads" (fun _=>Qad) (eVar 0) (aCons (eVar 4) aNil)) (aCons (eMeth Qc "row" (fun _=>QbV) (eVar 5) (aCons (fun ς=>QiP ((e2 dIx (eVarB 1) (eVar 4)) ς)) aNil)) aNil))))) (sPutW 1 (eVar 4) (e2 dMod (e2 dAdd (e2 dIx (eVarB 1) (eVar 4)) (eC (.int 1))) (eMeth Qc "period" (fun _=>QI) (eVar 5) aNil))))))
def QeX:List D->Out (D×Option (List D)):=bodyW false [false,true,true,true,false] 6 Qhi
theorem QKE(d0 d1 d2 d3 d4:D):QeX [d0,d1,d2,d3,d4]=(Qhi [some (.k,d0),some (.s,d1),some (.s,d2),some (.s,d3),some (.k,d4),none]>>=retW false [false,true,true,true,false]):=rfl
theorem QLt(F:FunV K "handle" "handle" QeW f fd dV)(QQK:DefW P w K mg base CT "lay" 1 false [true,true,false,false] QjS)(mt_clerk:MtOk P w K mg base CT CX0 "clerk" 1 Qu (fun c=>SpD K CT false ((fun _=>Qao) c)))(mt_leads:MtOk P w K mg base CT CX0 "leads" 1 Qu (fun c=>SpD K CT true ((fun _=>Qad) c)))(mt_row:MtOk P w K mg base CT CX0 "row" 1 Qc (fun c=>SpD K CT true ((fun _=>QbV) c)))(mt_period:‹"y"›):FnOk P w K mg base CX0 2 f fd ["office","states","desks","out","k"] (SpW K CT false [false,true,true,true,false] QeX):=
 @fnW P w K mg base CT false "handle" "handle" QeW f fd dV ["office","states","desks","out","k","clerk"] ["office","states","desks","out","k"] 1 Qhi [false,true,true,true,false] rfl F Qto fun cdv A outer s H E G ps vs hr=>
  (Qf (Qw (i:=5) Qto.nd rfl (oi rfl) (Qe6 mt_clerk (Rm hr) (Qa 0) (Qb (Qa 4) Qg))) (Qf (Qmc 2 (DE.db (Qa 4)) (Qa6 (db_ix (QkE 2) (DE.db (Qa 4))) (DE.db Qe)) rfl (oi rfl)) (Qf (Qyl (ms:=[some 2,some 3,none,none]) QQK (Rm hr) (daw_w 2 (daw_w 3 (daw_k (Qe6 mt_leads (Rm hr) (Qa 0) (Qb (Qa 4) Qg)) (daw_k (Qe6 mt_row (Rm hr) (Qa 5) (Qb (DB.de (db_ix (QkE 1) (DE.db (Qa 4)))) Qg)) QEB)) rfl (oi rfl)) rfl (oi rfl)) rfl) (Qh (Qmc 1 (DE.db (Qa 4)) (Qar (DE.db (Qaf (db_ix (QkE 1) (DE.db (Qa 4))) (DE.db Qe))) (DE.db (Qb7 mt_period (Rm hr) (Qa 5)))) rfl (oi rfl))))))
abbrev Qcm:Stmt:=inCls (top 60) 4
theorem Qr3:Qm ["self"] ["self"] (Qd Qcm):=⟨rfl,rfl,rfl,dk,rfl,dk,dk⟩
def QeL:SD->Out Fl:=(sRet (eA fLen (aCons (e1 (dFld Qj "clerk_names") (eVar 0)) aNil)))
def Qbj:List D->Out D:=bodyF false 1 1 QeL
theorem Qt9(d0:D):Qbj [d0]=(QeL [some (.k,d0)]>>=retF false):=rfl
theorem QvA(F:FunV K "many" "Office.many" Qcm f fd dV)(z_len:mg "len"=none)(fo_clerk_names:FldOk K CT Qj "clerk_names"):"f"^1 ["self"] false Qbj:=
 (@fnV P w K mg base CT false _ _ _ f fd dV _ _ 0 QeL F Qr3 fun cdv A outer s H E G hr=>
  (Qh (Qx (Qak rfl z_len (Qv (DE.db (QfD fo_clerk_names (Qa 0))) Qz)))) :)
abbrev Qe8:Stmt:=top 17
theorem QgP:Qm ["office","states","desks","k","states_then","desks_then","out"] ["office","states","desks","k"] (Qd Qe8):=⟨rfl,rfl,rfl,dk,rfl,dk,dk⟩
def QhT:SD->Out Fl:=(sSeq (sIf (tOr' (tNot' (tVal (eA (fun xs=>Q5 (xs++[])) (aCons (eVar 3) (aCons (eC (.int 0)) (aCons (e2 dSub (eMeth Qu "many" (fun _=>Qbj) (eVar 0) aNil) (eC (.int 1))) aNil)))))) (tVal (e2 dLt (e2 dIx (eVar 2) (eVar 3)) (eC (.int 1))))) Qd0 sNil) (sSeq (sSetO 4 (e1 dList (eVar 1))) (sSeq (sSetO 5 (e1 dList (eVar 2))) (sSeq (sSetO 6 (fun ς=>Qje ((eA (fun xs=>QbQ (xs++[])) ‹"w"›) ς))) (sSeq (QiO [none,some 4,some 5,some 6,none] QeX (aCons (eVar 0) (aCons (eVarW 4) (aCons (eVarW 5) (aCons (eVarW 6) (aCons (eVar 3) aNil)))))) (fun ς=>(sRet (eTup (aCons (eVar 4) (aCons (eVar 5) (aCons (eVar 6) aNil))))) (frzs [4,5,6] ς)))))))
def QdR:List D->Out D:=bodyF false 4 7 QhT
theorem QKs(d0 d1 d2 d3:D):QdR [d0,d1,d2,d3]=(QhT [some (.k,d0),some (.k,d1),some (.k,d2),some (.k,d3),none,none,none]>>=retF false):=rfl
theorem QJr(F:FunV K "handled" "handled" Qe8 f fd dV)(Qby:"e"^Q5 "is_within" 2 false)(QvR:"e"^QbQ "nothing_out" 2 true)(QLw:DefW P w K mg base CT "handle" 2 false [false,true,true,true,false] QeX)(z_list:mg "list"=none)(mt_many:MtOk P w K mg base CT CX0 "many" 1 Qu (fun c=>SpD K CT false ((fun _=>Qbj) c))):"f"^3 ["office","states","desks","k"] false QdR:=
 (@fnV P w K mg base CT false _ _ _ f fd dV _ _ 2 QhT F QgP fun cdv A outer s H E G hr=>
  (Qf (ds_if (DW.dt (dw_or (Qae (Qag (de_f Qby (Rm hr) (Qb (Qa 3) (Qb Qe (Qb (Qa6 (DE.db (Qb7 mt_many (Rm hr) (Qa 0))) (DE.db Qe)) Qg))) rfl))) (QdT (dt_lt (DE.db (de_ix (Qa 2) (DE.db (Qa 3)))) (DE.db Qe))))) (Qh QcI) QV) (Qf (Qb4 (i:=4) QgP.nd rfl (oi rfl) (Qdz rfl z_list (Qa 1))) (Qf (Qb4 (i:=5) QgP.nd rfl (oi rfl) (Qdz rfl z_list (Qa 2))) (Qf (Qb4 (i:=6) QgP.nd rfl (oi rfl) (df_f QvR (Rm hr) (Qb (Qa 0) Qg) rfl)) (Qf (Qyl (ms:=[none,some 4,some 5,some 6,none]) QLw (Rm hr) (daw_k (Qa 0) (daw_w 4 (daw_w 5 (daw_w 6 (daw_k (Qa 3) QEB) rfl (oi rfl)) rfl (oi rfl)) rfl (oi rfl))) rfl) (Qh (QEy [4,5,6] (Qx (Qb9 (Qb (Qa 4) (Qb (Qa 5) (Qb (Qa 6) Qg)))))))))))) :)
abbrev Qep:Stmt:=top 67
theorem QD2:Qm ["_law_one","_law_other"] ["_law_one","_law_other"] (Qd Qep):=⟨rfl,rfl,rfl,dk,rfl,dk,dk⟩
def Qfx:SD->Out Fl:=(sRet (eA (fun xs=>QbH (xs++[])) (aCons (e2 dAdd (e2 dMul ‹"t"› (e2 dIx (eVar 1) (eC (.int 1)))) (e2 dMul (e2 dIx (eVar 1) (eC (.int 0))) ‹"p"›)) (aCons (e2 dMul ‹"p"› (e2 dIx (eVar 1) (eC (.int 1)))) aNil))))
def Qaw:List D->Out D:=bodyF false 2 2 Qfx
theorem Qo8(d0 d1:D):Qaw [d0,d1]=(Qfx ‹"u"›>>=retF false):=rfl
theorem QGY(F:FunV K "_law_plus" "_law_plus" Qep f fd dV)(Qgm:"e"^QbH "_law_low" 2 false):"f"^3 ["_law_one","_law_other"] false Qaw:=
 (@fnV P w K mg base CT false _ _ _ f fd dV _ _ 2 Qfx F QD2 fun cdv A outer s H E G hr=>
  (Qh (Qx (de_f Qgm (Rm hr) (Qb (Qaf (DE.db ‹"L"›) (DE.db (QaC (DE.db (de_ix (Qa 1) (DE.db Qe))) (DE.db ‹"e"›)))) (Qb ‹"L"› Qg)) rfl))) :)
abbrev QbJ:Stmt:=top 77
theorem Qbr:Qm ["_law_plan_here","_law_k","_law_state","_law_worths_here","_law_door_worths","_law_total","_law_to","_law_many","_law_worth"] ["_law_plan_here","_law_k","_law_state","_law_worths_here","_law_door_worths"] (Qd QbJ):=⟨rfl,rfl,rfl,dk,rfl,dk,dk⟩
def QcN:SD->Out Fl:=(sSeq (sSet 8 (eIf (tVal (e2 dLt (eVar 6) (eC (.int 0)))) (e2 dIx (eVar 4) (e2 dSub (e1 dNeg (eC (.int 1))) (eVar 6))) (e2 dIx (eVar 3) (eVar 6)))) (sSet 5 (eA (fun xs=>Qaw (xs++[])) (aCons (eVar 5) (aCons (eTup (aCons (e2 dMul (eVar 7) (e2 dIx (eVar 8) (eC (.int 0)))) (aCons (e2 dIx (eVar 8) (eC (.int 1))) aNil))) aNil)))))
def QdJ:SD->Out Fl:=(sSeq (sSet 5 (eTup (aCons (eC (.int 0)) (aCons (eC (.int 1)) aNil)))) (sSeq (sFor (gT [6,7]) (itZ (e2 dIx (e2 dIx (eVar 0) (eVar 1)) (eC (.int 2))) (e2 dIx (e2 dIx (e2 dIx (eVar 0) (eVar 1)) (eC (.int 1))) (eVar 2))) QcN) (sRet (eVar 5))))
def Qa9:List D->Out D:=bodyF false 5 9 QdJ
theorem Qqv(d0 d1 d2 d3 d4:D):Qa9 [d0,d1,d2,d3,d4]=(QdJ [some (.k,d0),some (.k,d1),some (.k,d2),some (.k,d3),some (.k,d4),none,none,none,none]>>=retF false):=rfl
theorem Qpp(F:FunV K "_law_row_worth" "_law_row_worth" QbJ f fd dV)(Qed:"e"^Qaw "_law_plus" 3 false)(z_zip:mg "zip"=none):"f"^4 ["_law_plan_here","_law_k","_law_state","_law_worths_here","_law_door_worths"] false Qa9:=
 (@fnV P w K mg base CT false _ _ _ f fd dV _ _ 3 QdJ F Qbr fun cdv A outer s H E G hr=>
  (Qf (Qw (i:=5) Qbr.nd rfl (oi rfl) (Qb9 (Qb Qe (Qb Qe Qg)))) (Qf (Qbp PassesOwn.never rfl (Qgt rfl z_zip (de_ix (de_ix (Qa 0) (DE.db (Qa 1))) (DE.db Qe)) (de_ix (de_ix (de_ix (Qa 0) (DE.db (Qa 1))) (DE.db Qe)) (DE.db (Qa 2)))) (QdY rfl (QE (i:=6) Qbr.nd rfl (oi rfl) (QE (i:=7) Qbr.nd rfl (oi rfl) Qbe))) (Qcd _) (Qf (Qw (i:=8) Qbr.nd rfl (oi rfl) (de_if (dt_lt (DE.db (Qa 6)) (DE.db Qe)) (de_ix (Qa 4) (DE.db (Qa6 (DE.db (Qgu (DE.db Qe))) (DE.db (Qa 6))))) (de_ix (Qa 3) (DE.db (Qa 6))))) (Qh (Qw (i:=5) Qbr.nd rfl (oi rfl) (de_f Qed (Rm hr) (Qb (Qa 5) (Qb (Qb9 (Qb (QaC (DE.db (Qa 7)) (DE.db (de_ix (Qa 8) (DE.db Qe)))) (Qb (de_ix (Qa 8) (DE.db Qe)) Qg))) Qg)) rfl))))) (Qh (Qx (Qa 5))))) :)
abbrev Qei:Stmt:=top 78
theorem QeD:Qm ["_law_plan_here","_law_k","_law_worths_here","_law_door_worths","_law_total","_law_many","_law_state"] ["_law_plan_here","_law_k","_law_worths_here","_law_door_worths"] (Qd Qei):=⟨rfl,rfl,rfl,dk,rfl,dk,dk⟩
def QfA:SD->Out Fl:=(sSet 4 (eA (fun xs=>Qaw (xs++[])) (aCons (eVar 4) (aCons (eA (fun xs=>Qa9 (xs++[])) (aCons (eVar 0) (aCons (eVar 1) (aCons (eVar 6) (aCons (eVar 2) (aCons (eVar 3) aNil)))))) aNil))))
def QgM:SD->Out Fl:=(sSeq (sSet 4 (eTup (aCons (eC (.int 0)) (aCons (eC (.int 1)) aNil)))) (sSeq (sSet 5 (eA fLen (aCons (e2 dIx (e2 dIx (eVar 0) (eVar 1)) (eC (.int 1))) aNil))) (sSeq (sFor (gN 6) (itR1 (eVar 5)) QfA) (sRet (eA (fun xs=>QbH (xs++[])) (aCons (e2 dIx (eVar 4) (eC (.int 0))) (aCons (e2 dMul (e2 dIx (eVar 4) (eC (.int 1))) (eVar 5)) aNil)))))))
def Qdg:List D->Out D:=bodyF false 4 7 QgM
theorem QFU(d0 d1 d2 d3:D):Qdg [d0,d1,d2,d3]=(QgM [some (.k,d0),some (.k,d1),some (.k,d2),some (.k,d3),none,none,none]>>=retF false):=rfl
theorem QGP(F:FunV K "_law_mean" "_law_mean" Qei f fd dV)(Qed:"e"^Qaw "_law_plus" 3 false)(Qpx:"e"^Qa9 "_law_row_worth" 4 false)(Qgm:"e"^QbH "_law_low" 2 false)(z_len:mg "len"=none)(z_range:mg "range"=none):"f"^5 ["_law_plan_here","_law_k","_law_worths_here","_law_door_worths"] false Qdg:=
 (@fnV P w K mg base CT false _ _ _ f fd dV _ _ 4 QgM F QeD fun cdv A outer s H E G hr=>
  (Qf (Qw (i:=4) QeD.nd rfl (oi rfl) (Qb9 (Qb Qe (Qb Qe Qg)))) (Qf (Qw (i:=5) QeD.nd rfl (oi rfl) (Qak rfl z_len (Qv (DE.db (de_ix (de_ix (Qa 0) (DE.db (Qa 1))) (DE.db Qe))) Qz))) (Qf (Qbp PassesOwn.never rfl (QaP rfl z_range (DE.db (Qa 5))) (Qy (i:=6) QeD.nd rfl (oi rfl)) (Qt _) (Qh (Qw (i:=4) QeD.nd rfl (oi rfl) (de_f Qed (Rm hr) (Qb (Qa 4) (Qb (de_f Qpx (Rm hr) (Qb (Qa 0) (Qb (Qa 1) (Qb (Qa 6) (Qb (Qa 2) (Qb (Qa 3) Qg))))) rfl) Qg)) rfl)))) (Qh (Qx (de_f Qgm (Rm hr) (Qb (de_ix (Qa 4) (DE.db Qe)) (Qb (QaC (DE.db (de_ix (Qa 4) (DE.db Qe))) (DE.db (Qa 5))) Qg)) rfl)))))) :)
abbrev Qdx:Stmt:=top 63
theorem Qyy:Qm ["_law_found"] ["_law_found"] (Qd Qdx):=⟨rfl,rfl,rfl,dk,rfl,dk,dk⟩
def Qiz:SD->Out Fl:=(sRet (eAnd (eIsa (isaT "int") (eVar 0)) (eNot (eIsa (isaT "bool") (eVar 0)))))
def QbX:List D->Out D:=bodyF false 1 1 Qiz
theorem QC3(F:FunV K "_law_whole" "_law_whole" Qdx f fd dV)(z_isinstance:mg "isinstance"=none)(z_int:mg "int"=none)(z_bool:mg "bool"=none):"f"^1 ["_law_found"] false QbX:=
 (@fnV P w K mg base CT false _ _ _ f fd dV _ _ 0 Qiz F Qyy fun cdv A outer s H E G hr=>
  (Qh (Qx (QdS (QbY "int" QD9 rfl z_int PyProof.Rows.Boot.«int» rfl z_isinstance (DE.db (Qa 0))) (Qgh (QIe (QbY "bool" QwY rfl z_bool PyProof.Rows.Boot.«bool» rfl z_isinstance (DE.db (Qa 0)))))))) :)
abbrev Qea:Stmt:=top 69
theorem QDU:Qm ["_law_found","_law_due"] ["_law_found","_law_due"] (Qd Qea):=⟨rfl,rfl,rfl,dk,rfl,dk,dk⟩
def QgW:SD->Out Fl:=(sSeq (sIf (tOr' (tNot' (tVal (eIsa (isaT "tuple") (eVar 0)))) (tOr' (tVal (e2 dNe (eA fLen ‹"w"›) (eC (.int 2)))) (tOr' (tNot' (tVal (eA (fun xs=>QbX (xs++[])) (aCons ‹"t"› aNil)))) (tNot' (tVal (eA (fun xs=>QbX (xs++[])) (aCons ‹"p"› aNil))))))) (sRet (eC (.bl false))) sNil) (sRet (e2 dEq (eVar 0) (eVar 1))))
def Qc8:List D->Out D:=bodyF false 2 2 QgW
theorem QG6(d0 d1:D):Qc8 [d0,d1]=(QgW ‹"u"›>>=retF false):=rfl
theorem QGu(F:FunV K "_law_same" "_law_same" Qea f fd dV)(Qm0:"e"^QbX "_law_whole" 1 false)(z_isinstance:mg "isinstance"=none)(z_tuple:mg "tuple"=none)(z_len:mg "len"=none):"f"^2 ["_law_found","_law_due"] false Qc8:=
 (@fnV P w K mg base CT false _ _ _ f fd dV _ _ 1 QgW F QDU fun cdv A outer s H E G hr=>
  (Qf (ds_if (DW.dt (dw_or (Qae (Qag (QbY "tuple" QkJ rfl z_tuple PyProof.Rows.Boot.«tuple» rfl z_isinstance (DE.db (Qa 0))))) (dw_or (dt_ne hr.units ‹"k"› (DE.db Qe)) (dw_or (Qae (Qag (de_f Qm0 (Rm hr) (Qb ‹"e"› Qg) rfl))) (QdT (Qae (Qag (de_f Qm0 (Rm hr) (Qb ‹"e"› Qg) rfl)))))))) (Qh (Qx de_bl)) QV) (Qh (Qx (de_eq hr.units (DE.db (Qa 0)) (DE.db (Qa 1)))))) :)
abbrev Qfj:Stmt:=top 81
theorem QaS:Qm ["_law_script","_law_plan_here","_law_doors","_law_states","_law_desks_here","_law_office_here","_law_some","_law_worths_here","_law_door_worths","_law_out","_law_before","_law_cell_here","_law_k","_law_sent","_law_found","_law_mean_here"] ["_law_script"] (Qd Qfj):=⟨rfl,rfl,rfl,dk,rfl,dk,dk⟩
abbrev QKS:Scope:={ kind:=ScopeKind.function,names:=[ (Str.ofString ".0",NameKind.local),(Str.ofString "_law_k",NameKind.local),(Str.ofString "_law_desks_here",NameKind.free)],isGenerator:=false,isCoroutine:=false,more:=[]:Scope }
theorem QEF:QB ["_law_k","_law_desks_here"] [none,some 4] QKS (Qd Qfj) ["_law_script","_law_plan_here","_law_doors","_law_states","_law_desks_here","_law_office_here","_law_some","_law_worths_here","_law_door_worths","_law_out","_law_before","_law_cell_here","_law_k","_law_sent","_law_found","_law_mean_here"]:=⟨rfl,dk,dk,rfl,dk,dk⟩
def QrZ:SD->Out Bool:=(tVal (e2 dGt (e2 dIx (eVar 1) (eVar 0)) (eC (.int 0))))
def QrH:SD->Out D:=(eVar 0)
abbrev QLZ:Scope:={ kind:=ScopeKind.function,names:=[ (Str.ofString ".0",NameKind.local),(Str.ofString "_law_one",NameKind.local),(Str.ofString "_law_other",NameKind.local)],isGenerator:=false,isCoroutine:=false,more:=[]:Scope }
theorem Qrh:QB ["_law_one","_law_other"] [none,none] QLZ (Qd Qfj) ["_law_script","_law_plan_here","_law_doors","_law_states","_law_desks_here","_law_office_here","_law_some","_law_worths_here","_law_door_worths","_law_out","_law_before","_law_cell_here","_law_k","_law_sent","_law_found","_law_mean_here"]:=⟨rfl,dk,dk,rfl,dk,dk⟩
def Qrr:SD->Out D:=(e2 dAdd (eVar 0) (eVar 1))
def QfS:SD->Out Fl:=(sSeq (sSet 6 (eComp [none,some 4] (itR1 (eA fLen (aCons (eVar 4) aNil))) (gN 0) QrZ QrH)) (sSeq (sIf (tVal (e2 dEq (eVar 6) (eLst aNil))) (sRet (eC (.bl true))) sNil) (sSeq (sSet 12 (e2 dIx (eVar 6) (e2 dMod (eA (fun xs=>QH (xs++[])) (aCons (eVar 11) (aCons (eC (.int 70)) aNil))) (eA fLen (aCons (eVar 6) aNil))))) (sSeq (sUnp [3,4,13] (eA (fun xs=>QdR (xs++[])) (aCons (eVar 5) (aCons (eVar 3) (aCons (eVar 4) (aCons (eVar 12) aNil)))))) (sSeq (sSet 9 (eComp [none,none] (itZ (eVar 9) (eVar 13)) (gT [0,1]) cTrue Qrr)) (sSeq (sSet 14 (eA (fun xs=>QfI (xs++[])) (aCons (eVar 5) (aCons (eVar 7) (aCons (eVar 8) (aCons (eVar 3) (aCons (eVar 4) (aCons (eVar 9) aNil)))))))) (sSeq (sSet 15 (eA (fun xs=>Qdg (xs++[])) (aCons (eVar 1) (aCons (eVar 12) (aCons (eVar 7) (aCons (eVar 8) aNil)))))) (sSeq (sIf (tNot' (tVal (eA (fun xs=>Qc8 (xs++[])) (aCons (eVar 14) (aCons (eA (fun xs=>Qaw (xs++[])) (aCons (eVar 10) (aCons (eA (fun xs=>Qaw (xs++[])) (aCons (eVar 15) (aCons (eTup (aCons (e2 dSub (eC (.int 0)) (e2 dIx (e2 dIx (eVar 7) (eVar 12)) (eC (.int 0)))) (aCons (e2 dIx (e2 dIx (eVar 7) (eVar 12)) (eC (.int 1))) aNil))) aNil))) aNil))) aNil))))) (sRet (eC (.bl false))) sNil) (sSet 10 (eVar 14))))))))))
def Qwa:SD->Out Fl:=(sSeq (sUnp [1,2,3,4] (eA (fun xs=>QcF (xs++[])) ‹"w"›)) (sSeq (sSet 5 (eA (fun xs=>Qcb (xs++[])) (aCons (eVar 1) (aCons (eVar 2) aNil)))) (sSeq (sSet 6 (eA (fun xs=>Qch (xs++[])) (aCons (eA (fun xs=>Q3 (xs++[])) (aCons (eVar 0) (aCons (eC (.int 9)) aNil))) (aCons (e2 dAdd (eA fLen ‹"q"›) (eVar 2)) aNil)))) (sSeq (sSet 7 (eSl (eVar 6) oNo (oSome (eA fLen ‹"q"›)))) (sSeq (sSet 8 (eSl (eVar 6) (oSome (eA fLen ‹"q"›)) oNo)) (sSeq (sSet 9 (e2 dRep (eLst (aCons (eC (.int 0)) aNil)) (eVar 2))) (sSeq (sSet 10 (eA (fun xs=>QfI (xs++[])) (aCons (eVar 5) (aCons (eVar 7) (aCons (eVar 8) (aCons (eVar 3) (aCons (eVar 4) (aCons (eVar 9) aNil)))))))) (sSeq (sFor (gN 11) (itL (eSl (eVar 0) (oSome (eC (.int 11))) (oSome (eC (.int 23))))) QfS) (sRet (eC (.bl true)))))))))))
def QhZ:List D->Out D:=bodyF false 1 16 Qwa
theorem QQA(d0:D):QhZ [d0]=(Qwa [some (.k,d0),none,none,none,none,none,none,none,none,none,none,none,none,none,none,none]>>=retF false):=rfl
theorem QQD(F:FunV K "law" "law" Qfj f fd dV)(QDM:"e"^QcF "_law_begin" 4 false)(Qx8:"e"^Qcb "_law_office" 8 true)(Qxy:"e"^Qch "_law_worths" 3 true)(Qeq:"e"^Q3 "_law_cell" 1 false)(QIa:"e"^QfI "book" 6 false)(Qau:"e"^QH "_law_mixed" 1 false)(QIG:"e"^QdR "handled" 3 false)(QGO:"e"^Qdg "_law_mean" 5 false)(QGL:"e"^Qc8 "_law_same" 2 false)(Qed:"e"^Qaw "_law_plus" 3 false)(z_len:mg "len"=none)(z_range:mg "range"=none)(z_zip:mg "zip"=none):"f"^9 ["_law_script"] false QhZ:=
 (@fnV P w K mg base CT false _ _ _ f fd dV _ _ 8 Qwa F QaS fun cdv A outer s H E G hr=>
  (Qf (QlW rfl (de_f QDM (Rm hr) (Qb (Qa 0) Qg) rfl) (QE (i:=1) QaS.nd rfl (oi rfl) (QE (i:=2) QaS.nd rfl (oi rfl) (QE (i:=3) QaS.nd rfl (oi rfl) (QE (i:=4) QaS.nd rfl (Or.inr rfl) Qbe))))) (Qf (Qw (i:=5) QaS.nd rfl (oi rfl) (de_f Qx8 (Rm hr) (Qb (Qa 1) (Qb (Qa 2) Qg)) rfl)) (Qf (Qw (i:=6) QaS.nd rfl (oi rfl) (de_f Qxy (Rm hr) (Qb (de_f Qeq (Rm hr) (Qb (Qa 0) (Qb Qe Qg)) rfl) (Qb (Qaf (DE.db (Qak rfl z_len (Qv (DE.db (Qa 1)) Qz))) (DE.db (Qa 2))) Qg)) rfl)) (Qf (Qw (i:=7) QaS.nd rfl (oi rfl) (DF.de (df_sl (Qa 6) QEj (Ql3 (DE.db (Qak rfl z_len (Qv (DE.db (Qa 1)) Qz))))))) (Qf (Qw (i:=8) QaS.nd rfl (oi rfl) (DF.de (df_sl (Qa 6) (Ql3 (DE.db (Qak rfl z_len (Qv (DE.db (Qa 1)) Qz)))) QEj))) (Qf (Qw (i:=9) QaS.nd rfl (oi rfl) (DF.de (QQk (Qa7 (Qb Qe Qg)) (DE.db (Qa 2))))) (Qf (Qw (i:=10) QaS.nd rfl (oi rfl) (de_f QIa (Rm hr) (Qb (Qa 5) (Qb (Qa 7) (Qb (Qa 8) (Qb (Qa 3) (Qb (Qa 4) (Qb (Qa 9) Qg)))))) rfl)) (Qf (Qbp PassesOwn.never rfl (QZ (DF.de (df_sl (Qa 0) (Ql3 (DE.db Qe)) (Ql3 (DE.db Qe))))) (Qy (i:=11) QaS.nd rfl (oi rfl)) (Qt _) (Qf (Qe5 (i:=6) rfl QEF (DI.b (QaP rfl z_range (DE.db (Qak rfl z_len (Qv (DE.db (Qa 4)) Qz))))) ‹"f"› (Qt _) (fun fp s H G p=>⟨(Qy (i:=0) QEF.nd rfl (oi rfl) (hf:=Or.inr rfl)),(QEo (dt_gt (DE.db (de_ix (Qa 1) (DE.db (Qa 0)))) (DE.db Qe))),(Qa 0)⟩) QaS.nd rfl (oi rfl)) (Qf (ds_if (dt_eq hr.units (DE.db (Qa 6)) (DE.db (DF.de (Qa7 Qg)))) (Qh (Qx de_bl)) QV) (Qf (Qw (i:=12) QaS.nd rfl (oi rfl) (de_ix (Qa 6) (DE.db (Qar (DE.db (de_f Qau (Rm hr) (Qb (Qa 11) (Qb Qe Qg)) rfl)) (DE.db (Qak rfl z_len (Qv (DE.db (Qa 6)) Qz))))))) (Qf (QlW rfl (de_f QIG (Rm hr) (Qb (Qa 5) (Qb (Qa 3) (Qb (Qa 4) (Qb (Qa 12) Qg)))) rfl) (QE (i:=3) QaS.nd rfl (oi rfl) (QE (i:=4) QaS.nd rfl (Or.inr rfl) (QE (i:=13) QaS.nd rfl (oi rfl) Qbe)))) (Qf (Qe5 (i:=9) rfl Qrh (DI.b (Qgt rfl z_zip (Qa 9) (Qa 13))) (fun ς=>QeU (fun i hi=>Qr (by revert hi;revert i;decide) ς)) (Qcd _) (fun fp s H G p=>⟨(QdY rfl (QE (i:=0) Qrh.nd rfl (oi rfl) (QE (i:=1) Qrh.nd rfl (oi rfl) Qbe (hf:=Or.inr rfl)) (hf:=Or.inr rfl))),QM,(Qaf (DE.db (Qa 0)) (DE.db (Qa 1)))⟩) QaS.nd rfl (oi rfl)) (Qf (Qw (i:=14) QaS.nd rfl (oi rfl) (de_f QIa (Rm hr) (Qb (Qa 5) (Qb (Qa 7) (Qb (Qa 8) (Qb (Qa 3) (Qb (Qa 4) (Qb (Qa 9) Qg)))))) rfl)) (Qf (Qw (i:=15) QaS.nd rfl (oi rfl) (de_f QGO (Rm hr) (Qb (Qa 1) (Qb (Qa 12) (Qb (Qa 7) (Qb (Qa 8) Qg)))) rfl)) (Qf (ds_if (Qae (Qag (de_f QGL (Rm hr) (Qb (Qa 14) (Qb (de_f Qed (Rm hr) (Qb (Qa 10) (Qb (de_f Qed (Rm hr) (Qb (Qa 15) (Qb (Qb9 (Qb (Qa6 (DE.db Qe) (DE.db (de_ix (de_ix (Qa 7) (DE.db (Qa 12))) (DE.db Qe)))) (Qb (de_ix (de_ix (Qa 7) (DE.db (Qa 12))) (DE.db Qe)) Qg))) Qg)) rfl) Qg)) rfl) Qg)) rfl))) (Qh (Qx de_bl)) QV) (Qh (Qw (i:=10) QaS.nd rfl (oi rfl) (Qa 14)))))))))))) (Qh (Qx de_bl)))))))))) :)
end
end My
set_option exponentiation.threshold 20000
namespace My
open PySem PySem.Spec L2 DL
local macro_rules | `(tactic| walk_at "g") => `(tactic| ((repeat (first | exact QPs | apply QQu));done))
local macro_rules | `(tactic| walk_at "s") => `(tactic| repeat (first | exact QH2 | apply QJt))
local macro_rules | `(tactic| walk_at "all") => `(tactic| repeat (first | with_reducible exact Qs8 | (apply QtF;focus walk_at "s")))
local macro_rules | `(tactic| walk_at "cap") => `(tactic| repeat (first | exact c_nil | apply QcY | (apply c_k;focus walk_at "g") | (apply c_o;focus walk_at "g") | (apply c_l;focus walk_at "g") | (apply c_s;focus walk_at "g")))
local macro_rules | `(tactic| walk_at "b") => `(tactic| first | rfl | with_reducible assumption | (simp only[Bool.not_eq_true',Bool.not_eq_false',decide_eq_true_eq,decide_eq_false_iff_not,Bool.not_true,Bool.not_false];first | with_reducible assumption | omega) | (simp;done))
local macro_rules | `(tactic| walk_at "p") => `(tactic| first | decide | with_reducible assumption | omega)
local macro_rules | `(tactic| walk_at "l") => `(tactic| first | decide | with_reducible assumption | (simp only[List.length_map,List.length_cons,List.length_nil,List.length_range,List.length_append];omega) | omega | (simp;omega))
local macro_rules | `(tactic| walk_at "e") => `(tactic| first
 | ((with_reducible apply r_id);with_reducible assumption)
 | with_reducible exact r_okR | with_reducible exact QMD
 | with_reducible apply r_var | with_reducible apply QiR | with_reducible exact r_C | with_reducible exact r_nil | with_reducible exact r_oNo | with_reducible exact Qpj | with_reducible exact QrG
 | with_reducible exact Q7 _ _ | with_reducible exact QaD _ _ | with_reducible exact QaV _ | with_reducible exact QaN _ | with_reducible exact Qam _ _ | with_reducible exact QaG _ _ | with_reducible exact Qbu _ _ | with_reducible exact Qbd _ _ | with_reducible exact QG _ _ | with_reducible exact QaH _ _
 | with_reducible exact Qe0 (by walk_at "p")
 | with_reducible exact r_rt | with_reducible exact r_rtT | with_reducible exact r_rtS rfl
 | with_reducible apply QJ0
 | with_reducible exact QH2 | with_reducible apply QJt
 | with_reducible exact QOU | with_reducible apply QON
 | with_reducible exact Qs8 | with_reducible apply QtF
 | with_reducible exact c_nil | with_reducible apply QcY | ((with_reducible apply c_k);focus walk_at "g") | ((with_reducible apply c_o);focus walk_at "g") | ((with_reducible apply c_l);focus walk_at "g") | ((with_reducible apply c_s);focus walk_at "g")
 | ((with_reducible apply r_scal);exact rfl)
 | ((with_reducible apply r_get);focus walk_at "g")
 | ((with_reducible apply QPE);with_reducible assumption)
 | ((with_reducible apply QQm);focus walk_at "p") | with_reducible apply QQf | with_reducible apply bd_sub | with_reducible apply Qcu | with_reducible apply Qgl | with_reducible apply bd_neg | with_reducible exact QiX rfl
 | ((with_reducible apply r_dec);focus exact rfl)
 | ((with_reducible apply r_len);focus walk_at "l")
 | with_reducible apply r_mul
 | ((with_reducible apply QO0);focus walk_at "p")
 | ((with_reducible apply Qxa);focus walk_at "b")
 | ((with_reducible apply Qwx);focus walk_at "b")
 | with_reducible apply Qo | with_reducible apply r_e2 | with_reducible apply r_e1 | with_reducible apply r_seq | with_reducible apply r_set | with_reducible apply Qlh | with_reducible apply r_if | with_reducible apply QY | with_reducible apply Qg7 | with_reducible apply QyZ | with_reducible apply r_or' | with_reducible apply QOD | with_reducible apply QIS | with_reducible apply r_eOr | with_reducible apply r_eNot | with_reducible apply r_eIf | with_reducible apply r_isa | with_reducible apply QD7 | with_reducible apply QIO | with_reducible apply r_ret | with_reducible apply QyJ | with_reducible apply r_drop | with_reducible apply r_tup | with_reducible apply r_lst | with_reducible apply QwD | with_reducible apply QtG | with_reducible apply r_noX | with_reducible apply QiU | with_reducible apply Qgq | with_reducible apply r_gN | with_reducible apply r_gT | with_reducible apply r_unp | with_reducible apply r_for | with_reducible apply r_itL | with_reducible apply r_itT | with_reducible apply r_itE | with_reducible apply r_itZ | with_reducible apply Qa0 | with_reducible apply r_eA | with_reducible apply r_sl | with_reducible apply r_slB | with_reducible apply r_ixO | with_reducible apply r_meth | with_reducible apply QQe | with_reducible apply r_app | with_reducible apply r_put | with_reducible apply Qab | with_reducible apply Ql5 | with_reducible apply QO8 | with_reducible apply QNL | with_reducible apply r_lm)
abbrev CK:List Str:=Qc
theorem Qzd{c:Str}(h:CK.contains c=true):Qj.contains c=true:=by
 have hm:c∈Qc:=by simpa using h
 simp only[Qc,List.mem_cons,List.not_mem_nil,or_false]at hm
 rcases hm with rfl | rfl | rfl | rfl<;>decide +kernel
def dl(r:List Int):D:=.lst (r.map .int)
def tbD(t:‹"H"›):D:=.lst (t.map dl)
theorem Qno{js:List (Option Nat)}{its:SD->Out (List D)}{g:D->SD->Out SD}{e:SD->Out D}{ς:SD}{xs:List D}{h:D->D}(hi:its ς=.ok xs)(ht:∀ x∈xs,turnC js g cTrue e ς x=.ok (some (h x)))(hl:xs.length<=1000):
 eComp js its g cTrue e ς=.ok (.lst (xs.map h)):=by
 unfold eComp
 rw[hi,Out.bind_ok,QyH (h:=fun x=>some (h x)) ht,Out.bind_ok]
 have e:xs.filterMap (fun x=>some (h x))=xs.map h:=by rw[← List.filterMap_eq_map];rfl
 rw[e,if_pos (QgX (by rw[List.length_map];exact hl))]
theorem Qnm{js:List (Option Nat)}{its:SD->Out (List D)}{e:SD->Out D}{ς:SD}{a b:List Int}(f:Int->Int->Int)(hi:its ς=.ok (List.zipWith (fun x y=>.tup [x,y]) (a.map .int) (b.map .int)))
 (ht:∀ x∈a,∀ y∈b,turnC js (gT [0,1]) cTrue e ς (.tup [.int x,.int y])=.ok (some (.int (f x y)))) (hl:a.length<=1000):eComp js its (gT [0,1]) cTrue e ς=.ok (dl (List.zipWith f a b)):=by
 have hz:List.zipWith (fun x y=>D.tup [x,y]) (a.map .int) (b.map .int)=(List.zip a b).map fun p=>D.tup [.int p.1,.int p.2]:=by
  rw[List.zipWith_map,List.map_zip_eq_zipWith]
  rfl
 rw[Qno (h:=fun d=>match d with | .tup [.int x,.int y]=>.int (f x y) | _=>.non) (by rw[hi,hz]) ?_ ?_]
 ·unfold dl
  rw[List.map_map,List.map_zipWith,List.map_zip_eq_zipWith]
  rfl
 ·intro x hx
  obtain⟨⟨p,q⟩,hp,rfl⟩:=List.mem_map.mp hx
  exact ht p (List.of_mem_zip hp).1 q (List.of_mem_zip hp).2
 ·rw[List.length_map,List.length_zip]
  omega
theorem loopL{body:D->SD->Out Fl}{P:Nat->SD->Prop}:∀{xs:List D}(n:Nat),(∀ k x,xs[k]?=some x->∀ ς,P (n+k) ς->∃ ς',body x ς=.ok (.nx ς')/\P (n+k+1) ς')->∀ ς,P n ς->∃ ς',loopD body xs ς=.ok (.nx ς')/\P (n+xs.length) ς'
 | [],n,_,ς,p=>⟨ς,rfl,p⟩
 | x::xs,n,h,ς,p=>by
  obtain⟨ς1,e1',p1⟩:=h 0 x rfl ς p
  obtain⟨ς2,e2',p2⟩:=loopL (xs:=xs) (n+1) (fun k y hy ς q=>by
   have:=h (k+1) y hy ς (by rw[show n+(k+1)=n+1+k by omega];exact q)
   rw[show n+(k+1)+1=n+1+k+1 by omega]at this
   exact this) ς1 p1
  refine⟨ς2,?_,by rw[List.length_cons,show n+(xs.length+1)=n+1+xs.length by omega];exact p2⟩
  rw[loopD,e1']
  exact e2'
def cs(t:‹"H"›)(k j:Nat):Int:=((t.take k).map fun r=>r.getD j 0).sum
def pre(t:‹"H"›)(m k:Nat):List Int:=(List.range m).map (cs t k)
theorem QK8{t:‹"H"›}{m k:Nat}{r:List Int}(hr:t[k]?=some r)(hm:r.length=m):List.zipWith (· + ·) (pre t m k) r=pre t m (k+1):=by
 apply List.ext_getElem?
 intro j
 unfold pre
 rw[List.getElem?_zipWith,List.getElem?_map,List.getElem?_map]
 by_cases hj:j<m
 ·have h1:(List.range m)[j]?=some j:=by simp[hj]
  have h2:r[j]?=some r[j]:=by simp[hm,hj]
  rw[h1,h2]
  show some (cs t k j+r[j])=some (cs t (k+1) j)
  unfold cs
  rw[List.take_add_one,hr]
  simp[hm,hj,List.getD_eq_getElem?_getD]
 ·have h1:(List.range m)[j]?=none:=by simp;omega
  rw[h1];rfl
theorem QKT(t:‹"H"›)(m:Nat):pre t m 0=List.replicate m 0:=by
 unfold pre
 rw[List.eq_replicate_iff]
 refine⟨by simp,fun x hx=>?_⟩
 obtain⟨j,_,rfl⟩:=List.mem_map.mp hx
 rfl
structure Tb(t:List (List Int))(m:Nat):Prop where
 n1:1<=t.length
 n2:t.length<=12
 m6:m<=6
 row:∀ r∈t,r.length=m
 ent:∀ r∈t,∀ x∈r,0<=x/\x<=9
theorem QM9{a b:List Int}(hl:a.length<=1000):Qc5 [dl a,dl b]=.ok (dl (List.zipWith (· + ·) a b)):=by
 have h:=Qnm (js:=[none,none]) (its:=itZ (eVar 0) (eVar 1)) (e:=QmF) (ς:=[some (.k,dl a),some (.k,dl b)]) (a:=a) (b:=b) (· + ·) rfl (fun x _ y _=>rfl) hl
 rw[QJf]
 unfold Qib sRetF
 rw[h];rfl
def hdD(t:‹"H"›)(m:Nat)(k:Nat):D:=.lst ((List.range (k+1)).map fun i=>dl (pre t m i))
theorem QFe{t:‹"H"›}{m:Nat}(h:Tb t m):QaK [tbD t]=.ok (hdD t m t.length):=by
 obtain⟨n1,n2,m6,row,_⟩:=h
 have r0:t[0]?=some t[0]:=by simp
 have hr0:(t[0]).length=m:=row _ (List.getElem_mem _)
 have hix:dIx (tbD t) (.int 0)=.ok (dl t[0]):=ixL 0 (by rw[List.getElem?_map,r0];rfl)
 have hc:eComp [none] (itL ‹"t"›) (gN 0) cTrue QeY [some (.k,tbD t),none,none]=.ok (dl (pre t m 0)):=by
  rw[Qno (xs:=(t[0]).map .int) (h:=fun _=>.int 0) (by simp only[itL,e2,eVar,eC,Out.bind_ok,List.getElem?_cons_zero,hix];rfl) (fun x _=>rfl) (by rw[List.length_map];omega)]
  rw[QKT,List.map_map]
  unfold dl
  congr 2
  rw[List.map_replicate]
  exact List.eq_replicate_iff.mpr ⟨by simp[hr0],fun x hx=>by obtain⟨_,_,rfl⟩:=List.mem_map.mp hx;rfl⟩
 obtain⟨ς',hL,a2,rfl⟩:=loopL (body:=fun x ς=>gN 2 x ς>>=fun ς'=>Qce ς') (xs:=t.map dl) (P:=fun k ς=>∃ a2,ς=[some (.k,tbD t),some (.o,hdD t m k),a2]) 0
  (by
   rintro k x hx ς ⟨a2,rfl⟩
   rw[Nat.zero_add]at *
   rw[List.getElem?_map]at hx
   cases ht:t[k]? with
   | none=>rw[ht]at hx;cases hx
   | some r=>
    rw[ht]at hx
    cases hx
    have hk:k<t.length:=(List.getElem?_eq_some_iff.mp ht).1
    have hrm:r.length=m:=row r (List.mem_of_getElem? ht)
    have hl:(pre t m k).length=m:=by simp[pre]
    have s:=QM9 (a:=pre t m k) (b:=r) (by omega)
    rw[QK8 ht hrm]at s
    have hat:atI ((List.range (k+1)).map fun i=>dl (pre t m i)) (-1)=some (dl (pre t m k)):=by
     unfold atI ixN
     simp
     rw[if_pos (by omega),show((-1:Int)+((k:Int)+1)).toNat=k by omega]
     simp
    refine⟨[some (.k,tbD t),some (.o,hdD t m (k+1)),some (.k,dl r)],?_,_,rfl⟩
    have e1':eIxO 1 (e1 dNeg (eC (.int 1))) [some (.k,tbD t),some (.o,hdD t m k),some (.k,dl r)]=.ok (dl (pre t m k)):=by
     unfold eIxO hdD
     simp only[List.getElem?_cons_succ,List.getElem?_cons_zero,e1,eC,Out.bind_ok,QaV,hat];rfl
    have hlt:decide (((List.range (k+1)).map fun i=>dl (pre t m i)).length<sizeLine)=true:=by
     have:(1000:Nat)<=sizeLine:=by decide
     rw[List.length_map,List.length_range]
     exact decide_eq_true (by omega)
    have hnext:((List.range (k+1)).map fun i=>dl (pre t m i))++[dl (pre t m (k+1))]=(List.range (k+1+1)).map fun i=>dl (pre t m i):=by
     rw[List.range_succ (n:=k+1),List.map_append];rfl
    show Qce [some (.k,tbD t),some (.o,hdD t m k),some (.k,dl r)]=_
    unfold Qce QaX
    simp only[List.getElem?_cons_succ,List.getElem?_cons_zero,hdD]
    have e3':eA (fun xs=>Qc5 (xs++[])) (aCons (eIxO 1 (e1 dNeg (eC (.int 1)))) (aCons (eVar 2) aNil)) [some (.k,tbD t),some (.o,hdD t m k),some (.k,dl r)]=.ok (dl (pre t m (k+1))):=by
     simp only[eA,aCons,aNil,e1',eVar,Out.bind_ok,List.getElem?_cons_succ,List.getElem?_cons_zero,List.append_nil,s]
    rw[show(D.lst ((List.range (k+1)).map fun i=>dl (pre t m i)))=hdD t m k from rfl,e3',Out.bind_ok,if_pos hlt,hnext]
    rfl)
  [some (.k,tbD t),some (.o,hdD t m 0),none] ⟨_,rfl⟩
 rw[Nat.zero_add,List.length_map]at hL
 have hfor:=Qa2 (g:=gN 2) (its:=itL (eVar 0)) (T:=Qce) (ς:=[some (.k,tbD t),some (.o,hdD t m 0),none]) (xs:=t.map dl) rfl hL
 rw[Qrl]
 unfold Qd7
 have hs:sSetO 1 (eLst (aCons (eComp [none] (itL ‹"t"›) (gN 0) cTrue QeY) aNil)) [some (.k,tbD t),none,none]=.ok (.nx [some (.k,tbD t),some (.o,hdD t m 0),none]):=by
  simp only[sSetO,eLst,aCons,aNil,hc,Out.bind_ok,List.length_cons,List.length_nil,Qah,Nat.reduceAdd,Nat.reduceLeDiff,if_true];rfl
 simp only[sSeq,hs,Out.bind_ok,thenF,hfor]
 rfl
def ckF(t:‹"H"›)(m:Nat):List (Str×D):=[("table",tbD t),("heads",hdD t m t.length)]
def ck(c:Str)(t:‹"H"›)(m:Nat):D:=.ins c (ckF t m)
theorem QOy:(("heads":Str) == ("table":Str))=false:=dk
theorem QPM(t:‹"H"›)(m:Nat):(ckF t m).lookup ("table":Str)=some (tbD t):=by
 unfold ckF;rw[List.lookup_cons,beq_self_eq_true]
theorem QPV(t:‹"H"›)(m:Nat):(ckF t m).lookup ("heads":Str)=some (hdD t m t.length):=by
 unfold ckF;rw[List.lookup_cons,QOy,List.lookup_cons,beq_self_eq_true]
theorem QN1{n:Str}(h1:(n == ("table":Str))=false)(h2:(n == ("heads":Str))=false)(t:‹"H"›)(m:Nat):(ckF t m).lookup n=none:=by
 unfold ckF;rw[List.lookup_cons,h1,List.lookup_cons,h2];rfl
theorem put_h(t:‹"H"›)(m:Nat):putD "heads" (hdD t m t.length) [("table",tbD t)]=ckF t m:=by
 have:¬ (("table":Str)=("heads":Str)):=dk
 unfold putD
 rw[if_neg this];rfl
theorem Ql8{c:Str}(hc:CK.contains c=true){t:‹"H"›}{m:Nat}(h:Tb t m):QQ c [] [tbD t]=.ok (ckF t m):=by
 have hk:eComp [none] (itL (eVar 1)) (gN 0) cTrue QdC [some (.s,.ins c []),some (.k,tbD t)]=.ok (tbD t):=by
  rw[Qno (xs:=t.map dl) (h:=id) rfl ?_ (by rw[List.length_map];have:=h.n2;omega),List.map_id]
  ·rfl
  ·intro x hx
   obtain⟨r,_,rfl⟩:=List.mem_map.mp hx
   rfl
 have r1:=QFe h
 have hz:∀ n:Nat,n<10->(Qj.contains c&&decide (n<1000))=true:=fun n hn=>by rw[Qzd hc,Bool.true_and];exact decide_eq_true (by omega)
 have s1:sFldS Qj "table" 0 (eComp [none] (itL (eVar 1)) (gN 0) cTrue QdC) [some (.s,.ins c []),some (.k,tbD t)]=.ok (.nx [some (.s,.ins c [("table",tbD t)]),some (.k,tbD t)]):=by
  unfold sFldS
  rw[hk,Out.bind_ok]
  show(if (Qj.contains c&&decide (([]:List (Str×D)).length<1000))=true then _ else _)=_
  exact(if_pos (c:=(Qj.contains c&&decide (0<1000))=true) (hz 0 (by decide))).trans rfl
 have s2:sFldS Qj "heads" 0 (eA (fun xs=>QaK (xs++[])) ‹"q"›) [some (.s,.ins c [("table",tbD t)]),some (.k,tbD t)]=.ok (.nx [some (.s,.ins c (ckF t m)),some (.k,tbD t)]):=by
  unfold sFldS
  have:eA (fun xs=>QaK (xs++[])) ‹"q"› [some (.s,.ins c [("table",tbD t)]),some (.k,tbD t)]=.ok (hdD t m t.length):=by
   simp only[eA,aCons,aNil,eVar,Out.bind_ok,List.getElem?_cons_succ,List.getElem?_cons_zero,List.append_nil,r1]
  rw[this,Out.bind_ok]
  show(if (Qj.contains c&&decide ([(("table":Str),tbD t)].length<1000))=true then _ else _)=_
  refine(if_pos (c:=(Qj.contains c&&decide (1<1000))=true) (hz 1 (by decide))).trans ?_
  rw[put_h];rfl
 rw[Qmm]
 unfold QcQ
 simp only[sSeq,s1,QQq,Out.bind_ok,thenF,s2]
 simp only[Qd3,Qle,List.getElem?_cons_zero,if_true]
theorem Qc3{c:Str}(hc:CK.contains c=true){t:‹"H"›}{m:Nat}{n:Str}{mt:Str->List D->Out D}{O:SD->Out D}{A:SD->Out (List D)}{ς:SD}{xs:List D}(hO:O ς=.ok (ck c t m))(hA:A ς=.ok xs)(h1:(n == ("table":Str))=false)(h2:(n == ("heads":Str))=false):
 eMeth CK n mt O A ς=mt c (ck c t m::xs):=by
 unfold eMeth
 rw[hO,Out.bind_ok]
 show(if (CK.contains c&&((ckF t m).lookup n).isNone)=true then A ς>>=fun xs=>mt c (.ins c (ckF t m)::xs) else .stuck)=_
 simp only[QN1 h1 h2,hc,Option.isNone_none,Bool.and_self,if_true,hA,Out.bind_ok]
 rfl
theorem fld_t{c:Str}(hc:CK.contains c=true)(t:‹"H"›)(m:Nat):dFld Qj "table" (ck c t m)=.ok (tbD t):=by
 show(if Qj.contains c=true then optO ((ckF t m).lookup ("table":Str)) else .stuck)=_
 rw[if_pos (Qzd hc),QPM];rfl
theorem fld_h{c:Str}(hc:CK.contains c=true)(t:‹"H"›)(m:Nat):dFld Qj "heads" (ck c t m)=.ok (hdD t m t.length):=by
 show(if Qj.contains c=true then optO ((ckF t m).lookup ("heads":Str)) else .stuck)=_
 rw[if_pos (Qzd hc),QPV];rfl
theorem Qh8{c:Str}(hc:CK.contains c=true)(t:‹"H"›)(m:Nat):QI [ck c t m]=.ok (.int (t.length:Int)):=by
 have:fLen [tbD t]=.ok (.int (t.length:Int)):=by simp[fLen,tbD]
 simp only[Qsv,Qd9,sRet,eA,aCons,aNil,e1,eVar,List.getElem?_cons_zero,Out.bind_ok,fld_t hc,this]
 rfl
theorem per_m{c:Str}(hc:CK.contains c=true)(t:‹"H"›)(m:Nat){ς:SD}(h:ς[0]?=some (some (.k,ck c t m))):eMeth CK "period" (fun _=>QI) (eVar 0) aNil ς=.ok (.int (t.length:Int)):=by
 rw[Qc3 (c:=c) (t:=t) (m:=m) hc (xs:=[]) (by unfold eVar;rw[h]) rfl (dk) (dk)]
 exact Qh8 hc t m
theorem hd_ix{t:‹"H"›}{m k:Nat}(hk:k<=t.length):dIx (hdD t m t.length) (.int (k:Int))=.ok (dl (pre t m k)):=ixL k (by rw[List.getElem?_map,List.getElem?_range (by omega)];rfl)
theorem Qxs{c:Str}(hc:CK.contains c=true)(t:‹"H"›)(m:Nat):Qai [ck c t m]=.ok (dl (pre t m t.length)):=by
 rw[QvU]
 unfold QeO sRetF
 simp only[e1,e2,eVar,List.getElem?_cons_zero,Out.bind_ok,fld_h hc,per_m hc t m (ς:=[some (.k,ck c t m)]) rfl,hd_ix (Nat.le_refl _)]
 rfl
def sf(t:‹"H"›)(x:Int)(j:Nat):Int:=x / (t.length:Int) * cs t t.length j+cs t (x % (t.length:Int)).toNat j
theorem QNs(f:Int->Int->Int)(t:‹"H"›)(m a b:Nat):List.zipWith f (pre t m a) (pre t m b)=(List.range m).map fun j=>f (cs t a j) (cs t b j):=by
 unfold pre
 rw[List.zipWith_map,List.zipWith_self]
theorem QJE{c:Str}(hc:CK.contains c=true){t:‹"H"›}{m:Nat}(h:Tb t m){x:Int}(h0:0<=x)(hx:x.natAbs<2 ^ 4000)(hcs:∀ k j,(cs t k j).natAbs<2 ^ 100):QR [ck c t m,.int x]=.ok (dl ((List.range m).map (sf t x))):=by
 have n1:=h.n1
 have hn:(0:Int)<(t.length:Int):=by omega
 have hb:big (t.length:Int)=true:=QzF (n:=10) (by have:=h.n2;show((t.length:Int)).natAbs<2 ^ 10;omega) (by decide)
 have fd:dFdiv (.int x) (.int (t.length:Int))=.ok (.int (x / (t.length:Int))):=Qtx hn hb
 have md:dMod (.int x) (.int (t.length:Int))=.ok (.int (x % (t.length:Int))):=Qe0 hn
 have r0:=Int.emod_nonneg x (show(t.length:Int)≠0 by omega)
 have r1:=Int.emod_lt_of_pos x hn
 have hr:((x % (t.length:Int)).toNat:Int)=x % (t.length:Int):=by omega
 have hix:=hd_ix (t:=t) (m:=m) (k:=(x % (t.length:Int)).toNat) (by omega)
 rw[hr]at hix
 have qb:(x / (t.length:Int)).natAbs<2 ^ 4000:=Nat.lt_of_le_of_lt (Int.natAbs_ediv_le_natAbs x _) hx
 have hcomp:=Qnm (js:=[none,none,some 2]) (its:=itZ (eMeth CK "whole" (fun _=>Qai) (eVar 0) aNil) (eVar 3)) (e:=QdI)
  (ς:=[some (.k,ck c t m),some (.k,.int x),some (.k,.int (x / (t.length:Int))),some (.k,dl (pre t m (x % (t.length:Int)).toNat))]) (a:=pre t m t.length) (b:=pre t m (x % (t.length:Int)).toNat) (fun w v=>x / (t.length:Int) * w+v)
  (by
   unfold itZ
   rw[Qc3 (c:=c) (t:=t) (m:=m) hc (xs:=[]) rfl rfl (dk) (dk),Qxs hc t m]
   rfl)
  (by
   intro w hw v hv
   obtain⟨j,_,rfl⟩:=List.mem_map.mp hw
   have mm:dMul (.int (x / (t.length:Int))) (.int (cs t t.length j))=.ok (.int (x / (t.length:Int) * cs t t.length j)):=QEE (QS qb) (QS (hcs _ _)) (by decide)
   show(e2 dAdd (e2 dMul (eVar 2) (eVar 0)) (eVar 1) [some (.k,.int (cs t t.length j)),some (.k,.int v),some (.k,.int (x / (t.length:Int)))]>>=fun y=>Out.ok (some y))=_
   simp only[e2,eVar,List.getElem?_cons_succ,List.getElem?_cons_zero,Out.bind_ok,mm,Q7])
  (by simp[pre];have:=h.m6;omega)
 rw[QNs]at hcomp
 rw[QhF]
 unfold Qbl
 simp only[sSeq,sSet,e1,e2,eVar,List.getElem?_cons_succ,List.getElem?_cons_zero,Out.bind_ok,thenF,per_m hc t m (ς:=[some (.k,ck c t m),some (.k,.int x),none,none]) rfl,fd,md,List.set_cons_succ,List.set_cons_zero,
  per_m hc t m (ς:=[some (.k,ck c t m),some (.k,.int x),some (.k,.int (x / (t.length:Int))),none]) rfl,fld_h hc,hix,sRetF,hcomp]
 rfl
theorem QN5{c:Str}(hc:CK.contains c=true){t:‹"H"›}{m:Nat}(h:Tb t m){s x:Int}(s0:0<=s)(x0:0<=x)(hs:s.natAbs<2 ^ 4000)(hx:(s+x).natAbs<2 ^ 4000)(hcs:∀ k j,(cs t k j).natAbs<2 ^ 100):
 QbD [ck c t m,.int s,.int x]=.ok (dl ((List.range m).map fun j=>sf t (s+x) j - sf t s j)):=by
 have f1':=QJE hc h (x:=s+x) (by omega) hx hcs
 have f2':=QJE hc h (x:=s) s0 hs hcs
 have g1:∀ ς:SD,ς[0]?=some (some (.k,ck c t m))->ς[1]?=some (some (.k,.int s))->ς[2]?=some (some (.k,.int x))->eMeth CK "sent_from_start" (fun _=>QR) (eVar 0) (aCons (e2 dAdd (eVar 1) (eVar 2)) aNil) ς=.ok (dl ((List.range m).map (sf t (s+x)))):=fun ς h0 h1 h2=>by
  rw[Qc3 (c:=c) (t:=t) (m:=m) hc (xs:=[.int (s+x)]) (by unfold eVar;rw[h0]) (by simp only[aCons,aNil,e2,eVar,h1,h2,Out.bind_ok,Q7]) (dk) (dk)]
  exact f1'
 have g2:∀ ς:SD,ς[0]?=some (some (.k,ck c t m))->ς[1]?=some (some (.k,.int s))->eMeth CK "sent_from_start" (fun _=>QR) (eVar 0) ‹"q"› ς=.ok (dl ((List.range m).map (sf t s))):=fun ς h0 h1=>by
  rw[Qc3 (c:=c) (t:=t) (m:=m) hc (xs:=[.int s]) (by unfold eVar;rw[h0]) (by simp only[aCons,aNil,eVar,h1,Out.bind_ok]) (dk) (dk)]
  exact f2'
 have hcomp:=Qnm (js:=[none,none]) (its:=itZ (eVar 3) (eVar 4)) (e:=QiH)
  (ς:=[some (.k,ck c t m),some (.k,.int s),some (.k,.int x),some (.k,dl ((List.range m).map (sf t (s+x)))),some (.k,dl ((List.range m).map (sf t s)))]) (a:=(List.range m).map (sf t (s+x))) (b:=(List.range m).map (sf t s)) (· - ·) rfl (fun _ _ _ _=>rfl) (by simp;have:=h.m6;omega)
 rw[List.zipWith_map,List.zipWith_self]at hcomp
 rw[Qzn]
 unfold QfB
 simp only[sSeq,sSet,g1 [some (.k,ck c t m),some (.k,.int s),some (.k,.int x),none,none] rfl rfl rfl,Out.bind_ok,thenF,List.set_cons_succ,List.set_cons_zero,g2 [some (.k,ck c t m),some (.k,.int s),some (.k,.int x),some (.k,dl ((List.range m).map (sf t (s+x)))),none] rfl rfl,sRetF,hcomp]
 rfl
theorem cs_le{t:‹"H"›}{m:Nat}(h:Tb t m)(k j:Nat):0<=cs t k j/\cs t k j<=9 * (t.length:Int):=by
 have key:∀ l:List (List Int),(∀ r∈l,r∈t)->0<=(l.map fun r=>r.getD j 0).sum/\(l.map fun r=>r.getD j 0).sum<=9 * (l.length:Int):=by
  intro l
  induction l with
  | nil=>intro _;simp
  | cons r l ih=>
   intro hr
   have i1:=ih fun x hx=>hr x (List.mem_cons_of_mem _ hx)
   have h0:0<=r.getD j 0/\r.getD j 0<=9:=by
    rw[List.getD_eq_getElem?_getD]
    cases hx:r[j]? with
    | none=>decide
    | some x=>exact h.ent r (hr r (List.mem_cons_self ..)) x (List.mem_of_getElem? hx)
   rw[List.map_cons,List.sum_cons,List.length_cons]
   omega
 have:=key (t.take k) fun r hr=>List.mem_of_mem_take hr
 unfold cs
 have hl:(t.take k).length<=t.length:=by rw[List.length_take];omega
 omega
theorem QKM{t:‹"H"›}{m:Nat}(h:Tb t m)(k j:Nat):(cs t k j).natAbs<2 ^ 100:=by
 have:=cs_le h k j
 have:=h.n2
 omega
theorem QtB(i:Int):QaU [.int i]=.ok (.bl true):=by
 rw[QGF];simp[QfN,bodyF,retF,sSeq,thenF,sSet,sRet,sIf,sNil,eVar,eC,e1,e2,eA,f1,aNil,aCons,tVal,tAnd',tOr',tNot',eAnd,eOr,eNot,eIf,eTup,eLst,eIsa,isaT,Qas,oNo,oSome,sPar,sUnp,QX,gN,gT,fLen,Qah,Out.bind_ok,Out.bind_exc,Out.bind_stuck,Out.pure_eq,D.scal,Q7,QaD,QaV,QaN,Qam,QaG,Qbu,Qbd,QG,QaH,List.length_cons,List.length_nil,List.map_cons,List.map_nil,List.cons_append,List.nil_append,List.append_nil,List.getElem?_cons_zero,List.getElem?_cons_succ,List.set_cons_zero,List.set_cons_succ,List.replicate,Nat.reduceAdd,Nat.reduceSub,Nat.reduceLeDiff,Nat.zero_add,Nat.add_zero,reduceIte,Bool.not_true,Bool.not_false,Bool.true_and,Bool.and_true,Bool.false_and,Bool.and_false,Bool.or_true,Bool.true_or,Bool.or_false,Bool.false_or,Bool.false_eq_true,decide_true,decide_false,decide_eq_true_eq,Bool.not_eq_true',decide_eq_false_iff_not,Int.reduceEq,Int.reduceLT,Int.reduceLE,Int.reduceNeg,Nat.reduceEqDiff, ↓reduceIte,not_true_eq_false,not_false_eq_true]
theorem Qh0{i a b:Int}(h1:a<=i)(h2:i<=b):Q5 [.int i,.int a,.int b]=.ok (.bl true):=by
 have hw:=QtB i
 have e1':decide (a<=i)=true:=decide_eq_true h1
 have e2':decide (i<=b)=true:=decide_eq_true h2
 rw[QmU]
 simp[Qew,bodyF,retF,sSeq,thenF,sSet,sRet,sIf,sNil,eVar,eC,e1,e2,eA,f1,aNil,aCons,tVal,tAnd',tOr',tNot',eAnd,eOr,eNot,eIf,eTup,eLst,eIsa,isaT,Qas,oNo,oSome,sPar,sUnp,QX,gN,gT,fLen,Qah,Out.bind_ok,Out.bind_exc,Out.bind_stuck,Out.pure_eq,D.scal,Q7,QaD,QaV,QaN,Qam,QaG,Qbu,Qbd,QG,QaH,List.length_cons,List.length_nil,List.map_cons,List.map_nil,List.cons_append,List.nil_append,List.append_nil,List.getElem?_cons_zero,List.getElem?_cons_succ,List.set_cons_zero,List.set_cons_succ,List.replicate,Nat.reduceAdd,Nat.reduceSub,Nat.reduceLeDiff,Nat.zero_add,Nat.add_zero,reduceIte,Bool.not_true,Bool.not_false,Bool.true_and,Bool.and_true,Bool.false_and,Bool.and_false,Bool.or_true,Bool.true_or,Bool.or_false,Bool.false_or,Bool.false_eq_true,decide_true,decide_false,decide_eq_true_eq,Bool.not_eq_true',decide_eq_false_iff_not,Int.reduceEq,Int.reduceLT,Int.reduceLE,Int.reduceNeg,Nat.reduceEqDiff, ↓reduceIte,not_true_eq_false,not_false_eq_true,hw,QdK,h1,h2]
theorem Qym{r:List Int}(hl:r.length<=6)(h:∀ x∈r,0<=x/\x<=9):Qdb [dl r]=.ok (.bl true):=by
 have hlen:fLen [dl r]=.ok (.int (r.length:Int)):=by simp[fLen,dl]
 have hc:eComp [none] (itL (eVar 0)) (gN 0) cTrue Qjm [some (.k,dl r)]=.ok (.lst (r.map fun _=>D.bl true)):=by
  refine Q1 D.int (fun _=>.bl true) rfl (fun x hx=>?_) (by omega)
  have hw:=Qh0 (h x hx).1 (h x hx).2
  refine Qab (by walk_at "cap") (by walk_at "s") ?_
  unfold Qjm
  (repeat walk_at "e")
 have ha:fAll (.lst (r.map fun _=>D.bl true))=.ok (.bl true):=by rw[QnN (fun _=>true)];simp
 have hf:f1 fAll [.lst (r.map fun _=>D.bl true)]=.ok (.bl true):=ha
 have hi:isaT "list" (dl r)=.ok true:=by simp[isaT,dl,Qas]
 have hg:decide ((6:Int)<(r.length:Int))=false:=decide_eq_false (by omega)
 rw[QLc]
 unfold Qjx
 (repeat walk_at "e")
theorem QGl{t:‹"H"›}{m:Nat}(h:Tb t m):Qdi [tbD t]=.ok (.bl true):=by
 obtain⟨n1,n2,m6,row,ent'⟩:=h
 have hlen:fLen [tbD t]=.ok (.int (t.length:Int)):=by simp[fLen,tbD]
 have hc:eComp [none] (itL (eVar 0)) (gN 0) cTrue Qhh [some (.k,tbD t)]=.ok (.lst (t.map fun _=>D.bl true)):=by
  refine Q1 dl (fun _=>.bl true) rfl (fun x hx=>?_) (by omega)
  have hw:=Qym (r:=x) (by rw[row x hx];exact m6) (ent' x hx)
  refine Qab (by walk_at "cap") (by walk_at "s") ?_
  unfold Qhh
  (repeat walk_at "e")
 have r0:t[0]?=some t[0]:=by simp
 have hr0:(t[0]).length=m:=row _ (List.getElem_mem _)
 have hix0:dIx (tbD t) (.int 0)=.ok (dl t[0]):=ixL 0 (by rw[List.getElem?_map,r0];rfl)
 have hl0:fLen [dl t[0]]=.ok (.int (m:Int)):=by simp[fLen,dl,hr0]
 have hc2:eComp [none,some 0] (itL (eVar 0)) (gN 0) cTrue Qg3 [some (.k,tbD t)]=.ok (.lst (t.map fun _=>D.bl true)):=by
  refine Q1 dl (fun _=>.bl true) rfl (fun x hx=>?_) (by omega)
  have hlx:fLen [dl x]=.ok (.int (m:Int)):=by simp[fLen,dl,row x hx]
  have he:dEq (.int (m:Int)) (.int (m:Int))=.ok (.bl true):=by rw[QG];simp
  refine Qab (by walk_at "cap") (by walk_at "s") ?_
  unfold Qg3
  (repeat walk_at "e")
 have ha:fAll (.lst (t.map fun _=>D.bl true))=.ok (.bl true):=by rw[QnN (fun _=>true)];simp
 have hf:f1 fAll [.lst (t.map fun _=>D.bl true)]=.ok (.bl true):=ha
 have hi:isaT "list" (tbD t)=.ok true:=by simp[isaT,tbD,Qas]
 have hg:decide ((1:Int)<=(t.length:Int))=true:=decide_eq_true (by omega)
 have hg2:decide ((t.length:Int)<=12)=true:=decide_eq_true (by omega)
 rw[QEU]
 unfold QgJ
 (repeat walk_at "e")
theorem QH0{c:Str}(hc:CK.contains c=true){t:‹"H"›}{m:Nat}(h:Tb t m):Qcz c [] [tbD t]=.ok (ckF t m):=by
 have h1:=QGl h
 have h2:=Ql8 hc h
 rw[QDC]
 unfold Qgf
 (repeat walk_at "e")
theorem QKw{c:Str}(hc:CK.contains c=true){r:List Int}{m:Nat}(h:Tb [r] m):QcB c [] [dl r]=.ok (ckF [r] m):=by
 have h1:=Qym (r:=r) (by rw[h.row r (by simp)];exact h.m6) (h.ent r (by simp))
 have h2:QQ c [] [.lst [dl r]]=.ok (ckF [r] m):=Ql8 hc h
 rw[QCZ]
 unfold Qf2
 (repeat walk_at "e")
def one(n s:Nat):List Int:=(List.range n).map fun k=>if k=s then 1 else 0
def dealT(n:Nat):List (List Int):=(List.range n).map (one n)
def bunT(n:Nat):List (List Int):=(List.range n).map fun s=>[if s+1=n then 1 else 0]
theorem QJI{n s:Nat}(h:n<=100):Qb6 [.int n,.int s]=.ok (dl (one n s)):=by
 have hc:eComp [none,some 1] (itR1 (eVar 0)) (gN 0) cTrue QfY [some (.k,.int n),some (.k,.int s)]=.ok (.lst ((List.range n).map fun k=>D.int (if k=s then 1 else 0))):=by
  refine Qg9 (fun k=>D.int (if k=s then 1 else 0)) (Qca n rfl (by omega)) (fun k hk=>?_) (by omega)
  refine Qab (by walk_at "cap") (by walk_at "s") ?_
  unfold QfY
  by_cases e:k=s
  ·have e':decide ((k:Int)=(s:Int))=true:=decide_eq_true (by omega)
   rw[if_pos e]
   (repeat walk_at "e")
  ·have e':decide ((k:Int)=(s:Int))=false:=decide_eq_false (by omega)
   rw[if_neg e]
   (repeat walk_at "e")
 have he:dl (one n s)=.lst ((List.range n).map fun k=>D.int (if k=s then 1 else 0)):=by unfold dl one;rw[List.map_map];rfl
 rw[he,Qxw]
 unfold Qfk
 (repeat walk_at "e")
theorem QEc{n:Nat}(h1:1<=n)(h6:n<=6):Tb (dealT n) n:=by
 refine⟨by simp[dealT];omega,by simp[dealT];omega,h6,fun r hr=>?_,fun r hr x hx=>?_⟩<;>obtain⟨s,_,rfl⟩:=List.mem_map.mp hr
 ·simp[one]
 ·obtain⟨k,_,rfl⟩:=List.mem_map.mp hx
  split<;>decide
theorem QIp{n:Nat}(h1:1<=n)(h6:n<=12):Tb (bunT n) 1:=by
 refine⟨by simp[bunT];omega,by simp[bunT];omega,by decide,fun r hr=>?_,fun r hr x hx=>?_⟩<;>obtain⟨s,_,rfl⟩:=List.mem_map.mp hr
 ·simp
 ·rw[List.mem_singleton.mp hx]
  split<;>decide
theorem QI7{c:Str}(hc:CK.contains c=true){n:Nat}(n1:1<=n)(n6:n<=6):QcK c [] [.int n]=.ok (ckF (dealT n) n):=by
 have h1:=Qh0 (i:=n) (a:=1) (b:=6) (by omega) (by omega)
 have h2:=Ql8 hc (QEc n1 n6)
 have hc':eComp [none,some 1] (itR1 (eVar 1)) (gN 0) cTrue QgB [some (.s,.ins c []),some (.k,.int n)]=.ok (tbD (dealT n)):=by
  have he:tbD (dealT n)=.lst ((List.range n).map fun s=>dl (one n s)):=by unfold tbD dealT;rw[List.map_map];rfl
  rw[he]
  refine Qg9 (fun s=>dl (one n s)) (Qca n rfl (by omega)) (fun k hk=>?_) (by omega)
  have hs:=QJI (n:=n) (s:=k) (by omega)
  refine Qab (by walk_at "cap") (by walk_at "s") ?_
  unfold QgB
  (repeat walk_at "e")
 rw[QDE]
 unfold Qf3
 (repeat walk_at "e")
theorem QKz{c:Str}(hc:CK.contains c=true){n:Nat}(n1:1<=n)(n6:n<=12):QbM c [] [.int n]=.ok (ckF (bunT n) 1):=by
 have h1:=Qh0 (i:=n) (a:=1) (b:=12) (by omega) (by omega)
 have h2:=Ql8 hc (QIp n1 n6)
 have hc':eComp [none,some 1] (itR1 (eVar 1)) (gN 0) cTrue Qfu [some (.s,.ins c []),some (.k,.int n)]=.ok (tbD (bunT n)):=by
  have he:tbD (bunT n)=.lst ((List.range n).map fun s=>D.lst [.int (if s+1=n then 1 else 0)]):=by unfold tbD bunT;rw[List.map_map];rfl
  rw[he]
  refine Qg9 (fun s=>D.lst [.int (if s+1=n then 1 else 0)]) (Qca n rfl (by omega)) (fun k hk=>?_) (by omega)
  refine Qab (by walk_at "cap") (by walk_at "s") ?_
  unfold Qfu
  by_cases e:k+1=n
  ·have e':decide ((k:Int)=(n:Int) - 1)=true:=decide_eq_true (by omega)
   rw[if_pos e]
   (repeat walk_at "e")
  ·have e':decide ((k:Int)=(n:Int) - 1)=false:=decide_eq_false (by omega)
   rw[if_neg e]
   (repeat walk_at "e")
 rw[QvX]
 unfold QeQ
 (repeat walk_at "e")
abbrev rl(n:Nat)(f:Nat->D):D:=.lst ((List.range n).map f)
theorem atR{n i:Nat}{f:Nat->D}(h:i<n):((List.range n).map f)[i]?=some (f i):=by
 rw[List.getElem?_map,List.getElem?_range h];rfl
theorem ixR{n i:Nat}{f:Nat->D}(h:i<n):dIx (rl n f) (.int (i:Int))=.ok (f i):=ixL i (atR h)
theorem lenR(n:Nat)(f:Nat->D):fLen [rl n f]=.ok (.int (n:Int)):=by simp[fLen]
theorem QfV{n:Nat}{f g:Nat->D}(h:∀ i,i<n->f i=g i):rl n f=rl n g:=by
 show D.lst _=D.lst _
 rw[List.map_congr_left fun i hi=>h i (List.mem_range.mp hi)]
theorem Qhm{body:D->SD->Out Fl}{P:Nat->SD->Prop}{f:Nat->D}{n:Nat}(h:∀ k:Nat,k<n->∀ ς,P k ς->∃ ς',body (f k) ς=.ok (.nx ς')/\P (k+1) ς')(ς:SD)(p0:P 0 ς):∃ ς',loopD body ((List.range n).map f) ς=.ok (.nx ς')/\P n ς':=by
 have go:∀ m k:Nat,k+m=n->∀ ς,P k ς->∃ ς',loopD body ((List.range' k m).map f) ς=.ok (.nx ς')/\P n ς':=by
  intro m
  induction m with
  | zero=>intro k hk ς p;exact⟨ς,rfl,by rw[← hk];exact p⟩
  | succ m ih=>
   intro k hk ς p
   obtain⟨ς1,e1',p1⟩:=h k (by omega) ς p
   obtain⟨ς2,e2',p2⟩:=ih (k+1) (by omega) ς1 p1
   refine⟨ς2,?_,p2⟩
   rw[List.range'_succ,List.map_cons,loopD,e1']
   exact e2'
 rw[List.range_eq_range']
 exact go n 0 (by omega) ς p0
def fr(x:Int×Int):D:=.tup [.int x.1,.int x.2]
theorem fr0(x:Int×Int):dIx (fr x) (.int 0)=.ok (.int x.1):=QOe _ _
theorem fr1(x:Int×Int):dIx (fr x) (.int 1)=.ok (.int x.2):=QNW _ _ _
theorem setR{n k:Nat}(hk:k<n)(f:Nat->D)(v:D):((List.range n).map f).set k v=(List.range n).map fun i=>if i=k then v else f i:=by
 apply List.ext_getElem?
 intro i
 rw[List.getElem?_set]
 by_cases hi:i<n
 ·have r1:((List.range n).map fun i=>if i=k then v else f i)[i]?=some (if i=k then v else f i):=atR hi
  rw[r1]
  by_cases e:k=i
  ·subst e
   rw[if_pos rfl,if_pos (by simpa using hi),if_pos rfl]
  ·rw[if_neg e,atR hi,if_neg (Ne.symm e)]
 ·have h1:((List.range n).map f)[i]?=none:=by simp;omega
  have h2:((List.range n).map fun i=>if i=k then v else f i)[i]?=none:=by simp;omega
  rw[h1,h2,if_neg (by omega)]
theorem ixNR{n k:Nat}(hk:k<n)(f:Nat->D):ixN ((List.range n).map f).length (k:Int)=some k:=by
 rw[List.length_map,List.length_range]
 unfold ixN
 rw[if_pos (by omega),if_pos (by omega)];simp
theorem allR{n:Nat}{f:Nat->D}(h:∀ i,i<n->(f i).scal=true):((List.range n).map f).all D.scal=true:=List.all_eq_true.mpr fun d hd=>by
 obtain⟨i,hi,rfl⟩:=List.mem_map.mp hd
 exact h i (List.mem_range.mp hi)
theorem Qyr:∀ xs:List Str,strsD (xs.map D.str)=some xs
 | []=>rfl
 | x::xs=>by show(strsD (xs.map D.str)).map (x :: ·)=_;rw[Qyr xs];rfl
def Inj(xs:List Str):Prop:=∀ i j,i<xs.length->xs[i]?=xs[j]?->i=j
theorem QyE{xs:List Str}(h:Inj xs):∀ i,i<=xs.length->LS.met (fun i=>xs.getD i "") i=xs.take i
 | 0,_=>rfl
 | i+1,hi=>by
  have ih:=QyE h i (by omega)
  have hl:i<xs.length:=by omega
  have e:xs.getD i ""=xs[i]:=by rw[List.getD_eq_getElem?_getD,List.getElem?_eq_getElem hl];rfl
  have ni:¬ xs[i]∈xs.take i:=fun z=>by
   obtain⟨j,hj,ej⟩:=List.getElem_of_mem z
   rw[List.getElem_take]at ej
   rw[List.length_take]at hj
   have:=h i j (by omega) (by rw[List.getElem?_eq_getElem hl,List.getElem?_eq_getElem (show j<xs.length by omega),ej])
   omega
  show(if xs.getD i ""∈LS.met (fun i=>xs.getD i "") i then LS.met (fun i=>xs.getD i "") i else LS.met (fun i=>xs.getD i "") i++[xs.getD i ""])=_
  rw[ih,e,if_neg ni,List.take_add_one,List.getElem?_eq_getElem hl];rfl
theorem QkI{xs:List Str}(h:Inj xs)(hl:xs.length<=1000):Q8 [.lst (xs.map .str)]=.ok (.bl true):=by
 have hu:Qss (.lst (xs.map .str))=.ok (.int (xs.length:Int)):=by
  show(match strsD (xs.map .str) with | some xs=>if decide (xs.length<4000)=true then Out.ok (D.int (Qdp xs)) else .stuck | none=>.stuck)=_
  rw[Qyr]
  show(if decide (xs.length<4000)=true then Out.ok (D.int (Qdp xs)) else .stuck)=_
  rw[if_pos (decide_eq_true (by omega))]
  unfold Qdp
  rw[QyE h _ (Nat.le_refl _),List.take_length]
 have hlen:fLen [.lst (xs.map D.str)]=.ok (.int (xs.length:Int)):=by simp[fLen]
 have he:dEq (.int (xs.length:Int)) (.int (xs.length:Int))=.ok (.bl true):=by rw[QG];simp
 rw[Qyn]
 unfold Qfm
 (repeat walk_at "e")
theorem QjP{n:Nat}{f:Nat->D}{M:Int}(h1:1<=n)(h2:(n:Int)<=M):Qbk [rl n f,.int M]=.ok (.bl true):=by
 have hlen:=lenR n f
 have hi:isaT "list" (rl n f)=.ok true:=by simp[isaT,Qas]
 have g1:decide ((1:Int)<=(n:Int))=true:=decide_eq_true (by omega)
 have g2:decide ((n:Int)<=M)=true:=decide_eq_true h2
 have g3:dLe (.int (n:Int)) (.int M)=.ok (.bl true):=by rw[QaG,g2]
 rw[QHO]
 unfold QhS
 (repeat walk_at "e")
theorem QjE(n:Nat):f1 fAll [rl n (fun _=>.bl true)]=.ok (.bl true):=by
 show fAll (.lst ((List.range n).map fun _=>D.bl true))=_
 rw[QnN (fun _=>true)];simp
theorem QkF(n:Nat)(f:Nat->Str):(List.range n).map (fun i=>D.str (f i))=((List.range n).map f).map D.str:=by rw[List.map_map];rfl
theorem QOm{n:Nat}{f:Nat->Str}(h:∀ i j,i<n->j<n->f i=f j->i=j):Inj ((List.range n).map f):=by
 intro i j hi z
 rw[List.length_map,List.length_range]at hi
 rw[List.getElem?_map,List.getElem?_map,List.getElem?_range hi]at z
 by_cases hj:j<n
 ·rw[List.getElem?_range hj]at z
  exact h i j hi hj (Option.some.inj z)
 ·have h1:(List.range n)[j]?=none:=by simp;omega
  rw[h1]at z;cases z
structure Seats(n nd:Nat)(nm dn c:Nat->Str)(t:Nat->List (List Int))(m:Nat->Nat)(ld:Nat->Nat->Int)(st:Nat->Int):Prop where
 n1:1<=n
 n2:n<=60
 d1:1<=nd
 d2:nd<=6
 ck:∀ k,k<n->CK.contains (c k)=true
 tb:∀ k,k<n->Tb (t k) (m k)
 ldr:∀ k j,k<n->j<m k -> -(nd:Int)<=ld k j/\ld k j<(n:Int)
 str:∀ k,k<n->0<=st k/\st k<((t k).length:Int)
 isn:∀ k,k<n->QaB [.str (nm k)]=.ok (.bl true)
 isd:∀ d,d<nd->QaB [.str (dn d)]=.ok (.bl true)
 inj:∀ i j,i<n->j<n->nm i=nm j->i=j
 injd:∀ i j,i<nd->j<nd->dn i=dn j->i=j
 sep:∀ i d,i<n->d<nd->nm i≠dn d
def nml(nm dn:Nat->Str)(l:Int):Str:=if l<0 then dn (-1 - l).toNat else nm l.toNat
def seatD(nm dn c:Nat->Str)(t:Nat->List (List Int))(m:Nat->Nat)(ld:Nat->Nat->Int)(st:Nat->Int)(k:Nat):D:=
 .tup [.str (nm k),ck (c k) (t k) (m k),rl (m k) (fun j=>.str (nml nm dn (ld k j))),.int (st k)]
theorem ix_t{xs:List D}{d:D}(i:Nat)(h:xs[i]?=some d):dIx (.tup xs) (.int (i:Int))=.ok d:=by
 show optO (atI xs (i:Int))=_
 have hi:i<xs.length:=(List.getElem?_eq_some_iff.mp h).1
 have:atI xs (i:Int)=some d:=by
  unfold atI ixN
  rw[if_pos (by omega),if_pos (by omega)]
  simpa using h
 rw[this];rfl
theorem QMe{c:Str}(hc:CK.contains c=true)(t:‹"H"›)(m:Nat):Qdc [ck c t m]=.ok (.bl true):=by
 have hm:c∈Qc:=by simpa using hc
 simp only[Qc,List.mem_cons,List.not_mem_nil,or_false]at hm
 have key:∀ c:Str,(c="Deal"∨c="Bundle"∨c="Copy"∨c="Rows")->anyT [[("Deal",true),("Bundle",false),("Copy",false),("Rows",false),("Office",false)],[("Deal",false),("Bundle",true),("Copy",false),("Rows",false),("Office",false)],[("Deal",false),("Bundle",false),("Copy",true),("Rows",false),("Office",false)],[("Deal",false),("Bundle",false),("Copy",false),("Rows",true),("Office",false)]] c=some true:=by
  rintro c (rfl | rfl | rfl | rfl)<;>decide +kernel
 have k:=key c hm
 rw[QGT]
 unfold QgO
 show(sRet (eIsa (isaTs _) (eVar 0)) [some (.k,.ins c (ckF t m))]>>=retF false)=_
 have hi:isaTs [[("Deal",true),("Bundle",false),("Copy",false),("Rows",false),("Office",false)],[("Deal",false),("Bundle",true),("Copy",false),("Rows",false),("Office",false)],[("Deal",false),("Bundle",false),("Copy",true),("Rows",false),("Office",false)],[("Deal",false),("Bundle",false),("Copy",false),("Rows",true),("Office",false)]] (.ins c (ckF t m))=.ok true:=by
  show(match anyT _ c with | some b=>Out.ok b | none=>Out.stuck)=_
  rw[k]
 (repeat walk_at "e")
theorem QMr{c:Str}(hc:CK.contains c=true){t:‹"H"›}{m:Nat}(h:Tb t m):QbG [ck c t m]=.ok (.int (m:Int)):=by
 have n1:=h.n1
 have r0:t[0]?=some t[0]:=by simp
 have hix:dIx (tbD t) (.int 0)=.ok (dl t[0]):=ixL 0 (by rw[List.getElem?_map,r0];rfl)
 have hl0:fLen [dl t[0]]=.ok (.int (m:Int)):=by simp[fLen,dl,h.row _ (List.getElem_mem _)]
 have hf:=fld_t hc t m
 rw[QzN]
 unfold Qfo
 (repeat walk_at "e")
theorem QLM{n:Nat}(hn:n<=100)(f:Nat->Str):QcJ [rl n (fun j=>.str (f j)),.int (n:Int)]=.ok (.bl true):=by
 have hlen:=lenR n (fun j=>D.str (f j))
 have hi:isaT "list" (rl n (fun j=>D.str (f j)))=.ok true:=by simp[isaT,Qas]
 have hc:eComp [none] (itL (eVar 0)) (gN 0) cTrue Qgv [some (.k,rl n (fun j=>.str (f j))),some (.k,.int (n:Int))]=.ok (rl n (fun _=>.bl true)):=by
  refine Q1 (fun j=>D.str (f j)) (fun _=>.bl true) rfl (fun j _=>?_) (by rw[List.length_range];omega)
  have hs:isaT "str" (D.str (f j))=.ok true:=by simp[isaT,Qas]
  refine Qab (by walk_at "cap") (by walk_at "s") ?_
  unfold Qgv
  (repeat walk_at "e")
 have he:dEq (.int (n:Int)) (.int (n:Int))=.ok (.bl true):=by rw[QG];simp
 have ha:=QjE n
 rw[QB9]
 unfold Qgc
 (repeat walk_at "e")
theorem QMA:QaB [.str "in"]=.ok (.bl true):=by with_unfolding_all rfl
section
variable{n nd:Nat}{nm dn c:Nat->Str}{t:Nat->List (List Int)}{m:Nat->Nat}{ld:Nat->Nat->Int}{st:Nat->Int}(hs:Seats n nd nm dn c t m ld st)
include hs
theorem QLS:QcA [rl nd (fun d=>.str (dn d)),.int 6]=.ok (.bl true):=by
 have d2:=hs.d2
 have h1:=QjP (n:=nd) (f:=fun d=>.str (dn d)) (M:=6) hs.d1 (by omega)
 have hc:eComp [none] (itL (eVar 0)) (gN 0) cTrue Qgw [some ‹"G"›,some (.k,.int 6)]=.ok (rl nd (fun _=>.bl true)):=by
  refine Q1 (fun d=>D.str (dn d)) (fun _=>.bl true) rfl (fun d hd=>?_) (by rw[List.length_range];omega)
  have h:=hs.isd d (List.mem_range.mp hd)
  refine Qab (by walk_at "cap") (by walk_at "s") ?_
  unfold Qgw
  (repeat walk_at "e")
 have ha:=QjE nd
 have hu:Q8 [rl nd (fun d=>.str (dn d))]=.ok (.bl true):=by
  show Q8 [.lst _]=_
  rw[QkF]
  exact QkI (QOm hs.injd) (by simp;omega)
 rw[QA0]
 unfold Qf9
 (repeat walk_at "e")
theorem QMv{k:Nat}(hk:k<n):QdZ [seatD nm dn c t m ld st k]=.ok (.bl true):=by
 have tb:=hs.tb k hk
 have hc:=hs.ck k hk
 have m6:=tb.m6
 obtain⟨s0,s1⟩:=hs.str k hk
 have hi:isaT "tuple" (seatD nm dn c t m ld st k)=.ok true:=by simp[isaT,Qas,seatD]
 have hl:fLen [seatD nm dn c t m ld st k]=.ok (.int 4):=by simp[fLen,seatD]
 have x0:dIx (seatD nm dn c t m ld st k) (.int 0)=.ok (.str (nm k)):=ix_t 0 rfl
 have x1:dIx (seatD nm dn c t m ld st k) (.int 1)=.ok (ck (c k) (t k) (m k)):=ix_t 1 rfl
 have x2:dIx (seatD nm dn c t m ld st k) (.int 2)=.ok (rl (m k) (fun j=>.str (nml nm dn (ld k j)))):=ix_t 2 rfl
 have x3:dIx (seatD nm dn c t m ld st k) (.int 3)=.ok (.int (st k)):=ix_t 3 rfl
 have h0:=hs.isn k hk
 have h1:=QMe hc (t k) (m k)
 have h2:=QLM (n:=m k) (by omega) (fun j=>nml nm dn (ld k j))
 have h3:=Qh0 (i:=st k) (a:=0) (b:=((t k).length:Int) - 1) s0 (by omega)
 have mo:eMeth Qc "outs" (fun _=>QbG) ‹"p"› aNil [some (.k,seatD nm dn c t m ld st k)]=.ok (.int (m k:Int)):=by
  rw[Qc3 (c:=c k) (t:=t k) (m:=m k) hc (xs:=[]) (by (repeat walk_at "e")) rfl (dk) (dk)]
  exact QMr hc tb
 have mp:eMeth Qc "period" (fun _=>QI) ‹"p"› aNil [some (.k,seatD nm dn c t m ld st k)]=.ok (.int ((t k).length:Int)):=by
  rw[Qc3 (c:=c k) (t:=t k) (m:=m k) hc (xs:=[]) (by (repeat walk_at "e")) rfl (dk) (dk)]
  exact Qh8 hc _ _
 have hne:dNe (.int 4) (.int 4)=.ok (.bl false):=by rw[QaH];rfl
 rw[QIj]
 unfold Qh1
 (repeat walk_at "e")
theorem QK9:QcH [rl n (seatD nm dn c t m ld st),rl nd (fun d=>.str (dn d))]=.ok (.bl true):=by
 have n2:=hs.n2
 have d2:=hs.d2
 have h1:=QjP (n:=n) (f:=seatD nm dn c t m ld st) (M:=60) hs.n1 (by omega)
 have hc:eComp [none] (itL (eVar 0)) (gN 0) cTrue QgC [some (.k,rl n (seatD nm dn c t m ld st)),some ‹"G"›]=.ok (rl n (fun _=>.bl true)):=by
  refine Q1 (seatD nm dn c t m ld st) (fun _=>.bl true) rfl (fun k hk=>?_) (by rw[List.length_range];omega)
  have h:=QMv hs (List.mem_range.mp hk)
  refine Qab (by walk_at "cap") (by walk_at "s") ?_
  unfold QgC
  (repeat walk_at "e")
 have ha:=QjE n
 have hn:eComp [none] (itL (eVar 0)) (gN 0) cTrue QgA [some (.k,rl n (seatD nm dn c t m ld st)),some ‹"G"›]=.ok (rl n (fun k=>.str (nm k))):=by
  refine Q1 (seatD nm dn c t m ld st) (fun k=>D.str (nm k)) rfl (fun k hk=>?_) (by rw[List.length_range];omega)
  have x0:dIx (seatD nm dn c t m ld st k) (.int 0)=.ok (.str (nm k)):=ix_t 0 rfl
  refine Qab (by walk_at "cap") (by walk_at "s") ?_
  unfold QgA
  (repeat walk_at "e")
 have hcat:dCat (rl n (fun k=>.str (nm k))) (rl nd (fun d=>.str (dn d)))=.ok (.lst ((((List.range n).map nm)++((List.range nd).map dn)).map .str)):=by
  rw[QEr (by simp;omega),List.map_append, ← QkF, ← QkF]
 have hu:Q8 [.lst ((((List.range n).map nm)++((List.range nd).map dn)).map .str)]=.ok (.bl true):=by
  refine QkI ?_ (by simp;omega)
  intro i j hi z
  rw[List.length_append,List.length_map,List.length_map,List.length_range,List.length_range]at hi
  have at':∀ i,(((List.range n).map nm)++((List.range nd).map dn))[i]?=if i<n then some (nm i) else if i - n<nd then some (dn (i - n)) else none:=fun i=>by
   rw[List.getElem?_append,List.length_map,List.length_range]
   split
   ·rw[List.getElem?_map,List.getElem?_range (by assumption)];rfl
   ·split
    ·rw[List.getElem?_map,List.getElem?_range (by assumption)];rfl
    ·simp;omega
  rw[at',at']at z
  by_cases a:i<n
  ·rw[if_pos a]at z
   by_cases b:j<n
   ·rw[if_pos b]at z;exact hs.inj i j a b (Option.some.inj z)
   ·rw[if_neg b]at z
    by_cases d:j - n<nd
    ·rw[if_pos d]at z;exact absurd (Option.some.inj z) (hs.sep i _ a d)
    ·rw[if_neg d]at z;cases z
  ·rw[if_neg a,if_pos (show i - n<nd by omega)]at z
   by_cases b:j<n
   ·rw[if_pos b]at z;exact absurd (Option.some.inj z).symm (hs.sep j _ b (by omega))
   ·rw[if_neg b]at z
    by_cases d:j - n<nd
    ·rw[if_pos d]at z
     have:=hs.injd _ _ (by omega) d (Option.some.inj z)
     omega
    ·rw[if_neg d]at z;cases z
 rw[QAL]
 unfold Qf6
 (repeat walk_at "e")
theorem QL3:dInL (.str (nm 0)) (rl n (fun k=>.str (nm k)))=.ok (.bl true):=by
 have n1:=hs.n1
 show(if (_&&((List.range n).map fun k=>D.str (nm k)).all D.scal)=true then Out.ok (D.bl (inV _ _)) else _)=_
 rw[if_pos (by rw[Bool.and_eq_true];exact⟨rfl,allR fun i _=>rfl⟩)]
 have:inV (toV (.str (nm 0))) (((List.range n).map fun k=>D.str (nm k)).map toV)=true:=by
  unfold inV
  rw[List.any_eq_true]
  refine⟨V.str (nm 0),?_,by show(nm 0 == nm 0)=true;exact beq_self_eq_true _⟩
  rw[List.map_map,List.mem_map]
  exact⟨0,List.mem_range.mpr (by omega),rfl⟩
 rw[this]
theorem QEX:QbN [.lst [.tup [.str "in",.str (nm 0)]],rl n (fun k=>.str (nm k))]=.ok (.bl true):=by
 have n1:=hs.n1
 have hin:=QMA
 have h0:=hs.isn 0 (by omega)
 have hL:=QL3 hs
 have e1':Qc9 [.tup [.str "in",.str (nm 0)],rl n (fun k=>.str (nm k))]=.ok (.bl true):=by
  have hi:isaT "tuple" (.tup [.str "in",.str (nm 0)])=.ok true:=by simp[isaT,Qas]
  have hl:fLen [.tup [.str "in",.str (nm 0)]]=.ok (.int 2):=by simp[fLen]
  have x0:dIx (.tup [.str "in",.str (nm 0)]) (.int 0)=.ok (.str "in"):=ix_t 0 rfl
  have x1:dIx (.tup [.str "in",.str (nm 0)]) (.int 1)=.ok (.str (nm 0)):=ix_t 1 rfl
  have hne:dNe (.int 2) (.int 2)=.ok (.bl false):=by rw[QaH];rfl
  rw[QHc]
  unfold QgV
  (repeat walk_at "e")
 have h1:Qbk [.lst [.tup [.str "in",.str (nm 0)]],.int 6]=.ok (.bl true):=QjP (n:=1) (f:=fun _=>.tup [.str "in",.str (nm 0)]) (M:=6) (by decide) (by decide)
 have hc:eComp [none,some 1] (itL (eVar 0)) (gN 0) cTrue Qft [some (.k,.lst [.tup [.str "in",.str (nm 0)]]),some (.k,rl n (fun k=>.str (nm k)))]=.ok (rl 1 (fun _=>.bl true)):=by
  refine Q1 (l:=List.range 1) (fun _=>.tup [.str "in",.str (nm 0)]) (fun _=>.bl true) rfl (fun k hk=>?_) (by simp)
  refine Qab (by walk_at "cap") (by walk_at "s") ?_
  unfold Qft
  (repeat walk_at "e")
 have ha:=QjE 1
 have hn:eComp [none] (itL (eVar 0)) (gN 0) cTrue Qfq [some (.k,.lst [.tup [.str "in",.str (nm 0)]]),some (.k,rl n (fun k=>.str (nm k)))]=.ok (.lst ([("in":Str)].map .str)):=by
  refine Q1 (l:=List.range 1) (fun _=>.tup [.str "in",.str (nm 0)]) (fun _=>.str "in") rfl (fun k hk=>?_) (by simp)
  have x0:dIx (.tup [.str "in",.str (nm 0)]) (.int 0)=.ok (.str "in"):=ix_t 0 rfl
  refine Qab (by walk_at "cap") (by walk_at "s") ?_
  unfold Qfq
  (repeat walk_at "e")
 have hu:Q8 [.lst ([("in":Str)].map .str)]=.ok (.bl true):=QkI (by
  intro i j hi z
  have hi:i<1:=hi
  have:i=0:=by omega
  subst this
  cases j with
  | zero=>rfl
  | succ j=>simp at z) (by simp)
 rw[Qvr]
 unfold QeH
 (repeat walk_at "e")
end
theorem QIB{i:Nat}{I E:SD->Out D}{ς ς':SD}{kds:List (Key×D)}{d y:D}{k:Key}(a:E ς=.ok d)(e:ς[i]?=some (some (.o,.dic kds)))(a':I ς=.ok y)(hk:dkey y=some k)(hl:kds.length<=1000)
 (l:ς.set i (some (.o,.dic (putKD kds k d)))=ς'):sPutD i I E ς=.ok (.nx ς'):=by
 unfold sPutD
 rw[a,Out.bind_ok,e]
 show(I ς>>=_)=_
 rw[a',Out.bind_ok,hk]
 show(if _ then _ else _)=_
 rw[if_pos (QEn hl),l]
theorem QPZ{A B:SD->Out D}{ς:SD}{kds:List (Key×D)}{y:D}{k:Key}(a:A ς=.ok (.dic kds))(a':B ς=.ok y)(hk:dkey y=some k):eDget A B ς=.ok ((valD kds k).getD .non):=by
 unfold eDget
 rw[a,Out.bind_ok]
 show(B ς>>=_)=_
 rw[a',Out.bind_ok,hk]
theorem r_dix{A B:SD->Out D}{ς:SD}{kds:List (Key×D)}{y d:D}{k:Key}(a:A ς=.ok (.dic kds))(a':B ς=.ok y)(hk:dkey y=some k)(hv:valD kds k=some d):eDix A B ς=.ok d:=by
 unfold eDix
 rw[a,Out.bind_ok]
 show(B ς>>=_)=_
 rw[a',Out.bind_ok,hk]
 show optO (valD kds k)=_
 rw[hv];rfl
theorem QEt{kds:List (Key×D)}{k:Key}{d:D}(h:∀ kv∈kds,kv.1≠k):putKD kds k d=kds++[(k,d)]:=by
 unfold putKD
 rw[if_neg]
 intro z
 obtain⟨kv,hk,e⟩:=List.any_eq_true.mp z
 exact h kv hk (of_decide_eq_true e)
theorem Qsz{k:Key}{d:D}:∀{kds:List (Key×D)}(i:Nat),kds[i]?=some (k,d)->(∀ j kv,j<i->kds[j]?=some kv->kv.1≠k)->valD kds k=some d
 | [],i,h,_=>by simp at h
 | kv::kds,0,h,_=>by
  simp at h
  subst h
  simp[valD]
 | kv::kds,i+1,h,hn=>by
  have h0:=hn 0 kv (by omega) rfl
  have:valD (kv::kds) k=valD kds k:=by simp[valD,List.find?_cons,h0]
  rw[this]
  exact Qsz i (by simpa using h) fun j kv' hj he=>hn (j+1) kv' (by omega) (by simpa using he)
theorem enumR(n:Nat)(f:Nat->D):enumD 0 ((List.range n).map f)=(List.range n).map fun i:Nat=>D.tup [.int (i:Int),f i]:=by
 apply List.ext_getElem?
 intro i
 rw[QlK,Nat.zero_add]
 by_cases hi:i<n
 ·have r1:((List.range n).map fun i:Nat=>D.tup [.int (i:Int),f i])[i]?=some (D.tup [.int (i:Int),f i]):=atR hi
  rw[atR hi,r1];rfl
 ·have h1:((List.range n).map f)[i]?=none:=by simp;omega
  have h2:((List.range n).map fun i:Nat=>D.tup [.int (i:Int),f i])[i]?=none:=by simp;omega
  rw[h1,h2];rfl
def plc(n nd:Nat)(nm dn:Nat->Str):List (Key×D):=((List.range n).map fun i:Nat=>((.inr (nm i):Key),D.int (i:Int)))++((List.range nd).map fun i:Nat=>((.inr (dn i):Key),D.int (-1 - (i:Int))))
theorem Qqs(n nd:Nat)(nm dn:Nat->Str)(i:Nat):(plc n nd nm dn)[i]?=if i<n then some (.inr (nm i),.int (i:Int)) else if i - n<nd then some (.inr (dn (i - n)),.int (-1 - ((i - n:Nat):Int))) else none:=by
 unfold plc
 rw[List.getElem?_append,List.length_map,List.length_range]
 split
 ·rw[List.getElem?_map,List.getElem?_range (by assumption)];rfl
 ·split
  ·rw[List.getElem?_map,List.getElem?_range (by assumption)];rfl
  ·simp;omega
section
variable{n nd:Nat}{nm dn c:Nat->Str}{t:Nat->List (List Int)}{m:Nat->Nat}{ld:Nat->Nat->Int}{st:Nat->Int}(hs:Seats n nd nm dn c t m ld st)
include hs
theorem plc_c{i:Nat}(hi:i<n):valD (plc n nd nm dn) (.inr (nm i))=some (.int (i:Int)):=by
 refine Qsz i (by rw[Qqs,if_pos hi]) fun j kv hj he=>?_
 rw[Qqs,if_pos (by omega)]at he
 cases he
 intro z
 have:=hs.inj j i (by omega) hi (Sum.inr.inj z)
 omega
theorem plc_d{d:Nat}(hd:d<nd):valD (plc n nd nm dn) (.inr (dn d))=some (.int (-1 - (d:Int))):=by
 refine Qsz (n+d) (by rw[Qqs,if_neg (by omega),if_pos (by omega),show n+d - n=d by omega]) fun j kv hj he=>?_
 rw[Qqs]at he
 by_cases a:j<n
 ·rw[if_pos a]at he
  cases he
  intro z
  exact hs.sep j d a hd (Sum.inr.inj z)
 ·rw[if_neg a,if_pos (by omega)]at he
  cases he
  intro z
  have:=hs.injd _ _ (by omega) hd (Sum.inr.inj z)
  omega
theorem QJc:QcL [rl n (fun k=>.str (nm k)),rl nd (fun d=>.str (dn d))]=.ok (.dic (plc n nd nm dn)):=by
 have n2:=hs.n2
 have d2:=hs.d2
 obtain⟨ς1,hL1,a3,a4,rfl⟩:=Qhm (body:=fun x ς=>gT [3,4] x ς>>=fun ς'=>QeS ς') (f:=fun i:Nat=>D.tup [.int (i:Int),.str (nm i)]) (n:=n)
  (P:=fun k ς=>∃(a3 a4:Option (SM×D)),ς=[some (.k,rl n (fun k=>.str (nm k))),some ‹"G"›,some (.o,.dic (plc k 0 nm dn)),a3,a4,none,none])
  (by
   rintro k hk ς ⟨a3,a4,rfl⟩
   refine⟨[some (.k,rl n (fun k=>.str (nm k))),some ‹"G"›,some (.o,.dic (plc (k+1) 0 nm dn)),some (.k,.int (k:Int)),some (.k,.str (nm k)),none,none],?_,_,_,rfl⟩
   have e:plc (k+1) 0 nm dn=putKD (plc k 0 nm dn) (.inr (nm k)) (.int (k:Int)):=by
    rw[QEt]
    ·show((List.range (k+1)).map _)++[]=((List.range k).map _++[])++[_]
     rw[List.append_nil,List.append_nil,List.range_succ,List.map_append];rfl
    ·intro kv hkv
     have hkv:kv∈((List.range k).map fun i:Nat=>((.inr (nm i):Key),D.int (i:Int)))++[]:=hkv
     rw[List.append_nil]at hkv
     obtain⟨i,hi,rfl⟩:=List.mem_map.mp hkv
     have hi:=List.mem_range.mp hi
     intro z
     have:=hs.inj i k (by omega) hk (Sum.inr.inj z)
     omega
   rw[e]
   refine r_gT (by walk_at "all") ?_
   unfold QeS
   exact QIB (d:=.int (k:Int)) (y:=.str (nm k)) (k:=.inr (nm k)) (by (repeat walk_at "e")) rfl (by (repeat walk_at "e")) rfl (by unfold plc;simp;omega) rfl)
  [some (.k,rl n (fun k=>.str (nm k))),some ‹"G"›,some (.o,.dic []),none,none,none,none] ⟨_,_,rfl⟩
 obtain⟨ς2,hL2,a5,a6,rfl⟩:=Qhm (body:=fun x ς=>gT [5,6] x ς>>=fun ς'=>QeP ς') (f:=fun i:Nat=>D.tup [.int (i:Int),.str (dn i)]) (n:=nd)
  (P:=fun k ς=>∃(a5 a6:Option (SM×D)),ς=[some (.k,rl n (fun k=>.str (nm k))),some ‹"G"›,some (.o,.dic (plc n k nm dn)),a3,a4,a5,a6])
  (by
   rintro k hk ς ⟨a5,a6,rfl⟩
   refine⟨[some (.k,rl n (fun k=>.str (nm k))),some ‹"G"›,some (.o,.dic (plc n (k+1) nm dn)),a3,a4,some (.k,.int (k:Int)),some (.k,.str (dn k))],?_,_,_,rfl⟩
   have e:plc n (k+1) nm dn=putKD (plc n k nm dn) (.inr (dn k)) (.int (-1 - (k:Int))):=by
    rw[QEt]
    ·unfold plc
     rw[List.range_succ,List.map_append,List.append_assoc];rfl
    ·intro kv hkv
     rcases List.mem_append.mp hkv with w | w
     ·obtain⟨i,hi,rfl⟩:=List.mem_map.mp w
      intro z
      exact hs.sep i k (List.mem_range.mp hi) hk (Sum.inr.inj z)
     ·obtain⟨i,hi,rfl⟩:=List.mem_map.mp w
      have hi:=List.mem_range.mp hi
      intro z
      have:=hs.injd i k (by omega) hk (Sum.inr.inj z)
      omega
   rw[e]
   refine r_gT (by walk_at "all") ?_
   unfold QeP
   exact QIB (d:=.int (-1 - (k:Int))) (y:=.str (dn k)) (k:=.inr (dn k)) (by (repeat walk_at "e")) rfl (by (repeat walk_at "e")) rfl (by unfold plc;simp;omega) rfl)
  [some (.k,rl n (fun k=>.str (nm k))),some ‹"G"›,some (.o,.dic (plc n 0 nm dn)),a3,a4,none,none] ⟨_,_,rfl⟩
 have hi1:itE (eVar 0) [some (.k,rl n (fun k=>.str (nm k))),some ‹"G"›,some (.o,.dic []),none,none,none,none]=.ok ((List.range n).map fun i:Nat=>D.tup [.int (i:Int),.str (nm i)]):=by rw[← enumR];rfl
 have hi2:itE (eVar 1) [some (.k,rl n (fun k=>.str (nm k))),some ‹"G"›,some (.o,.dic (plc n 0 nm dn)),a3,a4,none,none]=.ok ((List.range nd).map fun i:Nat=>D.tup [.int (i:Int),.str (dn i)]):=by rw[← enumR];rfl
 have f1':=Qa2 (g:=gT [3,4]) (T:=QeS) hi1 hL1
 have f2':=Qa2 (g:=gT [5,6]) (T:=QeP) hi2 hL2
 have s0:sSetO 2 eDic0 [some (.k,rl n (fun k=>.str (nm k))),some ‹"G"›,none,none,none,none,none]=.ok (.nx [some (.k,rl n (fun k=>.str (nm k))),some ‹"G"›,some (.o,.dic []),none,none,none,none]):=rfl
 rw[QBP]
 unfold Qf5
 (repeat walk_at "e")
theorem QKF{k:Nat}(hk:k<n):Qc7 [seatD nm dn c t m ld st k,.dic (plc n nd nm dn)]=.ok (rl (m k) ‹"J"›):=by
 have m6:=(hs.tb k hk).m6
 have x2:dIx (seatD nm dn c t m ld st k) (.int 2)=.ok (rl (m k) (fun j=>.str (nml nm dn (ld k j)))):=ix_t 2 rfl
 have hc:eComp [none,some 1] (itL (e2 dIx (eVar 0) (eC (.int 2)))) (gN 0) cTrue QhB [some (.k,seatD nm dn c t m ld st k),some (.k,.dic (plc n nd nm dn))]=.ok (rl (m k) ‹"J"›):=by
  refine Q1 (fun j=>D.str (nml nm dn (ld k j))) (fun j=>D.int (ld k j)) (by (repeat walk_at "e")) (fun j hj=>?_) (by rw[List.length_range];omega)
  obtain⟨l1,l2⟩:=hs.ldr k j hk (List.mem_range.mp hj)
  refine Qab (by walk_at "cap") (by walk_at "s") ?_
  unfold QhB
  have hv:valD (plc n nd nm dn) (.inr (nml nm dn (ld k j)))=some (.int (ld k j)):=by
   unfold nml
   by_cases h:ld k j<0
   ·rw[if_pos h,plc_d hs (show(-1 - ld k j).toNat<nd by omega)]
    congr 2;omega
   ·rw[if_neg h,plc_c hs (show(ld k j).toNat<n by omega)]
    congr 2;omega
  rw[QPZ (kds:=plc n nd nm dn) (y:=.str (nml nm dn (ld k j))) (k:=.inr (nml nm dn (ld k j))) (by (repeat walk_at "e")) (by (repeat walk_at "e")) rfl,hv];rfl
 rw[QFW]
 unfold QgK
 (repeat walk_at "e")
end
theorem QEN{f:Str}{d:D}:∀{fs:List (Str×D)},(fs.map Prod.fst).contains f=false->putD f d fs=fs++[(f,d)]
 | [],_=>rfl
 | (g,x)::fs,h=>by
  rw[List.map_cons,List.contains_cons,Bool.or_eq_false_iff]at h
  have ne:¬ g=f:=fun z=>by subst z;simp at h
  show(if g=f then _ else(g,x)::putD f d fs)=_
  rw[if_neg ne,QEN h.2];rfl
theorem Qi0{cs:List Str}{f c:Str}{i:Nat}{E:SD->Out D}{ς ς':SD}{d:D}{fds:List (Str×D)}(a:E ς=.ok d)(e:ς[i]?=some (some (.s,.ins c fds)))(hc:cs.contains c=true)(hl:fds.length<=900)(hf:(fds.map Prod.fst).contains f=false)
 (l:ς.set i (some (.s,.ins c (fds++[(f,d)])))=ς'):sFldS cs f i E ς=.ok (.nx ς'):=by
 unfold sFldS
 rw[a,Out.bind_ok,e]
 show(if (cs.contains c&&decide (fds.length<1000))=true then _ else _)=_
 rw[if_pos (by rw[hc,Bool.true_and];exact decide_eq_true (by omega)),QEN hf,l]
section
variable(n nd:Nat)(nm dn c:Nat->Str)(t:Nat->List (List Int))(m:Nat->Nat)(ld:Nat->Nat->Int)(st:Nat->Int)
def offF:List (Str×D):=[("clerk_names",rl n (fun k=>.str (nm k))),("door_names",rl nd (fun d=>.str (dn d))),("entry_places",.lst [.tup [.str "in",.int 0]]),("staff",rl n (fun k=>ck (c k) (t k) (m k))),("first_states",rl n (fun k=>.int (st k))),("ways",rl n (fun k=>rl (m k) ‹"J"›))]
def offD:D:=.ins "Office" (offF n nd nm dn c t m ld st)
end
theorem QEh:Qj.contains "Office"=true:=dk
section
variable{n nd:Nat}{nm dn c:Nat->Str}{t:Nat->List (List Int)}{m:Nat->Nat}{ld:Nat->Nat->Int}{st:Nat->Int}(hs:Seats n nd nm dn c t m ld st)
include hs
theorem QMH{k:Nat}(hk:k<n):dInL .non (rl (m k) ‹"J"›)=.ok (.bl false):=by
 show(if (_&&((List.range (m k)).map fun j=>D.int (ld k j)).all D.scal)=true then Out.ok (D.bl (inV _ _)) else _)=_
 rw[if_pos (by rw[Bool.and_eq_true];exact⟨rfl,allR fun i _=>rfl⟩)]
 have:inV (toV .non) (((List.range (m k)).map fun j=>D.int (ld k j)).map toV)=false:=by
  unfold inV
  rw[List.any_eq_false]
  intro v hv
  rw[List.map_map]at hv
  obtain⟨j,_,rfl⟩:=List.mem_map.mp hv
  simp[toV,eqV]
 rw[this]
theorem QKd:QaF "Office" [] [rl n (seatD nm dn c t m ld st),.lst [.tup [.str "in",.str (nm 0)]],rl nd (fun d=>.str (dn d))]=.ok (offF n nd nm dn c t m ld st):=by
 have n1:=hs.n1
 have n2:=hs.n2
 have d2:=hs.d2
 have h1:=QLS hs
 have h2:=QK9 hs
 have h3:=QEX hs
 have h4:=QJc hs
 have p0:=plc_c hs (i:=0) (by omega)
 have oc:=QEh
 generalize hS:rl n (seatD nm dn c t m ld st)=S at *
 generalize hE:D.lst [.tup [.str "in",.str (nm 0)]]=E at *
 generalize hDo:rl nd (fun d=>.str (dn d))=Do at *
 generalize hN:rl n (fun k=>.str (nm k))=N at *
 generalize hP:D.dic (plc n nd nm dn)=P at *
 generalize hW:rl n (fun k=>rl (m k) ‹"J"›)=W
 have q0:eComp [none] (itL (eVar 1)) (gN 0) cTrue Qfd [some (.s,.ins "Office" []),some (.k,S),some (.k,E),some (.k,Do),none,none,none]=.ok N:=by
  subst hS;subst hN
  refine Q1 (seatD nm dn c t m ld st) (fun k=>D.str (nm k)) rfl (fun k hk=>?_) (by rw[List.length_range];omega)
  have x0:dIx (seatD nm dn c t m ld st k) (.int 0)=.ok (.str (nm k)):=ix_t 0 rfl
  refine Qab (τ0:=[none]) (QcY c_nil) (by walk_at "s") ?_
  unfold Qfd
  (repeat walk_at "e")
 have q1:eComp [none,some 5] (itL (eVar 1)) (gN 0) cTrue QfJ [some (.s,.ins "Office" []),some (.k,S),some (.k,E),some (.k,Do),some (.k,N),some (.k,P),none]=.ok W:=by
  subst hS;subst hW;subst hP
  refine Q1 (seatD nm dn c t m ld st) (fun k=>rl (m k) ‹"J"›) rfl (fun k hk=>?_) (by rw[List.length_range];omega)
  have hl:=QKF hs (List.mem_range.mp hk)
  refine Qab (τ0:=[none,some (.k,.dic (plc n nd nm dn))]) (QcY (c_k rfl c_nil)) (by walk_at "s") ?_
  unfold QfJ
  (repeat walk_at "e")
 have q2:eComp [none] (itL (eVar 6)) (gN 0) cTrue Qfy [some (.s,.ins "Office" []),some (.k,S),some (.k,E),some (.k,Do),some (.k,N),some (.k,P),some (.k,W)]=.ok (rl n (fun _=>.bl false)):=by
  subst hW
  refine Q1 (fun k=>rl (m k) ‹"J"›) (fun _=>D.bl false) rfl (fun k hk=>?_) (by rw[List.length_range];omega)
  have hl:=QMH hs (List.mem_range.mp hk)
  refine Qab (τ0:=[none]) (QcY c_nil) (by walk_at "s") ?_
  unfold Qfy
  (repeat walk_at "e")
 have ha:f1 fAny [rl n (fun _=>.bl false)]=.ok (.bl false):=by
  show fAny (.lst ((List.range n).map fun _=>D.bl false))=_
  rw[QLe (fun _=>false)];simp
 have q3:∀ F:List (Str×D),eComp [none,some 5] (itL (eVar 2)) (gN 0) cTrue QdF [some (.s,.ins "Office" F),some (.k,S),some (.k,E),some (.k,Do),some (.k,N),some (.k,P),some (.k,W)]=.ok (.lst [.tup [.str "in",.int 0]]):=fun F=>by
  subst hE;subst hP
  refine Q1 (l:=List.range 1) (fun _=>.tup [.str "in",.str (nm 0)]) (fun _=>D.tup [.str "in",.int 0]) rfl (fun k hk=>?_) (by simp)
  have x0:dIx (.tup [.str "in",.str (nm 0)]) (.int 0)=.ok (.str "in"):=ix_t 0 rfl
  have x1:dIx (.tup [.str "in",.str (nm 0)]) (.int 1)=.ok (.str (nm 0)):=ix_t 1 rfl
  refine Qab (τ0:=[none,some (.k,.dic (plc n nd nm dn))]) (QcY (c_k rfl c_nil)) (by walk_at "s") ?_
  unfold QdF
  have hd:eDix (eVar 1) ‹"p"› [some (.k,.tup [.str "in",.str (nm 0)]),some (.k,.dic (plc n nd nm dn))]=.ok (.int 0):=r_dix (kds:=plc n nd nm dn) (y:=.str (nm 0)) (k:=.inr (nm 0)) (by (repeat walk_at "e")) (by (repeat walk_at "e")) rfl p0
  (repeat walk_at "e")
 have q4:∀ F:List (Str×D),eComp [none] (itL (eVar 1)) (gN 0) cTrue QdG [some (.s,.ins "Office" F),some (.k,S),some (.k,E),some (.k,Do),some (.k,N),some (.k,P),some (.k,W)]=.ok (rl n (fun k=>ck (c k) (t k) (m k))):=fun F=>by
  subst hS
  refine Q1 (seatD nm dn c t m ld st) (fun k=>ck (c k) (t k) (m k)) rfl (fun k hk=>?_) (by rw[List.length_range];omega)
  have x0:dIx (seatD nm dn c t m ld st k) (.int 1)=.ok (ck (c k) (t k) (m k)):=ix_t 1 rfl
  refine Qab (τ0:=[none]) (QcY c_nil) (by walk_at "s") ?_
  unfold QdG
  (repeat walk_at "e")
 have q5:∀ F:List (Str×D),eComp [none] (itL (eVar 1)) (gN 0) cTrue QdE [some (.s,.ins "Office" F),some (.k,S),some (.k,E),some (.k,Do),some (.k,N),some (.k,P),some (.k,W)]=.ok (rl n (fun k=>.int (st k))):=fun F=>by
  subst hS
  refine Q1 (seatD nm dn c t m ld st) (fun k=>D.int (st k)) rfl (fun k hk=>?_) (by rw[List.length_range];omega)
  have x0:dIx (seatD nm dn c t m ld st k) (.int 3)=.ok (.int (st k)):=ix_t 3 rfl
  refine Qab (τ0:=[none]) (QcY c_nil) (by walk_at "s") ?_
  unfold QdE
  (repeat walk_at "e")
 have hdl:dList Do=.ok Do:=by subst hDo;rfl
 let F1:List (Str×D):=[("clerk_names",N)]
 let F2:List (Str×D):=[("clerk_names",N),("door_names",Do)]
 let F3:List (Str×D):=[("clerk_names",N),("door_names",Do),("entry_places",.lst [.tup [.str "in",.int 0]])]
 let F4:List (Str×D):=[("clerk_names",N),("door_names",Do),("entry_places",.lst [.tup [.str "in",.int 0]]),("staff",rl n (fun k=>ck (c k) (t k) (m k)))]
 let F5:List (Str×D):=[("clerk_names",N),("door_names",Do),("entry_places",.lst [.tup [.str "in",.int 0]]),("staff",rl n (fun k=>ck (c k) (t k) (m k))),("first_states",rl n (fun k=>.int (st k)))]
 have s1:sFldS Qj "clerk_names" 0 (eVar 4) [some (.s,.ins "Office" []),some (.k,S),some (.k,E),some (.k,Do),some (.k,N),some (.k,P),some (.k,W)]=.ok (.nx [some (.s,.ins "Office" F1),some (.k,S),some (.k,E),some (.k,Do),some (.k,N),some (.k,P),some (.k,W)]):=
  Qi0 (d:=N) (by (repeat walk_at "e")) rfl oc (by decide) (by decide) rfl
 have s2:sFldS Qj "door_names" 0 (e1 dList (eVar 3)) [some (.s,.ins "Office" F1),some (.k,S),some (.k,E),some (.k,Do),some (.k,N),some (.k,P),some (.k,W)]=.ok (.nx [some (.s,.ins "Office" F2),some (.k,S),some (.k,E),some (.k,Do),some (.k,N),some (.k,P),some (.k,W)]):=
  Qi0 (d:=Do) (by (repeat walk_at "e")) rfl oc (Nat.le_of_ble_eq_true rfl) (by show(["clerk_names"]:List Str).contains "door_names"=false;decide +kernel) rfl
 have s3:sFldS Qj "entry_places" 0 (eComp [none,some 5] (itL (eVar 2)) (gN 0) cTrue QdF) [some (.s,.ins "Office" F2),some (.k,S),some (.k,E),some (.k,Do),some (.k,N),some (.k,P),some (.k,W)]=.ok (.nx [some (.s,.ins "Office" F3),some (.k,S),some (.k,E),some (.k,Do),some (.k,N),some (.k,P),some (.k,W)]):=
  Qi0 (q3 _) rfl oc (Nat.le_of_ble_eq_true rfl) (by show(["clerk_names","door_names"]:List Str).contains "entry_places"=false;decide +kernel) rfl
 have s4:sFldS Qj "staff" 0 (eComp [none] (itL (eVar 1)) (gN 0) cTrue QdG) [some (.s,.ins "Office" F3),some (.k,S),some (.k,E),some (.k,Do),some (.k,N),some (.k,P),some (.k,W)]=.ok (.nx [some (.s,.ins "Office" F4),some (.k,S),some (.k,E),some (.k,Do),some (.k,N),some (.k,P),some (.k,W)]):=
  Qi0 (q4 _) rfl oc (Nat.le_of_ble_eq_true rfl) (by show(["clerk_names","door_names","entry_places"]:List Str).contains "staff"=false;decide +kernel) rfl
 have s5:sFldS Qj "first_states" 0 (eComp [none] (itL (eVar 1)) (gN 0) cTrue QdE) [some (.s,.ins "Office" F4),some (.k,S),some (.k,E),some (.k,Do),some (.k,N),some (.k,P),some (.k,W)]=.ok (.nx [some (.s,.ins "Office" F5),some (.k,S),some (.k,E),some (.k,Do),some (.k,N),some (.k,P),some (.k,W)]):=
  Qi0 (q5 _) rfl oc (Nat.le_of_ble_eq_true rfl) (by show(["clerk_names","door_names","entry_places","staff"]:List Str).contains "first_states"=false;decide +kernel) rfl
 have s6:sFldS Qj "ways" 0 (eVar 6) [some (.s,.ins "Office" F5),some (.k,S),some (.k,E),some (.k,Do),some (.k,N),some (.k,P),some (.k,W)]=.ok (.nx [some (.s,.ins "Office" (offF n nd nm dn c t m ld st)),some (.k,S),some (.k,E),some (.k,Do),some (.k,N),some (.k,P),some (.k,W)]):=
  Qi0 (d:=W) (by (repeat walk_at "e")) rfl oc (Nat.le_of_ble_eq_true rfl) (by show(["clerk_names","door_names","entry_places","staff","first_states"]:List Str).contains "ways"=false;decide +kernel) (by subst hN;subst hDo;subst hW;rfl)
 have fin:Qd3 "Office" (.nx [some (.s,.ins "Office" (offF n nd nm dn c t m ld st)),some (.k,S),some (.k,E),some (.k,Do),some (.k,N),some (.k,P),some (.k,W)])=.ok (offF n nd nm dn c t m ld st):=by
  show(if ("Office":Str)="Office" then Out.ok (offF n nd nm dn c t m ld st) else .stuck)=_
  rw[if_pos rfl]
 rw[Quc]
 unfold QeN
 (repeat walk_at "e")
end
theorem Qlu(i:Int):QaU [.int i]=.ok (.bl true):=by
 simp[QaU,QfN,bodyF,retF,sSeq,thenF,sSet,sRet,sIf,sNil,eVar,eC,e1,e2,eA,f1,aNil,aCons,tVal,tAnd',tOr',tNot',eAnd,eOr,eNot,eIf,eTup,eLst,eIsa,isaT,Qas,oNo,oSome,sPar,sUnp,QX,gN,gT,fLen,Qah,Out.bind_ok,Out.bind_exc,Out.bind_stuck,Out.pure_eq,D.scal,Q7,QaD,QaV,QaN,Qam,QaG,Qbu,Qbd,QG,QaH,List.length_cons,List.length_nil,List.map_cons,List.map_nil,List.cons_append,List.nil_append,List.append_nil,List.getElem?_cons_zero,List.getElem?_cons_succ,List.set_cons_zero,List.set_cons_succ,List.replicate,Nat.reduceAdd,Nat.reduceSub,Nat.reduceLeDiff,Nat.zero_add,Nat.add_zero,reduceIte,Bool.not_true,Bool.not_false,Bool.true_and,Bool.and_true,Bool.false_and,Bool.and_false,Bool.or_true,Bool.true_or,Bool.or_false,Bool.false_or,Bool.false_eq_true,decide_true,decide_false,decide_eq_true_eq,Bool.not_eq_true',decide_eq_false_iff_not,Int.reduceEq,Int.reduceLT,Int.reduceLE,Int.reduceNeg,Nat.reduceEqDiff, ↓reduceIte,not_true_eq_false,not_false_eq_true]
theorem QNk:∀(n:Nat)(a b:Int)(r:Option (SM×D)),0<=a->0<=b->b.toNat<=n->∃ r',QbK Qa3 Qa8 [some (.k,.int a),some (.k,.int b),r]
 = .ok (.nx [some (.k,.int (a.gcd b:Nat)),some (.k,.int 0),r']):=by
 intro n
 induction n with
 | zero=>
  intro a b r ha hb hn
  have e:b=0:=by omega
  subst e
  refine⟨r,?_⟩
  rw[Qb2]
  simp[Qa3,Qa8,bodyF,retF,sSeq,thenF,sSet,sRet,sIf,sNil,eVar,eC,e1,e2,eA,f1,aNil,aCons,tVal,tAnd',tOr',tNot',eAnd,eOr,eNot,eIf,eTup,eLst,eIsa,isaT,Qas,oNo,oSome,sPar,sUnp,QX,gN,gT,fLen,Qah,Out.bind_ok,Out.bind_exc,Out.bind_stuck,Out.pure_eq,D.scal,Q7,QaD,QaV,QaN,Qam,QaG,Qbu,Qbd,QG,QaH,List.length_cons,List.length_nil,List.map_cons,List.map_nil,List.cons_append,List.nil_append,List.append_nil,List.getElem?_cons_zero,List.getElem?_cons_succ,List.set_cons_zero,List.set_cons_succ,List.replicate,Nat.reduceAdd,Nat.reduceSub,Nat.reduceLeDiff,Nat.zero_add,Nat.add_zero,reduceIte,Bool.not_true,Bool.not_false,Bool.true_and,Bool.and_true,Bool.false_and,Bool.and_false,Bool.or_true,Bool.true_or,Bool.or_false,Bool.false_or,Bool.false_eq_true,decide_true,decide_false,decide_eq_true_eq,Bool.not_eq_true',decide_eq_false_iff_not,Int.reduceEq,Int.reduceLT,Int.reduceLE,Int.reduceNeg,Nat.reduceEqDiff, ↓reduceIte,not_true_eq_false,not_false_eq_true]
  omega
 | succ n ih=>
  intro a b r ha hb hn
  by_cases e:b=0
  ·subst e
   refine⟨r,?_⟩
   rw[Qb2]
   simp[Qa3,Qa8,bodyF,retF,sSeq,thenF,sSet,sRet,sIf,sNil,eVar,eC,e1,e2,eA,f1,aNil,aCons,tVal,tAnd',tOr',tNot',eAnd,eOr,eNot,eIf,eTup,eLst,eIsa,isaT,Qas,oNo,oSome,sPar,sUnp,QX,gN,gT,fLen,Qah,Out.bind_ok,Out.bind_exc,Out.bind_stuck,Out.pure_eq,D.scal,Q7,QaD,QaV,QaN,Qam,QaG,Qbu,Qbd,QG,QaH,List.length_cons,List.length_nil,List.map_cons,List.map_nil,List.cons_append,List.nil_append,List.append_nil,List.getElem?_cons_zero,List.getElem?_cons_succ,List.set_cons_zero,List.set_cons_succ,List.replicate,Nat.reduceAdd,Nat.reduceSub,Nat.reduceLeDiff,Nat.zero_add,Nat.add_zero,reduceIte,Bool.not_true,Bool.not_false,Bool.true_and,Bool.and_true,Bool.false_and,Bool.and_false,Bool.or_true,Bool.true_or,Bool.or_false,Bool.false_or,Bool.false_eq_true,decide_true,decide_false,decide_eq_true_eq,Bool.not_eq_true',decide_eq_false_iff_not,Int.reduceEq,Int.reduceLT,Int.reduceLE,Int.reduceNeg,Nat.reduceEqDiff, ↓reduceIte,not_true_eq_false,not_false_eq_true]
   omega
  ·have hb':0<b:=by omega
   have h1:=Int.emod_nonneg a e
   have h2:=Int.emod_lt_of_pos a hb'
   obtain⟨r',h⟩:=ih b (a % b) (some (.k,.int (a % b))) hb h1 (by omega)
   refine⟨r',?_⟩
   rw[Qb2]
   rw[Qwy]at h
   simp[Qa3,Qa8,bodyF,retF,sSeq,thenF,sSet,sRet,sIf,sNil,eVar,eC,e1,e2,eA,f1,aNil,aCons,tVal,tAnd',tOr',tNot',eAnd,eOr,eNot,eIf,eTup,eLst,eIsa,isaT,Qas,oNo,oSome,sPar,sUnp,QX,gN,gT,fLen,Qah,Out.bind_ok,Out.bind_exc,Out.bind_stuck,Out.pure_eq,D.scal,Q7,QaD,QaV,QaN,Qam,QaG,Qbu,Qbd,QG,QaH,List.length_cons,List.length_nil,List.map_cons,List.map_nil,List.cons_append,List.nil_append,List.append_nil,List.getElem?_cons_zero,List.getElem?_cons_succ,List.set_cons_zero,List.set_cons_succ,List.replicate,Nat.reduceAdd,Nat.reduceSub,Nat.reduceLeDiff,Nat.zero_add,Nat.add_zero,reduceIte,Bool.not_true,Bool.not_false,Bool.true_and,Bool.and_true,Bool.false_and,Bool.and_false,Bool.or_true,Bool.true_or,Bool.or_false,Bool.false_or,Bool.false_eq_true,decide_true,decide_false,decide_eq_true_eq,Bool.not_eq_true',decide_eq_false_iff_not,Int.reduceEq,Int.reduceLT,Int.reduceLE,Int.reduceNeg,Nat.reduceEqDiff, ↓reduceIte,not_true_eq_false,not_false_eq_true,e,Qe0 hb']
   exact h
theorem gd_ok{a b:Int}(ha:0<=a)(hb:0<=b):Q4 [.int a,.int b]=.ok (.int (a.gcd b:Nat)):=by
 obtain⟨r',h⟩:=QNk b.toNat a b none ha hb (Nat.le_refl _)
 simp[Q4,QdM,bodyF,retF,sSeq,thenF,sSet,sRet,sIf,sNil,eVar,eC,e1,e2,eA,f1,aNil,aCons,tVal,tAnd',tOr',tNot',eAnd,eOr,eNot,eIf,eTup,eLst,eIsa,isaT,Qas,oNo,oSome,sPar,sUnp,QX,gN,gT,fLen,Qah,Out.bind_ok,Out.bind_exc,Out.bind_stuck,Out.pure_eq,D.scal,Q7,QaD,QaV,QaN,Qam,QaG,Qbu,Qbd,QG,QaH,List.length_cons,List.length_nil,List.map_cons,List.map_nil,List.cons_append,List.nil_append,List.append_nil,List.getElem?_cons_zero,List.getElem?_cons_succ,List.set_cons_zero,List.set_cons_succ,List.replicate,Nat.reduceAdd,Nat.reduceSub,Nat.reduceLeDiff,Nat.zero_add,Nat.add_zero,reduceIte,Bool.not_true,Bool.not_false,Bool.true_and,Bool.and_true,Bool.false_and,Bool.and_false,Bool.or_true,Bool.true_or,Bool.or_false,Bool.false_or,Bool.false_eq_true,decide_true,decide_false,decide_eq_true_eq,Bool.not_eq_true',decide_eq_false_iff_not,Int.reduceEq,Int.reduceLT,Int.reduceLE,Int.reduceNeg,Nat.reduceEqDiff, ↓reduceIte,not_true_eq_false,not_false_eq_true,h]
theorem QNf{a b:Int}(hb:b≠0)(h:b.natAbs<2 ^ 8000):big (shD a b)=true:=by
 refine QzF (n:=8000) ?_ (by decide)
 rw[Qma]
 have h1:a.gcd b∣b.natAbs:=Int.gcd_dvd_natAbs_right a b
 have h2:=Nat.le_of_dvd (by omega) h1
 exact Nat.lt_of_le_of_lt h2 h
theorem Qjt{a b:Int}(hb:b≠0)(h:b.natAbs<2 ^ 8000):QaQ [.int a,.int b]=.ok (.tup [.int (a.fdiv (shD a b)),.int (b.fdiv (shD a b))]):=by
 have g:Q4 [.int (a.natAbs:Int),.int (b.natAbs:Int)]=.ok (.int (a.gcd b:Nat)):=by
  rw[gd_ok (by omega) (by omega)]
  congr 3
 have hd:=Qyq (a:=a) hb
 have hB:=QNf (a:=a) hb h
 by_cases h0:b<0
 ·have e:shD a b = -(a.gcd b:Int):=by unfold shD;rw[if_pos h0]
  rw[e]at hd hB ⊢
  simp[QaQ,Qme,bodyF,retF,sSeq,thenF,sSet,sRet,sIf,sNil,eVar,eC,e1,e2,eA,f1,aNil,aCons,tVal,tAnd',tOr',tNot',eAnd,eOr,eNot,eIf,eTup,eLst,eIsa,isaT,Qas,oNo,oSome,sPar,sUnp,QX,gN,gT,fLen,Qah,Out.bind_ok,Out.bind_exc,Out.bind_stuck,Out.pure_eq,D.scal,Q7,QaD,QaV,QaN,Qam,QaG,Qbu,Qbd,QG,QaH,List.length_cons,List.length_nil,List.map_cons,List.map_nil,List.cons_append,List.nil_append,List.append_nil,List.getElem?_cons_zero,List.getElem?_cons_succ,List.set_cons_zero,List.set_cons_succ,List.replicate,Nat.reduceAdd,Nat.reduceSub,Nat.reduceLeDiff,Nat.zero_add,Nat.add_zero,reduceIte,Bool.not_true,Bool.not_false,Bool.true_and,Bool.and_true,Bool.false_and,Bool.and_false,Bool.or_true,Bool.true_or,Bool.or_false,Bool.false_or,Bool.false_eq_true,decide_true,decide_false,decide_eq_true_eq,Bool.not_eq_true',decide_eq_false_iff_not,Int.reduceEq,Int.reduceLT,Int.reduceLE,Int.reduceNeg,Nat.reduceEqDiff, ↓reduceIte,not_true_eq_false,not_false_eq_true,Qlu,hb,g,h0,Qnb hd hB]
 ·have e:shD a b=(a.gcd b:Int):=by unfold shD;rw[if_neg h0]
  rw[e]at hd hB ⊢
  simp[QaQ,Qme,bodyF,retF,sSeq,thenF,sSet,sRet,sIf,sNil,eVar,eC,e1,e2,eA,f1,aNil,aCons,tVal,tAnd',tOr',tNot',eAnd,eOr,eNot,eIf,eTup,eLst,eIsa,isaT,Qas,oNo,oSome,sPar,sUnp,QX,gN,gT,fLen,Qah,Out.bind_ok,Out.bind_exc,Out.bind_stuck,Out.pure_eq,D.scal,Q7,QaD,QaV,QaN,Qam,QaG,Qbu,Qbd,QG,QaH,List.length_cons,List.length_nil,List.map_cons,List.map_nil,List.cons_append,List.nil_append,List.append_nil,List.getElem?_cons_zero,List.getElem?_cons_succ,List.set_cons_zero,List.set_cons_succ,List.replicate,Nat.reduceAdd,Nat.reduceSub,Nat.reduceLeDiff,Nat.zero_add,Nat.add_zero,reduceIte,Bool.not_true,Bool.not_false,Bool.true_and,Bool.and_true,Bool.false_and,Bool.and_false,Bool.or_true,Bool.true_or,Bool.or_false,Bool.false_or,Bool.false_eq_true,decide_true,decide_false,decide_eq_true_eq,Bool.not_eq_true',decide_eq_false_iff_not,Int.reduceEq,Int.reduceLT,Int.reduceLE,Int.reduceNeg,Nat.reduceEqDiff, ↓reduceIte,not_true_eq_false,not_false_eq_true,Qlu,hb,g,h0,Qnb hd hB]
theorem bitsN{i:Int}{N:Nat}(h:i.natAbs<=N)(hN:N<2 ^ 4000):bitsI i<=4000:=QS (Nat.lt_of_le_of_lt h hN)
theorem QPS{n:Nat}{f:Nat->Int×Int}{Q:Nat->Nat}{N:Nat}(hQ:1<=Q 0)(hf:∀ i,i<n->1<=(f i).2/\(f i).2.natAbs<=N/\Q i<=N/\Q i * (f i).2.natAbs<=Q (i+1))(hs:N<2 ^ 4000):∃ L:Int,QaO [rl n (fun i=>fr (f i))]=.ok (.int L)/\1<=L/\(∀ i,i<n->(f i).2∣L)/\L.natAbs<=Q n:=by
 obtain⟨ς',hL,L,a2,rfl,l1,ld,lb⟩:=Qhm (body:=fun x ς=>gN 2 x ς>>=fun ς'=>QcP ς') (f:=fun i=>fr (f i)) (n:=n)
  (P:=fun k ς=>∃(L:Int)(a2:Option (SM×D)),ς=[some (.k,rl n (fun i=>fr (f i))),some (.k,.int L),a2]/\1<=L/\(∀ i,i<k->(f i).2∣L)/\L.natAbs<=Q k)
  (by
   rintro k hk ς ⟨L,a2,rfl,l1,ld,lb⟩
   obtain⟨b1,b2,b3,b4⟩:=hf k hk
   have g:=gd_ok (a:=L) (b:=(f k).2) (by omega) (by omega)
   have gp:0<L.gcd (f k).2:=Int.gcd_pos_of_ne_zero_right L (by omega)
   have gd1:((L.gcd (f k).2:Nat):Int)∣L:=Int.gcd_dvd_left ..
   have gd2:((L.gcd (f k).2:Nat):Int)∣(f k).2:=Int.gcd_dvd_right ..
   have bL:bitsI L<=4000:=bitsN lb (by omega)
   have bf:bitsI (f k).2<=4000:=bitsN (N:=N) (by omega) (by omega)
   have bg:bitsI ((L.gcd (f k).2:Nat):Int)<=4000:=bitsN (N:=N) (by
    have:=Nat.le_of_dvd (by omega) (Int.gcd_dvd_natAbs_right L (f k).2)
    show(L.gcd (f k).2)<=N
    omega) (by omega)
   have gp':(0:Int)<((L.gcd (f k).2:Nat):Int):=by omega
   have x1:=fr1 (f k)
   obtain⟨u,hu⟩:=gd1
   obtain⟨v,hv⟩:=gd2
   have hdiv:(f k).2 / ((L.gcd (f k).2:Nat):Int)=v:=Int.ediv_eq_of_eq_mul_right (by omega) hv
   have huv:L * v=(f k).2 * u:=by
    have key:∀ x y G:Int,x=G * u->y=G * v->x * v=y * u:=fun x y G h1 h2=>by rw[h1,h2];grind
    exact key _ _ _ hu hv
   refine⟨[some (.k,rl n (fun i=>fr (f i))),some (.k,.int (L * ((f k).2 / ((L.gcd (f k).2:Nat):Int)))),some (.k,fr (f k))],?_,_,_,rfl,?_,?_,?_⟩
   ·refine r_gN (by walk_at "s") ?_
    unfold QcP
    (repeat walk_at "e")
   ·rw[hdiv]
    have:1<=v:=by
     rcases Int.lt_trichotomy v 0 with h | h | h
     ·have:=Int.mul_neg_of_pos_of_neg gp' h;omega
     ·rw[h,Int.mul_zero]at hv;omega
     ·omega
    have h3:1 * 1<=L * v:=Int.mul_le_mul l1 this (by decide) (by omega)
    rw[Int.one_mul]at h3
    exact h3
   ·intro i hi
    rw[hdiv]
    by_cases e:i=k
    ·subst e
     exact⟨u,huv⟩
    ·exact Int.dvd_trans (ld i (by omega)) (Int.dvd_mul_right L v)
   ·rw[Int.natAbs_mul]
    have:=Int.natAbs_ediv_le_natAbs (f k).2 ((L.gcd (f k).2:Nat):Int)
    exact Nat.le_trans (Nat.mul_le_mul lb this) b4)
  [some (.k,rl n (fun i=>fr (f i))),some (.k,.int 1),none] ⟨1,none,rfl,by decide,fun i hi=>absurd hi (by omega),by show(1:Int).natAbs<=Q 0;omega⟩
 have hfor:=Qa2 (g:=gN 2) (its:=itL (eVar 0)) (T:=QcP) (ς:=[some (.k,rl n (fun i=>fr (f i))),some (.k,.int 1),none]) rfl hL
 refine⟨L,?_,l1,ld,lb⟩
 rw[Qqu]
 unfold QdD
 (repeat walk_at "e")
def pr(a b:Int):Int×Int:=(a.fdiv (shD a b),b.fdiv (shD a b))
def qt(x:Int×Int):Rat:=(x.1:Rat) / (x.2:Rat)
theorem Qal{z:Int}(h:1<=z):(z:Rat)≠0:=fun w=>by
 have:=Rat.intCast_inj (a:=z) (b:=0) |>.mp w
 omega
theorem QNO{a b:Int}(hb:1<=b)(h:b∣a):((a / b:Int):Rat)=(a:Rat) / (b:Rat):=by
 obtain⟨c,rfl⟩:=h
 rw[Int.mul_ediv_cancel_left _ (by omega:b≠0),Rat.intCast_mul]
 have:=Qal hb
 grind
theorem qt_pr{a b:Int}(hb:b≠0):qt (pr a b)=(a:Rat) / (b:Rat):=by
 have h1:=QMb (a:=a) hb
 have h2:=(Qfs (a:=a) hb).1
 have h3:=congrArg (fun z:Int=>(z:Rat)) h1
 simp only[Rat.intCast_mul]at h3
 have h4:=Qal h2
 have h5:(b:Rat)≠0:=fun w=>hb (Rat.intCast_inj (a:=b) (b:=0) |>.mp w)
 unfold qt pr
 generalize ((a.fdiv (shD a b):Int):Rat)=x at *
 generalize ((b.fdiv (shD a b):Int):Rat)=y at *
 have:x=(x * (b:Rat)) / (b:Rat):=by grind
 rw[this,h3]
 grind
theorem QPa{p q:Int×Int}(hp:low p.1 p.2)(hq:low q.1 q.2)(h:qt p=qt q):p=q:=by
 have a:=Qal hp.1
 have b:=Qal hq.1
 unfold qt at h
 have e:(p.1:Rat) * (q.2:Rat)=(q.1:Rat) * (p.2:Rat):=by
  generalize (p.1:Rat)=P at *
  generalize (p.2:Rat)=P' at *
  generalize (q.1:Rat)=Q at *
  generalize (q.2:Rat)=Q' at *
  have:P=P / P' * P':=by grind
  rw[this,h];grind
 rw[← Rat.intCast_mul, ← Rat.intCast_mul]at e
 have u:=QHB hp hq (Rat.intCast_inj.mp e)
 exact Prod.ext u.1 u.2
theorem QEv{js:List (Option Nat)}{its:SD->Out (List D)}{g:D->SD->Out SD}{c:SD->Out Bool}{e:SD->Out D}{ς:SD}{n:Nat}(f:Nat->D)(p:Nat->Bool)(h:Nat->D)(hi:its ς=.ok ((List.range n).map f))(ht:∀ i,i<n->turnC js g c e ς (f i)=.ok (if p i=true then some (h i) else none))(hl:n<=1000):
 eComp js its g c e ς=.ok (.lst (((List.range n).filter p).map h)):=by
 have go:∀ l:List Nat,(∀ x∈l,turnC js g c e ς (f x)=.ok (if p x=true then some (h x) else none))->compM (turnC js g c e ς) (l.map f)=.ok ((l.filter p).map h):=by
  intro l
  induction l with
  | nil=>intro _;rfl
  | cons x xs ih=>
   intro H
   have h1:=H x (List.mem_cons_self ..)
   have h2:=ih fun y hy=>H y (List.mem_cons_of_mem _ hy)
   show compM (turnC js g c e ς) (f x::xs.map f)=_
   unfold compM
   rw[h1,Out.bind_ok,h2,List.filter_cons]
   cases p x<;>rfl
 unfold eComp
 rw[hi,Out.bind_ok,go _ (fun x hx=>ht x (List.mem_range.mp hx)),Out.bind_ok,if_pos (QgX (by
  rw[List.length_map]
  exact Nat.le_trans (List.length_filter_le ..) (by rw[List.length_range];exact hl)))]
def lsm(l:List Nat)(f:Nat->Rat):Rat:=match l with
 | []=>0
 | i::l=>f i+lsm l f
theorem QD5(f:Nat->Rat):∀ a b:List Nat,lsm (a++b) f=lsm a f+lsm b f
 | [],b=>by show lsm b f=0+lsm b f;grind
 | i::a,b=>by show f i+lsm (a++b) f=f i+lsm a f+lsm b f;rw[QD5 f a b];grind
theorem Qtk(f:Nat->Rat):∀ n,lsm (List.range n) f=Bar.sm n f
 | 0=>rfl
 | n+1=>by
  rw[List.range_succ,QD5,Qtk f n]
  show Bar.sm n f+(f n+0)=Bar.sm n f+f n
  grind
theorem QpG{p:Nat->Bool}{f:Nat->Rat}:∀ l:List Nat,(∀ i∈l,p i=false->f i=0)->lsm (l.filter p) f=lsm l f
 | [],_=>rfl
 | i::l,h=>by
  have ih:=QpG (p:=p) (f:=f) l fun j hj=>h j (List.mem_cons_of_mem _ hj)
  rw[List.filter_cons]
  cases e:p i with
  | true=>show f i+lsm (l.filter p) f=f i+lsm l f;rw[ih]
  | false=>
   have:=h i (List.mem_cons_self ..) e
   show lsm (l.filter p) f=f i+lsm l f
   rw[ih,this];grind
theorem QwC(h:Nat->Int):∀ l:List Nat,(((l.map h).sum:Int):Rat)=lsm l (fun i=>(h i:Rat))
 | []=>rfl
 | i::l=>by
  rw[List.map_cons,List.sum_cons,Rat.intCast_add,QwC h l];rfl
theorem QEx(c:Rat)(f:Nat->Rat):∀ l:List Nat,lsm l (fun i=>c * f i)=c * lsm l f
 | []=>by show(0:Rat)=c * 0;grind
 | i::l=>by
  show c * f i+lsm l (fun i=>c * f i)=c * (f i+lsm l f)
  rw[QEx c f l];grind
theorem Qtv{f g:Nat->Rat}:∀{l:List Nat},(∀ i∈l,f i=g i)->lsm l f=lsm l g
 | [],_=>rfl
 | i::l,h=>by
  show f i+lsm l f=g i+lsm l g
  rw[h i (List.mem_cons_self ..),Qtv fun j hj=>h j (List.mem_cons_of_mem _ hj)]
theorem QLW(l:List Nat)(h:Nat->D):l.map h=(List.range l.length).map fun i=>h (l.getD i 0):=by
 apply List.ext_getElem?
 intro i
 rw[List.getElem?_map,List.getElem?_map]
 by_cases hi:i<l.length
 ·rw[List.getElem?_range hi,List.getElem?_eq_getElem hi]
  show some (h l[i])=some (h (l.getD i 0))
  rw[List.getD_eq_getElem?_getD,List.getElem?_eq_getElem hi];rfl
 ·have a:l[i]?=none:=by simp;omega
  have b:(List.range l.length)[i]?=none:=by simp;omega
  rw[a,b];rfl
theorem QLR(l:List Nat)(h:Nat->Int):f1 fSum [.lst (l.map fun i=>D.int (h i))]=.ok (.int (l.map h).sum):=by
 have e:(l.map fun i=>D.int (h i))=(l.map h).map D.int:=by rw[List.map_map];rfl
 show fSum (.lst _)=_
 rw[e,fSum]
 have:∀ ns:List Int,intsD (ns.map .int)=some ns:=fun ns=>by
  induction ns with
  | nil=>rfl
  | cons x xs ih=>show(intsD (xs.map .int)).map (x :: ·)=_;rw[ih];rfl
 rw[this]
theorem QMU{l:List Nat}{F:Nat->Int×Int}(hl:l.length<=12)(hF:∀ i∈l,1<=(F i).2/\(F i).2.natAbs<=2 ^ 100):∃ L:Int,QaO [.lst (l.map fun i=>fr (F i))]=.ok (.int L)/\1<=L/\(∀ i∈l,(F i).2∣L)/\L.natAbs<=2 ^ 1200:=by
 have mem:∀ i,i<l.length->l.getD i 0∈l:=fun i hi=>by
  rw[List.getD_eq_getElem?_getD,List.getElem?_eq_getElem hi];exact List.getElem_mem hi
 obtain⟨L,h1,h2,h3,h4⟩:=QPS (n:=l.length) (f:=fun i=>F (l.getD i 0)) (Q:=fun k=>(2 ^ 100) ^ k) (N:=(2 ^ 100) ^ 12) (by decide) (fun i hi=>by
  obtain⟨a,b⟩:=hF _ (mem i hi)
  refine⟨a,Nat.le_trans b (by decide),Nat.pow_le_pow_right (by decide) (by omega),?_⟩
  show(2 ^ 100) ^ i * _<=(2 ^ 100) ^ (i+1)
  rw[Nat.pow_succ]
  exact Nat.mul_le_mul (Nat.le_refl _) b) (dk)
 refine⟨L,?_,h2,fun i hi=>?_,Nat.le_trans h4 ?_⟩
 ·rw[QLW l fun i=>fr (F i)];exact h1
 ·obtain⟨j,hj,e⟩:=List.getElem_of_mem hi
  have:=h3 j hj
  have g:l.getD j 0=i:=by rw[List.getD_eq_getElem?_getD,List.getElem?_eq_getElem hj, ← e];rfl
  rw[g]at this;exact this
 ·have:((2:Nat) ^ 100) ^ l.length<=(2 ^ 100) ^ 12:=Nat.pow_le_pow_right (by decide) hl
  exact Nat.le_trans this (dk)
theorem QIH{M:Nat}(f:Nat->Int):∀ l:List Nat,(∀ i∈l,(f i).natAbs<=M)->((l.map f).sum).natAbs<=l.length * M
 | [],_=>Nat.zero_le _
 | x::xs,h=>by
  have h1:=h x (List.mem_cons_self ..)
  have h2:=QIH f xs fun i hi=>h i (List.mem_cons_of_mem _ hi)
  rw[List.map_cons,List.sum_cons,List.length_cons,Nat.add_mul]
  omega
theorem Qlt{n:Nat}(hn:n<=12){f g:Nat->Int×Int}(hf:∀ i,i<n->1<=(f i).2/\bitsI (f i).1<=48/\(f i).2.natAbs<=2 ^ 48)(hg:∀ i,i<n->1<=(g i).2/\bitsI (g i).1<=7700/\(g i).2.natAbs<=2 ^ 48):
 ∃ p:Int×Int,low p.1 p.2/\qt p=Bar.sm n (fun i=>qt (f i) * qt (g i))/\p.2.natAbs<=2 ^ 1200/\bitsI p.1<=20000/\QaI [rl n (fun i=>fr (f i)),rl n (fun i=>fr (g i))]=.ok (fr p):=by
 let F:Nat->Int×Int:=fun i=>((f i).1 * (g i).1,(f i).2 * (g i).2)
 let pp:Nat->Bool:=fun i => !decide ((f i).1=0)
 generalize hl:(List.range n).filter pp=l
 have mem:∀ i∈l,i<n:=fun i hi=>by rw[← hl]at hi;exact List.mem_range.mp (List.mem_filter.mp hi).1
 have len:l.length<=12:=by rw[← hl];exact Nat.le_trans (List.length_filter_le ..) (by rw[List.length_range];exact hn)
 have b2:∀ i,i<n->bitsI (f i).2<=49/\bitsI (g i).2<=49:=fun i hi=>⟨QS (Nat.lt_of_le_of_lt (hf i hi).2.2 (by decide)),QS (Nat.lt_of_le_of_lt (hg i hi).2.2 (by decide))⟩
 have hc:eComp [none,none] (itZ (eVar 0) (eVar 1)) (gT [0,1]) QbE Qcf [some (.k,rl n (fun i=>fr (f i))),some (.k,rl n (fun i=>fr (g i))),none,none]=.ok (.lst (l.map fun i=>fr (F i))):=by
  rw[← hl]
  refine QEv (fun i=>D.tup [fr (f i),fr (g i)]) pp (fun i=>fr (F i)) ?_ (fun i hi=>?_) (by omega)
  ·unfold itZ
   rw[r_var rfl,Out.bind_ok,r_var rfl,Out.bind_ok]
   show Out.ok (List.zipWith _ _ _)=_
   rw[List.zipWith_map,List.zipWith_self]
  ·have x0:=fr0 (f i)
   have x1:=fr1 (f i)
   have y0:=fr0 (g i)
   have y1:=fr1 (g i)
   obtain⟨f1',f2',f3'⟩:=hf i hi
   obtain⟨g1',g2',g3'⟩:=hg i hi
   obtain⟨b1',b2'⟩:=b2 i hi
   by_cases h0:(f i).1=0
   ·have d0:(!decide ((f i).1=0))=false:=by rw[decide_eq_true h0];rfl
    have q:QbE [some (.k,fr (f i)),some (.k,fr (g i))]=.ok false:=by
     unfold QbE
     have hne:dNe (.int (f i).1) (.int 0)=.ok (.bl false):=by rw[QaH,d0]
     (repeat walk_at "e")
    show(QbE [some (.k,fr (f i)),some (.k,fr (g i))]>>=fun b=>if b=true then Qcf [some (.k,fr (f i)),some (.k,fr (g i))]>>=fun y=>Out.ok (some y) else .ok none)=_
    rw[q]
    show Out.ok none=Out.ok (if (!decide ((f i).1=0))=true then _ else none)
    rw[d0];rfl
   ·have d0:(!decide ((f i).1=0))=true:=by rw[decide_eq_false h0];rfl
    have q:QbE [some (.k,fr (f i)),some (.k,fr (g i))]=.ok true:=by
     unfold QbE
     have hne:dNe (.int (f i).1) (.int 0)=.ok (.bl true):=by rw[QaH,d0]
     (repeat walk_at "e")
    have x:Qcf [some (.k,fr (f i)),some (.k,fr (g i))]=.ok (fr (F i)):=by
     show _=Out.ok (D.tup [.int ((f i).1 * (g i).1),.int ((f i).2 * (g i).2)])
     unfold Qcf
     (repeat walk_at "e")
    show(QbE [some (.k,fr (f i)),some (.k,fr (g i))]>>=fun b=>if b=true then Qcf [some (.k,fr (f i)),some (.k,fr (g i))]>>=fun y=>Out.ok (some y) else .ok none)=_
    rw[q]
    show(Qcf [some (.k,fr (f i)),some (.k,fr (g i))]>>=fun y=>Out.ok (some y))=Out.ok (if (!decide ((f i).1=0))=true then some (fr (F i)) else none)
    rw[x,d0];rfl
 have hF:∀ i∈l,1<=(F i).2/\(F i).2.natAbs<=2 ^ 100:=fun i hi=>by
  obtain⟨f1',f2',f3'⟩:=hf i (mem i hi)
  obtain⟨g1',g2',g3'⟩:=hg i (mem i hi)
  refine⟨?_,?_⟩
  ·show 1<=(f i).2 * (g i).2
   have h3:1 * 1<=(f i).2 * (g i).2:=Int.mul_le_mul f1' g1' (by decide) (by omega)
   omega
  ·show((f i).2 * (g i).2).natAbs<=_
   rw[Int.natAbs_mul]
   exact Nat.le_trans (Nat.mul_le_mul f3' g3') (by decide)
 obtain⟨L,cb,l1,ld,lb⟩:=QMU len hF
 have bL:bitsI L<=1201:=QS (Nat.lt_of_le_of_lt lb (dk))
 have hc2:eComp [none,some 3] (itL (eVar 2)) (gN 0) cTrue Qg6 [some (.k,rl n (fun i=>fr (f i))),some (.k,rl n (fun i=>fr (g i))),some (.k,.lst (l.map fun i=>fr (F i))),some (.k,.int L)]=.ok (.lst (l.map fun i=>D.int ((F i).1 * (L / (F i).2)))):=by
  refine Q1 (fun i=>fr (F i)) (fun i=>D.int ((F i).1 * (L / (F i).2))) rfl (fun i hi=>?_) (by omega)
  have x0:=fr0 (F i)
  have x1:=fr1 (F i)
  obtain⟨c1,c2⟩:=hF i hi
  obtain⟨f1',f2',f3'⟩:=hf i (mem i hi)
  obtain⟨g1',g2',g3'⟩:=hg i (mem i hi)
  have bt:bitsI (F i).1<=8000:=Nat.le_trans (Qcu f2' g2') (by decide)
  have bb:bitsI (F i).2<=200:=QS (Nat.lt_of_le_of_lt c2 (dk))
  refine Qab (by walk_at "cap") (by walk_at "s") ?_
  unfold Qg6
  (repeat walk_at "e")
 have hsum:=QLR l fun i=>(F i).1 * (L / (F i).2)
 generalize hS:(l.map fun i=>(F i).1 * (L / (F i).2)).sum=S at hsum
 have sh:=Qjt (a:=S) (b:=L) (by omega) (Nat.lt_of_le_of_lt lb (dk))
 have hSb:bitsI S<=20000:=by
  rw[← hS]
  refine QS (Nat.lt_of_le_of_lt (QIH (M:=2 ^ 9300) _ l fun i hi=>?_) ?_)
  ·obtain⟨c1,c2⟩:=hF i hi
   obtain⟨f1',f2',f3'⟩:=hf i (mem i hi)
   obtain⟨g1',g2',g3'⟩:=hg i (mem i hi)
   have bt:bitsI (F i).1<=8000:=Nat.le_trans (Qcu f2' g2') (by decide)
   exact Nat.le_of_lt (Qbt (Nat.le_trans (Qcu bt (Qgl bL)) (by decide)))
  ·exact Nat.lt_of_le_of_lt (Nat.mul_le_mul len (Nat.le_refl _)) (dk)
 refine⟨pr S L,Qfs (by omega),?_,?_,?_,?_⟩
 ·rw[qt_pr (by omega), ← hS,QwC]
  have cl:=Qal l1
  have e:lsm l (fun i=>(((F i).1 * (L / (F i).2):Int):Rat))=lsm l (fun i=>(L:Rat) * (qt (f i) * qt (g i))):=Qtv fun i hi=>by
   obtain⟨f1',_⟩:=hf i (mem i hi)
   obtain⟨g1',_⟩:=hg i (mem i hi)
   rw[Rat.intCast_mul,QNO (hF i hi).1 (ld i hi)]
   show(((f i).1 * (g i).1:Int):Rat) * ((L:Rat) / (((f i).2 * (g i).2:Int):Rat))=_
   rw[Rat.intCast_mul,Rat.intCast_mul]
   have:=Qal f1'
   have:=Qal g1'
   unfold qt
   grind
  rw[e,QEx, ← hl,QpG,Qtk]
  ·grind
  ·intro i hi hp
   have:(f i).1=0:=by
    have hp:(!decide ((f i).1=0))=false:=hp
    simpa using hp
   unfold qt
   rw[this]
   have z:((0:Int):Rat)=0:=rfl
   rw[z];grind
 ·show(L.fdiv (shD S L)).natAbs<=_
  exact Nat.le_trans (Int.natAbs_fdiv_le_natAbs _ _) lb
 ·show bitsI (S.fdiv (shD S L))<=_
  exact QS (Nat.lt_of_le_of_lt (Int.natAbs_fdiv_le_natAbs _ _) (Qbt hSb))
 ·show _=Out.ok (D.tup [.int (S.fdiv (shD S L)),.int (L.fdiv (shD S L))])
  rw[QFk]
  unfold QgI
  (repeat walk_at "e")
theorem QLk{n:Nat}(hn:n<=12){f g:Nat->Int×Int}(hf:∀ i,i<n->1<=(f i).2/\bitsI (f i).1<=48/\(f i).2.natAbs<=2 ^ 48)(hg:∀ i,i<n->1<=(g i).2/\bitsI (g i).1<=7700/\(g i).2.natAbs<=2 ^ 48):
 ∃ p:Int×Int,low p.1 p.2/\qt p=Bar.sm n (fun i=>qt (f i) * qt (g i))/\p.2.natAbs<=2 ^ 1200/\QaI [rl n (fun i=>fr (f i)),rl n (fun i=>fr (g i))]=.ok (fr p):=by
 obtain⟨p,a,b,c,_,d⟩:=Qlt hn hf hg
 exact⟨p,a,b,c,d⟩
theorem sf_at{t:‹"H"›}{s:Nat}(h:s<t.length)(j:Nat):sf t (s:Int) j=cs t s j:=by
 unfold sf
 rw[Int.ediv_eq_zero_of_lt (by omega) (by omega),Int.emod_eq_of_lt (by omega) (by omega),Int.zero_mul,Int.zero_add];simp
theorem QNX{t:‹"H"›}(j:Nat):sf t 0 j=0:=by
 unfold sf cs;simp
section
variable{n nd:Nat}{nm dn c:Nat->Str}{t:Nat->List (List Int)}{m:Nat->Nat}{ld:Nat->Nat->Int}{st:Nat->Int}
theorem QHE:(offF n nd nm dn c t m ld st).lookup ("staff":Str)=some (rl n (fun k=>ck (c k) (t k) (m k))):=by
 have h1:(("staff":Str) == "clerk_names")=false:=dk
 have h2:(("staff":Str) == "door_names")=false:=dk
 have h3:(("staff":Str) == "entry_places")=false:=dk
 unfold offF
 rw[List.lookup_cons,h1,List.lookup_cons,h2,List.lookup_cons,h3,List.lookup_cons,beq_self_eq_true]
theorem QJq:(offF n nd nm dn c t m ld st).lookup ("ways":Str)=some (rl n (fun k=>rl (m k) ‹"J"›)):=by
 have h1:(("ways":Str) == "clerk_names")=false:=dk
 have h2:(("ways":Str) == "door_names")=false:=dk
 have h3:(("ways":Str) == "entry_places")=false:=dk
 have h4:(("ways":Str) == "staff")=false:=dk
 have h5:(("ways":Str) == "first_states")=false:=dk
 unfold offF
 rw[List.lookup_cons,h1,List.lookup_cons,h2,List.lookup_cons,h3,List.lookup_cons,h4,List.lookup_cons,h5,List.lookup_cons,beq_self_eq_true]
theorem QIy{x:Str}(h:(["clerk_names","door_names","entry_places","staff","first_states","ways"]:List Str).all (fun y => !(x == y))=true):(offF n nd nm dn c t m ld st).lookup x=none:=by
 simp only[List.all_cons,List.all_nil,Bool.and_eq_true,Bool.not_eq_true',Bool.and_true]at h
 obtain⟨h1,h2,h3,h4,h5,h6⟩:=h
 unfold offF
 rw[List.lookup_cons,h1,List.lookup_cons,h2,List.lookup_cons,h3,List.lookup_cons,h4,List.lookup_cons,h5,List.lookup_cons,h6];rfl
theorem fld_o{x:Str}{d:D}(h:(offF n nd nm dn c t m ld st).lookup x=some d):dFld Qj x (offD n nd nm dn c t m ld st)=.ok d:=by
 show(if Qj.contains "Office"=true then optO ((offF n nd nm dn c t m ld st).lookup x) else .stuck)=_
 rw[if_pos QEh,h];rfl
theorem QfT{x:Str}{mt:Str->List D->Out D}{O:SD->Out D}{A:SD->Out (List D)}{ς:SD}{xs:List D}(hO:O ς=.ok (offD n nd nm dn c t m ld st))(hA:A ς=.ok xs)
 (h:(["clerk_names","door_names","entry_places","staff","first_states","ways"]:List Str).all (fun y => !(x == y))=true):eMeth Qu x mt O A ς=mt "Office" (offD n nd nm dn c t m ld st::xs):=by
 have hc:Qu.contains "Office"=true:=dk
 unfold eMeth
 rw[hO,Out.bind_ok]
 show(if (Qu.contains "Office"&&((offF n nd nm dn c t m ld st).lookup x).isNone)=true then A ς>>=fun xs=>mt "Office" (.ins "Office" (offF n nd nm dn c t m ld st)::xs) else .stuck)=_
 rw[QIy h,hc,if_pos (show(true&&(none:Option D).isNone)=true from rfl),hA];rfl
theorem Qtd{k:Nat}(hk:k<n):Qao [offD n nd nm dn c t m ld st,.int (k:Int)]=.ok (ck (c k) (t k) (m k)):=by
 have h1:=fld_o (QHE (n:=n) (nd:=nd) (nm:=nm) (dn:=dn) (c:=c) (t:=t) (m:=m) (ld:=ld) (st:=st))
 have x1:dIx (rl n (fun k=>ck (c k) (t k) (m k))) (.int (k:Int))=.ok (ck (c k) (t k) (m k)):=ixR hk
 rw[QrF]
 unfold Qd5
 (repeat walk_at "e")
theorem Qtn{k:Nat}(hk:k<n):Qad [offD n nd nm dn c t m ld st,.int (k:Int)]=.ok (rl (m k) ‹"J"›):=by
 have h1:=fld_o (QJq (n:=n) (nd:=nd) (nm:=nm) (dn:=dn) (c:=c) (t:=t) (m:=m) (ld:=ld) (st:=st))
 have x1:dIx (rl n (fun k=>rl (m k) ‹"J"›)) (.int (k:Int))=.ok (rl (m k) ‹"J"›):=ixR hk
 have hd:dList (rl (m k) ‹"J"›)=.ok (rl (m k) ‹"J"›):=rfl
 rw[Qry]
 unfold Qee
 (repeat walk_at "e")
def bh(ld:Nat->Nat->Int)(wr dw:Nat->Int×Int)(k j:Nat):Int×Int:=if ld k j<0 then dw (-1 - ld k j).toNat else wr (ld k j).toNat
def okW(p:Int×Int):Prop:=low p.1 p.2/\bitsI p.1<=100/\p.2.natAbs<=2 ^ 48
variable(hs:Seats n nd nm dn c t m ld st){wr dw:Nat->Int×Int}(hw:∀ i,i<n->okW (wr i))(hd:∀ i,i<nd->okW (dw i))
include hs
theorem QHR{k:Nat}(hk:k<n):Qa5 [offD n nd nm dn c t m ld st,.int (k:Int),rl n (fun i=>fr (wr i)),rl nd (fun i=>fr (dw i))]=.ok (rl (m k) (fun j=>fr (bh ld wr dw k j))):=by
 have m6:=(hs.tb k hk).m6
 have hl:=Qtn (n:=n) (nd:=nd) (nm:=nm) (dn:=dn) (c:=c) (t:=t) (m:=m) (ld:=ld) (st:=st) hk
 have hm:eMeth Qu "leads" (fun _=>Qad) (eVar 0) ‹"q"› [some (.k,offD n nd nm dn c t m ld st),some (.k,.int (k:Int)),some (.k,rl n (fun i=>fr (wr i))),some (.k,rl nd (fun i=>fr (dw i)))]=.ok (rl (m k) ‹"J"›):=by
  rw[QfT (xs:=[.int (k:Int)]) (by (repeat walk_at "e")) (by (repeat walk_at "e")) (dk)]
  exact hl
 have hc:eComp [none,some 2,some 3] (itL (eMeth Qu "leads" (fun _=>Qad) (eVar 0) ‹"q"›)) (gN 0) cTrue Qeu [some (.k,offD n nd nm dn c t m ld st),some (.k,.int (k:Int)),some (.k,rl n (fun i=>fr (wr i))),some (.k,rl nd (fun i=>fr (dw i)))]=.ok (rl (m k) (fun j=>fr (bh ld wr dw k j))):=by
  refine Q1 (fun j=>D.int (ld k j)) (fun j=>fr (bh ld wr dw k j)) (r_itL hm) (fun j hj=>?_) (by rw[List.length_range];omega)
  obtain⟨l1,l2⟩:=hs.ldr k j hk (List.mem_range.mp hj)
  refine Qab (by walk_at "cap") (by walk_at "s") ?_
  unfold Qeu bh
  by_cases h:ld k j<0
  ·rw[if_pos h]
   have g0:dGe (.int (ld k j)) (.int 0)=.ok (.bl false):=by rw[Qbd,decide_eq_false (by omega)]
   have x1:dIx (rl nd (fun i=>fr (dw i))) (.int (-1 - ld k j))=.ok (fr (dw (-1 - ld k j).toNat)):=by
    have:=ixR (n:=nd) (f:=fun i=>fr (dw i)) (show(-1 - ld k j).toNat<nd by omega)
    rw[Int.toNat_of_nonneg (by omega)]at this
    exact this
   (repeat walk_at "e")
  ·rw[if_neg h]
   have g0:dGe (.int (ld k j)) (.int 0)=.ok (.bl true):=by rw[Qbd,decide_eq_true (by omega)]
   have x1:dIx (rl n (fun i=>fr (wr i))) (.int (ld k j))=.ok (fr (wr (ld k j).toNat)):=by
    have:=ixR (n:=n) (f:=fun i=>fr (wr i)) (show(ld k j).toNat<n by omega)
    rw[Int.toNat_of_nonneg (by omega)]at this
    exact this
   (repeat walk_at "e")
 rw[Qpv]
 unfold QdH
 (repeat walk_at "e")
include hw hd
theorem bh_ok{k j:Nat}(hk:k<n)(hj:j<m k):okW (bh ld wr dw k j):=by
 obtain⟨l1,l2⟩:=hs.ldr k j hk hj
 unfold bh
 split
 ·exact hd _ (by omega)
 ·exact hw _ (by omega)
def leanQ(t:‹"H"›)(m:Nat)(q:Nat->Rat)(s:Nat):Rat:=Bar.sm m (fun j=>(((s:Int) * cs t t.length j - (t.length:Int) * cs t s j:Int):Rat) / ((t.length:Int):Rat) * q j)
theorem QNM{k s:Nat}(hk:k<n)(hsn:s<(t k).length):∃ p:Int×Int,low p.1 p.2/\qt p=leanQ (t k) (m k) (fun j=>qt (bh ld wr dw k j)) s/\p.2.natAbs<=2 ^ 1200/\
 Qd4 [offD n nd nm dn c t m ld st,.int (k:Int),.int (s:Int),rl n (fun i=>fr (wr i)),rl nd (fun i=>fr (dw i))]=.ok (fr p):=by
 have tb:=hs.tb k hk
 have hc:=hs.ck k hk
 have m6:=tb.m6
 have n12:=tb.n2
 have n1':=tb.n1
 have h1:=Qtd (n:=n) (nd:=nd) (nm:=nm) (dn:=dn) (c:=c) (t:=t) (m:=m) (ld:=ld) (st:=st) hk
 have h2:=QHR hs (wr:=wr) (dw:=dw) hk
 have csb:=cs_le tb
 let f:Nat->Int×Int:=fun j=>pr ((s:Int) * cs (t k) (t k).length j - ((t k).length:Int) * cs (t k) s j) ((t k).length:Int)
 have hf:∀ j,j<m k->1<=(f j).2/\bitsI (f j).1<=48/\(f j).2.natAbs<=2 ^ 48:=fun j hj=>by
  have lw:=Qfs (a:=(s:Int) * cs (t k) (t k).length j - ((t k).length:Int) * cs (t k) s j) (b:=((t k).length:Int)) (by omega)
  refine⟨lw.1,?_,?_⟩
  ·show bitsI (((s:Int) * cs (t k) (t k).length j - ((t k).length:Int) * cs (t k) s j).fdiv _)<=48
   refine QS (Nat.lt_of_le_of_lt (Int.natAbs_fdiv_le_natAbs _ _) ?_)
   have a:=csb (t k).length j
   have b:=csb s j
   have c1:(s:Int) * cs (t k) (t k).length j<=12 * 108:=Int.mul_le_mul (by omega) (by omega) a.1 (by decide)
   have c2:((t k).length:Int) * cs (t k) s j<=12 * 108:=Int.mul_le_mul (by omega) (by omega) b.1 (by decide)
   have c3:0<=(s:Int) * cs (t k) (t k).length j:=Int.mul_nonneg (by omega) a.1
   have c4:0<=((t k).length:Int) * cs (t k) s j:=Int.mul_nonneg (by omega) b.1
   omega
  ·show(((t k).length:Int).fdiv _).natAbs<=_
   refine Nat.le_trans (Int.natAbs_fdiv_le_natAbs _ _) ?_
   show(((t k).length:Int)).natAbs<=2 ^ 48
   omega
 obtain⟨p,lp,qp,bp,hp⟩:=QLk (n:=m k) (by omega) (f:=f) (g:=bh ld wr dw k) hf (fun j hj=>by
  obtain⟨a,b,c⟩:=bh_ok hs hw hd hk hj
  exact⟨a.1,Nat.le_trans b (by decide),c⟩)
 refine⟨p,lp,?_,bp,?_⟩
 ·rw[qp]
  unfold leanQ
  exact Bar.sm_congr fun j _=>by
   show qt (pr _ _) * _=_
   rw[qt_pr (by omega)]
 ·generalize hO:offD n nd nm dn c t m ld st=O at *
  generalize hW:rl n (fun i=>fr (wr i))=W at *
  generalize hDW:rl nd (fun i=>fr (dw i))=DW at *
  have mc:eMeth Qu "clerk" (fun _=>Qao) (eVar 0) ‹"q"› [some (.k,O),some (.k,.int (k:Int)),some (.k,.int (s:Int)),some (.k,W),some (.k,DW),none,none,none,none]=.ok (ck (c k) (t k) (m k)):=by
   subst hO
   rw[QfT (xs:=[.int (k:Int)]) (by (repeat walk_at "e")) (by (repeat walk_at "e")) (dk)]
   exact h1
  have mp:∀ ς:SD,ς[5]?=some (some (.k,ck (c k) (t k) (m k)))->eMeth Qc "period" (fun _=>QI) (eVar 5) aNil ς=.ok (.int ((t k).length:Int)):=fun ς h=>by
   rw[Qc3 (c:=c k) (t:=t k) (m:=m k) hc (xs:=[]) (by unfold eVar;rw[h]) rfl (dk) (dk)]
   exact Qh8 hc _ _
  have mw:∀ ς:SD,ς[5]?=some (some (.k,ck (c k) (t k) (m k)))->eMeth Qc "whole" (fun _=>Qai) (eVar 5) aNil ς=.ok (dl (pre (t k) (m k) (t k).length)):=fun ς h=>by
   rw[Qc3 (c:=c k) (t:=t k) (m:=m k) hc (xs:=[]) (by unfold eVar;rw[h]) rfl (dk) (dk)]
   exact Qxs hc _ _
  have ms:∀ ς:SD,ς[5]?=some (some (.k,ck (c k) (t k) (m k)))->ς[2]?=some (some (.k,.int (s:Int)))->eMeth Qc "sent" (fun _=>QbD) (eVar 5) (aCons (eC (.int 0)) (aCons (eVar 2) aNil)) ς=.ok (dl (pre (t k) (m k) s)):=fun ς h h'=>by
   rw[Qc3 (c:=c k) (t:=t k) (m:=m k) hc (xs:=[.int 0,.int (s:Int)]) (by unfold eVar;rw[h]) (by simp only[aCons,aNil,eC,eVar,h',Out.bind_ok]) (dk) (dk)]
   rw[QN5 hc tb (s:=0) (x:=(s:Int)) (by decide) (by omega) (by decide) (by rw[Int.zero_add];exact Nat.lt_of_le_of_lt (show((s:Int)).natAbs<=12 by omega) (by decide)) (QKM tb)]
   refine congrArg (fun l=>Out.ok (dl l)) ?_
   unfold pre
   exact List.map_congr_left fun j _=>by rw[Int.zero_add,sf_at hsn,QNX,Int.sub_zero]
  have hz:eComp [none,none,some 2,some 6] (itZ (eMeth Qc "whole" (fun _=>Qai) (eVar 5) aNil) (eVar 7)) (gT [0,1]) cTrue QnW [some (.k,O),some (.k,.int (k:Int)),some (.k,.int (s:Int)),some (.k,W),some (.k,DW),some (.k,ck (c k) (t k) (m k)),some (.k,.int ((t k).length:Int)),some (.k,dl (pre (t k) (m k) s)),none]=.ok (rl (m k) (fun j=>fr (f j))):=by
   refine Q1 (fun j=>D.tup [.int (cs (t k) (t k).length j),.int (cs (t k) s j)]) (fun j=>fr (f j)) ?_ (fun j hj=>?_) (by rw[List.length_range];omega)
   ·unfold itZ
    rw[mw _ rfl,Out.bind_ok,r_var rfl,Out.bind_ok]
    show Out.ok (List.zipWith _ ((pre (t k) (m k) (t k).length).map D.int) ((pre (t k) (m k) s).map D.int))=_
    unfold pre
    rw[List.map_map,List.map_map,List.zipWith_map,List.zipWith_self];rfl
   ·have a:=csb (t k).length j
    have b:=csb s j
    have b1:bitsI (s:Int)<=100:=Qk4 (Nat.lt_of_lt_of_le hsn (Nat.le_trans n12 (by decide)))
    have b2:bitsI (cs (t k) (t k).length j)<=100:=bd_in a.1 (Int.lt_of_le_of_lt a.2 (Int.lt_of_le_of_lt (show 9 * ((t k).length:Int)<=108 by omega) (by decide)))
    have b3:bitsI (cs (t k) s j)<=100:=bd_in b.1 (Int.lt_of_le_of_lt b.2 (Int.lt_of_le_of_lt (show 9 * ((t k).length:Int)<=108 by omega) (by decide)))
    have b4:bitsI ((t k).length:Int)<=100:=Qk4 (Nat.lt_of_le_of_lt n12 (by decide))
    have sh:=Qjt (a:=(s:Int) * cs (t k) (t k).length j - ((t k).length:Int) * cs (t k) s j) (b:=((t k).length:Int)) (by omega) (Nat.lt_of_le_of_lt (show(((t k).length:Int)).natAbs<=12 by omega) (dk))
    refine Ql5 (by walk_at "cap") (by walk_at "all") ?_
    show _=Out.ok (D.tup [.int (((s:Int) * cs (t k) (t k).length j - ((t k).length:Int) * cs (t k) s j).fdiv (shD _ _)),.int (((t k).length:Int).fdiv (shD _ _))])
    unfold QnW
    (repeat walk_at "e")
  rw[QPK]
  unfold Qox
  (repeat (first | with_reducible exact mp _ (by walk_at "g") | with_reducible exact ms _ (by walk_at "g") (by walk_at "g") | walk_at "e"))
end
def ent(t:‹"H"›)(k j:Nat):Int:=(t.getD k []).getD j 0
theorem QOh{t:‹"H"›}{k j:Nat}(hk:k<t.length):cs t (k+1) j=cs t k j+ent t k j:=by
 have e:t.getD k []=t[k]:=by rw[List.getD_eq_getElem?_getD,List.getElem?_eq_getElem hk];rfl
 unfold cs ent
 rw[e,List.take_add_one,List.getElem?_eq_getElem hk,Option.toList_some,List.map_append,List.sum_append]
 simp only[List.map_cons,List.map_nil,List.sum_cons,List.sum_nil,Int.add_zero,Option.getD_some]
theorem QMo:∀(n:Nat)(a b:Int),0<=a->0<=b->b.toNat<=n->QbK Qct Qcp [some (.k,.int a),some (.k,.int b)]
 = .ok (.nx [some (.k,.int (a.gcd b:Nat)),some (.k,.int 0)]):=by
 intro n
 induction n with
 | zero=>
  intro a b ha hb hn
  have e:b=0:=by omega
  subst e
  rw[Qb2]
  simp[Qct,Qcp,bodyF,retF,sSeq,thenF,sSet,sRet,sIf,sNil,eVar,eC,e1,e2,eA,f1,aNil,aCons,tVal,tAnd',tOr',tNot',eAnd,eOr,eNot,eIf,eTup,eLst,eIsa,isaT,Qas,oNo,oSome,sPar,sUnp,QX,gN,gT,fLen,Qah,Out.bind_ok,Out.bind_exc,Out.bind_stuck,Out.pure_eq,D.scal,Q7,QaD,QaV,QaN,Qam,QaG,Qbu,Qbd,QG,QaH,List.length_cons,List.length_nil,List.map_cons,List.map_nil,List.cons_append,List.nil_append,List.append_nil,List.getElem?_cons_zero,List.getElem?_cons_succ,List.set_cons_zero,List.set_cons_succ,List.replicate,Nat.reduceAdd,Nat.reduceSub,Nat.reduceLeDiff,Nat.zero_add,Nat.add_zero,reduceIte,Bool.not_true,Bool.not_false,Bool.true_and,Bool.and_true,Bool.false_and,Bool.and_false,Bool.or_true,Bool.true_or,Bool.or_false,Bool.false_or,Bool.false_eq_true,decide_true,decide_false,decide_eq_true_eq,Bool.not_eq_true',decide_eq_false_iff_not,Int.reduceEq,Int.reduceLT,Int.reduceLE,Int.reduceNeg,Nat.reduceEqDiff, ↓reduceIte,not_true_eq_false,not_false_eq_true]
  omega
 | succ n ih=>
  intro a b ha hb hn
  by_cases e:b=0
  ·subst e
   rw[Qb2]
   simp[Qct,Qcp,bodyF,retF,sSeq,thenF,sSet,sRet,sIf,sNil,eVar,eC,e1,e2,eA,f1,aNil,aCons,tVal,tAnd',tOr',tNot',eAnd,eOr,eNot,eIf,eTup,eLst,eIsa,isaT,Qas,oNo,oSome,sPar,sUnp,QX,gN,gT,fLen,Qah,Out.bind_ok,Out.bind_exc,Out.bind_stuck,Out.pure_eq,D.scal,Q7,QaD,QaV,QaN,Qam,QaG,Qbu,Qbd,QG,QaH,List.length_cons,List.length_nil,List.map_cons,List.map_nil,List.cons_append,List.nil_append,List.append_nil,List.getElem?_cons_zero,List.getElem?_cons_succ,List.set_cons_zero,List.set_cons_succ,List.replicate,Nat.reduceAdd,Nat.reduceSub,Nat.reduceLeDiff,Nat.zero_add,Nat.add_zero,reduceIte,Bool.not_true,Bool.not_false,Bool.true_and,Bool.and_true,Bool.false_and,Bool.and_false,Bool.or_true,Bool.true_or,Bool.or_false,Bool.false_or,Bool.false_eq_true,decide_true,decide_false,decide_eq_true_eq,Bool.not_eq_true',decide_eq_false_iff_not,Int.reduceEq,Int.reduceLT,Int.reduceLE,Int.reduceNeg,Nat.reduceEqDiff, ↓reduceIte,not_true_eq_false,not_false_eq_true]
   omega
  ·have hb':0<b:=by omega
   have h1:=Int.emod_nonneg a e
   have h2:=Int.emod_lt_of_pos a hb'
   have h:=ih b (a % b) hb h1 (by omega)
   rw[Qwy]at h
   rw[Qb2]
   simp[Qct,Qcp,bodyF,retF,sSeq,thenF,sSet,sRet,sIf,sNil,eVar,eC,e1,e2,eA,f1,aNil,aCons,tVal,tAnd',tOr',tNot',eAnd,eOr,eNot,eIf,eTup,eLst,eIsa,isaT,Qas,oNo,oSome,sPar,sUnp,QX,gN,gT,fLen,Qah,Out.bind_ok,Out.bind_exc,Out.bind_stuck,Out.pure_eq,D.scal,Q7,QaD,QaV,QaN,Qam,QaG,Qbu,Qbd,QG,QaH,List.length_cons,List.length_nil,List.map_cons,List.map_nil,List.cons_append,List.nil_append,List.append_nil,List.getElem?_cons_zero,List.getElem?_cons_succ,List.set_cons_zero,List.set_cons_succ,List.replicate,Nat.reduceAdd,Nat.reduceSub,Nat.reduceLeDiff,Nat.zero_add,Nat.add_zero,reduceIte,Bool.not_true,Bool.not_false,Bool.true_and,Bool.and_true,Bool.false_and,Bool.and_false,Bool.or_true,Bool.true_or,Bool.or_false,Bool.false_or,Bool.false_eq_true,decide_true,decide_false,decide_eq_true_eq,Bool.not_eq_true',decide_eq_false_iff_not,Int.reduceEq,Int.reduceLT,Int.reduceLE,Int.reduceNeg,Nat.reduceEqDiff, ↓reduceIte,not_true_eq_false,not_false_eq_true,hb',Qe0 hb']
   exact h
theorem ld_ok(a b:Int):QbL [.int a,.int b]=.ok (.int (a.gcd b:Nat)):=by
 have h:=QMo b.natAbs (a.natAbs:Int) (b.natAbs:Int) (by omega) (by omega) (by omega)
 have e:((a.natAbs:Int)).gcd (b.natAbs:Int)=a.gcd b:=by simp[Int.gcd]
 rw[e]at h
 rw[QtR]
 unfold QeI
 have x0:f1 dAbs [.int a]=.ok (.int (a.natAbs:Int)):=by show dAbs (.int a)=_;rw[QaN]
 have x1:f1 dAbs [.int b]=.ok (.int (b.natAbs:Int)):=by show dAbs (.int b)=_;rw[QaN]
 (repeat walk_at "e")
def okB(b:Nat)(p:Int×Int):Prop:=1<=p.2/\bitsI p.1<=b/\bitsI p.2<=b
theorem QEC{i j:Int}{k:Nat}(a:bitsI i<=k)(b:bitsI j<=k):bitsI (i+j)<=k+1:=by
 have h1:=Qbt a
 have h2:=Qbt b
 refine QS ?_
 rw[Nat.pow_succ]
 omega
theorem okB.mono{b b':Nat}{p:Int×Int}(h:okB b p)(hb:b<=b'):okB b' p:=⟨h.1,Nat.le_trans h.2.1 hb,Nat.le_trans h.2.2 hb⟩
theorem Qfb{a b:Int}(hb:1<=b):pr a b=(a / ((a.gcd b:Nat):Int),b / ((a.gcd b:Nat):Int)):=by
 unfold pr shD
 rw[if_neg (by omega),Int.fdiv_eq_ediv_of_nonneg a (by omega),Int.fdiv_eq_ediv_of_nonneg b (by omega)]
theorem QKn{a b:Int}{k:Nat}(hb:1<=b)(ba:bitsI a<=k)(bb:bitsI b<=k):okB k (pr a b):=by
 have lw:=Qfs (a:=a) (b:=b) (by omega)
 refine⟨lw.1,?_,?_⟩<;>rw[Qfb hb]
 ·exact Qgl ba
 ·exact Qgl bb
theorem QqA{a b:Int}(hb:1<=b)(bb:bitsI b<=7900):QbH [.int a,.int b]=.ok (fr (pr a b)):=by
 have hd:=ld_ok a b
 have g0:0<a.gcd b:=QfG (by omega)
 have g1:((a.gcd b:Nat):Int)∣b:=Int.gcd_dvd_right a b
 have g2:((a.gcd b:Nat):Int)<=b:=Int.le_of_dvd (by omega) g1
 have gb:bitsI ((a.gcd b:Nat):Int)<=7900:=QS (Nat.lt_of_le_of_lt (show(((a.gcd b:Nat):Int)).natAbs<=b.natAbs by omega) (Qbt bb))
 rw[Qfb hb]
 have gp:0<((a.gcd b:Nat):Int):=by omega
 generalize ((a.gcd b:Nat):Int)=g at *
 rw[QId]
 unfold Qh5 fr
 (repeat walk_at "e")
theorem Qrk{x y:Int×Int}{b1 b2:Nat}(hx:okB b1 x)(hy:okB b2 y)(h:b1+b2<=7800):∃ p:Int×Int,low p.1 p.2/\qt p=qt x+qt y/\okB (b1+b2+1) p/\Qaw [fr x,fr y]=.ok (fr p):=by
 obtain⟨x1,x2,x3⟩:=hx
 obtain⟨y1,y2,y3⟩:=hy
 have q1:1 * 1<=x.2 * y.2:=Int.mul_le_mul x1 y1 (by decide) (by omega)
 have q:1<=x.2 * y.2:=by omega
 have bt:bitsI (x.1 * y.2+y.1 * x.2)<=b1+b2+1:=QEC (Qcu x2 y3) (by have:=Qcu y2 x3;omega)
 have bb:bitsI (x.2 * y.2)<=b1+b2:=Qcu x3 y3
 have hl:=QqA (a:=x.1 * y.2+y.1 * x.2) q (by omega)
 refine⟨pr (x.1 * y.2+y.1 * x.2) (x.2 * y.2),Qfs (by omega),?_,QKn q bt (by omega),?_⟩
 ·rw[qt_pr (by omega),Rat.intCast_add,Rat.intCast_mul,Rat.intCast_mul,Rat.intCast_mul]
  have:=Qal x1
  have:=Qal y1
  unfold qt
  grind
 ·have a0:=fr0 x
  have a1:=fr1 x
  have c0:=fr0 y
  have c1:=fr1 y
  have X2:bitsI x.1<=7800:=by omega
  have X3:bitsI x.2<=7800:=by omega
  have Y2:bitsI y.1<=7800:=by omega
  have Y3:bitsI y.2<=7800:=by omega
  clear x2 x3 y2 y3 bt bb
  rw[Qo8]
  unfold Qfx
  (repeat walk_at "e")
def zero1:Int×Int:=(0,1)
theorem low0:low (0:Int) 1:=⟨Int.le_refl _,rfl⟩
theorem qt0:qt zero1=0:=by
 unfold qt zero1
 show((0:Int):Rat) / ((1:Int):Rat)=0
 have e0:((0:Int):Rat)=0:=rfl
 rw[e0];grind
theorem okB0:okB 1 zero1:=⟨Int.le_refl _,by decide,by decide⟩
def planD(kd:Nat->Int)(t:Nat->List (List Int))(m:Nat->Nat)(ld:Nat->Nat->Int)(st:Nat->Int)(k:Nat):D:=.tup [.int (kd k),tbD (t k),rl (m k) ‹"J"›,.int (st k)]
section
variable{n nd:Nat}{nm dn c:Nat->Str}{t:Nat->List (List Int)}{m:Nat->Nat}{ld:Nat->Nat->Int}{st kd:Nat->Int}(hs:Seats n nd nm dn c t m ld st)(h4:∀ k,k<n->(t k).length<=4/\m k<=4){wr dw:Nat->Int×Int}(hw:∀ i,i<n->okW (wr i))(hd:∀ i,i<nd->okW (dw i))
def rowQ(t:‹"H"›)(m:Nat)(q:Nat->Rat)(s:Nat):Rat:=Bar.sm m (fun j=>(ent t s j:Rat) * q j)
include hs hw hd h4
theorem QOH{k s j:Nat}(hk:k<n):0<=ent (t k) s j/\ent (t k) s j<=9:=by
 unfold ent
 rw[List.getD_eq_getElem?_getD,List.getD_eq_getElem?_getD]
 cases h1:(t k)[s]? with
 | none=>simp
 | some r=>
  show 0<=(r[j]?).getD 0/\(r[j]?).getD 0<=9
  cases h2:r[j]? with
  | none=>decide
  | some x=>exact(hs.tb k hk).ent r (List.mem_of_getElem? h1) x (List.mem_of_getElem? h2)
theorem QPy{k s:Nat}(hk:k<n)(hsn:s<(t k).length):∃ p:Int×Int,low p.1 p.2/\qt p=rowQ (t k) (m k) (fun j=>qt (bh ld wr dw k j)) s/\okB 500 p/\
 Qa9 [rl n ‹"h"›,.int (k:Int),.int (s:Int),rl n (fun i=>fr (wr i)),rl nd (fun i=>fr (dw i))]=.ok (fr p):=by
 have tb:=hs.tb k hk
 obtain⟨n4,m4⟩:=h4 k hk
 have x1:dIx (rl n ‹"h"›) (.int (k:Int))=.ok (planD kd t m ld st k):=ixR hk
 have x2:dIx (planD kd t m ld st k) (.int 2)=.ok (rl (m k) ‹"J"›):=ix_t 2 rfl
 have x3:dIx (planD kd t m ld st k) (.int 1)=.ok (tbD (t k)):=ix_t 1 rfl
 have x4:dIx (tbD (t k)) (.int (s:Int))=.ok (dl (t k)[s]):=ixL s (by rw[List.getElem?_map,List.getElem?_eq_getElem hsn];rfl)
 have rm:((t k)[s]).length=m k:=tb.row _ (List.getElem_mem _)
 have hrow:((t k)[s]).map D.int=(List.range (m k)).map fun j=>D.int (ent (t k) s j):=by
  apply List.ext_getElem?
  intro j
  rw[List.getElem?_map]
  by_cases hj:j<m k
  ·rw[atR hj,List.getElem?_eq_getElem (show j<((t k)[s]).length by omega)]
   show some (D.int ((t k)[s])[j])=some (D.int (ent (t k) s j))
   unfold ent
   rw[List.getD_eq_getElem?_getD,List.getD_eq_getElem?_getD,List.getElem?_eq_getElem hsn]
   show _=some (D.int ((((t k)[s])[j]?).getD 0))
   rw[List.getElem?_eq_getElem (show j<((t k)[s]).length by omega)];rfl
  ·have a:((t k)[s])[j]?=none:=by simp;omega
   have b:((List.range (m k)).map fun j=>D.int (ent (t k) s j))[j]?=none:=by simp;omega
   rw[a,b];rfl
 generalize hP:rl n ‹"h"›=P at *
 have hz:itZ (e2 dIx (e2 dIx (eVar 0) (eVar 1)) (eC (.int 2))) (e2 dIx (e2 dIx (e2 dIx (eVar 0) (eVar 1)) (eC (.int 1))) (eVar 2)) ‹"c"›=.ok ((List.range (m k)).map fun j=>D.tup [.int (ld k j),.int (ent (t k) s j)]):=by
  unfold itZ
  have a:e2 dIx (e2 dIx (eVar 0) (eVar 1)) (eC (.int 2)) ‹"c"›=.ok (rl (m k) ‹"J"›):=by (repeat walk_at "e")
  have b:e2 dIx (e2 dIx (e2 dIx (eVar 0) (eVar 1)) (eC (.int 1))) (eVar 2) ‹"c"›=.ok (dl (t k)[s]):=by (repeat walk_at "e")
  rw[a,Out.bind_ok,b,Out.bind_ok]
  show Out.ok (List.zipWith _ _ (((t k)[s]).map D.int))=_
  rw[hrow,List.zipWith_map,List.zipWith_self]
 obtain⟨ς',hL,p,a6,a7,a8,rfl,lp,qp,bp⟩:=Qhm (body:=fun x ς=>gT [6,7] x ς>>=fun ς'=>QcN ς') (f:=fun j=>D.tup [.int (ld k j),.int (ent (t k) s j)]) (n:=m k)
  (P:=fun j ς=>∃(p:Int×Int)(a6 a7 a8:Option (SM×D)),ς=[some (.k,P),some (.k,.int (k:Int)),some (.k,.int (s:Int)),some (.k,rl n (fun i=>fr (wr i))),some (.k,rl nd (fun i=>fr (dw i))),some (.k,fr p),a6,a7,a8]/\low p.1 p.2/\qt p=Bar.sm j (fun j=>(ent (t k) s j:Rat) * qt (bh ld wr dw k j))/\okB (1+j * 120) p)
  (by
   rintro j hj ς ⟨p,a6,a7,a8,rfl,lp,qp,bp⟩
   obtain⟨l1,l2⟩:=hs.ldr k j hk hj
   obtain⟨e0,e9⟩:=QOH hs h4 hw hd (s:=s) (j:=j) hk
   have hb:=bh_ok hs hw hd hk hj
   have hsel:eIf (tVal (e2 dLt (eVar 6) (eC (.int 0)))) (e2 dIx (eVar 4) (e2 dSub (e1 dNeg (eC (.int 1))) (eVar 6))) (e2 dIx (eVar 3) (eVar 6)) [some (.k,P),some (.k,.int (k:Int)),some (.k,.int (s:Int)),some (.k,rl n (fun i=>fr (wr i))),some (.k,rl nd (fun i=>fr (dw i))),some (.k,fr p),some (.k,.int (ld k j)),some (.k,.int (ent (t k) s j)),a8]=.ok (fr (bh ld wr dw k j)):=by
    unfold bh
    by_cases h:ld k j<0
    ·rw[if_pos h]
     have g0:dLt (.int (ld k j)) (.int 0)=.ok (.bl true):=by rw[Qam,decide_eq_true h]
     have x1:dIx (rl nd (fun i=>fr (dw i))) (.int (-1 - ld k j))=.ok (fr (dw (-1 - ld k j).toNat)):=by
      have:=ixR (n:=nd) (f:=fun i=>fr (dw i)) (show(-1 - ld k j).toNat<nd by omega)
      rw[Int.toNat_of_nonneg (by omega)]at this
      exact this
     (repeat walk_at "e")
    ·rw[if_neg h]
     have g0:dLt (.int (ld k j)) (.int 0)=.ok (.bl false):=by rw[Qam,decide_eq_false h]
     have x1:dIx (rl n (fun i=>fr (wr i))) (.int (ld k j))=.ok (fr (wr (ld k j).toNat)):=by
      have:=ixR (n:=n) (f:=fun i=>fr (wr i)) (show(ld k j).toNat<n by omega)
      rw[Int.toNat_of_nonneg (by omega)]at this
      exact this
     (repeat walk_at "e")
   obtain⟨hb1,hb2,hb3⟩:=hb
   generalize hB:bh ld wr dw k j=B at *
   have be:bitsI (ent (t k) s j)<=4:=QS (by omega)
   have by':okB 110 (ent (t k) s j * B.1,B.2):=⟨hb1.1,Nat.le_trans (Qcu be hb2) (by decide),QS (Nat.lt_of_le_of_lt hb3 (by decide))⟩
   obtain⟨p',lp',qp',bp',hp'⟩:=Qrk bp by' (by omega)
   have hp':Qaw [fr p,.tup [.int (ent (t k) s j * B.1),.int B.2]]=.ok (fr p'):=hp'
   have y0:=fr0 B
   have y1:=fr1 B
   refine⟨[some (.k,P),some (.k,.int (k:Int)),some (.k,.int (s:Int)),some (.k,rl n (fun i=>fr (wr i))),some (.k,rl nd (fun i=>fr (dw i))),some (.k,fr p'),some (.k,.int (ld k j)),some (.k,.int (ent (t k) s j)),some (.k,fr B)],?_,p',_,_,_,rfl,lp',?_,bp'.mono (by omega)⟩
   ·refine r_gT (by walk_at "all") ?_
    unfold QcN
    (repeat walk_at "e")
   ·rw[qp',qp]
    show _=Bar.sm j _+(ent (t k) s j:Rat) * qt (bh ld wr dw k j)
    rw[hB]
    congr 1
    unfold qt
    show((ent (t k) s j * B.1:Int):Rat) / (B.2:Rat)=_
    rw[Rat.intCast_mul]
    grind)
  ‹"c"› ⟨zero1,_,_,_,rfl,low0,qt0,okB0⟩
 have hfor:=Qa2 (g:=gT [6,7]) (T:=QcN) hz hL
 refine⟨p,lp,qp,bp.mono (by omega),?_⟩
 have s5:sSet 5 (eTup (aCons (eC (.int 0)) (aCons (eC (.int 1)) aNil))) [some (.k,P),some (.k,.int (k:Int)),some (.k,.int (s:Int)),some (.k,rl n (fun i=>fr (wr i))),some (.k,rl nd (fun i=>fr (dw i))),none,none,none,none]=.ok (.nx ‹"c"›):=rfl
 rw[Qqv]
 unfold QdJ
 (repeat walk_at "e")
end
theorem QEp:∀ l:List D,(∀ d∈l,layD d=true)->layDs l=true
 | [],_=>rfl
 | x::xs,h=>by
  show(layD x&&layDs xs)=true
  rw[h x (List.mem_cons_self ..),QEp xs fun d hd=>h d (List.mem_cons_of_mem _ hd)];rfl
theorem QEs{m:Nat}:∀ l:List D,(∀ d∈l,dep d<=m)->deps l<=m
 | [],_=>Nat.zero_le _
 | x::xs,h=>by
  show max (dep x) (deps xs)<=m
  have h1:=h x (List.mem_cons_self ..)
  have h2:=QEs xs fun d hd=>h d (List.mem_cons_of_mem _ hd)
  omega
theorem QMQ{d:D}(hl:layD d=true)(hd:dep d<=64):dEq d d=.ok (.bl true):=by
 have hs:=Qy1 hl hd
 rw[Qzi hs hs,PySem.SeqAt.eqv_refl _ (Qye _ hl)]
section
variable{t:List (List Int)}{m:Nat}{q:Nat->Rat}
theorem rsum(s:Nat)(h:s<=t.length):Bar.sm s (rowQ t m q)=Bar.sm m (fun j=>(cs t s j:Rat) * q j):=by
 induction s with
 | zero=>
  show(0:Rat)=_
  rw[Bar.sm_zero]
  intro j _
  have:cs t 0 j=0:=by unfold cs;simp
  rw[this]
  have e0:((0:Int):Rat)=0:=rfl
  rw[e0];grind
 | succ s ih=>
  show Bar.sm s (rowQ t m q)+rowQ t m q s=_
  rw[ih (by omega)]
  unfold rowQ
  rw[← Bar.sm_add]
  exact Bar.sm_congr fun j _=>by
   show(cs t s j:Rat) * q j+(ent t s j:Rat) * q j=(cs t (s+1) j:Rat) * q j
   rw[QOh (by omega),Rat.intCast_add];grind
def meanQ(t:‹"H"›)(m:Nat)(q:Nat->Rat):Rat:=Bar.sm t.length (rowQ t m q) / ((t.length:Int):Rat)
theorem Ql4(h1:1<=t.length)(s:Nat)(hs:s<=t.length):leanQ t m q s=((s:Int):Rat) * meanQ t m q - Bar.sm s (rowQ t m q):=by
 have hn:=Qal (z:=(t.length:Int)) (by omega)
 unfold meanQ
 rw[rsum s hs,rsum t.length (Nat.le_refl _)]
 unfold leanQ
 have e:Bar.sm m (fun j=>(((s:Int) * cs t t.length j - (t.length:Int) * cs t s j:Int):Rat) / ((t.length:Int):Rat) * q j)=Bar.sm m (fun j=>(((s:Int):Rat) / ((t.length:Int):Rat)) * ((cs t t.length j:Rat) * q j)+(-1) * ((cs t s j:Rat) * q j)):=Bar.sm_congr fun j _=>by
  show(((s:Int) * cs t t.length j - (t.length:Int) * cs t s j:Int):Rat) / ((t.length:Int):Rat) * q j=_
  rw[Rat.intCast_sub,Rat.intCast_mul,Rat.intCast_mul]
  generalize ((t.length:Int):Rat)=N at *
  grind
 rw[e,Bar.sm_add,Bar.sm_mul,Bar.sm_mul]
 grind
end
section
variable{n nd:Nat}{nm dn c:Nat->Str}{t:Nat->List (List Int)}{m:Nat->Nat}{ld:Nat->Nat->Int}{st kd:Nat->Int}(hs:Seats n nd nm dn c t m ld st)(h4:∀ k,k<n->(t k).length<=4/\m k<=4){wr dw:Nat->Int×Int}(hw:∀ i,i<n->okW (wr i))(hd:∀ i,i<nd->okW (dw i))
include hs hw hd h4
theorem QM6{k:Nat}(hk:k<n):∃ p:Int×Int,low p.1 p.2/\qt p=meanQ (t k) (m k) (fun j=>qt (bh ld wr dw k j))/\okB 2010 p/\
 Qdg [rl n ‹"h"›,.int (k:Int),rl n (fun i=>fr (wr i)),rl nd (fun i=>fr (dw i))]=.ok (fr p):=by
 obtain⟨n4,m4⟩:=h4 k hk
 have n1:=(hs.tb k hk).n1
 have x1:dIx (rl n ‹"h"›) (.int (k:Int))=.ok (planD kd t m ld st k):=ixR hk
 have x3:dIx (planD kd t m ld st k) (.int 1)=.ok (tbD (t k)):=ix_t 1 rfl
 have hlen:fLen [tbD (t k)]=.ok (.int ((t k).length:Int)):=by simp[fLen,tbD]
 have R:=fun s (h:s<(t k).length)=>QPy hs h4 hw hd (kd:=kd) hk h
 generalize hP:rl n ‹"h"›=P at *
 generalize hW:rl n (fun i=>fr (wr i))=W at *
 generalize hDW:rl nd (fun i=>fr (dw i))=DW at *
 obtain⟨ς',hL,p,a6,rfl,lp,qp,bp⟩:=QbA (body:=fun x ς=>gN 6 x ς>>=fun ς'=>QfA ς') (n:=(t k).length)
  (P:=fun s ς=>∃(p:Int×Int)(a6:Option (SM×D)),ς=[some (.k,P),some (.k,.int (k:Int)),some (.k,W),some (.k,DW),some (.k,fr p),some (.k,.int ((t k).length:Int)),a6]/\low p.1 p.2/\qt p=Bar.sm s (rowQ (t k) (m k) (fun j=>qt (bh ld wr dw k j)))/\okB (1+s * 501) p)
  (by
   rintro s hs' ς ⟨p,a6,rfl,lp,qp,bp⟩
   obtain⟨r,lr,qr,br,hr⟩:=R s hs'
   obtain⟨p',lp',qp',bp',hp'⟩:=Qrk bp br (by omega)
   refine⟨[some (.k,P),some (.k,.int (k:Int)),some (.k,W),some (.k,DW),some (.k,fr p'),some (.k,.int ((t k).length:Int)),some (.k,.int (s:Int))],?_,p',_,rfl,lp',?_,bp'.mono (by omega)⟩
   ·refine r_gN (by walk_at "s") ?_
    unfold QfA
    (repeat walk_at "e")
   ·rw[qp',qp,qr];rfl)
  [some (.k,P),some (.k,.int (k:Int)),some (.k,W),some (.k,DW),some (.k,fr zero1),some (.k,.int ((t k).length:Int)),none] ⟨zero1,_,rfl,low0,qt0,okB0⟩
 have hR:itR1 (eVar 5) [some (.k,P),some (.k,.int (k:Int)),some (.k,W),some (.k,DW),some (.k,fr zero1),some (.k,.int ((t k).length:Int)),none]=.ok (Qa4 0 (t k).length):=Qca (t k).length (by (repeat walk_at "e")) (by omega)
 have hfor:=Qa2 (g:=gN 6) (T:=QfA) hR hL
 have bl:bitsI ((t k).length:Int)<=4:=Qk4 (by omega)
 have q1:1 * 1<=p.2 * ((t k).length:Int):=Int.mul_le_mul bp.1 (by omega) (by decide) (by have:=bp.1;omega)
 have q:1<=p.2 * ((t k).length:Int):=by omega
 have bb:bitsI (p.2 * ((t k).length:Int))<=2010:=Nat.le_trans (Qcu bp.2.2 bl) (by omega)
 have hl:=QqA (a:=p.1) q (by omega)
 refine⟨pr p.1 (p.2 * ((t k).length:Int)),Qfs (by omega),?_,QKn q (Nat.le_trans bp.2.1 (by omega)) bb,?_⟩
 ·rw[qt_pr (by omega)]
  unfold meanQ
  rw[← qp,Rat.intCast_mul]
  have:=Qal bp.1
  have:=Qal (z:=((t k).length:Int)) (by omega)
  unfold qt
  grind
 ·have p0:=fr0 p
  have p1:=fr1 p
  have P2:bitsI p.2<=2010:=Nat.le_trans bp.2.2 (by omega)
  have s4:∀ a5 a6,sSet 4 (eTup (aCons (eC (.int 0)) (aCons (eC (.int 1)) aNil))) [some (.k,P),some (.k,.int (k:Int)),some (.k,W),some (.k,DW),none,a5,a6]=.ok (.nx [some (.k,P),some (.k,.int (k:Int)),some (.k,W),some (.k,DW),some (.k,fr zero1),a5,a6]):=fun _ _=>rfl
  rw[QFU]
  unfold QgM
  (repeat (first | with_reducible exact s4 _ _ | walk_at "e"))
end
theorem Qkq(i:Int):QbX [.int i]=.ok (.bl true):=by
 simp[QbX,Qiz,bodyF,retF,sSeq,thenF,sSet,sRet,sIf,sNil,eVar,eC,e1,e2,eA,f1,aNil,aCons,tVal,tAnd',tOr',tNot',eAnd,eOr,eNot,eIf,eTup,eLst,eIsa,isaT,Qas,oNo,oSome,sPar,sUnp,QX,gN,gT,fLen,Qah,Out.bind_ok,Out.bind_exc,Out.bind_stuck,Out.pure_eq,D.scal,Q7,QaD,QaV,QaN,Qam,QaG,Qbu,Qbd,QG,QaH,List.length_cons,List.length_nil,List.map_cons,List.map_nil,List.cons_append,List.nil_append,List.append_nil,List.getElem?_cons_zero,List.getElem?_cons_succ,List.set_cons_zero,List.set_cons_succ,List.replicate,Nat.reduceAdd,Nat.reduceSub,Nat.reduceLeDiff,Nat.zero_add,Nat.add_zero,reduceIte,Bool.not_true,Bool.not_false,Bool.true_and,Bool.and_true,Bool.false_and,Bool.and_false,Bool.or_true,Bool.true_or,Bool.or_false,Bool.false_or,Bool.false_eq_true,decide_true,decide_false,decide_eq_true_eq,Bool.not_eq_true',decide_eq_false_iff_not,Int.reduceEq,Int.reduceLT,Int.reduceLE,Int.reduceNeg,Nat.reduceEqDiff, ↓reduceIte,not_true_eq_false,not_false_eq_true]
theorem fr_eq(x:Int×Int):dEq (fr x) (fr x)=.ok (.bl true):=QMQ rfl (show dep (fr x)<=64 from Nat.le_of_ble_eq_true rfl)
theorem QOg(x:Int×Int):Qc8 [fr x,fr x]=.ok (.bl true):=by
 have hi:isaT "tuple" (fr x)=.ok true:=by simp[isaT,Qas,fr]
 have hl:fLen [fr x]=.ok (.int 2):=by simp[fLen,fr]
 have hne:dNe (.int 2) (.int 2)=.ok (.bl false):=by rw[QaH];rfl
 have x0:=fr0 x
 have x1:=fr1 x
 have w0:=Qkq x.1
 have w1:=Qkq x.2
 have he:=fr_eq x
 rw[QG6]
 unfold QgW
 (repeat walk_at "e")
theorem Ql6(ns:List Int)(k:Nat):∃ v:Int,Q3 [.lst (ns.map .int),.int (k:Int)]=.ok (.int v):=by
 have hlen:fLen [.lst (ns.map D.int)]=.ok (.int (ns.length:Int)):=by simp[fLen]
 by_cases h:k<ns.length
 ·have hlt:dLt (.int (k:Int)) (.int (ns.length:Int))=.ok (.bl true):=by rw[Qam,decide_eq_true (by omega)]
  have hix:dIx (.lst (ns.map .int)) (.int (k:Int))=.ok (.int ns[k]):=ixL k (by rw[List.getElem?_map,List.getElem?_eq_getElem h];rfl)
  refine⟨ns[k],?_⟩
  rw[Qqr]
  unfold Qfr
  (repeat walk_at "e")
 ·have hlt:dLt (.int (k:Int)) (.int (ns.length:Int))=.ok (.bl false):=by rw[Qam,decide_eq_false (by omega)]
  refine⟨0,?_⟩
  rw[Qqr]
  unfold Qfr
  (repeat walk_at "e")
theorem Qdk(c:Int){k:Int}(hk:bitsI k<=300):∃ x:Int,0<=x/\x<2305843009213693951/\QH [.int c,.int k]=.ok (.int x):=by
 have b1:bitsI ((c % 1000000007+7919 * k * k+31 * k+1) * 6364136223846793005 % 2305843009213693951)<=100:=bd_in (Int.emod_nonneg _ (by decide)) (Int.lt_trans (Int.emod_lt_of_pos _ (by decide)) (by decide))
 generalize hy:(c % 1000000007+7919 * k * k+31 * k+1) * 6364136223846793005=y at b1
 have s1:e2 dMul (e2 dAdd (e2 dAdd (e2 dAdd (e2 dMod (eVar 0) (eC (.int 1000000007))) (e2 dMul (e2 dMul (eC (.int 7919)) (eVar 1)) (eVar 1))) (e2 dMul (eC (.int 31)) (eVar 1))) (eC (.int 1))) (eC (.int 6364136223846793005)) [some (.k,.int c),some (.k,.int k),none]=.ok (.int y):=by
  rw[← hy]
  (repeat walk_at "e")
 refine⟨_,Int.emod_nonneg ((y % 2305843009213693951) * (y % 2305843009213693951)) (by decide:(2305843009213693951:Int)≠0),Int.emod_lt_of_pos _ (by decide),?_⟩
 rw[QBu]
 unfold Qgd
 (repeat walk_at "e")
theorem pick8(x:Int):∃ b:Int,0<=b/\b<=9/\dIx (.lst [.int 0,.int 1,.int 0,.int 2,.int 1,.int 0,.int 1,.int 0]) (.int (x % 8))=.ok (.int b):=by
 rcases(by omega:x % 8=0∨x % 8=1∨x % 8=2∨x % 8=3∨x % 8=4∨x % 8=5∨x % 8=6∨x % 8=7) with e | e | e | e | e | e | e | e<;>rw[e]
 ·exact⟨0,by omega,by omega,rfl⟩
 ·exact⟨1,by omega,by omega,rfl⟩
 ·exact⟨0,by omega,by omega,rfl⟩
 ·exact⟨2,by omega,by omega,rfl⟩
 ·exact⟨1,by omega,by omega,rfl⟩
 ·exact⟨0,by omega,by omega,rfl⟩
 ·exact⟨1,by omega,by omega,rfl⟩
 ·exact⟨0,by omega,by omega,rfl⟩
theorem Qs4(d:Int){m:Nat}(hm:m<=100):∃ r:List Int,r.length=m/\(∀ x∈r,0<=x/\x<=9)/\QbF [.int d,.int (m:Int)]=.ok (dl r):=by
 obtain⟨ς',hL,v,r,a3,rfl,hl,hr⟩:=QbA (body:=fun x ς=>gN 3 x ς>>=fun ς'=>QcZ ς') (n:=m)
  (P:=fun k ς=>∃(v:Int)(r:List Int)(a3:Option (SM×D)),ς=[some (.k,.int v),some (.k,.int (m:Int)),some (.o,dl r),a3]/\r.length=k/\∀ x∈r,0<=x/\x<=9)
  (by
   rintro k hk ς ⟨v,r,a3,rfl,hl,hr⟩
   obtain⟨b,b0,b9,hb⟩:=pick8 v
   refine⟨[some (.k,.int (v / 8)),some (.k,.int (m:Int)),some (.o,dl (r++[b])),some (.k,.int (k:Int))],?_,v / 8,r++[b],_,rfl,by rw[List.length_append,hl];rfl,fun x hx=>by
    rcases List.mem_append.mp hx with w | w
    ·exact hr x w
    ·rw[List.mem_singleton.mp w];exact⟨b0,b9⟩⟩
   have hle:(r.map D.int).length<=1000:=by rw[List.length_map];omega
   have ea:dl (r++[b])=.lst (r.map D.int++[.int b]):=by unfold dl;simp
   rw[ea]
   show(gN 3 (D.int (k:Int)) [some (.k,.int v),some (.k,.int (m:Int)),some (.o,.lst (r.map D.int)),a3]>>=fun ς'=>QcZ ς')=_
   refine r_gN (by walk_at "s") ?_
   unfold QcZ
   (repeat walk_at "e"))
  [some (.k,.int d),some (.k,.int (m:Int)),some (.o,.lst []),none] ⟨d,[],_,rfl,rfl,fun x hx=>absurd hx List.not_mem_nil⟩
 have hR:itR1 (eVar 1) [some (.k,.int d),some (.k,.int (m:Int)),some (.o,.lst []),none]=.ok (Qa4 0 m):=Qca m (by (repeat walk_at "e")) (by omega)
 have hfor:=Qa2 (g:=gN 3) (T:=QcZ) hR hL
 refine⟨r,hl,hr,?_⟩
 rw[Qzm]
 unfold QfL
 (repeat walk_at "e")
inductive Kd:Int->List (List Int)->Nat->Prop where
 | deal (n:Nat) (h1:1<=n) (h2:n<=4):Kd 0 (dealT n) n
 | bun (n:Nat) (h1:1<=n) (h2:n<=4):Kd 1 (bunT n) 1
 | copy (r:List Int) (m:Nat) (h:Tb [r] m) (hm:m<=4):Kd 2 [r] m
 | rows (t:List (List Int)) (m:Nat) (h:Tb t m) (h4:t.length<=4) (hm:m<=4):Kd 3 t m
theorem Kd.tb{w:Int}{t:‹"H"›}{m:Nat}:Kd w t m->Tb t m/\t.length<=4/\m<=4
 | .deal n h1 h2=>⟨QEc h1 (by omega),by simp[dealT];omega,h2⟩
 | .bun n h1 h2=>⟨QIp h1 (by omega),by simp[bunT];omega,by decide⟩
 | .copy _ _ h hm=>⟨h,by simp,hm⟩
 | .rows _ _ h h4 hm=>⟨h,h4,hm⟩
theorem Kd.num{w:Int}{t:‹"H"›}{m:Nat}:Kd w t m->w=0∨w=1∨w=2∨w=3
 | .deal .. => .inl rfl
 | .bun .. => .inr (.inl rfl)
 | .copy .. => .inr (.inr (.inl rfl))
 | .rows .. => .inr (.inr (.inr rfl))
theorem dbl(b:Bool):f1 dInt [.bl b]=.ok (.int (if b=true then 1 else 0)):=by cases b<;>rfl
theorem QK6{w:Int}{t:‹"H"›}{m:Nat}(h:Kd w t m):∃ c,CK.contains c=true/\Qbz [.int w,tbD t]=.ok (ck c t m):=by
 have hlen:fLen [tbD t]=.ok (.int (t.length:Int)):=by simp[fLen,tbD]
 have e00:dEq (.int 0) (.int 0)=.ok (.bl true):=by rw[QG];rfl
 have e10:dEq (.int 1) (.int 0)=.ok (.bl false):=by rw[QG];rfl
 have e11:dEq (.int 1) (.int 1)=.ok (.bl true):=by rw[QG];rfl
 have e20:dEq (.int 2) (.int 0)=.ok (.bl false):=by rw[QG];rfl
 have e21:dEq (.int 2) (.int 1)=.ok (.bl false):=by rw[QG];rfl
 have e22:dEq (.int 2) (.int 2)=.ok (.bl true):=by rw[QG];rfl
 have e30:dEq (.int 3) (.int 0)=.ok (.bl false):=by rw[QG];rfl
 have e31:dEq (.int 3) (.int 1)=.ok (.bl false):=by rw[QG];rfl
 have e32:dEq (.int 3) (.int 2)=.ok (.bl false):=by rw[QG];rfl
 cases h with
 | deal _ h1 h2=>
  have hl:(dealT m).length=m:=by simp[dealT]
  rw[hl]at hlen
  have hi:=QI7 (c:="Deal") (dk) h1 (by omega)
  refine⟨"Deal",dk,?_⟩
  unfold ck
  rw[Qge]
  unfold QcE
  (repeat walk_at "e")
 | bun n h1 h2=>
  have hl:(bunT n).length=n:=by simp[bunT]
  rw[hl]at hlen
  have hi:=QKz (c:="Bundle") (dk) h1 (by omega)
  refine⟨"Bundle",dk,?_⟩
  unfold ck
  rw[Qge]
  unfold QcE
  (repeat walk_at "e")
 | copy r m h hm=>
  have hi:=QKw (c:="Copy") (dk) h
  have hix0:dIx (tbD [r]) (.int 0)=.ok (dl r):=ixL 0 rfl
  have hdl:dList (dl r)=.ok (dl r):=rfl
  refine⟨"Copy",dk,?_⟩
  unfold ck
  rw[Qge]
  unfold QcE
  (repeat walk_at "e")
 | rows t m h h4 hm=>
  have hi:=QH0 (c:="Rows") (dk) h
  have hc:eComp [none] (itL (eVar 1)) (gN 0) cTrue Qkm [some (.k,.int 3),some (.k,tbD t)]=.ok (tbD t):=by
   refine Q1 dl dl rfl (fun x hx=>?_) (by have:=h.n2;omega)
   refine Qab (by walk_at "cap") (by walk_at "s") ?_
   rfl
  refine⟨"Rows",dk,?_⟩
  unfold ck
  rw[Qge]
  unfold QcE
  (repeat walk_at "e")
theorem QpN{ς ς':SD}{i:Nat}{d:D}(e:ς[i]?=some (some (.o,d)))(h:ς.set i (some (.k,d))=ς'):frz i ς=ς':=by
 unfold frz
 rw[e]
 exact h
theorem QpQ{T:SD->Out Fl}{j:Nat}{ς ς1:SD}{r:Out Fl}(hz:frz j ς=ς1)(h:T ς1=r):(fun ς=>T (frz j ς)) ς=r:=by
 show T (frz j ς)=r
 rw[hz];exact h
theorem QsX(t:‹"H"›)(r:List Int):tbD (t++[r])=.lst (t.map dl++[dl r]):=by unfold tbD;simp
theorem QlS{N w:Int}{size:Nat}{Pr:Nat->List Int->Prop}(hz:size<=10) (step:∀ s:Nat,s<size->∃ r:List Int,Pr s r/\∀ t:List (List Int),t.length<=100->
 Q6 [some (.k,.int N),some (.k,.int w),some (.k,.int (size:Int)),some (.o,tbD t),some (.k,.int (s:Int))]=.ok (.nx [some (.k,.int N),some (.k,.int w),some (.k,.int (size:Int)),some (.o,tbD (t++[r])),some (.k,.int (s:Int))])):
 ∃(t:‹"H"›)(a4:Option (SM×D)),t.length=size/\(∀ s,s<size->∃ r,t[s]?=some r/\Pr s r)/\
  sFor (gN 4) (itR1 (eVar 2)) Q6 [some (.k,.int N),some (.k,.int w),some (.k,.int (size:Int)),some (.o,.lst []),none]=.ok (.nx [some (.k,.int N),some (.k,.int w),some (.k,.int (size:Int)),some (.o,tbD t),a4]):=by
 obtain⟨ς',hL,t,a4,rfl,hl,hp⟩:=QbA (body:=fun x ς=>gN 4 x ς>>=fun ς'=>Q6 ς') (n:=size)
  (P:=fun s ς=>∃(t:‹"H"›)(a4:Option (SM×D)),ς=[some (.k,.int N),some (.k,.int w),some (.k,.int (size:Int)),some (.o,tbD t),a4]/\t.length=s/\∀ i,i<s->∃ r,t[i]?=some r/\Pr i r)
  (by
   rintro s hs ς ⟨t,a4,rfl,hl,hp⟩
   obtain⟨r,pr',hr⟩:=step s hs
   refine⟨[some (.k,.int N),some (.k,.int w),some (.k,.int (size:Int)),some (.o,tbD (t++[r])),some (.k,.int (s:Int))],r_gN (by walk_at "s") (hr t (by omega)),t++[r],_,rfl,by rw[List.length_append,hl];rfl,fun i hi=>?_⟩
   by_cases h:i<s
   ·obtain⟨r',h1,h2⟩:=hp i h
    exact⟨r',by rw[List.getElem?_append_left (by omega)];exact h1,h2⟩
   ·have:i=s:=by omega
    subst this
    exact⟨r,by rw[List.getElem?_append_right (by omega),hl];simp,pr'⟩)
  [some (.k,.int N),some (.k,.int w),some (.k,.int (size:Int)),some (.o,.lst []),none] ⟨[],_,rfl,rfl,fun i hi=>absurd hi (by omega)⟩
 have hR:itR1 (eVar 2) [some (.k,.int N),some (.k,.int w),some (.k,.int (size:Int)),some (.o,.lst []),none]=.ok (Qa4 0 size):=Qca size (by (repeat walk_at "e")) (by omega)
 exact⟨t,a4,hl,hp,Qa2 (g:=gN 4) (T:=Q6) hR hL⟩
theorem QEL{t:‹"H"›}{n:Nat}{f:Nat->List Int}(hl:t.length=n)(h:∀ s,s<n->∃ r,t[s]?=some r/\r=f s):t=(List.range n).map f:=by
 apply List.ext_getElem?
 intro i
 rw[List.getElem?_map]
 by_cases hi:i<n
 ·obtain⟨r,h1,h2⟩:=h i hi
  rw[List.getElem?_range hi,h1,h2];rfl
 ·have a:t[i]?=none:=by simp;omega
  have b:(List.range n)[i]?=none:=by simp;omega
  rw[a,b];rfl
theorem QOb{N:Int}(h0:0<=N)(hb:bitsI N<=200):∃ w t m,Kd w t m/\Qcq [.int N]=.ok (.tup [.int w,tbD t]):=by
 obtain⟨sz,hsz⟩:∃ n:Nat,1+N / 4 % 4=(n:Int):=⟨(1+N / 4 % 4).toNat,by omega⟩
 have z1:1<=sz:=by omega
 have z4:sz<=4:=by omega
 have g2:∀ w,sSet 2 (e2 dAdd (eC (.int 1)) (e2 dMod (e2 dFdiv (eVar 0) (eC (.int 4))) (eC (.int 4)))) [some (.k,.int N),some (.k,.int w),none,none,none]=.ok (.nx [some (.k,.int N),some (.k,.int w),some (.k,.int (sz:Int)),none,none]):=fun w=>by
  rw[← hsz]
  (repeat walk_at "e")
 have k01:dEq (.int 0) (.int 1)=.ok (.bl false):=by rw[QG];rfl
 have k03:dEq (.int 0) (.int 3)=.ok (.bl false):=by rw[QG];rfl
 have k02:dEq (.int 0) (.int 2)=.ok (.bl false):=by rw[QG];rfl
 have k00:dEq (.int 0) (.int 0)=.ok (.bl true):=by rw[QG];rfl
 have k10:dEq (.int 1) (.int 0)=.ok (.bl false):=by rw[QG];rfl
 have k11:dEq (.int 1) (.int 1)=.ok (.bl true):=by rw[QG];rfl
 have k12:dEq (.int 1) (.int 2)=.ok (.bl false):=by rw[QG];rfl
 have k13:dEq (.int 1) (.int 3)=.ok (.bl false):=by rw[QG];rfl
 have k20:dEq (.int 2) (.int 0)=.ok (.bl false):=by rw[QG];rfl
 have k21:dEq (.int 2) (.int 1)=.ok (.bl false):=by rw[QG];rfl
 have k22:dEq (.int 2) (.int 2)=.ok (.bl true):=by rw[QG];rfl
 have k23:dEq (.int 2) (.int 3)=.ok (.bl false):=by rw[QG];rfl
 have k30:dEq (.int 3) (.int 0)=.ok (.bl false):=by rw[QG];rfl
 have k31:dEq (.int 3) (.int 1)=.ok (.bl false):=by rw[QG];rfl
 have k32:dEq (.int 3) (.int 2)=.ok (.bl false):=by rw[QG];rfl
 have k33:dEq (.int 3) (.int 3)=.ok (.bl true):=by rw[QG];rfl
 have g1:∀ w:Int,N % 4=w->sSet 1 (e2 dMod (eVar 0) (eC (.int 4))) [some (.k,.int N),none,none,none,none]=.ok (.nx [some (.k,.int N),some (.k,.int w),none,none,none]):=fun w e=>by
  rw[← e]
  (repeat walk_at "e")
 have g3:∀ w:Int,sSetO 3 (eLst aNil) [some (.k,.int N),some (.k,.int w),some (.k,.int (sz:Int)),none,none]=.ok (.nx [some (.k,.int N),some (.k,.int w),some (.k,.int (sz:Int)),some (.o,.lst []),none]):=fun w=>by (repeat walk_at "e")
 have fin:∀(w:Int)(t:‹"H"›)(a4:Option (SM×D)),(fun ς=>sRet (eTup (aCons (eVar 1) (aCons (eVar 3) aNil))) (frz 3 ς)) [some (.k,.int N),some (.k,.int w),some (.k,.int (sz:Int)),some (.o,tbD t),a4]=.ok (.rt false (.tup [.int w,tbD t])):=fun w t a4=>
  QpQ (QpN (i:=3) rfl rfl) (by (repeat walk_at "e"))
 rcases(by omega:N % 4=0∨N % 4=1∨N % 4=2∨N % 4=3) with e | e | e | e
 ·obtain⟨t,a4,hl,hp,hfor⟩:=QlS (N:=N) (w:=0) (size:=sz) (Pr:=fun s r=>r=one sz s) (by omega) (fun s hs=>⟨one sz s,rfl,fun t ht=>by
   have hc:eComp [none,some 4] (itR1 (eVar 2)) (gN 0) cTrue Qhq [some (.k,.int N),some (.k,.int 0),some (.k,.int (sz:Int)),some (.o,.lst (t.map dl)),some (.k,.int (s:Int))]=.ok (dl (one sz s)):=by
    have he:dl (one sz s)=.lst ((List.range sz).map fun k:Nat=>D.int (if k=s then 1 else 0)):=by unfold dl one;rw[List.map_map];rfl
    rw[he]
    refine Qg9 (fun k=>D.int (if k=s then 1 else 0)) (Qca sz rfl (by omega)) (fun k hk=>?_) (by omega)
    refine Qab (by walk_at "cap") (by walk_at "s") ?_
    unfold Qhq
    have e:(if k=s then(1:Int) else 0)=(if decide ((k:Int)=(s:Int))=true then 1 else 0):=by
     by_cases e:k=s
     ·rw[if_pos e,if_pos (decide_eq_true (by omega))]
     ·rw[if_neg e,if_neg (by simp;omega)]
    rw[e]
    (repeat (first | with_reducible exact dbl _ | walk_at "e"))
   have hle:(t.map dl).length<=1000:=by rw[List.length_map];omega
   rw[QsX]
   show Q6 [some (.k,.int N),some (.k,.int 0),some (.k,.int (sz:Int)),some (.o,.lst (t.map dl)),some (.k,.int (s:Int))]=_
   unfold Q6
   (repeat walk_at "e")⟩)
  have et:t=dealT sz:=QEL hl hp
  refine⟨0,dealT sz,sz,.deal sz z1 z4,?_⟩
  rw[et]at hfor
  have fin':=fin 0 (dealT sz) a4
  rw[QgT]
  unfold Qdd
  have:=g1 0 e
  (repeat (first | with_reducible exact g2 _ | with_reducible exact g3 _ | walk_at "e"))
 ·obtain⟨t,a4,hl,hp,hfor⟩:=QlS (N:=N) (w:=1) (size:=sz) (Pr:=fun s r=>r=[if s+1=sz then 1 else 0]) (by omega) (fun s hs=>⟨[if s+1=sz then 1 else 0],rfl,fun t ht=>by
   have e:(if s+1=sz then(1:Int) else 0)=(if decide ((s:Int)=(sz:Int) - 1)=true then 1 else 0):=by
    by_cases e:s+1=sz
    ·rw[if_pos e,if_pos (decide_eq_true (by omega))]
    ·rw[if_neg e,if_neg (by simp;omega)]
   have hle:(t.map dl).length<=1000:=by rw[List.length_map];omega
   rw[QsX,e]
   show Q6 [some (.k,.int N),some (.k,.int 1),some (.k,.int (sz:Int)),some (.o,.lst (t.map dl)),some (.k,.int (s:Int))]=Out.ok (Fl.nx [_,_,_,some (.o,.lst (t.map dl++[.lst [.int (if decide ((s:Int)=(sz:Int) - 1)=true then 1 else 0)]])),_])
   unfold Q6
   (repeat (first | with_reducible exact dbl _ | walk_at "e"))⟩)
  have et:t=bunT sz:=QEL hl hp
  refine⟨1,bunT sz,1,.bun sz z1 z4,?_⟩
  rw[et]at hfor
  have fin':=fin 1 (bunT sz) a4
  rw[QgT]
  unfold Qdd
  have:=g1 1 e
  (repeat (first | with_reducible exact g2 _ | with_reducible exact g3 _ | walk_at "e"))
 ·have hloop:∃ a4,sFor (gN 4) (itR1 (eVar 2)) Q6 [some (.k,.int N),some (.k,.int 2),some (.k,.int (sz:Int)),some (.o,.lst []),none]=.ok (.nx [some (.k,.int N),some (.k,.int 2),some (.k,.int (sz:Int)),some (.o,.lst []),a4]):=by
   obtain⟨ς',hL,a4,rfl⟩:=QbA (body:=fun x ς=>gN 4 x ς>>=fun ς'=>Q6 ς') (n:=sz)
    (P:=fun s ς=>∃(a4:Option (SM×D)),ς=[some (.k,.int N),some (.k,.int 2),some (.k,.int (sz:Int)),some (.o,.lst []),a4])
    (by
     rintro s hs ς ⟨a4,rfl⟩
     refine⟨[some (.k,.int N),some (.k,.int 2),some (.k,.int (sz:Int)),some (.o,.lst []),some (.k,.int (s:Int))],?_,_,rfl⟩
     refine r_gN (by walk_at "s") ?_
     unfold Q6
     (repeat walk_at "e"))
    [some (.k,.int N),some (.k,.int 2),some (.k,.int (sz:Int)),some (.o,.lst []),none] ⟨_,rfl⟩
   have hR:itR1 (eVar 2) [some (.k,.int N),some (.k,.int 2),some (.k,.int (sz:Int)),some (.o,.lst []),none]=.ok (Qa4 0 sz):=Qca sz (by (repeat walk_at "e")) (by omega)
   exact⟨a4,Qa2 (g:=gN 4) (T:=Q6) hR hL⟩
  obtain⟨a4,hfor⟩:=hloop
  obtain⟨r,hr,hr9,hc⟩:=Qs4 (N / 64) (m:=sz - 1) (by omega)
  have ec:((sz - 1:Nat):Int)=(sz:Int) - 1:=by omega
  rw[ec]at hc
  refine⟨2,[r],sz - 1,.copy r (sz - 1) ⟨by simp,by simp,by omega,fun x hx=>by rw[List.mem_singleton.mp hx];exact hr,fun x hx=>by rw[List.mem_singleton.mp hx];exact hr9⟩ (by omega),?_⟩
  have fin':=fin 2 [r] a4
  have fin':(fun ς=>sRet (eTup (aCons (eVar 1) (aCons (eVar 3) aNil))) (frz 3 ς)) [some (.k,.int N),some (.k,.int 2),some (.k,.int (sz:Int)),some (.o,.lst [dl r]),a4]=.ok (.rt false (.tup [.int 2,tbD [r]])):=fin'
  rw[QgT]
  unfold Qdd
  have:=g1 2 e
  (repeat (first | with_reducible exact g2 _ | with_reducible exact g3 _ | walk_at "e"))
 ·obtain⟨ot,hot⟩:∃ n:Nat,N / 16 % 4=(n:Int):=⟨(N / 16 % 4).toNat,by omega⟩
  have o4:ot<=4:=by omega
  obtain⟨t,a4,hl,hp,hfor⟩:=QlS (N:=N) (w:=3) (size:=sz) (Pr:=fun s r=>r.length=ot/\∀ x∈r,0<=x/\x<=9) (by omega) (fun s hs=>by
   obtain⟨r,hr,hr9,hc⟩:=Qs4 (N / 64+48271 * (s:Int) * (s:Int)) (m:=ot) (by omega)
   refine⟨r,⟨hr,hr9⟩,fun t ht=>?_⟩
   rw[← hot]at hc
   have bs:bitsI (s:Int)<=100:=Qk4 (Nat.lt_of_lt_of_le hs (Nat.le_trans z4 (by decide)))
   have hle:(t.map dl).length<=1000:=by rw[List.length_map];omega
   rw[QsX]
   show Q6 [some (.k,.int N),some (.k,.int 3),some (.k,.int (sz:Int)),some (.o,.lst (t.map dl)),some (.k,.int (s:Int))]=_
   unfold Q6
   (repeat walk_at "e"))
  have tb:Tb t ot:=⟨by omega,by omega,by omega,fun r hr=>by
   obtain⟨i,hi,e⟩:=List.getElem_of_mem hr
   obtain⟨r',h1,h2⟩:=hp i (by omega)
   rw[List.getElem?_eq_getElem hi,e]at h1
   cases h1;exact h2.1,fun r hr=>by
   obtain⟨i,hi,e⟩:=List.getElem_of_mem hr
   obtain⟨r',h1,h2⟩:=hp i (by omega)
   rw[List.getElem?_eq_getElem hi,e]at h1
   cases h1;exact h2.2⟩
  refine⟨3,t,ot,.rows t ot tb (by omega) o4,?_⟩
  have fin':=fin 3 t a4
  rw[QgT]
  unfold Qdd
  have:=g1 3 e
  (repeat (first | with_reducible exact g2 _ | with_reducible exact g3 _ | walk_at "e"))
theorem Qzr(n:Nat)(f:Nat->D)(d:D):(List.range n).map f++[d]=(List.range (n+1)).map fun i=>if i<n then f i else d:=by
 rw[List.range_succ,List.map_append]
 congr 1
 ·exact List.map_congr_left fun j hj=>by rw[if_pos (List.mem_range.mp hj)]
 ·show [d]=[if n<n then f n else d];rw[if_neg (by omega)]
section
variable{n nd:Nat}(n1:1<=n)(n5:n<=5)(d1:1<=nd)(d3:nd<=3){S:D}{f0 num:Int}{ring:Bool}{PL:D}{kd:Int}{t:List (List Int)}{m:Nat}(tb:Tb t m)(m4:m<=4)(hnum:bitsI num<=300)
include n1 n5 d1 d3 tb m4 hnum
theorem QE1{k:Nat}(hk:k<n){a11 a12:Option (SM×D)}:∃(ld:Nat->Int)(b11 b12:Option (SM×D)),(∀ j,j<m -> -(nd:Int)<=ld j/\ld j<(n:Int))/\
 sFor (gN 11) (itR1 (eA fLen (aCons (e2 dIx (eVar 9) (eC (.int 0))) aNil))) QdL ‹"j"›
  = .ok (.nx [some (.k,S),some (.k,.int f0),some (.k,.int (n:Int)),some (.k,.int (nd:Int)),some (.k,.bl ring),some (.o,PL),some (.k,.int (k:Int)),some (.k,.int num),some (.k,.int kd),some (.k,tbD t),some (.o,rl m (fun j=>.int (ld j))),b11,b12]):=by
 have t1:=tb.n1
 have r0:t[0]?=some t[0]:=by simp
 have hix:dIx (tbD t) (.int 0)=.ok (dl t[0]):=ixL 0 (by rw[List.getElem?_map,r0];rfl)
 have hl0:fLen [dl t[0]]=.ok (.int (m:Int)):=by simp[fLen,dl,tb.row _ (List.getElem_mem _)]
 have np:(0:Int)<(n:Int)+(nd:Int):=by omega
 have dp:(0:Int)<(nd:Int):=by omega
 obtain⟨ς',hL,ld,b11,b12,rfl,hld⟩:=QbA (body:=fun x ς=>gN 11 x ς>>=fun ς'=>QdL ς') (n:=m)
  (P:=fun j ς=>∃(ld:Nat->Int)(b11 b12:Option (SM×D)),ς=[some (.k,S),some (.k,.int f0),some (.k,.int (n:Int)),some (.k,.int (nd:Int)),some (.k,.bl ring),some (.o,PL),some (.k,.int (k:Int)),some (.k,.int num),some (.k,.int kd),some (.k,tbD t),some (.o,rl j (fun j=>.int (ld j))),b11,b12]/\∀ i,i<j -> -(nd:Int)<=ld i/\ld i<(n:Int))
  (by
   rintro j hj ς ⟨ld,b11,b12,rfl,hld⟩
   obtain⟨x,x0,x1,hx⟩:=Qdk num (k:=(j:Int)) (Qk4 (Nat.lt_of_lt_of_le hj (Nat.le_trans m4 (by decide))))
   have y0:=Int.emod_nonneg x (show(n:Int)+(nd:Int)≠0 by omega)
   have y1:=Int.emod_lt_of_pos x np
   have hdiv:e2 dMod (eA (fun xs=>QH (xs++[])) (aCons (eVar 7) (aCons (eVar 11) aNil))) (e2 dAdd (eVar 2) (eVar 3)) [some (.k,S),some (.k,.int f0),some (.k,.int (n:Int)),some (.k,.int (nd:Int)),some (.k,.bl ring),some (.o,PL),some (.k,.int (k:Int)),some (.k,.int num),some (.k,.int kd),some (.k,tbD t),some (.o,rl j (fun j=>.int (ld j))),some (.k,.int (j:Int)),b12]=.ok (.int (x % ((n:Int)+(nd:Int)))):=by (repeat walk_at "e")
   generalize x % ((n:Int)+(nd:Int))=y at *
   have hto:∃ z:Int,0<=z/\z<(n:Int)+(nd:Int)/\sIf (tAnd' (tNot' (tVal (eVar 4))) (tVal (e2 dLe (eVar 12) (eVar 6)))) (sSet 12 (e2 dAdd (eVar 2) (e2 dMod (eVar 12) (eVar 3)))) sNil [some (.k,S),some (.k,.int f0),some (.k,.int (n:Int)),some (.k,.int (nd:Int)),some (.k,.bl ring),some (.o,PL),some (.k,.int (k:Int)),some (.k,.int num),some (.k,.int kd),some (.k,tbD t),some (.o,rl j (fun j=>.int (ld j))),some (.k,.int (j:Int)),some (.k,.int y)]
    = .ok (.nx ‹"F"›):=by
    cases ring with
    | true=>
     refine⟨y,y0,y1,?_⟩
     (repeat walk_at "e")
    | false=>
     by_cases h:y<=(k:Int)
     ·have w0:=Int.emod_nonneg y (show(nd:Int)≠0 by omega)
      have w1:=Int.emod_lt_of_pos y dp
      have hle:dLe (.int y) (.int (k:Int))=.ok (.bl true):=by rw[QaG,decide_eq_true h]
      refine⟨(n:Int)+y % (nd:Int),by omega,by omega,?_⟩
      (repeat walk_at "e")
     ·have hle:dLe (.int y) (.int (k:Int))=.ok (.bl false):=by rw[QaG,decide_eq_false h]
      refine⟨y,y0,y1,?_⟩
      (repeat walk_at "e")
   obtain⟨z,z0,z1,hz⟩:=hto
   have hl:∃ v:Int, -(nd:Int)<=v/\v<(n:Int)/\eIf (tVal (e2 dLt (eVar 12) (eVar 2))) (eVar 12) (e2 dSub (e2 dSub (eVar 2) (eC (.int 1))) (eVar 12)) ‹"F"›=.ok (.int v):=by
    by_cases h:z<(n:Int)
    ·have hlt:dLt (.int z) (.int (n:Int))=.ok (.bl true):=by rw[Qam,decide_eq_true h]
     refine⟨z,by omega,h,?_⟩
     (repeat walk_at "e")
    ·have hlt:dLt (.int z) (.int (n:Int))=.ok (.bl false):=by rw[Qam,decide_eq_false h]
     refine⟨(n:Int) - 1 - z,by omega,by omega,?_⟩
     (repeat walk_at "e")
   obtain⟨v,v0,v1,hv⟩:=hl
   have ea:(List.range j).map (fun j=>D.int (ld j))++[.int v]=(List.range (j+1)).map (fun i=>D.int ((fun i=>if i<j then ld i else v) i)):=by
    rw[Qzr]
    exact List.map_congr_left fun i _=>by show(if i<j then D.int (ld i) else .int v)=.int (if i<j then ld i else v);split<;>rfl
   have hle:((List.range j).map (fun j=>D.int (ld j))).length<=1000:=by rw[List.length_map,List.length_range];omega
   refine⟨[some (.k,S),some (.k,.int f0),some (.k,.int (n:Int)),some (.k,.int (nd:Int)),some (.k,.bl ring),some (.o,PL),some (.k,.int (k:Int)),some (.k,.int num),some (.k,.int kd),some (.k,tbD t),some (.o,rl (j+1) (fun i=>.int ((fun i=>if i<j then ld i else v) i))),some (.k,.int (j:Int)),some (.k,.int z)],?_,fun i=>if i<j then ld i else v,_,_,rfl,fun i hi=>?_⟩
   ·show _=Out.ok (Fl.nx [_,_,_,_,_,_,_,_,_,_,some (.o,.lst ((List.range (j+1)).map (fun i=>D.int ((fun i=>if i<j then ld i else v) i)))),_,_])
    rw[← ea]
    refine r_gN (by walk_at "s") ?_
    unfold QdL
    (repeat walk_at "e")
   ·show -(nd:Int)<=(if i<j then ld i else v)/\(if i<j then ld i else v)<(n:Int)
    split
    ·rename_i w;exact hld i w
    ·exact⟨v0,v1⟩)
  ‹"j"› ⟨fun _=>0,_,_,rfl,fun i hi=>absurd hi (by omega)⟩
 have hR:itR1 (eA fLen (aCons (e2 dIx (eVar 9) (eC (.int 0))) aNil)) ‹"j"›=.ok (Qa4 0 m):=Qca m (by (repeat walk_at "e")) (by omega)
 exact⟨ld,b11,b12,hld,Qa2 (g:=gN 11) (T:=QdL) hR hL⟩
end
structure Plan(n nd:Nat)(kd:Nat->Int)(t:Nat->List (List Int))(m:Nat->Nat)(ld:Nat->Nat->Int)(st:Nat->Int)(N:Nat):Prop where
 kd:∀ k,k<N->Kd (kd k) (t k) (m k)
 ldr:∀ k j,k<N->j<m k -> -(nd:Int)<=ld k j/\ld k j<(n:Int)
 str:∀ k,k<N->0<=st k/\st k<((t k).length:Int)
theorem QOa(ns:List Int):∃(n nd:Nat)(kd:Nat->Int)(t:Nat->List (List Int))(m:Nat->Nat)(ld:Nat->Nat->Int)(st:Nat->Int),1<=n/\n<=5/\1<=nd/\nd<=3/\Plan n nd kd t m ld st n/\
 Qdh [.lst (ns.map .int)]=.ok (.tup [rl n ‹"h"›,.int (nd:Int)]):=by
 obtain⟨v,hv⟩:=Ql6 ns 0
 have hv:Q3 [.lst (ns.map .int),.int 0]=.ok (.int v):=hv
 obtain⟨x,x0,x1,hx⟩:=Qdk v (k:=0) (QiX rfl)
 obtain⟨y,y0,y1,hy⟩:=Qdk v (k:=1) (QiX rfl)
 obtain⟨z,z0,z1,hz⟩:=Qdk v (k:=2) (QiX rfl)
 obtain⟨n,hn⟩:∃ n:Nat,1+x % 5=(n:Int):=⟨(1+x % 5).toNat,by omega⟩
 obtain⟨nd,hnd⟩:∃ n:Nat,1+y % 3=(n:Int):=⟨(1+y % 3).toNat,by omega⟩
 have n1:1<=n:=by omega
 have n5:n<=5:=by omega
 have d1:1<=nd:=by omega
 have d3:nd<=3:=by omega
 generalize hS:D.lst (ns.map .int)=S at *
 have cell:∀ k:Nat,∃ w:Int,Q3 [S,.int (k:Int)]=.ok (.int w):=fun k=>by rw[← hS];exact Ql6 ns k
 generalize hr:decide (z % 2=1)=ring
 obtain⟨ς',hL,kd,t,m,ld,st,a6,a7,a8,a9,a10,a11,a12,rfl,pl⟩:=QbA (body:=fun x ς=>gN 6 x ς>>=fun ς'=>QfF ς') (n:=n)
  (P:=fun N ς=>∃(kd:Nat->Int)(t:Nat->List (List Int))(m:Nat->Nat)(ld:Nat->Nat->Int)(st:Nat->Int)(a6 a7 a8 a9 a10 a11 a12:Option (SM×D)),ς=[some (.k,S),some (.k,.int v),some (.k,.int (n:Int)),some (.k,.int (nd:Int)),some (.k,.bl ring),some (.o,rl N ‹"h"›),a6,a7,a8,a9,a10,a11,a12]/\Plan n nd kd t m ld st N)
  (by
   rintro k hk ς ⟨kd,t,m,ld,st,a6,a7,a8,a9,a10,a11,a12,rfl,pl⟩
   obtain⟨w,hw⟩:=cell (1+k)
   have hw:Q3 [S,.int (1+(k:Int))]=.ok (.int w):=by
    have e:(((1+k:Nat)):Int)=1+(k:Int):=by omega
    rw[e]at hw;exact hw
   have bk:bitsI ((k:Int)+3)<=300:=Nat.le_trans (QS (show((k:Int)+3).natAbs<2 ^ 10 by omega)) (by decide)
   obtain⟨num,m0,m1,hm⟩:=Qdk w (k:=(k:Int)+3) bk
   have bnum:bitsI num<=100:=bd_in m0 (Int.lt_trans m1 (by decide))
   obtain⟨w',t',m',K',hrow⟩:=QOb (N:=num / 7) (by omega) (Nat.le_trans (Qgl bnum) (by decide))
   obtain⟨tb',t4',m4'⟩:=K'.tb
   obtain⟨ld',b11,b12,hld',hfor⟩:=QE1 n1 n5 d1 d3 (S:=S) (f0:=v) (num:=num) (ring:=ring) (PL:=rl k ‹"h"›) (kd:=w') tb' m4' (Nat.le_trans bnum (by decide)) hk (a11:=a11) (a12:=a12)
   have t1':=tb'.n1
   have tl:fLen [tbD t']=.ok (.int (t'.length:Int)):=by simp[fLen,tbD]
   have tp:(0:Int)<(t'.length:Int):=by omega
   have s0:=Int.emod_nonneg (num % 7) (show(t'.length:Int)≠0 by omega)
   have s1:=Int.emod_lt_of_pos (num % 7) tp
   have hle:((List.range k).map ‹"h"›).length<=1000:=by rw[List.length_map,List.length_range];omega
   have hz':(fun ς=>QaX 5 ‹"z"› (frz 10 ς)) [some (.k,S),some (.k,.int v),some (.k,.int (n:Int)),some (.k,.int (nd:Int)),some (.k,.bl ring),some (.o,rl k ‹"h"›),some (.k,.int (k:Int)),some (.k,.int num),some (.k,.int w'),some (.k,tbD t'),some (.o,rl m' (fun j=>.int (ld' j))),b11,b12]
    = .ok (.nx ‹"B"›):=by
    refine QpQ (T:=QaX 5 ‹"z"›) (QpN (i:=10) rfl rfl) ?_
    refine r_app (xs:=(List.range k).map ‹"h"›) (d:=.tup [.int w',tbD t',rl m' (fun j=>.int (ld' j)),.int (num % 7 % (t'.length:Int))]) rfl ?_ hle rfl
    (repeat walk_at "e")
   refine⟨‹"B"›,?_,
    fun i=>if i<k then kd i else w',fun i=>if i<k then t i else t',fun i=>if i<k then m i else m',fun i=>if i<k then ld i else ld',fun i=>if i<k then st i else num % 7 % (t'.length:Int),some (.k,.int (k:Int)),some (.k,.int num),some (.k,.int w'),some (.k,tbD t'),some (.k,rl m' (fun j=>.int (ld' j))),b11,b12,?_,?_⟩
   ·refine r_gN (by walk_at "s") ?_
    unfold QfF
    have s10:sSetO 10 (eLst aNil) [some (.k,S),some (.k,.int v),some (.k,.int (n:Int)),some (.k,.int (nd:Int)),some (.k,.bl ring),some (.o,rl k ‹"h"›),some (.k,.int (k:Int)),some (.k,.int num),some (.k,.int w'),some (.k,tbD t'),a10,a11,a12]=.ok (.nx [some (.k,S),some (.k,.int v),some (.k,.int (n:Int)),some (.k,.int (nd:Int)),some (.k,.bl ring),some (.o,rl k ‹"h"›),some (.k,.int (k:Int)),some (.k,.int num),some (.k,.int w'),some (.k,tbD t'),some (.o,.lst []),a11,a12]):=by (repeat walk_at "e")
    have s8:sUnp [8,9] (eA (fun xs=>Qcq (xs++[])) (aCons (e2 dFdiv (eVar 7) (eC (.int 7))) aNil)) [some (.k,S),some (.k,.int v),some (.k,.int (n:Int)),some (.k,.int (nd:Int)),some (.k,.bl ring),some (.o,rl k ‹"h"›),some (.k,.int (k:Int)),some (.k,.int num),a8,a9,a10,a11,a12]=.ok (.nx [some (.k,S),some (.k,.int v),some (.k,.int (n:Int)),some (.k,.int (nd:Int)),some (.k,.bl ring),some (.o,rl k ‹"h"›),some (.k,.int (k:Int)),some (.k,.int num),some (.k,.int w'),some (.k,tbD t'),a10,a11,a12]):=by (repeat walk_at "e")
    have s7:sSet 7 (eA (fun xs=>QH (xs++[])) (aCons (eA (fun xs=>Q3 (xs++[])) (aCons (eVar 0) (aCons (e2 dAdd (eC (.int 1)) (eVar 6)) aNil))) (aCons (e2 dAdd (eVar 6) (eC (.int 3))) aNil))) [some (.k,S),some (.k,.int v),some (.k,.int (n:Int)),some (.k,.int (nd:Int)),some (.k,.bl ring),some (.o,rl k ‹"h"›),some (.k,.int (k:Int)),a7,a8,a9,a10,a11,a12]=.ok (.nx [some (.k,S),some (.k,.int v),some (.k,.int (n:Int)),some (.k,.int (nd:Int)),some (.k,.bl ring),some (.o,rl k ‹"h"›),some (.k,.int (k:Int)),some (.k,.int num),a8,a9,a10,a11,a12]):=by (repeat walk_at "e")
    exact r_seq s7 (QY (r_seq s8 (QY (r_seq s10 (QY (r_seq hfor (QY hz')))))))
   ·have ea:(List.range k).map ‹"h"›++[.tup [.int w',tbD t',rl m' (fun j=>.int (ld' j)),.int (num % 7 % (t'.length:Int))]]=(List.range (k+1)).map (planD (fun i=>if i<k then kd i else w') (fun i=>if i<k then t i else t') (fun i=>if i<k then m i else m') (fun i=>if i<k then ld i else ld') (fun i=>if i<k then st i else num % 7 % (t'.length:Int))):=by
     rw[Qzr]
     refine List.map_congr_left fun i hi=>?_
     unfold planD
     by_cases h:i<k
     ·simp only[if_pos h]
     ·simp only[if_neg h]
    rw[ea]
   ·refine⟨fun i hi=>?_,fun i j hi hj=>?_,fun i hi=>?_⟩
    ·by_cases h:i<k
     ·simp only[if_pos h];exact pl.kd i h
     ·simp only[if_neg h];exact K'
    ·by_cases h:i<k
     ·simp only[if_pos h]at hj ⊢;exact pl.ldr i j h hj
     ·simp only[if_neg h]at hj ⊢;exact hld' j hj
    ·by_cases h:i<k
     ·simp only[if_pos h];exact pl.str i h
     ·simp only[if_neg h];exact⟨s0,s1⟩)
  [some (.k,S),some (.k,.int v),some (.k,.int (n:Int)),some (.k,.int (nd:Int)),some (.k,.bl ring),some (.o,.lst []),none,none,none,none,none,none,none] ⟨fun _=>0,fun _=>[],fun _=>0,fun _ _=>0,fun _=>0,_,_,_,_,_,_,_,rfl,⟨fun i hi=>absurd hi (by omega),fun i j hi=>absurd hi (by omega),fun i hi=>absurd hi (by omega)⟩⟩
 have hR:itR1 (eVar 2) [some (.k,S),some (.k,.int v),some (.k,.int (n:Int)),some (.k,.int (nd:Int)),some (.k,.bl ring),some (.o,.lst []),none,none,none,none,none,none,none]=.ok (Qa4 0 n):=Qca n (by (repeat walk_at "e")) (by omega)
 have hfor:=Qa2 (g:=gN 6) (T:=QfF) hR hL
 refine⟨n,nd,kd,t,m,ld,st,n1,n5,d1,d3,pl,?_⟩
 have g2:sSet 2 (e2 dAdd (eC (.int 1)) (e2 dMod (eA (fun xs=>QH (xs++[])) (aCons (eVar 1) (aCons (eC (.int 0)) aNil))) (eC (.int 5)))) [some (.k,S),some (.k,.int v),none,none,none,none,none,none,none,none,none,none,none]=.ok (.nx [some (.k,S),some (.k,.int v),some (.k,.int (n:Int)),none,none,none,none,none,none,none,none,none,none]):=by
  rw[← hn]
  (repeat walk_at "e")
 have g3:sSet 3 (e2 dAdd (eC (.int 1)) (e2 dMod (eA (fun xs=>QH (xs++[])) (aCons (eVar 1) (aCons (eC (.int 1)) aNil))) (eC (.int 3)))) [some (.k,S),some (.k,.int v),some (.k,.int (n:Int)),none,none,none,none,none,none,none,none,none,none]=.ok (.nx [some (.k,S),some (.k,.int v),some (.k,.int (n:Int)),some (.k,.int (nd:Int)),none,none,none,none,none,none,none,none,none]):=by
  rw[← hnd]
  (repeat walk_at "e")
 have g4:sSet 4 (e2 dEq (e2 dMod (eA (fun xs=>QH (xs++[])) (aCons (eVar 1) (aCons (eC (.int 2)) aNil))) (eC (.int 2))) (eC (.int 1))) [some (.k,S),some (.k,.int v),some (.k,.int (n:Int)),some (.k,.int (nd:Int)),none,none,none,none,none,none,none,none,none]=.ok (.nx [some (.k,S),some (.k,.int v),some (.k,.int (n:Int)),some (.k,.int (nd:Int)),some (.k,.bl ring),none,none,none,none,none,none,none,none]):=by
  rw[← hr]
  (repeat walk_at "e")
 have fin:(fun ς=>sRet (eTup (aCons (eVar 5) (aCons (eVar 3) aNil))) (frz 5 ς)) [some (.k,S),some (.k,.int v),some (.k,.int (n:Int)),some (.k,.int (nd:Int)),some (.k,.bl ring),some (.o,rl n ‹"h"›),a6,a7,a8,a9,a10,a11,a12]=.ok (.rt false (.tup [rl n ‹"h"›,.int (nd:Int)])):=QpQ (T:=sRet (eTup (aCons (eVar 5) (aCons (eVar 3) aNil)))) (QpN (i:=5) rfl rfl) (by (repeat walk_at "e"))
 rw[QHj]
 unfold QgQ
 (repeat walk_at "e")
def lt(k:Nat):Str:=match k with | 0=>"a" | 1=>"b" | 2=>"c" | 3=>"d" | 4=>"e" | _=>"f"
def nmC(k:Nat):Str:=match k with | 0=>"ca" | 1=>"cb" | 2=>"cc" | 3=>"cd" | 4=>"ce" | _=>"cf"
def dnC(k:Nat):Str:=match k with | 0=>"da" | 1=>"db" | 2=>"dc" | 3=>"dd" | 4=>"de" | _=>"df"
theorem lt_ok{k:Nat}(h:k<5):dIx (.str "abcdef") (.int (k:Int))=.ok (.str (lt k)):=by
 rcases(by omega:k=0∨k=1∨k=2∨k=3∨k=4) with rfl | rfl | rfl | rfl | rfl<;>with_unfolding_all rfl
theorem nm_ok{k:Nat}(h:k<5):dAdd (.str "c") (.str (lt k))=.ok (.str (nmC k)):=by
 rcases(by omega:k=0∨k=1∨k=2∨k=3∨k=4) with rfl | rfl | rfl | rfl | rfl<;>with_unfolding_all rfl
theorem dn_ok{k:Nat}(h:k<5):dAdd (.str "d") (.str (lt k))=.ok (.str (dnC k)):=by
 rcases(by omega:k=0∨k=1∨k=2∨k=3∨k=4) with rfl | rfl | rfl | rfl | rfl<;>with_unfolding_all rfl
theorem QP1{k:Nat}(h:k<5):QaB [.str (nmC k)]=.ok (.bl true):=by
 rcases(by omega:k=0∨k=1∨k=2∨k=3∨k=4) with rfl | rfl | rfl | rfl | rfl<;>with_unfolding_all rfl
theorem QPT{k:Nat}(h:k<5):QaB [.str (dnC k)]=.ok (.bl true):=by
 rcases(by omega:k=0∨k=1∨k=2∨k=3∨k=4) with rfl | rfl | rfl | rfl | rfl<;>with_unfolding_all rfl
theorem QO5{i j:Nat}(hi:i<5)(hj:j<5)(e:nmC i=nmC j):i=j:=by
 have key:∀ a b:Fin 5,nmC a=nmC b->a=b:=dk
 have:=key ⟨i,hi⟩ ⟨j,hj⟩ e
 simpa using this
theorem QOS{i j:Nat}(hi:i<5)(hj:j<5)(e:dnC i=dnC j):i=j:=by
 have key:∀ a b:Fin 5,dnC a=dnC b->a=b:=dk
 have:=key ⟨i,hi⟩ ⟨j,hj⟩ e
 simpa using this
theorem QO2{i j:Nat}(hi:i<5)(hj:j<5):nmC i≠dnC j:=by
 have key:∀ a b:Fin 5,nmC a≠dnC b:=dk
 exact key ⟨i,hi⟩ ⟨j,hj⟩
theorem QIK{n nd:Nat}{kd:Nat->Int}{t:Nat->List (List Int)}{m:Nat->Nat}{ld:Nat->Nat->Int}{st:Nat->Int}(n1:1<=n)(n5:n<=5)(d1:1<=nd)(d3:nd<=3)(pl:Plan n nd kd t m ld st n):
 ∃ c:Nat->Str,Seats n nd nmC dnC c t m ld st/\Qcb [rl n ‹"h"›,.int (nd:Int)]=.ok (offD n nd nmC dnC c t m ld st):=by
 have H:∀ k,∃ c:Str,k<n->CK.contains c=true/\Qbz [.int (kd k),tbD (t k)]=.ok (ck c (t k) (m k)):=fun k=>by
  by_cases h:k<n
  ·obtain⟨c,h1,h2⟩:=QK6 (pl.kd k h)
   exact⟨c,fun _=>⟨h1,h2⟩⟩
  ·exact⟨"Copy",fun z=>absurd z h⟩
 obtain⟨c,hc⟩:∃ c:Nat->Str,∀ k,k<n->CK.contains (c k)=true/\Qbz [.int (kd k),tbD (t k)]=.ok (ck (c k) (t k) (m k)):=⟨fun k=>(H k).choose,fun k h=>(H k).choose_spec h⟩
 have sts:Seats n nd nmC dnC c t m ld st:=⟨n1,by omega,d1,by omega,fun k h=>(hc k h).1,fun k h=>(pl.kd k h).tb.1,pl.ldr,pl.str,fun k h=>QP1 (by omega),fun k h=>QPT (by omega),fun i j hi hj e=>QO5 (by omega) (by omega) e,fun i j hi hj e=>QOS (by omega) (by omega) e,fun i d hi hd=>QO2 (by omega) (by omega)⟩
 refine⟨c,sts,?_⟩
 have mk:=QKd sts
 have hlen:=lenR n ‹"h"›
 have hix:∀ k:Nat,k<n->dIx (rl n ‹"h"›) (.int (k:Int))=.ok (planD kd t m ld st k):=fun k h=>ixR h
 generalize hP:rl n ‹"h"›=P at *
 obtain⟨ς',hL,a4,a5,a6,a7,a8,a9,rfl⟩:=QbA (body:=fun x ς=>gN 4 x ς>>=fun ς'=>Qek ς') (n:=n)
  (P:=fun k ς=>∃(a4 a5 a6 a7 a8 a9:Option (SM×D)),ς=[some (.k,P),some (.k,.int (nd:Int)),some (.k,.str "abcdef"),some (.o,rl k (seatD nmC dnC c t m ld st)),a4,a5,a6,a7,a8,a9])
  (by
   rintro k hk ς ⟨a4,a5,a6,a7,a8,a9,rfl⟩
   have x:=hix k hk
   have m6:=(sts.tb k hk).m6
   have l0:=lt_ok (k:=k) (by omega)
   have l1:=nm_ok (k:=k) (by omega)
   have hcl:=(hc k hk).2
   have hcm:∀ a9,eComp [none,some 2] (itL (eVar 7)) (gN 0) cTrue QfU [some (.k,P),some (.k,.int (nd:Int)),some (.k,.str "abcdef"),some (.o,rl k (seatD nmC dnC c t m ld st)),some (.k,.int (k:Int)),some (.k,.int (kd k)),some (.k,tbD (t k)),some (.k,rl (m k) ‹"J"›),some (.k,.int (st k)),a9]=.ok (rl (m k) (fun j=>.str (nml nmC dnC (ld k j)))):=fun a9=>by
    refine Q1 (fun j=>D.int (ld k j)) (fun j=>D.str (nml nmC dnC (ld k j))) rfl (fun j hj=>?_) (by rw[List.length_range];omega)
    obtain⟨r1,r2⟩:=sts.ldr k j hk (List.mem_range.mp hj)
    refine Qab (τ0:=[none,some (.k,.str "abcdef")]) (QcY (c_k rfl c_nil)) (by walk_at "s") ?_
    unfold QfU nml
    by_cases h:ld k j<0
    ·rw[if_pos h]
     have g0:dLt (.int (ld k j)) (.int 0)=.ok (.bl true):=by rw[Qam,decide_eq_true h]
     have x1:dIx (.str "abcdef") (.int (-1 - ld k j))=.ok (.str (lt (-1 - ld k j).toNat)):=by
      have:=lt_ok (k:=(-1 - ld k j).toNat) (by omega)
      rw[Int.toNat_of_nonneg (by omega)]at this
      exact this
     have x2:=dn_ok (k:=(-1 - ld k j).toNat) (by omega)
     (repeat walk_at "e")
    ·rw[if_neg h]
     have g0:dLt (.int (ld k j)) (.int 0)=.ok (.bl false):=by rw[Qam,decide_eq_false h]
     have x1:dIx (.str "abcdef") (.int (ld k j))=.ok (.str (lt (ld k j).toNat)):=by
      have:=lt_ok (k:=(ld k j).toNat) (by omega)
      rw[Int.toNat_of_nonneg (by omega)]at this
      exact this
     have x2:=nm_ok (k:=(ld k j).toNat) (by omega)
     (repeat walk_at "e")
   have ea:(List.range k).map (seatD nmC dnC c t m ld st)++[.tup [.str (nmC k),ck (c k) (t k) (m k),rl (m k) (fun j=>.str (nml nmC dnC (ld k j))),.int (st k)]]=(List.range (k+1)).map (seatD nmC dnC c t m ld st):=by
    rw[List.range_succ,List.map_append];rfl
   have hle:((List.range k).map (seatD nmC dnC c t m ld st)).length<=1000:=by rw[List.length_map,List.length_range];omega
   refine⟨[some (.k,P),some (.k,.int (nd:Int)),some (.k,.str "abcdef"),some (.o,rl (k+1) (seatD nmC dnC c t m ld st)),some (.k,.int (k:Int)),some (.k,.int (kd k)),some (.k,tbD (t k)),some (.k,rl (m k) ‹"J"›),some (.k,.int (st k)),some (.k,rl (m k) (fun j=>.str (nml nmC dnC (ld k j))))],?_,_,_,_,_,_,_,rfl⟩
   show _=Out.ok (Fl.nx [_,_,_,some (.o,.lst ((List.range (k+1)).map (seatD nmC dnC c t m ld st))),_,_,_,_,_,_])
   rw[← ea]
   have x:dIx P (.int (k:Int))=.ok (.tup [.int (kd k),tbD (t k),rl (m k) ‹"J"›,.int (st k)]):=x
   refine r_gN (by walk_at "s") ?_
   unfold Qek
   (repeat (first | with_reducible exact hcm _ | walk_at "e")))
  [some (.k,P),some (.k,.int (nd:Int)),some (.k,.str "abcdef"),some (.o,.lst []),none,none,none,none,none,none] ⟨_,_,_,_,_,_,rfl⟩
 have hR:itR1 (eA fLen ‹"w"›) [some (.k,P),some (.k,.int (nd:Int)),some (.k,.str "abcdef"),some (.o,.lst []),none,none,none,none,none,none]=.ok (Qa4 0 n):=Qca n (by (repeat walk_at "e")) (by omega)
 have hfor:=Qa2 (g:=gN 4) (T:=Qek) hR hL
 have hdo:∀ ς:SD,ς[1]?=some (some (.k,.int (nd:Int)))->ς[2]?=some (some (.k,.str "abcdef"))->eComp [none,some 2] (itR1 (eVar 1)) (gN 0) cTrue QcU ς=.ok (rl nd (fun d=>.str (dnC d))):=fun ς h1 h2=>by
  refine Qg9 (fun d=>.str (dnC d)) (Qca nd (r_var h1) (by omega)) (fun d hd=>?_) (by omega)
  have l0:=lt_ok (k:=d) (by omega)
  have l1:=dn_ok (k:=d) (by omega)
  refine Qab (τ0:=[none,some (.k,.str "abcdef")]) (QcY (c_k h2 c_nil)) (by walk_at "s") ?_
  unfold QcU
  (repeat walk_at "e")
 have mk':QaF "Office" [] [rl n (seatD nmC dnC c t m ld st),.lst [.tup [.str "in",.str "ca"]],rl nd (fun d=>.str (dnC d))]=.ok (offF n nd nmC dnC c t m ld st):=mk
 have fin:(fun ς=>sRetF ‹"l"› (frz 3 ς)) [some (.k,P),some (.k,.int (nd:Int)),some (.k,.str "abcdef"),some (.o,rl n (seatD nmC dnC c t m ld st)),a4,a5,a6,a7,a8,a9]=.ok (.rt true (offD n nd nmC dnC c t m ld st)):=by
  refine QpQ (T:=sRetF ‹"l"›) (QpN (i:=3) rfl rfl) ?_
  unfold offD
  (repeat (first | with_reducible exact hdo _ rfl rfl | walk_at "e"))
 rw[Qwb]
 unfold Qff
 (repeat walk_at "e")
theorem QJ9(cell:Int){N:Nat}(hN:N<=20):∃(w:Nat->Int×Int)(B:Int),1<=B/\B<=1000000000/\(∀ i,i<N->okW (w i)/\(w i).2∣B)/\Qch [.int cell,.int (N:Int)]=.ok (rl N (fun i=>fr (w i))):=by
 obtain⟨x,x0,x1,hx⟩:=Qdk cell (k:=89) (QiX rfl)
 have h9:dPow (.int 10) (.int 9)=.ok (.int 1000000000):=by rw[QEK (by decide)];rfl
 have h15:dPow (.int 10) (.int 15)=.ok (.int 1000000000000000):=by rw[QEK (by decide)];rfl
 obtain⟨b,b1,b2,hb⟩:∃ b:Int,1<=b/\b<=1000000000/\dIx (.lst [.int 12,.int 1000000000]) (.int (x % 2))=.ok (.int b):=by
  rcases(by omega:x % 2=0∨x % 2=1) with e | e<;>rw[e]
  ·exact⟨12,by omega,by omega,rfl⟩
  ·exact⟨1000000000,by omega,by omega,rfl⟩
 have bp:0<b:=by omega
 have q0:=Int.emod_nonneg (x / 2) (show b≠0 by omega)
 have q1:=Int.emod_lt_of_pos (x / 2) bp
 have hbot:e2 dAdd (eC (.int 1)) ‹"x"› [some (.k,.int cell),some (.k,.int (N:Int)),some (.o,.lst []),none,none,none,none]=.ok (.int (1+x / 2 % b)):=by (repeat walk_at "e")
 obtain⟨B,hB,B1,B2⟩:∃ B:Int,1+x / 2 % b=B/\1<=B/\B<=1000000000:=⟨_,rfl,by omega,by omega⟩
 rw[hB]at hbot
 obtain⟨ς',hL,w,a4,a5,a6,rfl,hw⟩:=QbA (body:=fun x ς=>gN 4 x ς>>=fun ς'=>Qer ς') (n:=N)
  (P:=fun k ς=>∃(w:Nat->Int×Int)(a4 a5 a6:Option (SM×D)),ς=[some (.k,.int cell),some (.k,.int (N:Int)),some (.o,rl k (fun i=>fr (w i))),some (.k,.int B),a4,a5,a6]/\∀ i,i<k->okW (w i)/\(w i).2∣B)
  (by
   rintro k hk ς ⟨w,a4,a5,a6,rfl,hw⟩
   obtain⟨y,y0,y1,hy⟩:=Qdk cell (k:=(k:Int)+90) (Nat.le_trans (QS (show((k:Int)+90).natAbs<2 ^ 10 by omega)) (by decide))
   obtain⟨tp,t0,t1,ht⟩:∃ tp:Int, -1000000000000000<=tp/\tp<=1000000000000000/\dIx (.lst [.int (y / 4 % 121 - 60),.int (y / 4 % (2 * 1000000000000000) - 1000000000000000),.int 0,.int 1]) (.int (y % 4))=.ok (.int tp):=by
    rcases(by omega:y % 4=0∨y % 4=1∨y % 4=2∨y % 4=3) with e | e | e | e<;>rw[e]
    ·exact⟨y / 4 % 121 - 60,by omega,by omega,rfl⟩
    ·exact⟨y / 4 % (2 * 1000000000000000) - 1000000000000000,by omega,by omega,rfl⟩
    ·exact⟨0,by omega,by omega,rfl⟩
    ·exact⟨1,by omega,by omega,rfl⟩
   have bB:bitsI B<=7900:=Nat.le_trans (QS (show B.natAbs<2 ^ 40 by omega)) (by decide)
   have hl:=QqA (a:=tp) B1 bB
   have ok:okW (pr tp B):=⟨Qfs (by omega),by
    rw[Qfb B1]
    exact Qgl (QS (show tp.natAbs<2 ^ 100 by omega)),by
    rw[Qfb B1]
    exact Nat.le_trans (Int.natAbs_ediv_le_natAbs _ _) (by omega)⟩
   have ea:(List.range k).map (fun i=>fr (w i))++[fr (pr tp B)]=(List.range (k+1)).map (fun i=>fr ((fun i=>if i<k then w i else pr tp B) i)):=by
    rw[Qzr]
    exact List.map_congr_left fun i _=>by show(if i<k then fr (w i) else fr (pr tp B))=fr (if i<k then w i else pr tp B);split<;>rfl
   have hle:((List.range k).map (fun i=>fr (w i))).length<=1000:=by rw[List.length_map,List.length_range];omega
   refine⟨[some (.k,.int cell),some (.k,.int (N:Int)),some (.o,rl (k+1) (fun i=>fr ((fun i=>if i<k then w i else pr tp B) i))),some (.k,.int B),some (.k,.int (k:Int)),some (.k,.int y),some (.k,.int tp)],?_,fun i=>if i<k then w i else pr tp B,_,_,_,rfl,fun i hi=>?_⟩
   ·show _=Out.ok (Fl.nx [_,_,some (.o,.lst ((List.range (k+1)).map (fun i=>fr ((fun i=>if i<k then w i else pr tp B) i)))),_,_,_,_])
    rw[← ea]
    refine r_gN (by walk_at "s") ?_
    unfold Qer
    (repeat walk_at "e")
   ·show okW (if i<k then w i else pr tp B)/\(if i<k then w i else pr tp B).2∣B
    split
    ·rename_i z;exact hw i z
    ·refine⟨ok,?_⟩
     rw[Qfb B1]
     exact Int.ediv_dvd_of_dvd (Int.gcd_dvd_right tp B))
  [some (.k,.int cell),some (.k,.int (N:Int)),some (.o,.lst []),some (.k,.int B),none,none,none] ⟨fun _=>zero1,_,_,_,rfl,fun i hi=>absurd hi (by omega)⟩
 have hR:itR1 (eVar 1) [some (.k,.int cell),some (.k,.int (N:Int)),some (.o,.lst []),some (.k,.int B),none,none,none]=.ok (Qa4 0 N):=Qca N (by (repeat walk_at "e")) (by omega)
 have hfor:=Qa2 (g:=gN 4) (T:=Qer) hR hL
 refine⟨w,B,B1,B2,hw,?_⟩
 rw[QwZ]
 unfold QfE
 (repeat walk_at "e")
theorem QEw{p:Int×Int}{Z M:Int}(l:low p.1 p.2)(hM:1<=M)(h:qt p=(Z:Rat) / (M:Rat)):p.2∣M:=by
 obtain⟨p1,g⟩:=l
 have c1:=Qal p1
 have c2:=Qal hM
 have e:p.1 * M=Z * p.2:=by
  have:((p.1 * M:Int):Rat)=((Z * p.2:Int):Rat):=by
   rw[Rat.intCast_mul,Rat.intCast_mul]
   unfold qt at h
   grind
  exact Rat.intCast_inj.mp this
 refine QjD (m:=p.1) ⟨Z,?_⟩ (by rw[Int.gcd_comm];exact g)
 rw[e,Int.mul_comm]
theorem QPk(c:Int):pr c 1=(c,1):=by
 rw[Qfb (by decide)]
 have:c.gcd 1=1:=by simp
 rw[this];simp
theorem QHI(c:Int):QaQ [.int c,.int 1]=.ok (fr (c,1)):=by
 have h:=Qjt (a:=c) (b:=1) (by decide) (dk)
 rw[← QPk];exact h
theorem qt1(c:Int):qt (c,1)=(c:Rat):=by
 unfold qt
 show(c:Rat) / ((1:Int):Rat)=c
 have e1:((1:Int):Rat)=1:=rfl
 rw[e1];grind
theorem QJi{n k:Nat}(f g:Nat->D)(h:n+k<=900):dCat (rl n f) (rl k g)=.ok (rl (n+k) (fun i=>if i<n then f i else g (i - n))):=by
 rw[QEr (by simp;omega)]
 refine congrArg (fun l=>Out.ok (D.lst l)) ?_
 rw[List.range_add,List.map_append,List.map_map]
 congr 1
 ·exact List.map_congr_left fun j hj=>by rw[if_pos (List.mem_range.mp hj)]
 ·exact List.map_congr_left fun j hj=>by
   show g j=if n+j<n then f (n+j) else g (n+j - n)
   rw[if_neg (by omega),Nat.add_sub_cancel_left]
theorem QQt{N:Nat}(hN:N<=1000)(c:Nat->Int):Qbw [rl N (fun i=>.int (c i))]=.ok (rl N (fun i=>fr (c i,1))):=by
 have hc:eComp [none] (itL (eVar 0)) (gN 0) cTrue QeZ [some (.k,rl N (fun i=>.int (c i)))]=.ok (rl N (fun i=>fr (c i,1))):=by
  refine Q1 (fun i=>D.int (c i)) (fun i=>fr (c i,1)) rfl (fun i hi=>?_) (by rw[List.length_range];exact hN)
  have h:=QHI (c i)
  refine Qab (by walk_at "cap") (by walk_at "s") ?_
  unfold QeZ
  (repeat walk_at "e")
 rw[QrR]
 unfold Qd6
 (repeat walk_at "e")
theorem QL4{n:Nat}(hn:n<=12){g:Nat->Int×Int}(hg:∀ i,i<n->1<=(g i).2/\bitsI (g i).1<=7700/\(g i).2.natAbs<=2 ^ 48):∃ p:Int×Int,low p.1 p.2/\qt p=Bar.sm n (fun i=>qt (g i))/\p.2.natAbs<=2 ^ 1200/\bitsI p.1<=20000/\QeT [rl n (fun i=>fr (g i))]=.ok (fr p):=by
 obtain⟨p,lp,qp,bp,np,hp⟩:=Qlt hn (f:=fun _=>(1,1)) (g:=g) (fun i _=>⟨by decide,QS (show((1:Int)).natAbs<2 ^ 48 by decide),by decide⟩) hg
 refine⟨p,lp,?_,bp,np,?_⟩
 ·rw[qp]
  exact Bar.sm_congr fun i _=>by
   show qt (1,1) * qt (g i)=qt (g i)
   rw[qt1]
   have e1:((1:Int):Rat)=1:=rfl
   rw[e1];grind
 ·have hc:eComp [none] (itL (eVar 0)) (gN 0) cTrue QjW [some (.k,rl n (fun i=>fr (g i)))]=.ok (rl n (fun _=>fr (1,1))):=by
   refine Q1 (fun i=>fr (g i)) (fun i=>fr (1,1)) rfl (fun i hi=>?_) (by rw[List.length_range];omega)
   have h:=QHI 1
   refine Qab (by walk_at "cap") (by walk_at "s") ?_
   unfold QjW
   (repeat walk_at "e")
  rw[QMa]
  unfold QjQ
  (repeat walk_at "e")
theorem QL5{x y:Int×Int}(x1:1<=x.2)(y1:1<=y.2)(X1:bitsI x.1<=20000)(Y1:bitsI y.1<=20000)(X2:bitsI x.2<=1201)(Y2:bitsI y.2<=1201):∃ p:Int×Int,low p.1 p.2/\qt p=qt x+qt y/\bitsI p.1<=21202/\bitsI p.2<=2402/\QfZ [fr x,fr y]=.ok (fr p):=by
 have q1:1 * 1<=x.2 * y.2:=Int.mul_le_mul x1 y1 (by decide) (by omega)
 have q:1<=x.2 * y.2:=by omega
 have sh:=Qjt (a:=x.1 * y.2+y.1 * x.2) (b:=x.2 * y.2) (by omega) (Qbt (Nat.le_trans (Qcu X2 Y2) (by decide)))
 have bt:bitsI (x.1 * y.2+y.1 * x.2)<=21202:=QEC (k:=21201) (Qcu X1 Y2) (Qcu Y1 X2)
 have bb:bitsI (x.2 * y.2)<=2402:=Qcu X2 Y2
 refine⟨pr (x.1 * y.2+y.1 * x.2) (x.2 * y.2),Qfs (by omega),?_,by rw[Qfb q];exact Qgl bt,by rw[Qfb q];exact Qgl bb,?_⟩
 ·rw[qt_pr (by omega),Rat.intCast_add,Rat.intCast_mul,Rat.intCast_mul,Rat.intCast_mul]
  have:=Qal x1
  have:=Qal y1
  unfold qt
  grind
 ·clear bt bb
  show _=Out.ok (D.tup [.int ((x.1 * y.2+y.1 * x.2).fdiv (shD (x.1 * y.2+y.1 * x.2) (x.2 * y.2))),.int ((x.2 * y.2).fdiv (shD (x.1 * y.2+y.1 * x.2) (x.2 * y.2)))])
  have a0:=fr0 x
  have a1:=fr1 x
  have c0:=fr0 y
  have c1':=fr1 y
  rw[QMX]
  unfold Qmi
  (repeat walk_at "e")
section
variable{n nd:Nat}{nm dn c:Nat->Str}{t:Nat->List (List Int)}{m:Nat->Nat}{ld:Nat->Nat->Int}{st kd:Nat->Int}(hs:Seats n nd nm dn c t m ld st)(n5:n<=5)(d3:nd<=3){wr dw:Nat->Int×Int}(hw:∀ i,i<n->okW (wr i))(hd:∀ i,i<nd->okW (dw i))
include hs hw hd n5 d3
theorem QNG{sk de ou:Nat->Int}(hsk:∀ k,k<n->0<=sk k/\sk k<((t k).length:Int))(hde:∀ i,i<n->0<=de i/\de i<=1000000000)(hou:∀ i,i<nd->0<=ou i/\ou i<=1000000000)
 {P:Nat->Int×Int} (hP:∀ k,k<n->1<=(P k).2/\bitsI (P k).1<=7700/\(P k).2.natAbs<=2 ^ 48/\Qd4 [offD n nd nm dn c t m ld st,.int (k:Int),.int (sk k),rl n (fun i=>fr (wr i)),rl nd (fun i=>fr (dw i))]=.ok (fr (P k))):
 ∃ p:Int×Int,low p.1 p.2/\bitsI p.1<=21202/\bitsI p.2<=2402/\qt p=Bar.sm (n+nd) (fun i=>((if i<n then de i else ou (i - n):Int):Rat) * qt ‹"E"›)+Bar.sm n (fun k=>qt (P k))/\
 QfI [offD n nd nm dn c t m ld st,rl n (fun i=>fr (wr i)),rl nd (fun i=>fr (dw i)),rl n (fun k=>.int (sk k)),rl n (fun i=>.int (de i)),rl nd (fun i=>.int (ou i))]=.ok (fr p):=by
 obtain⟨x,lx,qx,bx,nx,hx⟩:=Qlt (n:=n+nd) (by omega) (f:=fun i=>(if i<n then de i else ou (i - n),1)) (g:=fun i=>if i<n then wr i else dw (i - n))
  (fun i hi=>⟨show(1:Int)<=1 by decide,by
   show bitsI (if i<n then de i else ou (i - n))<=48
   refine QS ?_
   split
   ·rename_i h;have:=hde i h;omega
   ·have:=hou (i - n) (by omega);omega,show(1:Int).natAbs<=2 ^ 48 by decide⟩)
  (fun i hi=>by
   show 1<=(if i<n then wr i else dw (i - n)).2/\bitsI (if i<n then wr i else dw (i - n)).1<=7700/\(if i<n then wr i else dw (i - n)).2.natAbs<=2 ^ 48
   split
   ·rename_i h;obtain⟨a,b,c⟩:=hw i h;exact⟨a.1,Nat.le_trans b (by decide),c⟩
   ·obtain⟨a,b,c⟩:=hd (i - n) (by omega);exact⟨a.1,Nat.le_trans b (by decide),c⟩)
 obtain⟨y,ly,qy,by',ny,hy⟩:=QL4 (n:=n) (by omega) (g:=P) fun k hk=>⟨(hP k hk).1,(hP k hk).2.1,(hP k hk).2.2.1⟩
 obtain⟨p,lp,qp,tp,bp,hp⟩:=QL5 lx.1 ly.1 nx ny (QS (Nat.lt_of_le_of_lt bx (dk))) (QS (Nat.lt_of_le_of_lt by' (dk)))
 refine⟨p,lp,tp,bp,?_,?_⟩
 ·rw[qp,qx,qy]
  congr 1
  exact Bar.sm_congr fun i _=>by
   show qt (_,1) * _=_
   rw[qt1]
 have c1:=QJi (n:=n) (k:=nd) (fun i=>D.int (de i)) (fun i=>.int (ou i)) (by omega)
 have e1:rl (n+nd) (fun i=>if i<n then D.int (de i) else .int (ou (i - n)))=rl (n+nd) (fun i=>.int (if i<n then de i else ou (i - n))):=QfV fun i _=>by split<;>rfl
 rw[e1]at c1
 have c2:=QJi (n:=n) (k:=nd) (fun i=>fr (wr i)) (fun i=>fr (dw i)) (by omega)
 have e2:rl (n+nd) (fun i=>if i<n then fr (wr i) else fr (dw (i - n)))=rl (n+nd) (fun i=>fr ‹"E"›):=QfV fun i _=>by split<;>rfl
 rw[e2]at c2
 have ws:=QQt (N:=n+nd) (by omega) (fun i=>if i<n then de i else ou (i - n))
 have hx:QaI [rl (n+nd) (fun i=>fr (if i<n then de i else ou (i - n),1)),rl (n+nd) (fun i=>fr ‹"E"›)]=.ok (fr x):=hx
 generalize rl (n+nd) (fun i=>fr ‹"E"›)=WD at *
 generalize rl (n+nd) (fun i=>D.int (if i<n then de i else ou (i - n)))=DO at *
 generalize rl (n+nd) (fun i=>fr (if i<n then de i else ou (i - n),1))=DF at *
 generalize hO:offD n nd nm dn c t m ld st=O at *
 generalize hW:rl n (fun i=>fr (wr i))=W at *
 generalize hDW:rl nd (fun i=>fr (dw i))=DW at *
 generalize hDE:rl n (fun i=>D.int (de i))=DE' at *
 generalize hOU:rl nd (fun i=>D.int (ou i))=OU at *
 have hc:∀(a6:D),eComp [none,none,some 0,some 1,some 2] (itE (eVar 3)) (gT [0,1]) cTrue Qn7 [some (.k,O),some (.k,W),some (.k,DW),some (.k,rl n (fun k=>.int (sk k))),some (.k,DE'),some (.k,OU),some (.k,a6),none]=.ok (rl n (fun k=>fr (P k))):=fun a6=>by
  refine Q1 (fun i:Nat=>D.tup [.int (i:Int),.int (sk i)]) (fun k=>fr (P k)) (by rw[← enumR];rfl) (fun k hk=>?_) (by rw[List.length_range];omega)
  have h:=(hP k (List.mem_range.mp hk)).2.2.2
  refine Ql5 (by walk_at "cap") (by walk_at "all") ?_
  unfold Qn7
  (repeat walk_at "e")
 have hc':=hc (fr x)
 rw[QPG]
 unfold QpU
 (repeat walk_at "e")
end
section
variable{n nd:Nat}{nm dn c:Nat->Str}{t:Nat->List (List Int)}{m:Nat->Nat}{ld:Nat->Nat->Int}{st:Nat->Int}
theorem QGC:(offF n nd nm dn c t m ld st).lookup ("clerk_names":Str)=some (rl n (fun k=>.str (nm k))):=by
 unfold offF
 rw[List.lookup_cons,beq_self_eq_true]
theorem QKC:Qbj [offD n nd nm dn c t m ld st]=.ok (.int (n:Int)):=by
 have h1:=fld_o (QGC (n:=n) (nd:=nd) (nm:=nm) (dn:=dn) (c:=c) (t:=t) (m:=m) (ld:=ld) (st:=st))
 have hl:=lenR n (fun k=>.str (nm k))
 rw[Qt9]
 unfold QeL
 (repeat walk_at "e")
end
def dkt:Nat->(Nat->Int)->(Nat->Int)->Int->Int
 | 0,_,_,_=>0
 | m+1,l,w,x=>dkt m l w x+if l m=x then w m else 0
theorem r_ifT{P:SD->Out Bool}{T U:SD->Out Fl}{ς:SD}{b:Bool}{rf:Out Fl}(a:P ς=.ok b)(hb:b=true)(k:T ς=rf):sIf P T U ς=rf:=r_if a (Qxa hb k)
theorem r_ifF{P:SD->Out Bool}{T U:SD->Out Fl}{ς:SD}{b:Bool}{rf:Out Fl}(a:P ς=.ok b)(hb:b=false)(k:U ς=rf):sIf P T U ς=rf:=r_if a (Qwx hb k)
theorem QEz{N p:Nat}(hp:p<N)(F:Nat->Int)(c:Int):((List.range N).map fun i=>D.int (F i)).set p (.int (F p+c))=(List.range N).map fun i=>D.int (F i+if (p:Int)=(i:Int) then c else 0):=by
 rw[setR hp]
 apply List.map_congr_left
 intro i _
 by_cases e:i=p
 ·subst e
  rw[if_pos rfl,if_pos rfl]
 ·rw[if_neg e,if_neg (by omega),Int.add_zero]
theorem QPO{r:List Int}{m:Nat}(h:r.length=m):r.map D.int=(List.range m).map fun j=>D.int (r.getD j 0):=by
 apply List.ext_getElem?
 intro i
 rw[List.getElem?_map,List.getElem?_map]
 by_cases hi:i<m
 ·rw[List.getElem?_range hi,List.getElem?_eq_getElem (by omega)]
  simp[List.getD_eq_getElem?_getD,List.getElem?_eq_getElem (show i<r.length by omega)]
 ·rw[List.getElem?_eq_none (by omega),List.getElem?_eq_none (by rw[List.length_range];omega)];rfl
theorem QO4{x:D}{N:Nat}(h:N<=1000):dRep (.lst [x]) (.int (N:Int))=.ok (rl N (fun _=>x)):=by
 have e:(List.replicate N x)=(List.range N).map fun _=>x:=by
  apply List.ext_getElem?
  intro i
  rw[List.getElem?_map,List.getElem?_replicate]
  by_cases hi:i<N
  ·rw[if_pos hi,List.getElem?_range hi];rfl
  ·rw[if_neg hi,List.getElem?_eq_none (by rw[List.length_range];omega)];rfl
 show _=Out.ok (D.lst ((List.range N).map fun _=>x))
 rw[← e]
 unfold dRep
 simp only[Int.toNat_natCast,List.flatten_replicate_singleton,List.length_cons,List.length_nil]
 rw[if_pos]
 rw[Bool.and_eq_true,Bool.and_eq_true]
 exact⟨⟨decide_eq_true (by omega),decide_eq_true (by omega)⟩,QgX (by omega)⟩
theorem Qol{I E:SD->Out D}{ς ς':SD}{i j:Nat}{k:Int}{s:SM}{xs:List D}{d:D}(hm:wr s=true)(a:E ς=.ok d)(e:ς[i]?=some (some (s,.lst xs)))(a':I ς=.ok (.int k))(q:ixN xs.length k=some j)(l:ς.set i (some (s,.lst (xs.set j d)))=ς'):sPutW i I E ς=.ok (.nx ς'):=by
 unfold sPutW
 rw[a,Out.bind_ok,e]
 show(if wr s=true then _ else _)=_
 rw[if_pos hm,a',Out.bind_ok]
 show(optO (ixN xs.length k)>>=_)=_
 rw[q]
 show Out.ok (Fl.nx (ς.set i _))=_
 rw[l]
theorem QEk{ms:List (Option Nat)}{f:List D->Out (D×Option (List D))}{A:SD->Out (List D)}{ς ς':SD}{ds ws:List D}{d:D}(a:A ς=.ok ds)(k:f ds=.ok (d,some ws))(l:setW ms ws ς=ς'):QiO ms f A ς=.ok (.nx ς'):=by
 unfold QiO
 rw[a,Out.bind_ok,k,Out.bind_ok]
 show Out.ok (Fl.nx (setW ms ws ς))=_
 rw[l]
theorem QkD{ς:SD}{i:Nat}{s:SM}{d:D}(hm:wr s=true)(e:ς[i]?=some (some (s,d))):eVarW i ς=.ok d:=by
 unfold eVarW
 rw[e]
 show(if wr s=true then _ else _)=_
 rw[if_pos hm]
theorem QP7{n nd m:Nat}{l w F G:Nat->Int}(hl:∀ j,j<m -> -(nd:Int)<=l j/\l j<(n:Int)):
 QjS [rl n (fun i=>.int (F i)),rl nd (fun i=>.int (G i)),rl m (fun j=>.int (l j)),rl m (fun j=>.int (w j))]=.ok (.non,some [rl n (fun i=>.int (F i+dkt m l w (i:Int))),rl nd (fun i=>.int (G i+dkt m l w (-1 - (i:Int))))]):=by
 have hz:∀ x y:Option (SM×D),itZ (eVar 2) (eVar 3) [x,y,some (.k,rl m (fun j=>.int (l j))),some (.k,rl m (fun j=>.int (w j))),none,none]=.ok ((List.range m).map fun j=>D.tup [.int (l j),.int (w j)]):=fun x y=>by
  unfold itZ
  rw[r_var rfl,Out.bind_ok,r_var rfl,Out.bind_ok]
  show Out.ok (List.zipWith _ ((List.range m).map _) ((List.range m).map _))=_
  rw[List.zipWith_map,List.zipWith_self]
 generalize rl m (fun j=>D.int (l j))=Nu at *
 generalize rl m (fun j=>D.int (w j))=Wu at *
 obtain⟨ς',hL,a4,a5,rfl⟩:=Qhm (body:=fun x ς=>gT [4,5] x ς>>=fun ς'=>Qmb ς') (f:=fun j=>D.tup [.int (l j),.int (w j)]) (n:=m)
  (P:=fun j ς=>∃ a4 a5,ς=[some (.s,rl n (fun i=>.int (F i+dkt j l w (i:Int)))),some (.s,rl nd (fun i=>.int (G i+dkt j l w (-1 - (i:Int))))),some (.k,Nu),some (.k,Wu),a4,a5])
  (by
   rintro j hj ς ⟨a4,a5,rfl⟩
   obtain⟨p0,p1⟩:=hl j hj
   refine⟨[some (.s,rl n (fun i=>.int (F i+dkt (j+1) l w (i:Int)))),some (.s,rl nd (fun i=>.int (G i+dkt (j+1) l w (-1 - (i:Int))))),some (.k,Nu),some (.k,Wu),some (.k,.int (l j)),some (.k,.int (w j))],?_,_,_,rfl⟩
   refine r_gT (by walk_at "all") ?_
   unfold Qmb
   by_cases h:0<=l j
   ·obtain⟨p,hp⟩:∃ p:Nat,l j=(p:Int):=⟨(l j).toNat,by omega⟩
    have hpn:p<n:=by omega
    have hx:dIx (rl n (fun i=>.int (F i+dkt j l w (i:Int)))) (.int (p:Int))=.ok (.int (F p+dkt j l w (p:Int))):=ixR hpn
    have hn:=ixNR hpn (fun i=>D.int (F i+dkt j l w (i:Int)))
    have hset:((List.range n).map fun i:Nat=>D.int (F i+dkt j l w (i:Int))).set p (.int (F p+dkt j l w (p:Int)+w j))=(List.range n).map fun i:Nat=>D.int (F i+dkt (j+1) l w (i:Int)):=by
     rw[QEz hpn (fun i=>F i+dkt j l w (i:Int)) (w j)]
     apply List.map_congr_left
     intro i _
     show D.int (F i+dkt j l w (i:Int)+(if (p:Int)=(i:Int) then w j else 0))=D.int (F i+(dkt j l w (i:Int)+if l j=(i:Int) then w j else 0))
     rw[hp,Int.add_assoc]
    have hG:rl nd (fun i=>D.int (G i+dkt (j+1) l w (-1 - (i:Int))))=rl nd (fun i=>D.int (G i+dkt j l w (-1 - (i:Int)))):=QfV fun i _=>by
     show D.int (G i+(dkt j l w (-1 - (i:Int))+if l j = -1 - (i:Int) then w j else 0))=_
     rw[if_neg (by omega),Int.add_zero]
    rw[hG]
    refine r_ifT (by (repeat walk_at "e")) (decide_eq_true h) ?_
    have hi:eVar 4 [some (.s,rl n (fun i=>D.int (F i+dkt j l w (i:Int)))),some (.s,rl nd (fun i=>.int (G i+dkt j l w (-1 - (i:Int))))),some (.k,Nu),some (.k,Wu),some (.k,.int (l j)),some (.k,.int (w j))]=.ok (.int (p:Int)):=by
     rw[← hp];exact r_var rfl
    exact Qol (s:=.s) (k:=(p:Int)) (j:=p) rfl (r_e2 (r_e2 (QiR rfl) hi hx) (r_var rfl) (Q7 _ _)) rfl hi hn (by rw[hset];walk_at "s")
   ·obtain⟨p,hp⟩:∃ p:Nat, -1 - l j=(p:Int):=⟨(-1 - l j).toNat,by omega⟩
    have hpn:p<nd:=by omega
    have hx:dIx (rl nd (fun i=>.int (G i+dkt j l w (-1 - (i:Int))))) (.int (p:Int))=.ok (.int (G p+dkt j l w (-1 - (p:Int)))):=ixR hpn
    have hn:=ixNR hpn (fun i=>D.int (G i+dkt j l w (-1 - (i:Int))))
    have hset:((List.range nd).map fun i:Nat=>D.int (G i+dkt j l w (-1 - (i:Int)))).set p (.int (G p+dkt j l w (-1 - (p:Int))+w j))=(List.range nd).map fun i:Nat=>D.int (G i+dkt (j+1) l w (-1 - (i:Int))):=by
     rw[QEz hpn (fun i=>G i+dkt j l w (-1 - (i:Int))) (w j)]
     apply List.map_congr_left
     intro i _
     show D.int (G i+dkt j l w (-1 - (i:Int))+(if (p:Int)=(i:Int) then w j else 0))=D.int (G i+(dkt j l w (-1 - (i:Int))+if l j = -1 - (i:Int) then w j else 0))
     by_cases e:p=i
     ·subst e
      rw[if_pos rfl,if_pos (by omega),Int.add_assoc]
     ·rw[if_neg (by omega),if_neg (by omega),Int.add_zero,Int.add_zero]
    have hF:rl n (fun i=>D.int (F i+dkt (j+1) l w (i:Int)))=rl n (fun i=>D.int (F i+dkt j l w (i:Int))):=QfV fun i _=>by
     show D.int (F i+(dkt j l w (i:Int)+if l j=(i:Int) then w j else 0))=_
     rw[if_neg (by omega),Int.add_zero]
    rw[hF]
    refine r_ifF (by (repeat walk_at "e")) (decide_eq_false h) ?_
    have hi:e2 dSub (e1 dNeg (eC (.int 1))) (eVar 4) [some (.s,rl n (fun i=>D.int (F i+dkt j l w (i:Int)))),some (.s,rl nd (fun i=>.int (G i+dkt j l w (-1 - (i:Int))))),some (.k,Nu),some (.k,Wu),some (.k,.int (l j)),some (.k,.int (w j))]=.ok (.int (p:Int)):=by
     rw[← hp];(repeat walk_at "e")
    exact Qol (s:=.s) (k:=(p:Int)) (j:=p) rfl (r_e2 (r_e2 (QiR rfl) hi hx) (r_var rfl) (Q7 _ _)) rfl hi hn (by rw[hset];walk_at "s"))
  [some (.s,rl n (fun i=>.int (F i))),some (.s,rl nd (fun i=>.int (G i))),some (.k,Nu),some (.k,Wu),none,none] ⟨none,none,by
   have h1:rl n (fun i=>D.int (F i))=rl n (fun i=>D.int (F i+dkt 0 l w (i:Int))):=QfV fun i _=>by show D.int (F i)=D.int (F i+0);rw[Int.add_zero]
   have h2:rl nd (fun i=>D.int (G i))=rl nd (fun i=>D.int (G i+dkt 0 l w (-1 - (i:Int)))):=QfV fun i _=>by show D.int (G i)=D.int (G i+0);rw[Int.add_zero]
   rw[h1,h2]⟩
 have hfor:=Qa2 (g:=gT [4,5]) (T:=Qmb) (hz _ _) hL
 rw[QQB]
 unfold Qv9
 rw[hfor]
 rfl
section
variable{n nd:Nat}{nm dn c:Nat->Str}{t:Nat->List (List Int)}{m:Nat->Nat}{ld:Nat->Nat->Int}{st:Nat->Int}(hs:Seats n nd nm dn c t m ld st)
include hs
theorem QJL:QbQ [offD n nd nm dn c t m ld st]=.ok (rl nd (fun _=>.int 0)):=by
 have d2:=hs.d2
 have lk:(offF n nd nm dn c t m ld st).lookup ("door_names":Str)=some (rl nd (fun d=>.str (dn d))):=by
  have h1:(("door_names":Str) == "clerk_names")=false:=dk
  unfold offF
  rw[List.lookup_cons,h1,List.lookup_cons,beq_self_eq_true]
 have h1:=fld_o lk
 have hdl:dList (rl nd (fun d=>.str (dn d)))=.ok (rl nd (fun d=>.str (dn d))):=rfl
 have hd:QaJ [offD n nd nm dn c t m ld st]=.ok (rl nd (fun d=>.str (dn d))):=by
  rw[QqH]
  unfold Qef
  (repeat walk_at "e")
 have hm:eMeth Qu "doors" (fun _=>QaJ) (eVar 0) aNil [some (.k,offD n nd nm dn c t m ld st)]=.ok (rl nd (fun d=>.str (dn d))):=by
  rw[QfT (xs:=[]) (r_var rfl) rfl (dk)]
  exact hd
 have hc:eComp [none] (itL (eMeth Qu "doors" (fun _=>QaJ) (eVar 0) aNil)) (gN 0) cTrue QfK [some (.k,offD n nd nm dn c t m ld st)]=.ok (rl nd (fun _=>.int 0)):=by
  refine Q1 (fun d=>D.str (dn d)) (fun _=>D.int 0) (r_itL hm) (fun i hi=>?_) (by rw[List.length_range];omega)
  refine Qab (by walk_at "cap") (by walk_at "s") ?_
  unfold QfK
  (repeat walk_at "e")
 rw[QvB]
 unfold QeR
 exact Qgq (QyJ hc) r_rtT
end
def rw'(t:‹"H"›)(s:Int)(j:Nat):Int:=(t.getD s.toNat []).getD j 0
theorem QMu{c:Str}(hc:CK.contains c=true){t:‹"H"›}{m:Nat}(h:Tb t m){s:Int}(s0:0<=s)(s1:s<(t.length:Int)):QbV [ck c t m,.int s]=.ok (rl m (fun j=>.int (rw' t s j))):=by
 obtain⟨k,rfl⟩:∃ k:Nat,s=(k:Int):=⟨s.toNat,by omega⟩
 have hk:k<t.length:=by omega
 have hg:t.getD k []=t[k]:=by simp[List.getD_eq_getElem?_getD,List.getElem?_eq_getElem hk]
 have hm:(t[k]).length=m:=h.row _ (List.getElem_mem hk)
 have hx:dIx (tbD t) (.int (k:Int))=.ok (dl t[k]):=ixL k (by rw[List.getElem?_map,List.getElem?_eq_getElem hk];rfl)
 have hl:dList (dl t[k])=.ok (dl t[k]):=rfl
 have hf:=fld_t hc t m
 have e:rl m (fun j=>D.int (rw' t (k:Int) j))=dl t[k]:=by
  unfold dl rw'
  rw[QPO hm,Int.toNat_natCast,hg]
 rw[e,QCU]
 unfold Qf8
 exact Qgq (QyJ (r_e1 (r_e2 (r_e1 (r_var rfl) hf) (r_var rfl) hx) hl)) r_rtT
theorem dk_bd{l w:Nat->Int}{x B:Int}:∀ m:Nat,(∀ j,j<m->0<=w j/\w j<=B)->0<=dkt m l w x/\dkt m l w x<=m * B
 | 0,_=>by show 0<=(0:Int)/\(0:Int)<=((0:Nat):Int) * B;simp
 | m+1,h=>by
  obtain⟨h0,h1⟩:=dk_bd (l:=l) (x:=x) m fun j hj=>h j (by omega)
  obtain⟨w0,w1⟩:=h m (by omega)
  show 0<=dkt m l w x+(if l m=x then w m else 0)/\dkt m l w x+(if l m=x then w m else 0)<=((m+1:Nat):Int) * B
  have e:((m+1:Nat):Int) * B=m * B+B:=by
   rw[show((m+1:Nat):Int)=(m:Int)+1 by omega,Int.add_mul,Int.one_mul]
  rw[e]
  split<;>omega
def up1(t:Nat->List (List Int))(S:Nat->Int)(k i:Nat):Int:=if i=k then(S k+1) % ((t k).length:Int) else S i
def dn1(K:Nat->Int)(k i:Nat):Int:=if i=k then K k - 1 else K i
theorem QHG{n k:Nat}(hk:k<n)(f:Nat->Int)(v:Int):((List.range n).map fun i=>D.int (f i)).set k (.int v)=(List.range n).map fun i=>D.int (if i=k then v else f i):=by
 rw[setR hk]
 apply List.map_congr_left
 intro i _
 split<;>rfl
theorem QPh(z N:Int):Q5 [.int z,.int 0,.int N]=.ok (.bl (decide (0<=z)&&decide (z<=N))):=by
 have h:=QtB z
 rw[QmU]
 unfold Qew
 refine Qgq (r_ret (QIS (Qa0 (xs:=[.int z]) (Qo (r_var rfl) r_nil) rfl h) (Qxa rfl (QD7 (r_var rfl) (r_var rfl) (QaG _ _) ?_)))) r_rt
 by_cases h0:0<=z
 ·rw[if_pos (decide_eq_true h0),decide_eq_true h0,Bool.true_and]
  exact QIO (r_var rfl) (QaG _ _)
 ·rw[decide_eq_false h0,Bool.false_and];rfl
theorem frzs4{ς:SD}{r:Out Fl}{T:SD->Out Fl}{is:List Nat}{ς':SD}(h:frzs is ς=ς')(k:T ς'=r):(fun ς=>T (frzs is ς)) ς=r:=by
 show T (frzs is ς)=r
 rw[h];exact k
section
variable{n nd:Nat}{nm dn c:Nat->Str}{t:Nat->List (List Int)}{m:Nat->Nat}{ld:Nat->Nat->Int}{st:Nat->Int}(hs:Seats n nd nm dn c t m ld st)
include hs
theorem QJW{S K G:Nat->Int}{k:Nat}(hk:k<n)(s0:0<=S k)(s1:S k<((t k).length:Int)):
 QeX [offD n nd nm dn c t m ld st,rl n (fun i=>.int (S i)),rl n (fun i=>.int (K i)),rl nd (fun i=>.int (G i)),.int (k:Int)]=
  .ok (.non,some [rl n (fun i=>.int (up1 t S k i)),rl n ‹"M"›,rl nd (fun i=>.int (G i+dkt (m k) (ld k) (rw' (t k) (S k)) (-1 - (i:Int))))]):=by
 have hc:=hs.ck k hk
 have tb:=hs.tb k hk
 have n1:=tb.n1
 have hrow:=QMu hc tb s0 s1
 have hlay:=QP7 (n:=n) (nd:=nd) (m:=m k) (l:=ld k) (w:=rw' (t k) (S k)) (F:=dn1 K k) (G:=G) (fun j hj=>hs.ldr k j hk hj)
 have hx1:dIx (rl n (fun i=>D.int (S i))) (.int (k:Int))=.ok (.int (S k)):=ixR (f:=fun i=>D.int (S i)) hk
 have hx2:dIx (rl n (fun i=>D.int (K i))) (.int (k:Int))=.ok (.int (K k)):=ixR (f:=fun i=>D.int (K i)) hk
 have hn1:=ixNR hk (fun i=>D.int (S i))
 have hn2:=ixNR hk (fun i=>D.int (K i))
 have p1:((List.range n).map fun i=>D.int (S i)).set k (.int ((S k+1) % ((t k).length:Int)))=(List.range n).map fun i=>D.int (up1 t S k i):=QHG hk S _
 have p2:((List.range n).map fun i=>D.int (K i)).set k (.int (K k - 1))=(List.range n).map fun i=>D.int (dn1 K k i):=QHG hk K _
 have hmod:dMod (.int (S k+1)) (.int ((t k).length:Int))=.ok (.int ((S k+1) % ((t k).length:Int))):=Qe0 (by omega)
 have hclk:∀ ς:SD,ς[0]?=some (some (.k,offD n nd nm dn c t m ld st))->ς[4]?=some (some (.k,.int (k:Int)))->eMeth Qu "clerk" (fun _=>Qao) (eVar 0) (aCons (eVar 4) aNil) ς=.ok (ck (c k) (t k) (m k)):=fun ς h0 h4=>by
  rw[QfT (xs:=[.int (k:Int)]) (r_var h0) (Qo (r_var h4) r_nil) (dk)]
  exact Qtd hk
 have hlds:∀ ς:SD,ς[0]?=some (some (.k,offD n nd nm dn c t m ld st))->ς[4]?=some (some (.k,.int (k:Int)))->eMeth Qu "leads" (fun _=>Qad) (eVar 0) (aCons (eVar 4) aNil) ς=.ok (rl (m k) ‹"J"›):=fun ς h0 h4=>by
  rw[QfT (xs:=[.int (k:Int)]) (r_var h0) (Qo (r_var h4) r_nil) (dk)]
  exact Qtn hk
 have hro:∀ ς:SD,ς[1]?=some (some (.s,rl n (fun i=>.int (S i))))->ς[4]?=some (some (.k,.int (k:Int)))->ς[5]?=some (some (.k,ck (c k) (t k) (m k)))->eMeth Qc "row" (fun _=>QbV) (eVar 5) (aCons (fun ς=>QiP ((e2 dIx (eVarB 1) (eVar 4)) ς)) aNil) ς=.ok (rl (m k) (fun j=>.int (rw' (t k) (S k) j))):=fun ς h1 h4 h5=>by
  rw[Qc3 (c:=c k) (t:=t k) (m:=m k) hc (xs:=[.int (S k)]) (r_var h5) (Qo (QwD (r_e2 (QiR h1) (r_var h4) hx1) rfl) r_nil) (dk) (dk)]
  exact hrow
 have hper:∀ ς:SD,ς[5]?=some (some (.k,ck (c k) (t k) (m k)))->eMeth Qc "period" (fun _=>QI) (eVar 5) aNil ς=.ok (.int ((t k).length:Int)):=fun ς h5=>by
  rw[Qc3 (c:=c k) (t:=t k) (m:=m k) hc (xs:=[]) (r_var h5) rfl (dk) (dk)]
  exact Qh8 hc _ _
 generalize offD n nd nm dn c t m ld st=O at *
 generalize hCk:ck (c k) (t k) (m k)=Ck at *
 have hb:Qhi [some (.k,O),some (.s,rl n (fun i=>.int (S i))),some (.s,rl n (fun i=>.int (K i))),some (.s,rl nd (fun i=>.int (G i))),some (.k,.int (k:Int)),none]=.ok (.nx [some (.k,O),some (.s,rl n (fun i=>.int (up1 t S k i))),some (.s,rl n ‹"M"›),some (.s,rl nd (fun i=>.int (G i+dkt (m k) (ld k) (rw' (t k) (S k)) (-1 - (i:Int))))),some (.k,.int (k:Int)),some (.k,Ck)]):=by
  unfold Qhi
  refine r_seq (r_set (hclk _ rfl rfl) (by walk_at "s")) (QY ?_)
  refine r_seq (fl:=.nx [some (.k,O),some (.s,rl n (fun i=>.int (S i))),some (.s,rl n (fun i=>.int (dn1 K k i))),some (.s,rl nd (fun i=>.int (G i))),some (.k,.int (k:Int)),some (.k,Ck)]) (Qol (s:=.s) (k:=(k:Int)) (j:=k) (d:=.int (K k - 1)) rfl (r_e2 (r_e2 (QiR rfl) (r_var rfl) hx2) r_C (QaD _ _)) rfl (r_var rfl) hn2 (by rw[p2];walk_at "s")) (QY ?_)
  refine r_seq (fl:=.nx [some (.k,O),some (.s,rl n (fun i=>.int (S i))),some (.s,rl n ‹"M"›),some (.s,rl nd (fun i=>.int (G i+dkt (m k) (ld k) (rw' (t k) (S k)) (-1 - (i:Int))))),some (.k,.int (k:Int)),some (.k,Ck)]) (QEk (Qo (QkD (s:=.s) rfl rfl) (Qo (QkD (s:=.s) rfl rfl) (Qo (hlds _ rfl rfl) (Qo (hro _ rfl rfl rfl) r_nil)))) hlay rfl) (QY ?_)
  exact Qol (s:=.s) (k:=(k:Int)) (j:=k) (d:=.int ((S k+1) % ((t k).length:Int))) rfl (r_e2 (r_e2 (r_e2 (QiR rfl) (r_var rfl) hx1) r_C (Q7 _ _)) (hper _ rfl) hmod) rfl (r_var rfl) hn1 (by rw[p1];walk_at "s")
 rw[QKE,hb]
 rfl
theorem QOw{ς:SD}(h:ς[0]?=some (some (.k,offD n nd nm dn c t m ld st))):eMeth Qu "many" (fun _=>Qbj) (eVar 0) aNil ς=.ok (.int (n:Int)):=by
 rw[QfT (xs:=[]) (r_var h) rfl (dk)]
 exact QKC
theorem QGj{S K:Nat->Int}{k:Nat}(hk:k<n)(s0:0<=S k)(s1:S k<((t k).length:Int))(k1:1<=K k):
 QdR [offD n nd nm dn c t m ld st,rl n (fun i=>.int (S i)),rl n (fun i=>.int (K i)),.int (k:Int)]=
  .ok (.tup [rl n (fun i=>.int (up1 t S k i)),rl n ‹"M"›,rl nd (fun i=>.int (0+dkt (m k) (ld k) (rw' (t k) (S k)) (-1 - (i:Int))))]):=by
 have hh:=QJW hs (S:=S) (K:=K) (G:=fun _=>0) hk s0 s1
 have hno:=QJL hs
 have hmy:=fun ς h=>QOw hs (ς:=ς) h
 have hx2:dIx (rl n (fun i=>D.int (K i))) (.int (k:Int))=.ok (.int (K k)):=ixR (f:=fun i=>D.int (K i)) hk
 have hw:Q5 [.int (k:Int),.int 0,.int ((n:Int) - 1)]=.ok (.bl true):=by
  rw[QPh,decide_eq_true (show(0:Int)<=(k:Int) by omega),decide_eq_true (show(k:Int)<=(n:Int) - 1 by omega)];rfl
 have l1:dList (rl n (fun i=>D.int (S i)))=.ok (rl n (fun i=>D.int (S i))):=rfl
 have l2:dList (rl n (fun i=>D.int (K i)))=.ok (rl n (fun i=>D.int (K i))):=rfl
 have hs1:(rl nd (fun _=>D.int 0)).scal=false:=rfl
 generalize offD n nd nm dn c t m ld st=O at *
 generalize rl n (fun i=>D.int (S i))=Sd at *
 generalize rl n (fun i=>D.int (K i))=Kd at *
 generalize rl nd (fun _=>D.int 0)=Gd at *
 have hk1:¬ K k<1:=by omega
 rw[QKs]
 unfold QhT
 refine Qgq (fl:=.rt false (.tup [rl n (fun i=>.int (up1 t S k i)),rl n ‹"M"›,rl nd (fun i=>.int (0+dkt (m k) (ld k) (rw' (t k) (S k)) (-1 - (i:Int))))])) ?_ r_rt
 refine r_seq (fl:=.nx [some (.k,O),some (.k,Sd),some (.k,Kd),some (.k,.int (k:Int)),none,none,none]) ?_ (QY ?_)
 ·refine r_ifF (b:=false) ?_ rfl Qpj
  refine r_or' (b:=false) (QyZ (b:=true) (Qg7 (Qa0 (xs:=[.int (k:Int),.int 0,.int ((n:Int) - 1)]) (Qo (r_var rfl) (Qo r_C (Qo (r_e2 (hmy _ rfl) r_C (QaD _ _)) r_nil))) rfl hw))) ?_
  refine Qwx rfl ?_
  rw[Qg7 (r_e2 (r_e2 (r_var rfl) (r_var rfl) hx2) r_C (Qam _ _)),decide_eq_false hk1]
 refine r_seq (Qlh (r_e1 (r_var rfl) l1) (by walk_at "s")) (QY (r_seq (Qlh (r_e1 (r_var rfl) l2) (by walk_at "s")) (QY (r_seq (Qlh (QtG (Qa0 (xs:=[O]) (Qo (r_var rfl) r_nil) rfl hno) hs1) (by walk_at "s")) (QY ?_)))))
 refine r_seq (QEk (Qo (r_var rfl) (Qo (QkD (s:=.o) rfl rfl) (Qo (QkD (s:=.o) rfl rfl) (Qo (QkD (s:=.o) rfl rfl) (Qo (r_var rfl) r_nil))))) hh rfl) (QY ?_)
 exact frzs4 (T:=sRet (eTup (aCons (eVar 4) (aCons (eVar 5) (aCons (eVar 6) aNil))))) rfl (r_ret (r_tup (Qo (r_var rfl) (Qo (r_var rfl) (Qo (r_var rfl) r_nil))) (show 3<=1000 by decide)))
end
def posI(n i:Nat):Int:=if i<n then(i:Int) else -1 - ((i - n:Nat):Int)
def ixl(n:Nat)(x:Int):Nat:=if x<0 then n+(-1 - x).toNat else x.toNat
theorem QQp{n nd:Nat}{x:Int}(h0 : -(nd:Int)<=x)(h1:x<(n:Int)):ixl n x<n+nd:=by unfold ixl;split<;>omega
theorem QEb{n nd i:Nat}{x:Int}(h0 : -(nd:Int)<=x)(h1:x<(n:Int)):x=posI n i↔i=ixl n x:=by
 unfold posI ixl
 split<;>split<;>omega
theorem dk_sm{n nd:Nat}{l w:Nat->Int}(Q:Nat->Rat):∀ m:Nat,(∀ j,j<m -> -(nd:Int)<=l j/\l j<(n:Int))->Bar.sm (n+nd) (fun i=>((dkt m l w (posI n i):Int):Rat) * Q i)=Bar.sm m (fun j=>((w j:Int):Rat) * Q (ixl n (l j)))
 | 0,_=>Bar.sm_zero fun i _=>by show((0:Int):Rat) * Q i=0;exact Rat.zero_mul _
 | m+1,h=>by
  obtain⟨h0,h1⟩:=h m (Nat.lt_succ_self m)
  have ih:=dk_sm (nd:=nd) (l:=l) (w:=w) Q m fun j hj=>h j (Nat.lt_succ_of_lt hj)
  have e:Bar.sm (n+nd) (fun i=>((dkt (m+1) l w (posI n i):Int):Rat) * Q i)=Bar.sm (n+nd) (fun i=>((dkt m l w (posI n i):Int):Rat) * Q i+(((w m:Int):Rat) * Q i) * (if i=ixl n (l m) then 1 else 0)):=Bar.sm_congr fun i _=>by
   show((dkt m l w (posI n i)+(if l m=posI n i then w m else 0):Int):Rat) * Q i=_
   by_cases z:l m=posI n i
   ·rw[if_pos z,if_pos ((QEb h0 h1).mp z),Rat.intCast_add];grind
   ·rw[if_neg z,if_neg (fun y=>z ((QEb h0 h1).mpr y)),Rat.intCast_add];grind
  rw[e,Bar.sm_add,ih,Bar.sm_unit (QQp h0 h1) (fun i=>((w m:Int):Rat) * Q i)]
  rfl
theorem QKm{t:‹"H"›}{m:Nat}{q:Nat->Rat}(h1:1<=t.length){s:Nat}(hs:s<t.length):leanQ t m q ((s+1) % t.length)=leanQ t m q s+meanQ t m q - rowQ t m q s:=by
 have a:=Ql4 (t:=t) (m:=m) (q:=q) h1 s (by omega)
 have b:=Ql4 (t:=t) (m:=m) (q:=q) h1 (s+1) (by omega)
 have z:=Ql4 (t:=t) (m:=m) (q:=q) h1 0 (by omega)
 have hb:Bar.sm (s+1) (rowQ t m q)=Bar.sm s (rowQ t m q)+rowQ t m q s:=rfl
 have hz:Bar.sm 0 (rowQ t m q)=0:=rfl
 have hc:(((s+1:Nat):Int):Rat)=((s:Int):Rat)+1:=by rw[Int.natCast_succ,Rat.intCast_add];rfl
 by_cases e:s+1=t.length
 ·rw[e,Nat.mod_self]
  have hl:leanQ t m q t.length=0:=by
   have b:=Ql4 (t:=t) (m:=m) (q:=q) h1 t.length (Nat.le_refl _)
   rw[b]
   unfold meanQ
   have hne:((t.length:Int):Rat)≠0:=by
    intro y
    have:(t.length:Int)=0:=by exact_mod_cast y
    omega
   grind
  rw[e]at b
  rw[hl]at b
  rw[← e]at b
  rw[hb,hc]at b
  rw[z,hz,a]
  have z0:(((0:Nat):Int):Rat)=0:=rfl
  rw[z0]
  grind
 ·rw[Nat.mod_eq_of_lt (by omega),b,hb,hc,a]
  grind
theorem sm_at{n k:Nat}(hk:k<n){f g:Nat->Rat}(h:∀ i,i<n->i≠k->g i=f i):Bar.sm n g=Bar.sm n f+(g k - f k):=by
 have e:Bar.sm n g=Bar.sm n (fun i=>f i+(g k - f k) * (if i=k then 1 else 0)):=Bar.sm_congr fun i hi=>by
  by_cases z:i=k
  ·subst z;rw[if_pos rfl];grind
  ·rw[if_neg z,h i hi z];grind
 rw[e,Bar.sm_add,Bar.sm_unit hk (fun _=>g k - f k)]
theorem QHS{n nd:Nat}{nm dn c:Nat->Str}{t:Nat->List (List Int)}{m:Nat->Nat}{ld:Nat->Nat->Int}{st:Nat->Int}(hs:Seats n nd nm dn c t m ld st){wr dw:Nat->Int×Int}{sk de ou:Nat->Int}{k:Nat}(hk:k<n)(s0:0<=sk k)(s1:sk k<((t k).length:Int)):
 Bar.sm (n+nd) (fun i=>((if i<n then dn1 de k i+dkt (m k) (ld k) (rw' (t k) (sk k)) (i:Int) else ou (i - n)+(0+dkt (m k) (ld k) (rw' (t k) (sk k)) (-1 - ((i - n:Nat):Int))):Int):Rat) * qt ‹"E"›)+Bar.sm n (fun j=>leanQ (t j) (m j) (fun o=>qt (bh ld wr dw j o)) (up1 t sk k j).toNat)=
 Bar.sm (n+nd) (fun i=>((if i<n then de i else ou (i - n):Int):Rat) * qt ‹"E"›)+Bar.sm n (fun j=>leanQ (t j) (m j) (fun o=>qt (bh ld wr dw j o)) (sk j).toNat)+(meanQ (t k) (m k) (fun o=>qt (bh ld wr dw k o)) - qt (wr k)):=by
 have n1:=(hs.tb k hk).n1
 have hd:=dk_sm (nd:=nd) (l:=ld k) (w:=rw' (t k) (sk k)) (fun i=>qt ‹"E"›) (m k) (fun j hj=>hs.ldr k j hk hj)
 have hrow:Bar.sm (m k) (fun j=>((rw' (t k) (sk k) j:Int):Rat) * qt (if ixl n (ld k j)<n then wr (ixl n (ld k j)) else dw (ixl n (ld k j) - n)))=rowQ (t k) (m k) (fun o=>qt (bh ld wr dw k o)) (sk k).toNat:=by
  unfold rowQ
  refine Bar.sm_congr fun j hj=>?_
  obtain⟨a,b⟩:=hs.ldr k j hk hj
  have e:(if ixl n (ld k j)<n then wr (ixl n (ld k j)) else dw (ixl n (ld k j) - n))=bh ld wr dw k j:=by
   unfold ixl bh
   by_cases z:ld k j<0
   ·rw[if_pos z,if_pos z,if_neg (by omega),Nat.add_sub_cancel_left]
   ·rw[if_neg z,if_neg z,if_pos (by omega)]
  rw[e]
  rfl
 have hcnt:Bar.sm (n+nd) (fun i=>((if i<n then dn1 de k i+dkt (m k) (ld k) (rw' (t k) (sk k)) (i:Int) else ou (i - n)+(0+dkt (m k) (ld k) (rw' (t k) (sk k)) (-1 - ((i - n:Nat):Int))):Int):Rat) * qt ‹"E"›)=
  Bar.sm (n+nd) (fun i=>((if i<n then de i else ou (i - n):Int):Rat) * qt ‹"E"›)+rowQ (t k) (m k) (fun o=>qt (bh ld wr dw k o)) (sk k).toNat - qt (wr k):=by
  rw[← hrow, ← hd]
  have hu:=Bar.sm_unit (n:=n+nd) (e:=k) (by omega) (fun i=>(-1) * qt ‹"E"›)
  have hk':(-1) * qt (if k<n then wr k else dw (k - n)) = - qt (wr k):=by rw[if_pos hk];grind
  rw[hk']at hu
  rw[Rat.sub_eq_add_neg, ← hu, ← Bar.sm_add, ← Bar.sm_add]
  refine Bar.sm_congr fun i hi=>?_
  generalize qt ‹"E"›=Qi
  unfold posI dn1
  by_cases z:i<n
  ·rw[if_pos z,if_pos z,if_pos z]
   by_cases y:i=k
   ·subst y
    rw[if_pos rfl,if_pos rfl,Rat.intCast_add,Rat.intCast_sub]
    have:((1:Int):Rat)=1:=rfl
    rw[this];grind
   ·rw[if_neg y,if_neg y,Rat.intCast_add];grind
  ·rw[if_neg z,if_neg z,if_neg z,if_neg (by omega),Int.zero_add,Rat.intCast_add];grind
 have hlean:Bar.sm n (fun j=>leanQ (t j) (m j) (fun o=>qt (bh ld wr dw j o)) (up1 t sk k j).toNat)=Bar.sm n (fun j=>leanQ (t j) (m j) (fun o=>qt (bh ld wr dw j o)) (sk j).toNat)+(meanQ (t k) (m k) (fun o=>qt (bh ld wr dw k o)) - rowQ (t k) (m k) (fun o=>qt (bh ld wr dw k o)) (sk k).toNat):=by
  rw[sm_at hk (f:=fun j=>leanQ (t j) (m j) (fun o=>qt (bh ld wr dw j o)) (sk j).toNat) (g:=fun j=>leanQ (t j) (m j) (fun o=>qt (bh ld wr dw j o)) (up1 t sk k j).toNat) (fun i _ hne=>by show leanQ _ _ _ (up1 t sk k i).toNat=_;unfold up1;rw[if_neg hne])]
  have e:(up1 t sk k k).toNat=((sk k).toNat+1) % (t k).length:=by
   unfold up1
   rw[if_pos rfl]
   obtain⟨r,hr⟩:∃ r:Nat,sk k=(r:Int):=⟨(sk k).toNat,by omega⟩
   rw[hr,Int.toNat_natCast, ← Int.natCast_succ, ← Int.natCast_emod,Int.toNat_natCast]
  show _+(leanQ (t k) (m k) _ (up1 t sk k k).toNat - leanQ (t k) (m k) _ (sk k).toNat)=_
  rw[e,QKm n1 (by omega)]
  grind
 rw[hcnt,hlean]
 grind
theorem QQi{k:Nat}(K:Nat->Int)(e:Int):(List.range k).map (fun j=>D.int (K j))++[.int e]=(List.range (k+1)).map (fun i=>D.int (if i<k then K i else e)):=by
 rw[List.range_succ,List.map_append]
 congr 1
 ·apply List.map_congr_left
  intro i hi
  rw[if_pos (List.mem_range.mp hi)]
 ·show _=[D.int (if k<k then K k else e)]
  rw[if_neg (Nat.lt_irrefl k)]
theorem QLu(ns:List Int){n:Nat}(hn:n<=12):∃ K:Nat->Int,(∀ i,i<n->0<=K i/\K i<=5)/\Qcv [.lst (ns.map .int),.int (n:Int)]=.ok (rl n (fun i=>.int (K i))):=by
 have cell:∀ k:Nat,∃ w:Int,Q3 [.lst (ns.map .int),.int (k:Int)]=.ok (.int w):=fun k=>Ql6 ns k
 generalize hS:D.lst (ns.map .int)=S at *
 obtain⟨ς',hL,K,a3,a4,rfl,hK⟩:=QbA (body:=fun x ς=>gN 3 x ς>>=fun ς'=>QeG ς') (n:=n)
  (P:=fun k ς=>∃(K:Nat->Int)(a3 a4:Option (SM×D)),ς=[some (.k,S),some (.k,.int (n:Int)),some (.o,rl k (fun i=>.int (K i))),a3,a4]/\∀ i,i<k->0<=K i/\K i<=5)
  (by
   rintro k hk ς ⟨K,a3,a4,rfl,hK⟩
   obtain⟨w,hw⟩:=cell (6+k)
   have hw:Q3 [S,.int (6+(k:Int))]=.ok (.int w):=by
    have e:(((6+k:Nat)):Int)=6+(k:Int):=by omega
    rw[e]at hw;exact hw
   obtain⟨z,z0,_,hz⟩:=Qdk w (k:=(k:Int)+20) (Nat.le_trans (QS (show((k:Int)+20).natAbs<2 ^ 10 by omega)) (by decide))
   have mz:dMod (.int z) (.int 6)=.ok (.int (z % 6)):=Qe0 (by decide)
   obtain⟨b,b0,hb⟩:∃ b:Int,(0<=b/\b<=5)/\dIx (.lst [.int 0,.int 1,.int 2,.int 3,.int 0,.int 5]) (.int (z % 6))=.ok (.int b):=by
    rcases(by omega:z % 6=0∨z % 6=1∨z % 6=2∨z % 6=3∨z % 6=4∨z % 6=5) with e | e | e | e | e | e<;>rw[e]
    ·exact⟨0,by decide,rfl⟩
    ·exact⟨1,by decide,rfl⟩
    ·exact⟨2,by decide,rfl⟩
    ·exact⟨3,by decide,rfl⟩
    ·exact⟨0,by decide,rfl⟩
    ·exact⟨5,by decide,rfl⟩
   have ea:=QQi (k:=k) K b
   refine⟨[some (.k,S),some (.k,.int (n:Int)),some (.o,rl (k+1) (fun i=>.int (if i<k then K i else b))),some (.k,.int (k:Int)),some (.k,.int z)],?_,_,_,_,rfl,fun i hi=>?_⟩
   ·refine r_gN (by walk_at "s") ?_
    unfold QeG
    refine r_seq (r_set (Qa0 (xs:=[.int w,.int ((k:Int)+20)]) (Qo (Qa0 (xs:=[S,.int (6+(k:Int))]) (Qo (r_var rfl) (Qo (r_e2 r_C (r_var rfl) (Q7 _ _)) r_nil)) rfl hw) (Qo (r_e2 (r_var rfl) r_C (Q7 _ _)) r_nil)) rfl hz) (by walk_at "s")) (QY ?_)
    exact r_app (xs:=(List.range k).map fun i=>D.int (K i)) rfl (r_e2 (r_lst (Qo r_C (Qo r_C (Qo r_C (Qo r_C (Qo r_C (Qo r_C r_nil)))))) (show 6<=1000 by decide)) (r_e2 (r_var rfl) r_C mz) hb) (by rw[List.length_map,List.length_range];omega) (by rw[ea];walk_at "s")
   ·show 0<=(if i<k then K i else b)/\(if i<k then K i else b)<=5
    split
    ·rename_i h;exact hK i h
    ·exact b0)
  [some (.k,S),some (.k,.int (n:Int)),some (.o,rl 0 (fun i=>.int 0)),none,none] ⟨fun _=>0,none,none,rfl,fun i hi=>absurd hi (by omega)⟩
 have hR:itR1 (eVar 1) [some (.k,S),some (.k,.int (n:Int)),some (.o,rl 0 (fun i=>.int 0)),none,none]=.ok (Qa4 0 n):=Qca n (r_var rfl) (by omega)
 have hfor:=Qa2 (g:=gN 3) (T:=QeG) hR hL
 refine⟨K,hK,?_⟩
 rw[QBB]
 unfold Qf0
 refine Qgq (r_seq (Qlh (d:=rl 0 (fun i=>.int 0)) (by show eLst aNil _=Out.ok (D.lst []);(repeat walk_at "e")) (by walk_at "s")) (QY (r_seq hfor (QY (QJ0 rfl))))) r_rtT
theorem QLz(ns:List Int):∃(n nd:Nat)(kd:Nat->Int)(t:Nat->List (List Int))(m:Nat->Nat)(ld:Nat->Nat->Int)(st K:Nat->Int),1<=n/\n<=5/\1<=nd/\nd<=3/\Plan n nd kd t m ld st n/\(∀ i,i<n->0<=K i/\K i<=5)/\
 QcF [.lst (ns.map .int)]=.ok (.tup [rl n ‹"h"›,.int (nd:Int),rl n (fun i=>.int (st i)),rl n (fun i=>.int (K i))]):=by
 obtain⟨n,nd,kd,t,m,ld,st,n1,n5,d1,d3,pl,hplan⟩:=QOa ns
 obtain⟨K,hK,hdk⟩:=QLu ns (n:=n) (by omega)
 refine⟨n,nd,kd,t,m,ld,st,K,n1,n5,d1,d3,pl,hK,?_⟩
 have hlen:=lenR n ‹"h"›
 have hst:∀ ς:SD,ς[1]?=some (some (.k,rl n ‹"h"›))->eComp [none] (itL (eVar 1)) (gN 0) cTrue QgE ς=.ok (rl n (fun i=>.int (st i))):=fun ς h=>by
  refine Q1 ‹"h"› (fun i=>D.int (st i)) (r_itL (r_var h)) (fun i hi=>?_) (by rw[List.length_range];omega)
  refine Qab (by walk_at "cap") (by walk_at "s") ?_
  unfold QgE
  exact r_e2 (r_var rfl) r_C (ix_t 3 rfl)
 generalize rl n ‹"h"›=P at *
 generalize D.lst (ns.map D.int)=S at *
 rw[QBA]
 unfold Qf4
 refine Qgq (fl:=.rt false (.tup [P,.int (nd:Int),rl n (fun i=>.int (st i)),rl n (fun i=>.int (K i))])) ?_ r_rt
 refine r_seq (r_unp (ys:=[P,.int (nd:Int)]) (Qa0 (xs:=[S]) (Qo (r_var rfl) r_nil) rfl hplan) (by walk_at "all")) (QY ?_)
 exact r_ret (r_tup (Qo (r_var rfl) (Qo (r_var rfl) (Qo (hst _ rfl) (Qo (Qa0 (xs:=[S,.int (n:Int)]) (Qo (r_var rfl) (Qo (r_eA (Qo (r_var rfl) r_nil) hlen) r_nil)) rfl hdk) r_nil)))) (show 4<=1000 by decide))
theorem QQo{p:Int×Int}{Z M:Int}(l:low p.1 p.2)(hM:1<=M)(h:qt p=(Z:Rat) / (M:Rat)):p.1.natAbs<=Z.natAbs:=by
 obtain⟨e,he⟩:=QEw l hM h
 have p1:=l.1
 have c1:=Qal p1
 have c2:=Qal hM
 have e0:p.1 * M=Z * p.2:=by
  have:((p.1 * M:Int):Rat)=((Z * p.2:Int):Rat):=by
   rw[Rat.intCast_mul,Rat.intCast_mul]
   unfold qt at h
   grind
  exact Rat.intCast_inj.mp this
 have e1':p.1 * e=Z:=by
  rw[he]at e0
  have:p.2 * (p.1 * e)=p.2 * Z:=by rw[Int.mul_comm p.2 Z, ← e0,Int.mul_left_comm]
  exact Int.eq_of_mul_eq_mul_left (by omega) this
 have en:e≠0:=fun z=>by rw[z,Int.mul_zero]at he;omega
 rw[← e1',Int.natAbs_mul]
 exact Nat.le_mul_of_pos_right _ (by omega)
theorem QNH{M:Int}{b m:Nat}{f:Nat->Rat}(h:∀ j,j<m->∃ z:Int,z.natAbs<=b/\f j=(z:Rat) / (M:Rat)):∃ Z:Int,Z.natAbs<=m * b/\Bar.sm m f=(Z:Rat) / (M:Rat):=by
 induction m with
 | zero=>
  refine⟨0,by simp,?_⟩
  show(0:Rat)=((0:Int):Rat) / _
  have e0:((0:Int):Rat)=0:=rfl
  rw[e0];grind
 | succ m ih=>
  obtain⟨Z,bZ,hZ⟩:=ih fun j hj=>h j (by omega)
  obtain⟨z,bz,hz⟩:=h m (by omega)
  refine⟨Z+z,?_,?_⟩
  ·rw[Nat.succ_mul];omega
  ·show Bar.sm m f+f m=_
   rw[hZ,hz,Rat.intCast_add];grind
theorem QFY{t:‹"H"›}{m s:Nat}{f:Nat->Int×Int}{B:Int}(tb:Tb t m)(hs:s<=t.length)(B1:1<=B)(B2:B<=1000000000)(hf:∀ j,j<m->1<=(f j).2/\(f j).2∣B/\bitsI (f j).1<=100):∃ Z:Int,Z.natAbs<=m * (2 ^ 11 * (2 ^ 100 * 2 ^ 30))/\leanQ t m (fun j=>qt (f j)) s=(Z:Rat) / (((t.length:Int) * B:Int):Rat):=by
 unfold leanQ
 have n1:=tb.n1
 have n2:=tb.n2
 refine QNH fun j hj=>?_
 obtain⟨h1,⟨d,hd⟩,hb⟩:=hf j hj
 have hn:=Qal (z:=(t.length:Int)) (by omega)
 have hB:=Qal B1
 have h2:=Qal h1
 have a:=cs_le tb t.length j
 have b:=cs_le tb s j
 have c1:(s:Int) * cs t t.length j<=12 * 108:=Int.mul_le_mul (by omega) (by omega) a.1 (by decide)
 have c2:(t.length:Int) * cs t s j<=12 * 108:=Int.mul_le_mul (by omega) (by omega) b.1 (by decide)
 have c3:0<=(s:Int) * cs t t.length j:=Int.mul_nonneg (by omega) a.1
 have c4:0<=(t.length:Int) * cs t s j:=Int.mul_nonneg (by omega) b.1
 have cb:((s:Int) * cs t t.length j - (t.length:Int) * cs t s j).natAbs<=2 ^ 11:=by omega
 generalize ((s:Int) * cs t t.length j - (t.length:Int) * cs t s j)=c at *
 have d1:1<=d:=by
  rcases Int.lt_or_le d 1 with z | z
  ·have:(f j).2 * d<=0:=Int.mul_nonpos_of_nonneg_of_nonpos (by omega) (by omega)
   omega
  ·exact z
 have d2:d<=B:=by
  have:1 * d<=(f j).2 * d:=Int.mul_le_mul_of_nonneg_right h1 (by omega)
  omega
 refine⟨c * ((f j).1 * d),?_,?_⟩
 ·rw[Int.natAbs_mul,Int.natAbs_mul]
  exact Nat.mul_le_mul cb (Nat.mul_le_mul (Nat.le_of_lt (Qbt hb)) (by omega))
 have eB:(B:Rat)=((f j).2:Rat) * (d:Rat):=by rw[hd,Rat.intCast_mul]
 show(c:Rat) / ((t.length:Int):Rat) * qt (f j)=_
 rw[Rat.intCast_mul,Rat.intCast_mul,Rat.intCast_mul]
 unfold qt
 rw[eB]at hB ⊢
 have hd0:(d:Rat)≠0:=fun w=>hB (by rw[w];grind)
 clear hd d2 d1 c1 c2 c3 c4 a b
 generalize ((t.length:Int):Rat)=N at *
 generalize ((f j).2:Rat)=y at *
 generalize (d:Rat)=e at *
 generalize ((f j).1:Rat)=x at *
 generalize (c:Rat)=u at *
 grind
theorem QKQ{x y:Int×Int}{c1 c2:Nat}(x1:1<=x.2)(y1:1<=y.2)(X2:bitsI x.1<=22000)(x3:bitsI x.2<=c1)(Y2:bitsI y.1<=22000)(y3:bitsI y.2<=c2)(h:c1+c2<=7800):∃ p:Int×Int,low p.1 p.2/\qt p=qt x+qt y/\Qaw [fr x,fr y]=.ok (fr p):=by
 have q1:1 * 1<=x.2 * y.2:=Int.mul_le_mul x1 y1 (by decide) (by omega)
 have q:1<=x.2 * y.2:=by omega
 have bb:bitsI (x.2 * y.2)<=c1+c2:=Qcu x3 y3
 have hl:=QqA (a:=x.1 * y.2+y.1 * x.2) q (by omega)
 refine⟨pr (x.1 * y.2+y.1 * x.2) (x.2 * y.2),Qfs (by omega),?_,?_⟩
 ·rw[qt_pr (by omega),Rat.intCast_add,Rat.intCast_mul,Rat.intCast_mul,Rat.intCast_mul]
  have:=Qal x1
  have:=Qal y1
  unfold qt
  grind
 ·have a0:=fr0 x
  have a1:=fr1 x
  have c0:=fr0 y
  have c1':=fr1 y
  have X3:bitsI x.2<=7800:=by omega
  have Y3:bitsI y.2<=7800:=by omega
  clear x3 y3 bb
  rw[Qo8]
  unfold Qfx
  (repeat walk_at "e")
def BQ(n nd:Nat)(t:Nat->List (List Int))(m:Nat->Nat)(ld:Nat->Nat->Int)(wr dw:Nat->Int×Int)(sk de ou:Nat->Int):Rat:=Bar.sm (n+nd) (fun i=>((if i<n then de i else ou (i - n):Int):Rat) * qt ‹"E"›)+Bar.sm n (fun j=>leanQ (t j) (m j) (fun o=>qt (bh ld wr dw j o)) (sk j).toNat)
section
variable{n nd:Nat}{nm dn c:Nat->Str}{t:Nat->List (List Int)}{m:Nat->Nat}{ld:Nat->Nat->Int}{st kd:Nat->Int}(hs:Seats n nd nm dn c t m ld st)(n5:n<=5)(d3:nd<=3){wr dw:Nat->Int×Int}(hw:∀ i,i<n->okW (wr i))(hd:∀ i,i<nd->okW (dw i)){B:Int}(B1:1<=B)(B2:B<=1000000000)(vw:∀ i,i<n->(wr i).2∣B)(vd:∀ i,i<nd->(dw i).2∣B)
include hs hw hd B1 B2 vw vd
theorem QMx{k s:Nat}(hk:k<n)(hs':s<(t k).length):∃ p:Int×Int,low p.1 p.2/\qt p=leanQ (t k) (m k) (fun o=>qt (bh ld wr dw k o)) s/\bitsI p.1<=7700/\p.2.natAbs<=2 ^ 48/\Qd4 [offD n nd nm dn c t m ld st,.int (k:Int),.int (s:Int),rl n (fun i=>fr (wr i)),rl nd (fun i=>fr (dw i))]=.ok (fr p):=by
 obtain⟨p,lp,qp,bp,hp⟩:=QNM hs hw hd hk hs'
 have tb:=hs.tb k hk
 have n1:=tb.n1
 have n2:=tb.n2
 have m6:=tb.m6
 obtain⟨Z,bZ,hZ⟩:=QFY (s:=s) tb (by omega) B1 B2 (f:=bh ld wr dw k) (fun j hj=>by
  obtain⟨l1,l2⟩:=hs.ldr k j hk hj
  obtain⟨o1,o2,o3⟩:=bh_ok hs hw hd hk hj
  refine⟨o1.1,?_,o2⟩
  unfold bh
  split
  ·exact vd _ (by omega)
  ·exact vw _ (by omega))
 have q1:1 * 1<=((t k).length:Int) * B:=Int.mul_le_mul (by omega) B1 (by decide) (by omega)
 have q2:((t k).length:Int) * B<=12 * 1000000000:=Int.mul_le_mul (by omega) B2 (by omega) (by decide)
 have dv:p.2∣((t k).length:Int) * B:=QEw lp (by omega) (by rw[qp,hZ])
 have le:p.2<=((t k).length:Int) * B:=Int.le_of_dvd (by omega) dv
 have tl:=QQo lp (M:=((t k).length:Int) * B) (Z:=Z) (by omega) (by rw[qp,hZ])
 refine⟨p,lp,qp,?_,?_,hp⟩
 ·have:p.1.natAbs<2 ^ 200:=Nat.lt_of_le_of_lt (Nat.le_trans tl (Nat.le_trans bZ (Nat.mul_le_mul_right _ m6))) (dk)
  exact Nat.le_trans (QS this) (by decide)
 ·have:=lp.1
  omega
include n5 d3
theorem bk_ok{sk de ou:Nat->Int}(hsk:∀ k,k<n->0<=sk k/\sk k<((t k).length:Int))(hde:∀ i,i<n->0<=de i/\de i<=1000000000)(hou:∀ i,i<nd->0<=ou i/\ou i<=1000000000):∃ p:Int×Int,low p.1 p.2/\bitsI p.1<=21202/\bitsI p.2<=2402/\qt p=BQ n nd t m ld wr dw sk de ou/\
 QfI [offD n nd nm dn c t m ld st,rl n (fun i=>fr (wr i)),rl nd (fun i=>fr (dw i)),rl n (fun k=>.int (sk k)),rl n (fun i=>.int (de i)),rl nd (fun i=>.int (ou i))]=.ok (fr p):=by
 have K:∀ k:Nat,∃ p:Int×Int,k<n->low p.1 p.2/\qt p=leanQ (t k) (m k) (fun o=>qt (bh ld wr dw k o)) (sk k).toNat/\bitsI p.1<=7700/\p.2.natAbs<=2 ^ 48/\Qd4 [offD n nd nm dn c t m ld st,.int (k:Int),.int (sk k),rl n (fun i=>fr (wr i)),rl nd (fun i=>fr (dw i))]=.ok (fr p):=fun k=>by
  by_cases hk:k<n
  ·obtain⟨s0,s1⟩:=hsk k hk
   obtain⟨s,es⟩:∃ s:Nat,(s:Int)=sk k:=⟨(sk k).toNat,Int.toNat_of_nonneg s0⟩
   obtain⟨p,h⟩:=QMx hs hw hd B1 B2 vw vd hk (s:=s) (by omega)
   refine⟨p,fun _=>?_⟩
   rw[← es,Int.toNat_natCast]
   exact h
  ·exact⟨(0,1),fun z=>absurd z hk⟩
 obtain⟨P,hP⟩:∃ P:Nat->Int×Int,∀ k,k<n->low (P k).1 (P k).2/\qt (P k)=leanQ (t k) (m k) (fun o=>qt (bh ld wr dw k o)) (sk k).toNat/\bitsI (P k).1<=7700/\(P k).2.natAbs<=2 ^ 48/\Qd4 [offD n nd nm dn c t m ld st,.int (k:Int),.int (sk k),rl n (fun i=>fr (wr i)),rl nd (fun i=>fr (dw i))]=.ok (fr (P k)):=⟨fun k=>(K k).choose,fun k h=>(K k).choose_spec h⟩
 obtain⟨p,lp,tp,bp,qp,hb⟩:=QNG hs n5 d3 hw hd hsk hde hou (P:=P) (fun k hk=>⟨(hP k hk).1.1,(hP k hk).2.2.1,(hP k hk).2.2.2.1,(hP k hk).2.2.2.2⟩)
 refine⟨p,lp,tp,bp,?_,hb⟩
 rw[qp]
 unfold BQ
 congr 1
 exact Bar.sm_congr fun k hk=>(hP k hk).2.1
end
theorem QNj{α β:Type}(f:α->β)(xs:List α)(a b:Option Int):cutD (xs.map f) a b=(cutD xs a b).map f:=by
 unfold cutD
 rw[List.length_map,List.map_take,List.map_drop]
theorem QOs{α:Type}(xs:List α)(a b:Option Int):(cutD xs a b).length<=xs.length:=by
 unfold cutD
 rw[List.length_take,List.length_drop];omega
theorem QM2(n k:Nat)(f:Nat->D):cutD ((List.range (n+k)).map f) none (some (n:Int))=(List.range n).map f:=by
 rw[QQa, ← List.map_take,List.take_range]
 congr 2;omega
theorem QOj(n k:Nat)(f:Nat->D):cutD ((List.range (n+k)).map f) (some (n:Int)) none=(List.range k).map fun i=>f (n+i):=by
 rw[QL7]
 apply List.ext_getElem?
 intro i
 rw[List.getElem?_drop,List.getElem?_map,List.getElem?_map]
 by_cases h:i<k
 ·rw[List.getElem?_range h,List.getElem?_range (show n+i<n+k by omega)];rfl
 ·have a:(List.range k)[i]?=none:=by simp;omega
  have b:(List.range (n+k))[n+i]?=none:=by simp;omega
  rw[a,b];rfl
theorem rw_bd{t:‹"H"›}{m:Nat}(h:Tb t m)(s:Int)(j:Nat):0<=rw' t s j/\rw' t s j<=9:=by
 unfold rw'
 rw[List.getD_eq_getElem?_getD,List.getD_eq_getElem?_getD]
 cases hr:t[s.toNat]? with
 | none=>simp
 | some r=>
  show 0<=(r[j]?).getD 0/\(r[j]?).getD 0<=9
  cases hx:r[j]? with
  | none=>simp
  | some x=>exact h.ent r (List.mem_of_getElem? hr) x (List.mem_of_getElem? hx)
theorem Qy5{body:D->SD->Out Fl}{P:Nat->SD->Prop}{N:Nat}(h:∀ i,i<N->∀(z:Int) ς,P i ς->(∃ ς',body (.int z) ς=.ok (.nx ς')/\P (i+1) ς')∨body (.int z) ς=.ok (.rt false (.bl true))):∀(xs:List Int)(i:Nat),i+xs.length<=N->∀ ς,P i ς->(∃ ς',loopD body (xs.map D.int) ς=.ok (.nx ς')/\∃ j,P j ς')∨loopD body (xs.map D.int) ς=.ok (.rt false (.bl true))
 | [],i,_,ς,p=>.inl ⟨ς,rfl,i,p⟩
 | x::xs,i,hi,ς,p=>by
  have hi:i+(xs.length+1)<=N:=hi
  rcases h i (by omega) x ς p with⟨ς1,e1',p1⟩ | e1'
  ·show _∨loopD body (D.int x::xs.map D.int) ς=_
   have e:loopD body ((x::xs).map D.int) ς=loopD body (xs.map D.int) ς1:=by
    show loopD body (D.int x::xs.map D.int) ς=_
    rw[loopD,e1'];rfl
   rw[e]
   show _∨loopD body ((x::xs).map D.int) ς=_
   rw[e]
   exact Qy5 h xs (i+1) (by omega) ς1 p1
  ·refine .inr ?_
   show loopD body (D.int x::xs.map D.int) ς=_
   rw[loopD,e1'];rfl
def nz(l:List Nat):D:=.lst (l.map fun k:Nat=>D.int (k:Int))
theorem QPQ(l:List Nat):fLen [nz l]=.ok (.int (l.length:Int)):=by simp[fLen,nz]
theorem nz_ix{l:List Nat}{i:Nat}(h:i<l.length):dIx (nz l) (.int (i:Int))=.ok (.int ((l[i]:Nat):Int)):=ixL i (by rw[List.getElem?_map,List.getElem?_eq_getElem h];rfl)
theorem QKc(l:List Nat):dEq (nz l) (.lst [])=.ok (.bl l.isEmpty):=by
 have hsh:∀ l:List Nat,shp (nz l)=true:=fun l=>Qy1 (d:=nz l) (QEp _ fun d hd=>by obtain⟨k,_,rfl⟩:=List.mem_map.mp hd;rfl) (Nat.le_trans (Nat.succ_le_succ (QEs (m:=1) _ fun d hd=>by obtain⟨k,_,rfl⟩:=List.mem_map.mp hd;exact Nat.zero_le _)) (by decide))
 rw[Qzi (hsh _) (show shp (.lst [])=true from hsh [])]
 cases l<;>rfl
theorem QPj(x y:Int):qt (0 - x,y) = - qt (x,y):=by
 unfold qt
 show((0 - x:Int):Rat) / (y:Rat) = - ((x:Rat) / (y:Rat))
 rw[Rat.intCast_sub]
 have:((0:Int):Rat)=0:=rfl
 rw[this];grind
section
variable{n nd:Nat}{nm dn c:Nat->Str}{t:Nat->List (List Int)}{m:Nat->Nat}{ld:Nat->Nat->Int}{st:Nat->Int}(hs:Seats n nd nm dn c t m ld st)
include hs
theorem QJO(f:Nat->Int){ς:SD}(h:ς[4]?=some (some (.k,rl n (fun i=>.int (f i))))):eComp [none,some 4] (itR1 (eA fLen (aCons (eVar 4) aNil))) (gN 0) QrZ QrH ς=.ok (nz ((List.range n).filter fun i=>decide (0<f i))):=by
 have n2:=hs.n2
 have hl:=lenR n (fun i=>D.int (f i))
 refine QEv (fun i:Nat=>D.int ((0:Int)+i)) (fun i=>decide (0<f i)) (fun i:Nat=>D.int (i:Int)) (Qca n (r_eA (Qo (r_var h) r_nil) hl) (by omega)) (fun i hi=>?_) (by omega)
 have hx:dIx (rl n (fun i=>D.int (f i))) (.int (i:Int))=.ok (.int (f i)):=ixR (f:=fun i=>D.int (f i)) hi
 rw[Int.zero_add]
 refine QNw (τ0:=[none,some (.k,rl n (fun i=>.int (f i)))]) (QcY (c_k h c_nil)) (by walk_at "s") ?_ ?_
 ·unfold QrZ
  exact Qg7 (r_e2 (r_e2 (r_var rfl) (r_var rfl) hx) r_C (Qbu _ _))
 ·unfold QrH
  exact r_var rfl
theorem QLx(f g:Nat->Int){ς:SD}(h9:ς[9]?=some (some (.k,rl nd (fun i=>.int (f i)))))(h13:ς[13]?=some (some (.k,rl nd (fun i=>.int (g i))))):eComp [none,none] (itZ (eVar 9) (eVar 13)) (gT [0,1]) cTrue Qrr ς=.ok (rl nd (fun i=>.int (f i+g i))):=by
 have d2:=hs.d2
 have hz:itZ (eVar 9) (eVar 13) ς=.ok ((List.range nd).map fun i=>D.tup [.int (f i),.int (g i)]):=by
  unfold itZ
  rw[r_var h9,Out.bind_ok,r_var h13,Out.bind_ok]
  show Out.ok (List.zipWith _ ((List.range nd).map _) ((List.range nd).map _))=_
  rw[List.zipWith_map,List.zipWith_self]
 refine Q1 (fun i=>D.tup [.int (f i),.int (g i)]) (fun i=>D.int (f i+g i)) hz (fun i _=>?_) (by rw[List.length_range];omega)
 refine Ql5 (τ0:=[none,none]) (QcY (QcY c_nil)) (by walk_at "all") ?_
 unfold Qrr
 exact r_e2 (r_var rfl) (r_var rfl) (Q7 _ _)
end
section
variable{n nd:Nat}{nm dn c:Nat->Str}{t:Nat->List (List Int)}{m:Nat->Nat}{ld:Nat->Nat->Int}{st kd:Nat->Int}(hs:Seats n nd nm dn c t m ld st)(h4:∀ k,k<n->(t k).length<=4/\m k<=4)(n5:n<=5)(d3:nd<=3){wr dw:Nat->Int×Int}(hw:∀ i,i<n->okW (wr i))(hd:∀ i,i<nd->okW (dw i)){B:Int}(B1:1<=B)(B2:B<=1000000000)(vw:∀ i,i<n->(wr i).2∣B)(vd:∀ i,i<nd->(dw i).2∣B)
include hs hw hd B1 B2 vw vd h4 n5 d3
theorem QMJ{cell:Int}{S:D}{b:Nat}(hb:b<=900000000){sk de ou:Nat->Int}{p:Int×Int}(hsk:∀ k,k<n->0<=sk k/\sk k<((t k).length:Int))(hde:∀ i,i<n->0<=de i/\de i<=(b:Int))(hou:∀ i,i<nd->0<=ou i/\ou i<=(b:Int))(lp:low p.1 p.2)(tp:bitsI p.1<=21202)(bp:bitsI p.2<=2402)(qp:qt p=BQ n nd t m ld wr dw sk de ou)(a6 a12 a13 a14 a15:Option (SM×D)):
 (∃(sk' de' ou':Nat->Int)(p':Int×Int)(b6 b12 b13 b14 b15:Option (SM×D)),(∀ k,k<n->0<=sk' k/\sk' k<((t k).length:Int))/\(∀ i,i<n->0<=de' i/\de' i<=(b:Int)+54)/\(∀ i,i<nd->0<=ou' i/\ou' i<=(b:Int)+54)/\low p'.1 p'.2/\bitsI p'.1<=21202/\bitsI p'.2<=2402/\qt p'=BQ n nd t m ld wr dw sk' de' ou'/\
  QfS ‹"C"›=
  .ok (.nx [some (.k,S),some (.k,rl n ‹"h"›),some (.k,.int (nd:Int)),some (.k,rl n (fun i=>.int (sk' i))),some (.k,rl n (fun i=>.int (de' i))),some (.k,offD n nd nm dn c t m ld st),b6,some (.k,rl n (fun i=>fr (wr i))),some (.k,rl nd (fun i=>fr (dw i))),some (.k,rl nd (fun i=>.int (ou' i))),some (.k,fr p'),some (.k,.int cell),b12,b13,b14,b15]))∨
 QfS ‹"C"›=.ok (.rt false (.bl true)):=by
 have hsc:=fun ς h=>QJO hs de (ς:=ς) h
 have n0:∀ z:SD,eLst aNil z=.ok (.lst []):=fun z=>by (repeat walk_at "e")
 cases hrd:(List.range n).filter fun i=>decide (0<de i) with
 | nil=>
  right
  have e:=QKc ((List.range n).filter fun i=>decide (0<de i))
  rw[hrd]at e
  unfold QfS
  refine r_seq (r_set (hsc _ rfl) (by walk_at "s")) (QY ?_)
  rw[hrd]
  exact r_seq (fl:=.rt false (.bl true)) (r_ifT (Qg7 (r_e2 (r_var rfl) (n0 _) e)) rfl (r_ret r_C)) QrG
 | cons k0 ks=>
  left
  have e:=QKc ((List.range n).filter fun i=>decide (0<de i))
  have hln:=QPQ ((List.range n).filter fun i=>decide (0<de i))
  have hmem:∀ q,q∈(List.range n).filter (fun i=>decide (0<de i))->q<n/\0<de q:=fun q hq=>by
   rw[List.mem_filter,List.mem_range,decide_eq_true_eq]at hq
   exact hq
  have hpos:0<((List.range n).filter fun i=>decide (0<de i)).length:=by rw[hrd];simp
  have hem:((List.range n).filter fun i=>decide (0<de i)).isEmpty=false:=by rw[hrd];rfl
  rw[hem]at e
  clear hrd
  generalize (List.range n).filter (fun i=>decide (0<de i))=rd at *
  obtain⟨z,z0,z1,hz⟩:=Qdk cell (k:=70) (QiX rfl)
  obtain⟨q,hq,q1⟩:∃ q:Nat,z % (rd.length:Int)=(q:Int)/\q<rd.length:=by
   have a:=Int.emod_nonneg z (b:=(rd.length:Int)) (by omega)
   have b:=Int.emod_lt_of_pos z (b:=(rd.length:Int)) (by omega)
   exact⟨(z % (rd.length:Int)).toNat,by omega,by omega⟩
  have hmod:dMod (.int z) (.int (rd.length:Int))=.ok (.int (q:Int)):=by rw[Qe0 (by omega),hq]
  have hix:=nz_ix q1
  obtain⟨kn,kp⟩:=hmem rd[q] (List.getElem_mem q1)
  generalize rd[q]=k at *
  obtain⟨s0,s1⟩:=hsk k kn
  have hh:=QGj hs (S:=sk) (K:=de) kn s0 s1 (by omega)
  have tb:=hs.tb k kn
  have tn1:=tb.n1
  have m6:=tb.m6
  have hbd:∀ x:Int,0<=dkt (m k) (ld k) (rw' (t k) (sk k)) x/\dkt (m k) (ld k) (rw' (t k) (sk k)) x<=54:=fun x=>by
   obtain⟨a,b⟩:=dk_bd (B:=9) (l:=ld k) (w:=rw' (t k) (sk k)) (x:=x) (m k) fun j _=>rw_bd tb _ j
   exact⟨a,by omega⟩
  have hsk':∀ i,i<n->0<=up1 t sk k i/\up1 t sk k i<((t i).length:Int):=fun i hi=>by
   unfold up1
   by_cases e:i=k
   ·subst e
    rw[if_pos rfl]
    exact⟨Int.emod_nonneg _ (by omega),Int.emod_lt_of_pos _ (by omega)⟩
   ·rw[if_neg e];exact hsk i hi
  have hde':∀ i,i<n->0<=dn1 de k i+dkt (m k) (ld k) (rw' (t k) (sk k)) (i:Int)/\dn1 de k i+dkt (m k) (ld k) (rw' (t k) (sk k)) (i:Int)<=(b:Int)+54:=fun i hi=>by
   have:=hbd (i:Int)
   have:=hde i hi
   unfold dn1
   split
   ·subst i;omega
   ·omega
  have hou':∀ i,i<nd->0<=ou i+‹"r"›/\ou i+‹"r"›<=(b:Int)+54:=fun i hi=>by
   have:=hbd (-1 - (i:Int))
   have:=hou i hi
   omega
  obtain⟨p4,lp4,tp4,bp4,qp4,hbk⟩:=bk_ok hs n5 d3 hw hd B1 B2 vw vd (sk:=up1 t sk k) (de:=fun i=>dn1 de k i+dkt (m k) (ld k) (rw' (t k) (sk k)) (i:Int)) (ou:=fun i=>ou i+‹"r"›) hsk' (fun i hi=>⟨(hde' i hi).1,by have:=(hde' i hi).2;omega⟩) (fun i hi=>⟨(hou' i hi).1,by have:=(hou' i hi).2;omega⟩)
  obtain⟨pm,lm,qm,bm,hmean⟩:=QM6 hs h4 hw hd (kd:=kd) kn
  obtain⟨w1,w2,w3⟩:=hw k kn
  obtain⟨p2,lp2,qp2,bp2,hp2⟩:=Qrk (y:=(0 - (wr k).1,(wr k).2)) (b2:=101) bm ⟨w1.1,QS (by have:=Qbt w2;show(0 - (wr k).1).natAbs<2 ^ 101;omega),QS (by show(wr k).2.natAbs<2 ^ 101;omega)⟩ (by decide)
  obtain⟨p3,lp3,qp3,hp3⟩:=QKQ (x:=p) (y:=p2) lp.1 lp2.1 (Nat.le_trans tp (by decide)) bp (Nat.le_trans bp2.2.1 (by decide)) bp2.2.2 (by decide)
  have hstep:BQ n nd t m ld wr dw (up1 t sk k) (fun i=>dn1 de k i+dkt (m k) (ld k) (rw' (t k) (sk k)) (i:Int)) (fun i=>ou i+‹"r"›)=BQ n nd t m ld wr dw sk de ou+(meanQ (t k) (m k) (fun o=>qt (bh ld wr dw k o)) - qt (wr k)):=QHS hs kn s0 s1
  have e43:p3=p4:=QPa lp3 lp4 (by
   rw[qp3,qp4,hstep,qp2,QPj,qm,qp]
   show _+(_ + - qt (wr k))=_
   grind)
  subst e43
  have hsame:=QOg p3
  have hxw:dIx (rl n (fun i=>fr (wr i))) (.int (k:Int))=.ok (fr (wr k)):=ixR (f:=fun i=>fr (wr i)) kn
  have f0:=fr0 (wr k)
  have f1:=fr1 (wr k)
  have hac:=fun(ς:SD) h h'=>QLx hs ou (fun i=>0+dkt (m k) (ld k) (rw' (t k) (sk k)) (-1 - (i:Int))) (ς:=ς) h h'
  refine⟨up1 t sk k,fun i=>dn1 de k i+dkt (m k) (ld k) (rw' (t k) (sk k)) (i:Int),fun i=>ou i+‹"r"›,p3,some (.k,nz rd),some (.k,.int (k:Int)),some (.k,rl nd (fun i=>.int ‹"r"›)),some (.k,fr p3),some (.k,fr pm),hsk',hde',hou',lp3,tp4,bp4,qp4,?_⟩
  clear hstep qp4 qp3 qp2 qm qp hbd hsk' hde' hou'
  generalize rl n ‹"h"›=P at *
  generalize offD n nd nm dn c t m ld st=O at *
  generalize rl n (fun i=>fr (wr i))=W at *
  generalize rl nd (fun i=>fr (dw i))=DW at *
  generalize rl n (fun i=>D.int (sk i))=Sd at *
  generalize rl n (fun i=>D.int (de i))=Kd at *
  generalize rl nd (fun i=>D.int (ou i))=Od at *
  generalize rl n (fun i=>D.int (up1 t sk k i))=Sd' at *
  generalize rl n (fun i:Nat=>D.int (dn1 de k i+dkt (m k) (ld k) (rw' (t k) (sk k)) (i:Int)))=Kd' at *
  generalize rl nd (fun i:Nat=>D.int ‹"r"›)=Gd at *
  generalize rl nd (fun i:Nat=>D.int (ou i+‹"r"›))=Od' at *
  unfold QfS
  refine r_seq (r_set (hsc _ rfl) (by walk_at "s")) (QY ?_)
  refine r_seq (r_ifF (Qg7 (r_e2 (r_var rfl) (n0 _) e)) rfl Qpj) (QY ?_)
  refine r_seq (r_set (r_e2 (r_var rfl) (r_e2 (Qa0 (xs:=[.int cell,.int 70]) (Qo (r_var rfl) (Qo r_C r_nil)) rfl hz) (r_eA (Qo (r_var rfl) r_nil) hln) hmod) hix) (by walk_at "s")) (QY ?_)
  refine r_seq (r_unp (Qa0 (xs:=[O,Sd,Kd,.int (k:Int)]) (Qo (r_var rfl) (Qo (r_var rfl) (Qo (r_var rfl) (Qo (r_var rfl) r_nil)))) rfl hh) (by walk_at "all")) (QY ?_)
  refine r_seq (r_set (hac _ rfl rfl) (by walk_at "s")) (QY ?_)
  refine r_seq (r_set (Qa0 (xs:=[O,W,DW,Sd',Kd',Od']) (Qo (r_var rfl) (Qo (r_var rfl) (Qo (r_var rfl) (Qo (r_var rfl) (Qo (r_var rfl) (Qo (r_var rfl) r_nil)))))) rfl hbk) (by walk_at "s")) (QY ?_)
  refine r_seq (r_set (Qa0 (xs:=[P,.int (k:Int),W,DW]) (Qo (r_var rfl) (Qo (r_var rfl) (Qo (r_var rfl) (Qo (r_var rfl) r_nil)))) rfl hmean) (by walk_at "s")) (QY ?_)
  refine r_seq (r_ifF (QyZ (b:=true) (Qg7 (Qa0 (xs:=[fr p3,fr p3]) (Qo (r_var rfl) (Qo (Qa0 (xs:=[fr p,fr p2]) (Qo (r_var rfl) (Qo (Qa0 (xs:=[fr pm,.tup [.int (0 - (wr k).1),.int (wr k).2]]) (Qo (r_var rfl) (Qo (r_tup (Qo (r_e2 r_C (r_e2 (r_e2 (r_var rfl) (r_var rfl) hxw) r_C f0) (QaD _ _)) (Qo (r_e2 (r_e2 (r_var rfl) (r_var rfl) hxw) r_C f1) r_nil)) (show 2<=1000 by decide)) r_nil)) rfl hp2) r_nil)) rfl hp3) r_nil)) rfl hsame))) rfl Qpj) (QY ?_)
  exact r_set (r_var rfl) (by walk_at "s")
end
theorem the_law(ns:List Int)(hl:ns.length<=63)(hb:∀ z∈ns,bitsI z<=1048576):QhZ [.lst (ns.map .int)]=.ok (.bl true):=by
 obtain⟨n,nd,kd,t,m,ld,st,K,n1,n5,d1,d3,pl,hK,hbeg⟩:=QLz ns
 obtain⟨c,hs,hoff⟩:=QIK n1 n5 d1 d3 pl
 have h4:∀ k,k<n->(t k).length<=4/\m k<=4:=fun k h=>⟨(pl.kd k h).tb.2.1,(pl.kd k h).tb.2.2⟩
 have hlen:=lenR n ‹"h"›
 obtain⟨v,hv⟩:=Ql6 ns 9
 have hv:Q3 [.lst (ns.map .int),.int 9]=.ok (.int v):=hv
 obtain⟨w,B,B1,B2,hw,hws⟩:=QJ9 v (N:=n+nd) (by omega)
 have ecast:((n+nd:Nat):Int)=(n:Int)+(nd:Int):=by omega
 rw[ecast]at hws
 have c1:=QM2 n nd (fun i=>fr (w i))
 have c2:=QOj n nd (fun i=>fr (w i))
 have hW:∀ i,i<n->okW (w i):=fun i hi=>(hw i (by omega)).1
 have hD:∀ i,i<nd->okW ((fun i=>w (n+i)) i):=fun i hi=>(hw (n+i) (by omega)).1
 have vW:∀ i,i<n->(w i).2∣B:=fun i hi=>(hw i (by omega)).2
 have vD:∀ i,i<nd->((fun i=>w (n+i)) i).2∣B:=fun i hi=>(hw (n+i) (by omega)).2
 have hrep:=QO4 (x:=.int 0) (N:=nd) (by omega)
 obtain⟨p,lp,tp,bp,qp,hbk⟩:=bk_ok hs n5 d3 hW hD B1 B2 vW vD (sk:=st) (de:=K) (ou:=fun _=>0) pl.str (fun i hi=>⟨(hK i hi).1,by have:=(hK i hi).2;omega⟩) (fun i hi=>⟨Int.le_refl _,by decide⟩)
 have tk:=fun(cell:Int) (b:Nat)=>QMJ hs h4 n5 d3 hW hD B1 B2 vW vD (kd:=kd) (cell:=cell) (S:=.lst (ns.map .int)) (b:=b)
 have cc:=QNj D.int ns (some 11) (some 23)
 have cl:=QOs ns (some 11) (some 23)
 have sl1:∀ ς:SD,ς[1]?=some (some (.k,rl n ‹"h"›))->ς[6]?=some (some (.k,rl (n+nd) (fun i=>fr (w i))))->eSl (eVar 6) oNo (oSome (eA fLen ‹"q"›)) ς=.ok (rl n (fun i=>fr (w i))):=fun ς h1 h6=>r_sl (r_var h6) r_oNo (QiU (r_eA (Qo (r_var h1) r_nil) hlen)) c1
 have sl2:∀ ς:SD,ς[1]?=some (some (.k,rl n ‹"h"›))->ς[6]?=some (some (.k,rl (n+nd) (fun i=>fr (w i))))->eSl (eVar 6) (oSome (eA fLen ‹"q"›)) oNo ς=.ok (rl nd (fun i=>fr ((fun i=>w (n+i)) i))):=fun ς h1 h6=>r_sl (r_var h6) (QiU (r_eA (Qo (r_var h1) r_nil) hlen)) r_oNo c2
 generalize cutD ns (some 11) (some 23)=xs at cc cl
 have hslS:∀ ς:SD,ς[0]?=some (some (.k,.lst (ns.map .int)))->itL (eSl (eVar 0) (oSome (eC (.int 11))) (oSome (eC (.int 23)))) ς=.ok (xs.map D.int):=fun ς h=>r_itL (r_sl (r_var h) (QiU r_C) (QiU r_C) cc)
 generalize rl (n+nd) (fun i=>fr (w i))=SO at *
 generalize hDW:rl nd (fun i=>fr ((fun i=>w (n+i)) i))=DW at *
 generalize hWW:rl n (fun i=>fr (w i))=W at *
 have key:=Qy5 (body:=fun x ς=>gN 11 x ς>>=fun ς'=>QfS ς') (N:=100)
  (P:=fun i ς=>∃(sk de ou:Nat->Int)(p:Int×Int)(a6 a11 a12 a13 a14 a15:Option (SM×D)),ς=[some (.k,.lst (ns.map .int)),some (.k,rl n ‹"h"›),some (.k,.int (nd:Int)),some (.k,rl n (fun i=>.int (sk i))),some (.k,rl n (fun i=>.int (de i))),some (.k,offD n nd nmC dnC c t m ld st),a6,some (.k,W),some (.k,DW),some (.k,rl nd (fun i=>.int (ou i))),some (.k,fr p),a11,a12,a13,a14,a15]/\
   (∀ k,k<n->0<=sk k/\sk k<((t k).length:Int))/\(∀ j,j<n->0<=de j/\de j<=((5+54 * i:Nat):Int))/\(∀ j,j<nd->0<=ou j/\ou j<=((5+54 * i:Nat):Int))/\low p.1 p.2/\bitsI p.1<=21202/\bitsI p.2<=2402/\qt p=BQ n nd t m ld w (fun i=>w (n+i)) sk de ou)
  (by
   rintro i hi z ς ⟨sk,de,ou,p,a6,a11,a12,a13,a14,a15,rfl,h1,h2,h3,l1,l2,l3,l4⟩
   rcases tk z (5+54 * i) (by omega) h1 h2 h3 l1 l2 l3 l4 a6 a12 a13 a14 a15 with⟨sk',de',ou',p',b6,b12,b13,b14,b15,g1,g2,g3,g4,g5,g6,g7,hL⟩ | hL
   ·refine .inl ⟨_,r_gN (by walk_at "s") hL,sk',de',ou',p',b6,_,b12,b13,b14,b15,rfl,g1,fun j hj=>?_,fun j hj=>?_,g4,g5,g6,g7⟩
    ·have:=g2 j hj;omega
    ·have:=g3 j hj;omega
   ·exact .inr (r_gN (by walk_at "s") hL))
  xs 0 (by omega)
  ‹"D"›
  ⟨st,K,fun _=>0,p,_,_,_,_,_,_,rfl,pl.str,fun j hj=>⟨(hK j hj).1,Int.le_trans (hK j hj).2 (by decide)⟩,fun j hj=>⟨Int.le_refl _,by show(0:Int)<=_;decide⟩,lp,tp,bp,qp⟩
 have fin:∃ fl:Fl,sSeq (sFor (gN 11) (itL (eSl (eVar 0) (oSome (eC (.int 11))) (oSome (eC (.int 23))))) QfS) (sRet (eC (.bl true))) ‹"D"›=.ok (.rt false (.bl true)):=by
  rcases key with⟨ς',hL,_⟩ | hL
  ·exact⟨.rt false (.bl true),r_seq (Qa2 (hslS _ rfl) hL) (QY (r_ret r_C))⟩
  ·exact⟨.rt false (.bl true),r_seq (Qa2 (hslS _ rfl) hL) QrG⟩
 obtain⟨_,fin⟩:=fin
 clear key tk
 generalize rl n ‹"h"›=P at *
 generalize offD n nd nmC dnC c t m ld st=O at *
 generalize rl n (fun i=>D.int (st i))=Sd at *
 generalize rl n (fun i=>D.int (K i))=Kd at *
 generalize rl nd (fun _=>D.int 0)=Od at *
 generalize D.lst (ns.map D.int)=S at *
 rw[QQA]
 unfold Qwa
 refine Qgq (fl:=.rt false (.bl true)) ?_ r_rt
 refine r_seq (r_unp (Qa0 (xs:=[S]) (Qo (r_var rfl) r_nil) rfl hbeg) (by walk_at "all")) (QY ?_)
 refine r_seq (r_set (Qa0 (xs:=[P,.int (nd:Int)]) (Qo (r_var rfl) (Qo (r_var rfl) r_nil)) rfl hoff) (by walk_at "s")) (QY ?_)
 refine r_seq (r_set (Qa0 (xs:=[.int v,.int ((n:Int)+(nd:Int))]) (Qo (Qa0 (xs:=[S,.int 9]) (Qo (r_var rfl) (Qo r_C r_nil)) rfl hv) (Qo (r_e2 (r_eA (Qo (r_var rfl) r_nil) hlen) (r_var rfl) (Q7 _ _)) r_nil)) rfl hws) (by walk_at "s")) (QY ?_)
 refine r_seq (r_set (sl1 _ rfl rfl) (by walk_at "s")) (QY ?_)
 refine r_seq (r_set (sl2 _ rfl rfl) (by walk_at "s")) (QY ?_)
 refine r_seq (r_set (r_e2 (r_lst (Qo r_C r_nil) (show 1<=1000 by decide)) (r_var rfl) hrep) (by walk_at "s")) (QY ?_)
 refine r_seq (r_set (Qa0 (xs:=[O,W,DW,Sd,Kd,Od]) (Qo (r_var rfl) (Qo (r_var rfl) (Qo (r_var rfl) (Qo (r_var rfl) (Qo (r_var rfl) (Qo (r_var rfl) r_nil)))))) rfl hbk) (by walk_at "s")) (QY ?_)
 exact fin
end My
namespace My
open PySem PySem.Spec L2 DL
set_option hygiene false
local macro_rules
 | `("L"^$f $a $b $x $y $s $d $c $e $g $h $i $j $z) => `(K.lookup $f=some ⟨$a,$b,.func (W.fnOf $x $y (Ql $s) (Qk $s) (Qd $s) $d $c $e $g $h $i $j),$z⟩)
 | `("N"^$x $s) => `(W.nsIn K mainGlobals $s=some (some (.ref $x)))
 | `("Z"^$s) => `(W.nsIn K mainGlobals $s=some none)
 | `("K"^$x) => `(W.keepIn K (.ref $x)=true)
 | `("C"^$x $s) => `(W.codeIn K $x $s=true)
 | `("I"^$x) => `(W.isFn K (.ref $x)=true)
 | `("V"^$x $s) => `(W.findIn K (.ref $x) $s=some none)
 | `("G"^$x $s $y) => `(W.findIn K (.ref $x) $s=some (some (.ref $y)))
 | `("T"^$x $y $b) => `(W.kitOne K (.ref $x) (.ref $y)=some $b)
 | `("D"^$a $b $c $d) => `(⟨_,_,_,_,$a,W.mg_of X G $b,$c,$d,.nil⟩)
 | `("F"^$k $l $b $q) => `(FnOk l.prog w K mg base CX0 $k _ _ $l (SpD K (ctOf K) $b $q))
 | `("E"^$q $s $k $b) => `(DefOk l.prog w K mg base (ctOf K) $s $k $b [] $q)
 | `("A"^$x) => `(W.mg_of X G $x)
 | `("R"^$a $b $c) => `(by rw[$a:term]at hA;cases hA;exact⟨$b,$c⟩)
local macro_rules
 | `(tactic|walk_at "h0") => `(tactic|((have hm:c∈Qj := by simpa using hc);simp only[Qj,List.mem_cons,List.not_mem_nil,or_false]at hm))
 | `(tactic|walk_at "h1") => `(tactic|((have hm:c∈Qc := by simpa using hc);simp only[Qc,List.mem_cons,List.not_mem_nil,or_false]at hm))
 | `(tactic|walk_at "h2") => `(tactic|((have hm:c∈Qu := by simpa using hc);simp only[Qu,List.mem_cons,List.not_mem_nil,or_false]at hm))
set_option hygiene true
theorem all_mk{l:W.OpenLaw}{w:World}{K:W.Frag}{h:Heap}{mg:Str->Option Value}{fa:Addr}(X:K.In h)(G:h.Ns mainGlobals mg)(hfa:mg "law"=some (.ref fa))
 {QD Qs QA QC QO QaA Qan Qdl Q0 Qey QeC Qdn Qev Qc4 Qat QL QaE Qc0 Qc1 QaR Qdq QjK Qil Qhc QjY Qjv Qik Qio Qij Qk8 Qhu QlR Qis Qii Qjy Qir Qjp Qlw Qiv QjH QgD QjA Qll QfW QnT QjJ Qg8 Qiu QhA Qgy QlY Qhd QdV Qfe QqW Ql9 Qjr Qrj QfQ QfH QyP Qnf QxI Qgz QFT QnJ QkG QjZ QfM Qjk Qiq Qjo QHD:Addr} {QBq QA4 QyY QyX QtW Qut QBO QDu QBc QBE Qw2 QwO Qw0 QwS Qxh QwF QG4 QFC QtY Qv6 QFV QGw Qyp Qy0 QzJ Qwq QCS QBK QyF Qwg QB1 QDK Qu2 Qv2 Qqw QpS QEP QHC Qzg Qxm QDG QB8 QsB Qrb QAT QCc Qsj QrK QF6 QFi Qp5 QpZ Qk0 QkM QKp QJ4 QCT QAl QxP QwB Qv0 QuG Qwj QwR Qr5 QsV QzO QxA Qxp Qwd QvO Qu4 Qq3 Qr7 QHk QF0 QuS Qu8 QkB Qkt QnR QnP QL9 Qm8 QI0 QB4 QAA QLD QKV Qqj QoE Qqt Qpa QrL QsR Qg4 Qht Qva Qud Qoy Qod Qm6 Qnd QNz QMn QIP QIq QN3 QNP QoJ Qpk Qs0 QqK QO7 QPt Qw7 QwE QJC QHM QsS QqM QGv QFN QCn QCF QnH Qnq QDX QDl QyQ Qyi QAG QAR QQs QJ8:Option Addr} {QAy QxB Qv8 QBt QBz Qzp QzH QxY QGJ Qum QGr Qx4 QyA QBr Qzq QCB Quo Qo6 QFS Qx9 QDo Qrw QAp QrP QFg QpA QlM QIo QA8 QwJ Qt6 Qw1 QsI Qxo QzU Qt3 Qrc QE6 Qvg Qky Qnt QLa QHK QAi QLb Qqd QoL Qq8 Qha QuY Qog Qnu QNr QJm QOd Qoi Qq9 QPD Qz3 QJu Qrs QGd QAc QnS QAe Qwm QCs QPd:Array (Option Value)} {QD1 QAf QDS QBe QmT QCm Qz1 Qyd QzK QwQ QkN QzX QuK QvH Qt7 QuL Qj7 Quq QBC QDQ QC8 QCw Qmx QAk QBF QB3 QBo QAJ Qms QBv Qyz QyU Qx3 QyN Qk9 QzV Qxg Qyf QwV QzQ QkY Qy4 QyT QzM Qy3 Qzw QkH QwW QHg QFp QHy QG3 QpE QG9 Qve Qvo QtS QuP Qkn QtN QFD QFw QGp QG5 QpM QE2 Qy8 Qyt Qw4 Qyu Qk2 QwH Qxt Qys QyB Qwn QlP QzY QBN QBQ QDf QAs Qmw QBl Qxr QzB Qx1 QwX Qlp QyV QB0 QBV QBR QBg QmA QBD QtO QvL Qvm QvP Qj8 QvQ Qou Qoe Qon QoS QhK QoY QHn QFO QFH QEW Qpz QFJ QyL QxW QwP Qx5 Qli Qzl QBX QBH QAF QB6 QmE QAQ Qsg Qsl Qsi Qru Qi8 QrE QCK QCt QCM QAg QmI QAH QsE Qr6 QrC QsP QiG QsM QFd QGI QEY QF2 Qoz QGB QpL QoK QpR QoI Qh4 Qp7 QkS QlL QlC Qlg Qgp QlF QIm QIc QI3 QJd Qth QJQ QCq QD3 QBU QDd Qmy QAE Qy7 QzW QwM QxJ QkU Qzh Qt0 Qu3 QvC QuN Qkg Quj Qxn Qzy QyR Qze Qly Qw8 QrD Qso QsZ QqD Qi6 QrT QxS Qws Qxd Qz2 Qk1 QxU QxX QwL Qyc Qww QlI Qyb Qu5 Quu Qug Qt8 Qj1 Que Qsr QrV QqY QqI QiT QsK QGW QGn QE4 QG0 Qor QHz Qux QtM QuO Qt4 Qj6 Qv3 Qku QkA Qkr Qks QfP Qkz Qn3 Qns Qnj QnC Qhl Qn2 QKJ QnV QnG QnK QjO Qn5 QKq QBn QC2 QCl QBj QmQ QAw QLI QKG QLo QK2 Qwh QLX Qo0 Qpf Qqp QoR QhN QoG QoV Qqo Qpr Qqx QhL Qpc Qsp Qrp QrN QrQ Qja QqJ Qhv Qhr QhD Qg2 QdO Qhw QuV QuC QvI Qt2 Qkk QvG QoT QoF Qo4 Qpl QhM Qph Qn1 Qn6 QnZ Qn8 Qg1 QnE QOq QM7 QNJ QMZ QEa QMM QJZ QJG QIh QJ7 Qty QJb QMl QNZ QNB QMF QD6 QNE Qqb QoO QpB QpI Qia Qqa Qrd QrY QqV QsF Qjf Qra QPB QPb QPu QO1 QHN QQj QxD Qx6 QxZ Qxx Ql0 Qyo QIC QIg QIl QIf Qtg QKb Qrm Qq5 Qre Qsx Qjh QrS QFB QGM QFj QFb Qok QE3 QCX QA2 QBT QDJ Qmp QCO Qng Qnw QnI Qnr Qhs Qnv QA3 QBk QAj QCR QmC QCp Qxu QxF QxO Qzx QlG Qyx QAV QCE QDq QAX QmS QBW QQl QJy QI5 QIN Qyv QI9:Value} {Qzt vf vp vc va vg vj vk vl:Tok} {QL6:Nat}
 (QIu:"N"^QD "Deal")
 (QME:W.plainGet K QD Str.empty=true)
 (QNS:W.hasDictIn K QD=true)
 (QN8:W.plainOver K QD=true)
 (QMm:W.findIn K (.ref QD) "__setattr__"=some (some (.builtin "object.__setattr__")))
 (QuJ:"V"^QD "table")
 (Qkw:"V"^QD "clerk_names")
 (QlE:"V"^QD "door_names")
 (QjM:"V"^QD "entry_places")
 (Quw:"V"^QD "staff")
 (QjC:"V"^QD "first_states")
 (Qy9:"V"^QD "ways")
 (QtP:"V"^QD "heads")
 (Qwe:"N"^Qs "Bundle")
 (QJJ:W.plainGet K Qs Str.empty=true)
 (QHX:W.hasDictIn K Qs=true)
 (QHT:W.plainOver K Qs=true)
 (QKi:W.findIn K (.ref Qs) "__setattr__"=some (some (.builtin "object.__setattr__")))
 (Qpd:"V"^Qs "table")
 (Qjb:"V"^Qs "clerk_names")
 (Qjs:"V"^Qs "door_names")
 (Qip:"V"^Qs "entry_places")
 (Qpe:"V"^Qs "staff")
 (Qim:"V"^Qs "first_states")
 (QsY:"V"^Qs "ways")
 (Qqy:"V"^Qs "heads")
 (QH4:"N"^QA "Copy")
 (QOt:W.plainGet K QA Str.empty=true)
 (QM8:W.hasDictIn K QA=true)
 (QNR:W.plainOver K QA=true)
 (QNl:W.findIn K (.ref QA) "__setattr__"=some (some (.builtin "object.__setattr__")))
 (Qvp:"V"^QA "table")
 (Qkv:"V"^QA "clerk_names")
 (Qk5:"V"^QA "door_names")
 (QjG:"V"^QA "entry_places")
 (Qvs:"V"^QA "staff")
 (Qjq:"V"^QA "first_states")
 (QxG:"V"^QA "ways")
 (Qub:"V"^QA "heads")
 (QI4:"N"^QC "Rows")
 (QNC:W.plainGet K QC Str.empty=true)
 (QOk:W.hasDictIn K QC=true)
 (QOn:W.plainOver K QC=true)
 (QM5:W.findIn K (.ref QC) "__setattr__"=some (some (.builtin "object.__setattr__")))
 (Qul:"V"^QC "table")
 (Qkx:"V"^QC "clerk_names")
 (Qlv:"V"^QC "door_names")
 (QjN:"V"^QC "entry_places")
 (QuI:"V"^QC "staff")
 (Qjw:"V"^QC "first_states")
 (Qxb:"V"^QC "ways")
 (Qvy:"V"^QC "heads")
 (Qxi:"N"^QO "Office")
 (QJK:W.plainGet K QO Str.empty=true)
 (QJU:W.hasDictIn K QO=true)
 (QHW:W.plainOver K QO=true)
 (QJB:W.findIn K (.ref QO) "__setattr__"=some (some (.builtin "object.__setattr__")))
 (Qn9:"V"^QO "table")
 (QiF:"V"^QO "clerk_names")
 (QjF:"V"^QO "door_names")
 (Qix:"V"^QO "entry_places")
 (QpV:"V"^QO "staff")
 (Qiy:"V"^QO "first_states")
 (Qrg:"V"^QO "ways")
 (QoP:"V"^QO "heads")
 (QDO:"G"^QD "outs" QaA)
 (QvN:"G"^Qs "outs" QaA)
 (QDs:"G"^QA "outs" QaA)
 (QAz:"G"^QC "outs" QaA)
 (QvK:"G"^QD "period" Qan)
 (QoZ:"G"^Qs "period" Qan)
 (Quk:"G"^QA "period" Qan)
 (QuM:"G"^QC "period" Qan)
 (QxM:"G"^QD "whole" Qat)
 (Qsb:"G"^Qs "whole" Qat)
 (Qyw:"G"^QA "whole" Qat)
 (Qz9:"G"^QC "whole" Qat)
 (Qit:"G"^QD "sent_from_start" QL)
 (Qhy:"G"^Qs "sent_from_start" QL)
 (Qiw:"G"^QA "sent_from_start" QL)
 (Qih:"G"^QC "sent_from_start" QL)
 (QqF:"G"^QO "leads" Qc0)
 (QqG:"G"^QO "clerk" Qc4)
 (QCP:"G"^QD "sent" QaE)
 (Qv5:"G"^Qs "sent" QaE)
 (QAD:"G"^QA "sent" QaE)
 (QCQ:"G"^QC "sent" QaE)
 (QsH:"G"^QO "doors" Qc1)
 (QHs:"G"^QD "row" QaR)
 (Qza:"G"^Qs "row" QaR)
 (QG2:"G"^QA "row" QaR)
 (QFa:"G"^QC "row" QaR)
 (Qvb:"G"^QO "many" Qdq)
 (Qni:"G"^QD "keep_rows" Q0)
 (QlB:"G"^Qs "keep_rows" Q0)
 (Qne:"G"^QA "keep_rows" Q0)
 (QnO:"G"^QC "keep_rows" Q0)
 (QBG:"G"^QD "__init__" QeC)
 (Qui:"G"^Qs "__init__" Qdn)
 (QBS:"G"^QA "__init__" Qev)
 (QDW:"G"^QC "__init__" Qey)
 (Qt1:"G"^QO "__init__" Qdl)
 (QLv:W.makesIn K QD=true)
 (QLJ:"K"^QD)
 (QF3:W.makesIn K Qs=true)
 (QFz:"K"^Qs)
 (QL1:W.makesIn K QA=true)
 (QKD:"K"^QA)
 (QK7:W.makesIn K QC=true)
 (QKZ:"K"^QC)
 (QGc:W.makesIn K QO=true)
 (QGq:"K"^QO)
 (y1:W.specialIn K ‹"o"› "__get__"=some (some (.builtin "getset_descriptor.__get__")))
 (y2:W.takesIn K ‹"o"›=some true)
 (QOf:W.findIn K (.ref QD) "__class__"=some (some ‹"o"›))
 (QNc:W.mroIn K QD (.type "object")=some true)
 (QIn:W.findIn K (.ref Qs) "__class__"=some (some ‹"o"›))
 (QH1:W.mroIn K Qs (.type "object")=some true)
 (QNn:W.findIn K (.ref QA) "__class__"=some (some ‹"o"›))
 (QMV:W.mroIn K QA (.type "object")=some true)
 (QNp:W.findIn K (.ref QC) "__class__"=some (some ‹"o"›))
 (QNU:W.mroIn K QC (.type "object")=some true)
 (QJl:W.findIn K (.ref QO) "__class__"=some (some ‹"o"›))
 (QIw:W.mroIn K QO (.type "object")=some true)
 (QGD:"N"^QjK "_law_cell")
 (QEZ:"L"^QjK QD1 QBq "_law_cell" "_law_cell" Qd8 .none QAf QDS QBe QA4 QmT QCm QAy)
 (QGQ:"C"^QmT "_law_cell")
 (Qop:"K"^QjK)
 (QDh:"N"^Qil "_law_mixed")
 (QCJ:"L"^Qil Qz1 QyY "_law_mixed" "_law_mixed" Qdv .none Qyd QzK QwQ QyX QkN QzX QxB)
 (QBp:"C"^QkN "_law_mixed")
 (QmY:"K"^Qil)
 (Qyk:"N"^Qhc "_law_counts")
 (QyW:"L"^Qhc QuK QtW "_law_counts" "_law_counts" Qc2 .none QvH Qt7 QuL Qut Qj7 Quq Qv8)
 (Qz8:"C"^Qj7 "_law_counts")
 (Ql1:"K"^Qhc)
 (QGU:"N"^QjY "_law_rows")
 (QGs:"L"^QjY QBC QBO "_law_rows" "_law_rows" Qda .none QDQ QC8 QCw QDu Qmx QAk QBt)
 (QG7:"C"^Qmx "_law_rows")
 (Qpw:"K"^QjY)
 (QE7:"N"^Qjv "_law_plan")
 (QGA:"L"^Qjv QBF QBc "_law_plan" "_law_plan" Qeh .none QB3 QBo QAJ QBE Qms QBv QBz)
 (QHa:"C"^Qms "_law_plan")
 (QoN:"K"^Qjv)
 (QDD:"N"^Qik "_law_desks")
 (QDc:"L"^Qik Qyz Qw2 "_law_desks" "_law_desks" Qdu .none QyU Qx3 QyN QwO Qk9 QzV Qzp)
 (QDR:"C"^Qk9 "_law_desks")
 (QmW:"K"^Qik)
 (QAr:"N"^Qio "_law_begin")
 (QCg:"L"^Qio Qxg Qw0 "_law_begin" "_law_begin" QcG .none Qyf QwV QzQ QwS QkY Qy4 QzH)
 (QDV:"C"^QkY "_law_begin")
 (Qmr:"K"^Qio)
 (QCj:"N"^Qij "places_of")
 (QAS:"L"^Qij QyT Qxh "places_of" "places_of" Qdy .none QzM Qy3 Qzw QwF QkH QwW QxY)
 (QCb:"C"^QkH "places_of")
 (QmN:"K"^Qij)
 (QJS:"N"^Qk8 "is_list")
 (QKo:"L"^Qk8 QHg QG4 "is_list" "is_list" Qe7 .none QFp QHy QG3 QFC QpE QG9 QGJ)
 (QJX:"C"^QpE "is_list")
 (Qs9:"K"^Qk8)
 (Qz0:"N"^Qhu "all_unlike")
 (Qya:"L"^Qhu Qve QtY "all_unlike" "all_unlike" QcT .none Qvo QtS QuP Qv6 Qkn QtN Qum)
 (Qw3:"C"^Qkn "all_unlike")
 (Qlk:"K"^Qhu)
 (QIk:"N"^QlR "is_name")
 (QHH:"L"^QlR QFD QFV "is_name" "is_name" QdW .none QFw QGp QG5 QGw QpM QE2 QGr)
 (QJv:"C"^QpM "is_name")
 (Qts:"K"^QlR)
 (QDt:"N"^Qis "are_names")
 (QDr:"L"^Qis Qy8 Qyp "are_names" "are_names" Qcy .none Qyt Qw4 Qyu Qy0 Qk2 QwH Qx4)
 (QDw:"C"^Qk2 "are_names")
 (QmJ:"K"^Qis)
 (QDx:"N"^Qii "are_texts")
 (QB7:"L"^Qii Qxt QzJ "are_texts" "are_texts" QcC .none Qys QyB Qwn Qwq QlP QzY QyA)
 (QBa:"C"^QlP "are_texts")
 (Qmv:"K"^Qii)
 (QGo:"N"^Qjy "is_whole")
 (QE5:"L"^Qjy QBN QCS "is_whole" "is_whole" Qel .none QBQ QDf QAs QBK Qmw QBl QBr)
 (QEV:"C"^Qmw "is_whole")
 (QoB:"K"^Qjy)
 (QC0:"N"^Qir "is_within")
 (QBY:"L"^Qir Qxr QyF "is_within" "is_within" QdA .none QzB Qx1 QwX Qwg Qlp QyV Qzq)
 (QCk:"C"^Qlp "is_within")
 (Qm2:"K"^Qir)
 (QHe:"N"^Qjp "is_clerk")
 (QGe:"L"^Qjp QB0 QB1 "is_clerk" "is_clerk" Qeg .none QBV QBR QBg QDK QmA QBD QCB)
 (QFI:"C"^QmA "is_clerk")
 (QoW:"K"^Qjp)
 (Qfl:"I"^QaA)
 (Qxc:"L"^QaA QtO Qu2 "outs" "Clerk.outs" QcV .none QvL Qvm QvP Qv2 Qj8 QvQ Quo)
 (QyC:"C"^Qj8 "Clerk.outs")
 (QdP:"K"^QaA)
 (Qes:"I"^Qan)
 (Qr2:"L"^Qan Qou Qqw "period" "Clerk.period" QbZ .none Qoe Qon QoS QpS QhK QoY Qo6)
 (QqC:"C"^QhK "Clerk.period")
 (QcS:"K"^Qan)
 (QJT:"N"^Qlw "is_seat")
 (QJp:"L"^Qlw QHn QEP "is_seat" "is_seat" Qfc .none QFO QFH QEW QHC Qpz QFJ QFS)
 (QH9:"C"^Qpz "is_seat")
 (Qtu:"K"^Qlw)
 (QAP:"N"^Qiv "are_seats")
 (QDL:"L"^Qiv QyL Qzg "are_seats" "are_seats" QbU .none QxW QwP Qx5 Qxm Qli Qzl Qx9)
 (QCd:"C"^Qli "are_seats")
 (QmD:"K"^Qiv)
 (QF4:"N"^QjH "is_entry")
 (QGb:"L"^QjH QBX QDG "is_entry" "is_entry" Qec .none QBH QAF QB6 QB8 QmE QAQ QDo)
 (QGV:"C"^QmE "is_entry")
 (QoA:"K"^QjH)
 (QuX:"N"^QgD "are_entries")
 (Quv:"L"^QgD Qsg QsB "are_entries" "are_entries" Qbi .none Qsl Qsi Qru Qrb Qi8 QrE Qrw)
 (Quz:"C"^Qi8 "are_entries")
 (Qj2:"K"^QgD)
 (QG8:"N"^QjA "leads_to")
 (QG1:"L"^QjA QCK QAT "leads_to" "leads_to" Qdf .none QCt QCM QAg QCc QmI QAH QAp)
 (QGG:"C"^QmI "leads_to")
 (Qoo:"K"^QjA)
 (Quy:"I"^Qdl)
 (Qvt:"L"^Qdl QsE Qsj "__init__" "Office.__init__" Qaj .none Qr6 QrC QsP QrK QiG QsM QrP)
 (QvM:"C"^QiG "Office.__init__")
 (Qvq:"K"^Qdl)
 (QHJ:"N"^Qll "sums_of")
 (QII:"L"^Qll QFd QF6 "sums_of" "sums_of" QdX .none QGI QEY QF2 QFi Qoz QGB QFg)
 (QJw:"C"^Qoz "sums_of")
 (Qtq:"K"^Qll)
 (Qsh:"N"^QfW "running_sums")
 (Qr8:"L"^QfW QpL Qp5 "running_sums" "running_sums" Qbs .none QoK QpR QoI QpZ Qh4 Qp7 QpA)
 (Qsw:"C"^Qh4 "running_sums")
 (QiQ:"K"^QfW)
 (QcR:"I"^Q0)
 (Qmn:"L"^Q0 QkS Qk0 "keep_rows" "Clerk.keep_rows" QaM .none QlL QlC Qlg QkM Qgp QlF QlM)
 (Qmj:"C"^Qgp "Clerk.keep_rows")
 (QbR:"K"^Q0)
 (QLB:"N"^QnT "is_row")
 (QLg:"L"^QnT QIm QKp "is_row" "is_row" QeV .none QIc QI3 QJd QJ4 Qth QJQ QIo)
 (QLE:"C"^Qth "is_row")
 (QxH:"K"^QnT)
 (QFn:"N"^QjJ "is_table")
 (QGf:"L"^QjJ QCq QCT "is_table" "is_table" Qcs .none QD3 QBU QDd QAl Qmy QAE QA8)
 (QFQ:"C"^Qmy "is_table")
 (Qov:"K"^QjJ)
 (QDP:"I"^Qey)
 (QAW:"L"^Qey Qy7 QxP "__init__" "Rows.__init__" Qdr .none QzW QwM QxJ QwB QkU Qzh QwJ)
 (QDv:"C"^QkU "Rows.__init__")
 (QBZ:"K"^Qey)
 (Qw9:"N"^Qg8 "single_row")
 (Qzb:"L"^Qg8 Qt0 Qv0 "single_row" "single_row" Qcg .none Qu3 QvC QuN QuG Qkg Quj Qt6)
 (Qzz:"C"^Qkg "single_row")
 (Qlz:"K"^Qg8)
 (QDH:"I"^QeC)
 (QCL:"L"^QeC Qxn Qwj "__init__" "Deal.__init__" Qcx .none Qzy QyR Qze QwR Qly Qw8 Qw1)
 (QDT:"C"^Qly "Deal.__init__")
 (QD0:"K"^QeC)
 (QtU:"I"^Qdn)
 (Qun:"L"^Qdn QrD Qr5 "__init__" "Bundle.__init__" QbP .none Qso QsZ QqD QsV Qi6 QrT QsI)
 (Qu9:"C"^Qi6 "Bundle.__init__")
 (QuF:"K"^Qdn)
 (QDa:"I"^Qev)
 (QAt:"L"^Qev QxS QzO "__init__" "Copy.__init__" Qdt .none Qws Qxd Qz2 QxA Qk1 QxU Qxo)
 (QBw:"C"^Qk1 "Copy.__init__")
 (QCC:"K"^Qev)
 (QDj:"N"^Qiu "_law_clerk")
 (QAh:"L"^Qiu QxX Qxp "_law_clerk" "_law_clerk" Qcw .none QwL Qyc Qww Qwd QlI Qyb QzU)
 (QAO:"C"^QlI "_law_clerk")
 (QmH:"K"^Qiu)
 (Qzo:"N"^QhA "_law_office")
 (QyM:"L"^QhA Qu5 QvO "_law_office" "_law_office" QbC .none Quu Qug Qt8 Qu4 Qj1 Que Qt3)
 (QyS:"C"^Qj1 "_law_office")
 (QlA:"K"^QhA)
 (QuD:"N"^Qgy "_law_divisor")
 (QuU:"L"^Qgy Qsr Qq3 "_law_divisor" "_law_divisor" Qcn .none QrV QqY QqI Qr7 QiT QsK Qrc)
 (Qvd:"C"^QiT "_law_divisor")
 (Qka:"K"^Qgy)
 (QHL:"N"^QlY "_law_low")
 (QH5:"L"^QlY QGW QHk "_law_low" "_law_low" Qe4 .none QGn QE4 QG0 QF0 Qor QHz QE6)
 (QIT:"C"^Qor "_law_low")
 (Qs6:"K"^QlY)
 (QzE:"N"^Qhd "_law_worths")
 (Qwt:"L"^Qhd Qux QuS "_law_worths" "_law_worths" QcX .none QtM QuO Qt4 Qu8 Qj6 Qv3 Qvg)
 (QwI:"C"^Qj6 "_law_worths")
 (QlX:"K"^Qhd)
 (QkO:"N"^QdV "greatest_divisor")
 (Qlo:"L"^QdV Qku QkB "greatest_divisor" "greatest_divisor" QaY .none QkA Qkr Qks Qkt QfP Qkz Qky)
 (QkR:"C"^QfP "greatest_divisor")
 (Qgk:"K"^QdV)
 (Qp0:"N"^Qfe "common_bottom")
 (Qp2:"L"^Qfe Qn3 QnR "common_bottom" "common_bottom" QbI .none Qns Qnj QnC QnP Qhl Qn2 Qnt)
 (Qqq:"C"^Qhl "common_bottom")
 (QhO:"K"^Qfe)
 (QEq:"N"^QqW "share")
 (QMB:"L"^QqW QKJ QL9 "share" "share" Qcl (.ref Ql9) QnV QnG QnK Qm8 QjO Qn5 QLa)
 (QNV:"C"^QjO "share")
 (QqR:"K"^QqW)
 (t_shareh:K.lookup Ql9=some ⟨QKq,QI0,.seq #[.int 1 Qzt] QL6,QHK⟩)
 (QF5:"N"^Qjr "worth_of")
 (QFt:"L"^Qjr QBn QB4 "worth_of" "worth_of" Qco .none QC2 QCl QBj QAA QmQ QAw QAi)
 (QHA:"C"^QmQ "worth_of")
 (QpD:"K"^Qjr)
 (QNN:"N"^Qrj "added")
 (QMG:"L"^Qrj QLI QLD "added" "added" QgY .none QKG QLo QK2 QKV Qwh QLX QLb)
 (QOl:"C"^Qwh "added")
 (QEe:"K"^Qrj)
 (Qsc:"N"^QfQ "whole_shares")
 (Qq2:"L"^QfQ Qo0 Qqj "whole_shares" "whole_shares" Qbv .none Qpf Qqp QoR QoE QhN QoG Qqd)
 (Qq4:"C"^QhN "whole_shares")
 (Qjj:"K"^QfQ)
 (Qsq:"I"^Qc4)
 (Qst:"L"^Qc4 QoV Qqt "clerk" "Office.clerk" Qb5 .none Qqo Qpr Qqx Qpa QhL Qpc QoL)
 (Qsy:"C"^QhL "Office.clerk")
 (QiK:"K"^Qc4)
 (QeF:"I"^Qat)
 (Quh:"L"^Qat Qsp QrL "whole" "Clerk.whole" Qck .none Qrp QrN QrQ QsR Qja QqJ Qq8)
 (QvW:"C"^Qja "Clerk.whole")
 (Qdm:"K"^Qat)
 (Qbn:"I"^QL)
 (QhH:"L"^QL Qhv Qg4 "sent_from_start" "Clerk.sent_from_start" Qac .none Qhr QhD Qg2 Qht QdO Qhw Qha)
 (QhI:"C"^QdO "Clerk.sent_from_start")
 (QaL:"K"^QL)
 (Qfw:"I"^QaE)
 (Qz4:"L"^QaE QuV Qva "sent" "Clerk.sent" Qb8 .none QuC QvI Qt2 Qud Qkk QvG QuY)
 (Qzu:"C"^Qkk "Clerk.sent")
 (Qd1:"K"^QaE)
 (Qrx:"I"^Qc0)
 (QqE:"L"^Qc0 QoT Qoy "leads" "Office.leads" Qb1 .none QoF Qo4 Qpl Qod QhM Qph Qog)
 (QrB:"C"^QhM "Office.leads")
 (Qi7:"K"^Qc0)
 (QpH:"N"^QfH "worths_behind")
 (Qoc:"L"^QfH Qn1 Qm6 "worths_behind" "worths_behind" Qba .none Qn6 QnZ Qn8 Qnd Qg1 QnE Qnu)
 (QpW:"C"^Qg1 "worths_behind")
 (QhV:"K"^QfH)
 (QOu:"N"^QyP "lean")
 (QPN:"L"^QyP QOq QNz "lean" "lean" QgZ .none QM7 QNJ QMZ QMn QEa QMM QNr)
 (QQc:"C"^QEa "lean")
 (QJg:"K"^QyP)
 (QLi:"N"^Qnf "sum_of")
 (QKX:"L"^Qnf QJZ QIP "sum_of" "sum_of" Qe1 .none QJG QIh QJ7 QIq Qty QJb QJm)
 (QMf:"C"^Qty "sum_of")
 (Qwf:"K"^Qnf)
 (QP5:"N"^QxI "book")
 (QOJ:"L"^QxI QMl QN3 "book" "book" Qhp .none QNZ QNB QMF QNP QD6 QNE QOd)
 (QOT:"C"^QD6 "book")
 (QJN:"K"^QxI)
 (QqS:"I"^Qc1)
 (QqB:"L"^Qc1 Qqb QoJ "doors" "Office.doors" Qb0 .none QoO QpB QpI Qpk Qia Qqa Qoi)
 (QsO:"C"^Qia "Office.doors")
 (Qi2:"K"^Qc1)
 (QvT:"N"^Qgz "nothing_out")
 (Qvj:"L"^Qgz Qrd Qs0 "nothing_out" "nothing_out" QbO .none QrY QqV QsF QqK Qjf Qra Qq9)
 (Qu0:"C"^Qjf "nothing_out")
 (Qko:"K"^Qgz)
 (QQx:"N"^QFT "lay")
 (QQG:"L"^QFT QPB QO7 "lay" "lay" Qju .none QPb QPu QO1 QPt QHN QQj QPD)
 (QQE:"C"^QHN "lay")
 (QMg:"K"^QFT)
 (Qga:"I"^QaR)
 (QBy:"L"^QaR QxD Qw7 "row" "Clerk.row" Qds .none Qx6 QxZ Qxx QwE Ql0 Qyo Qz3)
 (QAx:"C"^Ql0 "Clerk.row")
 (QeB:"K"^QaR)
 (QL0:"N"^QnJ "handle")
 (QLH:"L"^QnJ QIC QJC "handle" "handle" QeW .none QIg QIl QIf QHM Qtg QKb QJu)
 (QKW:"C"^Qtg "handle")
 (Qxe:"K"^QnJ)
 (QvF:"I"^Qdq)
 (Qu6:"L"^Qdq Qrm QsS "many" "Office.many" Qcm .none Qq5 Qre Qsx QqM Qjh QrS Qrs)
 (Qvc:"C"^Qjh "Office.many")
 (Qj5:"K"^Qdq)
 (QJ1:"N"^QkG "handled")
 (QKt:"L"^QkG QFB QGv "handled" "handled" Qe8 .none QGM QFj QFb QFN Qok QE3 QGd)
 (QJs:"C"^Qok "handled")
 (Qtp:"K"^QkG)
 (QHr:"N"^QjZ "_law_plus")
 (QFu:"L"^QjZ QCX QCn "_law_plus" "_law_plus" Qep .none QA2 QBT QDJ QCF Qmp QCO QAc)
 (QGE:"C"^Qmp "_law_plus")
 (Qos:"K"^QjZ)
 (Qqk:"N"^QfM "_law_row_worth")
 (Qps:"L"^QfM Qng QnH "_law_row_worth" "_law_row_worth" QbJ .none Qnw QnI Qnr Qnq Qhs Qnv QnS)
 (Qqf:"C"^Qhs "_law_row_worth")
 (QhW:"K"^QfM)
 (QFh:"N"^Qjk "_law_mean")
 (QHq:"L"^Qjk QA3 QDX "_law_mean" "_law_mean" Qei .none QBk QAj QCR QDl QmC QCp QAe)
 (QFl:"C"^QmC "_law_mean")
 (QpO:"K"^Qjk)
 (QC4:"N"^Qiq "_law_whole")
 (QBi:"L"^Qiq Qxu QyQ "_law_whole" "_law_whole" Qdx .none QxF QxO Qzx Qyi QlG Qyx Qwm)
 (QC1:"C"^QlG "_law_whole")
 (QmZ:"K"^Qiq)
 (QGg:"N"^Qjo "_law_same")
 (QGm:"L"^Qjo QAV QAG "_law_same" "_law_same" Qea .none QCE QDq QAX QAR QmS QBW QCs)
 (QFv:"C"^QmS "_law_same")
 (QoM:"K"^Qjo)
 (QQw:"N"^QHD "law")
 (QQL:"L"^QHD QQl QQs "law" "law" Qfj .none QJy QI5 QIN QJ8 Qyv QI9 QPd)
 (QQy:"C"^Qyv "law")
 (QQH:"K"^QHD)
 (z_len:"Z"^"len")
 (z_range:"Z"^"range")
 (z_int:"Z"^"int")
 (z_enumerate:"Z"^"enumerate")
 (z_isinstance:"Z"^"isinstance")
 (z_list:"Z"^"list")
 (z_set:"Z"^"set")
 (z_str:"Z"^"str")
 (z_all:"Z"^"all")
 (z_bool:"Z"^"bool")
 (z_tuple:"Z"^"tuple")
 (z_any:"Z"^"any")
 (z_zip:"Z"^"zip")
 (z_abs:"Z"^"abs")
 (z_sum:"Z"^"sum")
 (c_MOST_SIGNS:W.nsIn K mainGlobals "MOST_SIGNS"=some (some (.int 6 vf)))
 (c_LETTERS:W.nsIn K mainGlobals "LETTERS"=some (some (.str "abcdefghijklmnopqrstuvwxyz" vp)))
 (c_MOST_CLERKS:W.nsIn K mainGlobals "MOST_CLERKS"=some (some (.int 60 vc)))
 (c_MOST_ENTRIES:W.nsIn K mainGlobals "MOST_ENTRIES"=some (some (.int 6 va)))
 (c_MOST_DOORS:W.nsIn K mainGlobals "MOST_DOORS"=some (some (.int 6 vg)))
 (c_MOST_OUTS:W.nsIn K mainGlobals "MOST_OUTS"=some (some (.int 6 vj)))
 (c_MOST_SENT:W.nsIn K mainGlobals "MOST_SENT"=some (some (.int 9 vk)))
 (c_MOST_ROWS:W.nsIn K mainGlobals "MOST_ROWS"=some (some (.int 12 vl)))
 (Qv4:"T"^QO QD false)
 (QCH:"T"^QC QD false)
 (QBL:"T"^QA QD false)
 (Qvk:"T"^Qs QD false)
 (QCI:"T"^QD QD true)
 (Qp1:"T"^QO Qs false)
 (Qu7:"T"^QC Qs false)
 (QtL:"T"^QA Qs false)
 (Qpq:"T"^Qs Qs true)
 (Qvh:"T"^QD Qs false)
 (Qv1:"T"^QO QA false)
 (QDp:"T"^QC QA false)
 (QCx:"T"^QA QA true)
 (Qvi:"T"^Qs QA false)
 (QDz:"T"^QD QA false)
 (QtK:"T"^QO QC false)
 (QA6:"T"^QC QC true)
 (QBb:"T"^QA QC false)
 (Qvv:"T"^Qs QC false)
 (QBf:"T"^QD QC false):
 ∃ fd:FuncData,(∀(s:Shared)(v:Value),BindsTo s fd ⟨[v],[]⟩ [("_law_script",v)])/\∀ base:Heap,K.In base->base.Ns mainGlobals mg->FnOk l.prog w K mg base CX0 9 fa fd ["_law_script"] (SpD K (ctOf K) false QhZ):=by
 have ee:=hfa.symm.trans ("A"^QQw)
 cases ee
 have QEd:="A"^QIu
 have Qay:=ct_of QIu
 have Qbh:Cls K QD:=⟨QME,QNS,QN8,QMm⟩
 have Qte:="A"^Qwe
 have Q9:=ct_of Qwe
 have Qav:Cls K Qs:=⟨QJJ,QHX,QHT,QKi⟩
 have QD8:="A"^QH4
 have Qaz:=ct_of QH4
 have Qbb:Cls K QA:=⟨QOt,QM8,QNR,QNl⟩
 have QEM:="A"^QI4
 have Qax:=ct_of QI4
 have Qbg:Cls K QC:=⟨QNC,QOk,QOn,QM5⟩
 have QKr:="A"^Qxi
 have Qaq:=ct_of Qxi
 have QaW:Cls K QO:=⟨QJK,QJU,QHW,QJB⟩
 have fo_table:FldOk K (ctOf K) Qj "table":=by
  intro c hc A hA
  walk_at "h0"
  rcases hm with rfl | rfl | rfl | rfl | rfl
  ·exact "R"^Qay Qbh QuJ
  ·exact "R"^Q9 Qav Qpd
  ·exact "R"^Qaz Qbb Qvp
  ·exact "R"^Qax Qbg Qul
  ·exact "R"^Qaq QaW Qn9
 have fo_clerk_names:FldOk K (ctOf K) Qj "clerk_names":=by
  intro c hc A hA
  walk_at "h0"
  rcases hm with rfl | rfl | rfl | rfl | rfl
  ·exact "R"^Qay Qbh Qkw
  ·exact "R"^Q9 Qav Qjb
  ·exact "R"^Qaz Qbb Qkv
  ·exact "R"^Qax Qbg Qkx
  ·exact "R"^Qaq QaW QiF
 have fo_door_names:FldOk K (ctOf K) Qj "door_names":=by
  intro c hc A hA
  walk_at "h0"
  rcases hm with rfl | rfl | rfl | rfl | rfl
  ·exact "R"^Qay Qbh QlE
  ·exact "R"^Q9 Qav Qjs
  ·exact "R"^Qaz Qbb Qk5
  ·exact "R"^Qax Qbg Qlv
  ·exact "R"^Qaq QaW QjF
 have fo_entry_places:FldOk K (ctOf K) Qj "entry_places":=by
  intro c hc A hA
  walk_at "h0"
  rcases hm with rfl | rfl | rfl | rfl | rfl
  ·exact "R"^Qay Qbh QjM
  ·exact "R"^Q9 Qav Qip
  ·exact "R"^Qaz Qbb QjG
  ·exact "R"^Qax Qbg QjN
  ·exact "R"^Qaq QaW Qix
 have fo_staff:FldOk K (ctOf K) Qj "staff":=by
  intro c hc A hA
  walk_at "h0"
  rcases hm with rfl | rfl | rfl | rfl | rfl
  ·exact "R"^Qay Qbh Quw
  ·exact "R"^Q9 Qav Qpe
  ·exact "R"^Qaz Qbb Qvs
  ·exact "R"^Qax Qbg QuI
  ·exact "R"^Qaq QaW QpV
 have fo_first_states:FldOk K (ctOf K) Qj "first_states":=by
  intro c hc A hA
  walk_at "h0"
  rcases hm with rfl | rfl | rfl | rfl | rfl
  ·exact "R"^Qay Qbh QjC
  ·exact "R"^Q9 Qav Qim
  ·exact "R"^Qaz Qbb Qjq
  ·exact "R"^Qax Qbg Qjw
  ·exact "R"^Qaq QaW Qiy
 have fo_ways:FldOk K (ctOf K) Qj "ways":=by
  intro c hc A hA
  walk_at "h0"
  rcases hm with rfl | rfl | rfl | rfl | rfl
  ·exact "R"^Qay Qbh Qy9
  ·exact "R"^Q9 Qav QsY
  ·exact "R"^Qaz Qbb QxG
  ·exact "R"^Qax Qbg Qxb
  ·exact "R"^Qaq QaW Qrg
 have fo_heads:FldOk K (ctOf K) Qj "heads":=by
  intro c hc A hA
  walk_at "h0"
  rcases hm with rfl | rfl | rfl | rfl | rfl
  ·exact "R"^Qay Qbh QtP
  ·exact "R"^Q9 Qav Qqy
  ·exact "R"^Qaz Qbb Qub
  ·exact "R"^Qax Qbg Qvy
  ·exact "R"^Qaq QaW QoP
 have Qmd:ClsD K QD:=⟨Qbh,QOf,y1,y2,QNc⟩
 have Qh9:ClsD K Qs:=⟨Qav,QIn,y1,y2,QH1⟩
 have Qmg:ClsD K QA:=⟨Qbb,QNn,y1,y2,QMV⟩
 have Qmf:ClsD K QC:=⟨Qbg,QNp,y1,y2,QNU⟩
 have QhU:ClsD K QO:=⟨QaW,QJl,y1,y2,QIw⟩
 have Qp8:=Qp (st:=Qd8) QEZ QGQ Qop
 have QHb:=Qp8.binds (ps:=["_law_script","_law_k"]) fun _ _ _ _ _ _ us hl=>match us,hl with | [_,_],_=>rfl
 have Qmq:=Qp (st:=Qdv) QCJ QBp QmY
 have QCG:=Qmq.binds (ps:=["_law_cell_here","_law_k"]) fun _ _ _ _ _ _ us hl=>match us,hl with | [_,_],_=>rfl
 have Qk3:=Qp (st:=Qc2) QyW Qz8 Ql1
 have QzP:=Qk3.binds (ps:=["_law_number","_law_many"]) fun _ _ _ _ _ _ us hl=>match us,hl with | [_,_],_=>rfl
 have QpF:=Qp (st:=Qda) QGs QG7 Qpw
 have QHm:=QpF.binds (ps:=["_law_number"]) fun _ _ _ _ _ _ us hl=>match us,hl with | [_],_=>rfl
 have Qp9:=Qp (st:=Qeh) QGA QHa QoN
 have QFF:=Qp9.binds (ps:=["_law_script"]) fun _ _ _ _ _ _ us hl=>match us,hl with | [_],_=>rfl
 have Qmz:=Qp (st:=Qdu) QDc QDR QmW
 have QAb:=Qmz.binds (ps:=["_law_script","_law_many"]) fun _ _ _ _ _ _ us hl=>match us,hl with | [_,_],_=>rfl
 have QmP:=Qp (st:=QcG) QCg QDV Qmr
 have QCy:=QmP.binds (ps:=["_law_script"]) fun _ _ _ _ _ _ us hl=>match us,hl with | [_],_=>rfl
 have QmR:=Qp (st:=Qdy) QAS QCb QmN
 have QCa:=QmR.binds (ps:=["names","doors"]) fun _ _ _ _ _ _ us hl=>match us,hl with | [_,_],_=>rfl
 have Qtl:=Qp (st:=Qe7) QKo QJX Qs9
 have QI2:=Qtl.binds (ps:=["thing","most"]) fun _ _ _ _ _ _ us hl=>match us,hl with | [_,_],_=>rfl
 have QlU:=Qp (st:=QcT) Qya Qw3 Qlk
 have Qwz:=QlU.binds (ps:=["names"]) fun _ _ _ _ _ _ us hl=>match us,hl with | [_],_=>rfl
 have QtJ:=Qp (st:=QdW) QHH QJv Qts
 have QKh:=QtJ.binds (ps:=["thing"]) fun _ _ _ _ _ _ us hl=>match us,hl with | [_],_=>rfl
 have QmL:=Qp (st:=Qcy) QDr QDw QmJ
 have QAZ:=QmL.binds (ps:=["thing","most"]) fun _ _ _ _ _ _ us hl=>match us,hl with | [_,_],_=>rfl
 have Qm4:=Qp (st:=QcC) QB7 QBa Qmv
 have QDb:=Qm4.binds (ps:=["thing","many"]) fun _ _ _ _ _ _ us hl=>match us,hl with | [_,_],_=>rfl
 have Qo1:=Qp (st:=Qel) QE5 QEV QoB
 have QGS:=Qo1.binds (ps:=["thing"]) fun _ _ _ _ _ _ us hl=>match us,hl with | [_],_=>rfl
 have Qm1:=Qp (st:=QdA) QBY QCk Qm2
 have QAq:=Qm1.binds (ps:=["thing","least","most"]) fun _ _ _ _ _ _ us hl=>match us,hl with | [_,_,_],_=>rfl
 have Qqz:=Qp (st:=Qeg) QGe QFI QoW
 have QFG:=Qqz.binds (ps:=["thing"]) fun _ _ _ _ _ _ us hl=>match us,hl with | [_],_=>rfl
 have QlO:=Qp (st:=QcV) Qxc QyC QdP
 have Qfv:=QlO.binds (ps:=["self"]) fun _ _ _ _ _ _ us hl=>match us,hl with | [_],_=>rfl
 have Qi3:=Qp (st:=QbZ) Qr2 QqC QcS
 have Qeb:=Qi3.binds (ps:=["self"]) fun _ _ _ _ _ _ us hl=>match us,hl with | [_],_=>rfl
 have Qta:=Qp (st:=Qfc) QJp QH9 Qtu
 have QIY:=Qta.binds (ps:=["thing"]) fun _ _ _ _ _ _ us hl=>match us,hl with | [_],_=>rfl
 have QmO:=Qp (st:=QbU) QDL QCd QmD
 have QBI:=QmO.binds (ps:=["thing","doors"]) fun _ _ _ _ _ _ us hl=>match us,hl with | [_,_],_=>rfl
 have Qpb:=Qp (st:=Qec) QGb QGV QoA
 have QET:=Qpb.binds (ps:=["thing","names"]) fun _ _ _ _ _ _ us hl=>match us,hl with | [_,_],_=>rfl
 have Qkl:=Qp (st:=Qbi) Quv Quz Qj2
 have Quf:=Qkl.binds (ps:=["thing","names"]) fun _ _ _ _ _ _ us hl=>match us,hl with | [_,_],_=>rfl
 have Qp3:=Qp (st:=Qdf) QG1 QGG Qoo
 have QFZ:=Qp3.binds (ps:=["seat","places"]) fun _ _ _ _ _ _ us hl=>match us,hl with | [_,_],_=>rfl
 have Qkh:=Qp (st:=Qaj) Qvt QvM Qvq
 have QvS:=Qkh.binds (ps:=["self","clerks","entries","doors"]) fun _ _ _ _ _ _ us hl=>match us,hl with | [_,_,_,_],_=>rfl
 have Qtz:=Qp (st:=QdX) QII QJw Qtq
 have QJH:=Qtz.binds (ps:=["one","other"]) fun _ _ _ _ _ _ us hl=>match us,hl with | [_,_],_=>rfl
 have Qi5:=Qp (st:=Qbs) Qr8 Qsw QiQ
 have Qro:=Qi5.binds (ps:=["rows"]) fun _ _ _ _ _ _ us hl=>match us,hl with | [_],_=>rfl
 have QgH:=Qp (st:=QaM) Qmn Qmj QbR
 have QcM:=QgH.binds (ps:=["self","rows"]) fun _ _ _ _ _ _ us hl=>match us,hl with | [_,_],_=>rfl
 have Qx2:=Qp (st:=QeV) QLg QLE QxH
 have QLO:=Qx2.binds (ps:=["thing"]) fun _ _ _ _ _ _ us hl=>match us,hl with | [_],_=>rfl
 have QoH:=Qp (st:=Qcs) QGf QFQ Qov
 have QHi:=QoH.binds (ps:=["thing"]) fun _ _ _ _ _ _ us hl=>match us,hl with | [_],_=>rfl
 have QmK:=Qp (st:=Qdr) QAW QDv QBZ
 have QAN:=QmK.binds (ps:=["self","rows"]) fun _ _ _ _ _ _ us hl=>match us,hl with | [_,_],_=>rfl
 have QlD:=Qp (st:=Qcg) Qzb Qzz Qlz
 have Qwc:=QlD.binds (ps:=["many","place"]) fun _ _ _ _ _ _ us hl=>match us,hl with | [_,_],_=>rfl
 have Qmu:=Qp (st:=Qcx) QCL QDT QD0
 have QDZ:=Qmu.binds (ps:=["self","many"]) fun _ _ _ _ _ _ us hl=>match us,hl with | [_,_],_=>rfl
 have Qki:=Qp (st:=QbP) Qun Qu9 QuF
 have QuR:=Qki.binds (ps:=["self","size"]) fun _ _ _ _ _ _ us hl=>match us,hl with | [_,_],_=>rfl
 have QmX:=Qp (st:=Qdt) QAt QBw QCC
 have QBM:=QmX.binds (ps:=["self","counts"]) fun _ _ _ _ _ _ us hl=>match us,hl with | [_,_],_=>rfl
 have Qmt:=Qp (st:=Qcw) QAh QAO QmH
 have QCA:=Qmt.binds (ps:=["_law_kind","_law_rows_here"]) fun _ _ _ _ _ _ us hl=>match us,hl with | [_,_],_=>rfl
 have QkX:=Qp (st:=QbC) QyM QyS QlA
 have Qzj:=QkX.binds (ps:=["_law_plan_here","_law_doors"]) fun _ _ _ _ _ _ us hl=>match us,hl with | [_,_],_=>rfl
 have Qj4:=Qp (st:=Qcn) QuU Qvd Qka
 have QuW:=Qj4.binds (ps:=["_law_one","_law_other"]) fun _ _ _ _ _ _ us hl=>match us,hl with | [_,_],_=>rfl
 have QtA:=Qp (st:=Qe4) QH5 QIT Qs6
 have QJx:=QtA.binds (ps:=["_law_top","_law_bottom"]) fun _ _ _ _ _ _ us hl=>match us,hl with | [_,_],_=>rfl
 have QkQ:=Qp (st:=QcX) Qwt QwI QlX
 have QyI:=QkQ.binds (ps:=["_law_cell_here","_law_many"]) fun _ _ _ _ _ _ us hl=>match us,hl with | [_,_],_=>rfl
 have Qgo:=Qp (st:=QaY) Qlo QkR Qgk
 have Qlj:=Qgo.binds (ps:=["one","other"]) fun _ _ _ _ _ _ us hl=>match us,hl with | [_,_],_=>rfl
 have QhY:=Qp (st:=QbI) Qp2 Qqq QhO
 have Qqm:=QhY.binds (ps:=["fractions"]) fun _ _ _ _ _ _ us hl=>match us,hl with | [_],_=>rfl
 have QMS:=Qp (st:=Qcl) QMB QNV QqR
 have QpC:=Qp (st:=Qco) QFt QHA QpD
 have QGX:=QpC.binds (ps:=["shares","worths"]) fun _ _ _ _ _ _ us hl=>match us,hl with | [_,_],_=>rfl
 have QEH:=Qp (st:=QgY) QMG QOl QEe
 have QMk:=QEH.binds (ps:=["one","other"]) fun _ _ _ _ _ _ us hl=>match us,hl with | [_,_],_=>rfl
 have Qi9:=Qp (st:=Qbv) Qq2 Qq4 Qjj
 have QqP:=Qi9.binds (ps:=["counts"]) fun _ _ _ _ _ _ us hl=>match us,hl with | [_],_=>rfl
 have Qi1:=Qp (st:=Qb5) Qst Qsy QiK
 have Qsm:=Qi1.binds (ps:=["self","k"]) fun _ _ _ _ _ _ us hl=>match us,hl with | [_,_],_=>rfl
 have Qj0:=Qp (st:=Qck) Quh QvW Qdm
 have QeE:=Qj0.binds (ps:=["self"]) fun _ _ _ _ _ _ us hl=>match us,hl with | [_],_=>rfl
 have Qet:=Qp (st:=Qac) QhH QhI QaL
 have Qbo:=Qet.binds (ps:=["self","count"]) fun _ _ _ _ _ _ us hl=>match us,hl with | [_,_],_=>rfl
 have QkL:=Qp (st:=Qb8) Qz4 Qzu Qd1
 have Qfh:=QkL.binds (ps:=["self","state","count"]) fun _ _ _ _ _ _ us hl=>match us,hl with | [_,_,_],_=>rfl
 have QiE:=Qp (st:=Qb1) QqE QrB Qi7
 have Qrz:=QiE.binds (ps:=["self","k"]) fun _ _ _ _ _ _ us hl=>match us,hl with | [_,_],_=>rfl
 have Qh7:=Qp (st:=Qba) Qoc QpW QhV
 have Qqe:=Qh7.binds (ps:=["office","k","worths","door_worths"]) fun _ _ _ _ _ _ us hl=>match us,hl with | [_,_,_,_],_=>rfl
 have QH3:=Qp (st:=QgZ) QPN QQc QJg
 have QPC:=QH3.binds (ps:=["office","k","state","worths","door_worths"]) fun _ _ _ _ _ _ us hl=>match us,hl with | [_,_,_,_,_],_=>rfl
 have QzR:=Qp (st:=Qe1) QKX QMf Qwf
 have QKy:=QzR.binds (ps:=["fractions"]) fun _ _ _ _ _ _ us hl=>match us,hl with | [_],_=>rfl
 have QHY:=Qp (st:=Qhp) QOJ QOT QJN
 have QPJ:=QHY.binds (ps:=["office","worths","door_worths","states","desks","out"]) fun _ _ _ _ _ _ us hl=>match us,hl with | [_,_,_,_,_,_],_=>rfl
 have QiN:=Qp (st:=Qb0) QqB QsO Qi2
 have Qse:=QiN.binds (ps:=["self"]) fun _ _ _ _ _ _ us hl=>match us,hl with | [_],_=>rfl
 have Qkf:=Qp (st:=QbO) Qvj Qu0 Qko
 have QuA:=Qkf.binds (ps:=["office"]) fun _ _ _ _ _ _ us hl=>match us,hl with | [_],_=>rfl
 have QMi:=Qp (st:=Qju) QQG QQE QMg
 have QQI:=QMi.binds (ps:=["desks","out","leads","dockets"]) fun _ _ _ _ _ _ us hl=>match us,hl with | [_,_,_,_],_=>rfl
 have QmV:=Qp (st:=Qds) QBy QAx QeB
 have Qf1:=QmV.binds (ps:=["self","state"]) fun _ _ _ _ _ _ us hl=>match us,hl with | [_,_],_=>rfl
 have Qzv:=Qp (st:=QeW) QLH QKW Qxe
 have QKK:=Qzv.binds (ps:=["office","states","desks","out","k"]) fun _ _ _ _ _ _ us hl=>match us,hl with | [_,_,_,_,_],_=>rfl
 have Qj3:=Qp (st:=Qcm) Qu6 Qvc Qj5
 have Qvu:=Qj3.binds (ps:=["self"]) fun _ _ _ _ _ _ us hl=>match us,hl with | [_],_=>rfl
 have Qs2:=Qp (st:=Qe8) QKt QJs Qtp
 have QJo:=Qs2.binds (ps:=["office","states","desks","k"]) fun _ _ _ _ _ _ us hl=>match us,hl with | [_,_,_,_],_=>rfl
 have Qo9:=Qp (st:=Qep) QFu QGE Qos
 have QF8:=Qo9.binds (ps:=["_law_one","_law_other"]) fun _ _ _ _ _ _ us hl=>match us,hl with | [_,_],_=>rfl
 have Qie:=Qp (st:=QbJ) Qps Qqf QhW
 have Qpi:=Qie.binds (ps:=["_law_plan_here","_law_k","_law_state","_law_worths_here","_law_door_worths"]) fun _ _ _ _ _ _ us hl=>match us,hl with | [_,_,_,_,_],_=>rfl
 have Qo2:=Qp (st:=Qei) QHq QFl QpO
 have QGZ:=Qo2.binds (ps:=["_law_plan_here","_law_k","_law_worths_here","_law_door_worths"]) fun _ _ _ _ _ _ us hl=>match us,hl with | [_,_,_,_],_=>rfl
 have QmB:=Qp (st:=Qdx) QBi QC1 QmZ
 have QCo:=QmB.binds (ps:=["_law_found"]) fun _ _ _ _ _ _ us hl=>match us,hl with | [_],_=>rfl
 have Qoa:=Qp (st:=Qea) QGm QFv QoM
 have QF7:=Qoa.binds (ps:=["_law_found","_law_due"]) fun _ _ _ _ _ _ us hl=>match us,hl with | [_,_],_=>rfl
 have QMh:=Qp (st:=Qfj) QQL QQy QQH
 have QQO:=QMh.binds (ps:=["_law_script"]) fun _ _ _ _ _ _ us hl=>match us,hl with | [_],_=>rfl
 have v1:mg "len"=none:=W.mg_none_of X G z_len
 have v2:mg "range"=none:=W.mg_none_of X G z_range
 have vm:mg "int"=none:=W.mg_none_of X G z_int
 have v6:mg "enumerate"=none:=W.mg_none_of X G z_enumerate
 have v0:mg "isinstance"=none:=W.mg_none_of X G z_isinstance
 have v3:mg "list"=none:=W.mg_none_of X G z_list
 have vt:mg "set"=none:=W.mg_none_of X G z_set
 have vr:mg "str"=none:=W.mg_none_of X G z_str
 have v5:mg "all"=none:=W.mg_none_of X G z_all
 have vo:mg "bool"=none:=W.mg_none_of X G z_bool
 have v9:mg "tuple"=none:=W.mg_none_of X G z_tuple
 have vu:mg "any"=none:=W.mg_none_of X G z_any
 have v4:mg "zip"=none:=W.mg_none_of X G z_zip
 have vs:mg "abs"=none:=W.mg_none_of X G z_abs
 have vv:mg "sum"=none:=W.mg_none_of X G z_sum
 have vh:="A"^c_MOST_SIGNS
 have vq:="A"^c_LETTERS
 have vd:="A"^c_MOST_CLERKS
 have vb:="A"^c_MOST_ENTRIES
 have vi:="A"^c_MOST_DOORS
 have v7:="A"^c_MOST_OUTS
 have vn:="A"^c_MOST_SENT
 have v8:="A"^c_MOST_ROWS
 have Qr9:KitI K (ctOf K) (.ref QD) [("Deal",true),("Bundle",false),("Copy",false),("Rows",false),("Office",false)]:=(Qaa Qay Qmd QCI (Qaa Q9 Qh9 Qvk (Qaa Qaz Qmg QBL (Qaa Qax Qmf QCH (Qaa Qaq QhU Qv4 QjB)))))
 have Qlm:KitI K (ctOf K) (.ref Qs) [("Deal",false),("Bundle",true),("Copy",false),("Rows",false),("Office",false)]:=(Qaa Qay Qmd Qvh (Qaa Q9 Qh9 Qpq (Qaa Qaz Qmg QtL (Qaa Qax Qmf Qu7 (Qaa Qaq QhU Qp1 QjB)))))
 have Qq1:KitI K (ctOf K) (.ref QA) [("Deal",false),("Bundle",false),("Copy",true),("Rows",false),("Office",false)]:=(Qaa Qay Qmd QDz (Qaa Q9 Qh9 Qvi (Qaa Qaz Qmg QCx (Qaa Qax Qmf QDp (Qaa Qaq QhU Qv1 QjB)))))
 have Qrq:KitI K (ctOf K) (.ref QC) [("Deal",false),("Bundle",false),("Copy",false),("Rows",true),("Office",false)]:=(Qaa Qay Qmd QBf (Qaa Q9 Qh9 Qvv (Qaa Qaz Qmg QBb (Qaa Qax Qmf QA6 (Qaa Qaq QhU QtK QjB)))))
 refine⟨W.fnOf "law" "law" (Ql Qfj) (Qk Qfj) (Qd Qfj) .none QJy QI5 QIN QJ8 Qyv QI9,fun s v=>.of_eq rfl,fun base _ _=>?_⟩
 have QHp:"F"^1 ["_law_script","_law_k"] false Q3:=QFy Qp8 v1
 have QjR:"E"^Q3 "_law_cell" 1 false:="D"^QHp QGD Qop QHb
 have QAo:"F"^1 ["_law_cell_here","_law_k"] false QH:=QAK Qmq
 have Qgb:"E"^QH "_law_mixed" 1 false:="D"^QAo QDh QmY QCG
 have Qx7:"F"^1 ["_law_number","_law_many"] true QbF:=QyD Qk3 v2
 have QzZ:"E"^QbF "_law_counts" 1 true:="D"^Qx7 Qyk Ql1 QzP
 have QHo:"F"^2 ["_law_number"] false Qcq:=QE0 QpF QzZ v2 vm
 have QES:"E"^Qcq "_law_rows" 2 false:="D"^QHo QGU Qpw QHm
 have QGR:"F"^3 ["_law_script"] false Qdh:=QGy Qp9 QjR Qgb QES v2 v1
 have QHv:"E"^Qdh "_law_plan" 3 false:="D"^QGR QE7 QoN QFF
 have QAm:"F"^2 ["_law_script","_law_many"] true Qcv:=QB5 Qmz Qgb QjR v2
 have QC6:"E"^Qcv "_law_desks" 2 true:="D"^QAm QDD QmW QAb
 have QAC:"F"^4 ["_law_script"] false QcF:=QAI QmP QHv QC6 v1
 have QBx:"E"^QcF "_law_begin" 4 false:="D"^QAC QAr Qmr QCy
 have QAn:"F"^1 ["names","doors"] true QcL:=QC9 QmR v6
 have QDF:"E"^QcL "places_of" 1 true:="D"^QAn QCj QmN QCa
 have QHV:"F"^1 ["thing","most"] false Qbk:=QH7 Qtl v0 v3 v1
 have QlH:"E"^Qbk "is_list" 1 false:="D"^QHV QJS Qs9 QI2
 have QxT:"F"^1 ["names"] false Q8:=QwN QlU v1 vt
 have Qhe:"E"^Q8 "all_unlike" 1 false:="D"^QxT Qz0 Qlk Qwz
 have QJD:"F"^1 ["thing"] false QaB:=QJV QtJ v0 vr v1 v5 vh ⟨_,rfl⟩ vq ⟨_,rfl⟩
 have QlZ:"E"^QaB "is_name" 1 false:="D"^QJD QIk Qts QKh
 have QCN:"F"^2 ["thing","most"] false QcA:=QDn QmL QlH QlZ Qhe v5
 have QC5:"E"^QcA "are_names" 2 false:="D"^QCN QDt QmJ QAZ
 have QDN:"F"^1 ["thing","many"] false QcJ:=QAB Qm4 v0 v3 v1 v5 vr
 have QDY:"E"^QcJ "are_texts" 1 false:="D"^QDN QDx Qmv QDb
 have QHf:"F"^1 ["thing"] false QaU:=QFc Qo1 v0 vm vo
 have Qof:"E"^QaU "is_whole" 1 false:="D"^QHf QGo QoB QGS
 have QA9:"F"^2 ["thing","least","most"] false Q5:=QBs Qm1 Qof
 have QeA:"E"^Q5 "is_within" 2 false:="D"^QA9 QC0 Qm2 QAq
 have QGx:"F"^1 ["thing"] false Qdc:=QFR Qqz v0 QEd Qte QD8 QEM Qr9 Qlm Qq1 Qrq
 have QFo:"E"^Qdc "is_clerk" 1 false:="D"^QGx QHe QoW QFG
 have Qfg:"F"^1 ["self"] false QbG:=Qzk QlO v1 fo_table
 have mt_outs:MtOk l.prog w K mg base (ctOf K) CX0 "outs" 1 Qc (fun c=>SpD K (ctOf K) false ((fun _=>QbG) c)):=by
  intro c hc
  walk_at "h1"
  rcases hm with rfl | rfl | rfl | rfl
  ·exact⟨QD,QaA,_,_,Qay,Qbh,⟨QDO,Qfl,QdP⟩,Qfg.mono (by decide),Qfv⟩
  ·exact⟨Qs,QaA,_,_,Q9,Qav,⟨QvN,Qfl,QdP⟩,Qfg.mono (by decide),Qfv⟩
  ·exact⟨QA,QaA,_,_,Qaz,Qbb,⟨QDs,Qfl,QdP⟩,Qfg.mono (by decide),Qfv⟩
  ·exact⟨QC,QaA,_,_,Qax,Qbg,⟨QAz,Qfl,QdP⟩,Qfg.mono (by decide),Qfv⟩
 have Qem:"F"^1 ["self"] false QI:=Qrn Qi3 v1 fo_table
 have mt_period:MtOk l.prog w K mg base (ctOf K) CX0 "period" 1 Qc (fun c=>SpD K (ctOf K) false ((fun _=>QI) c)):=by
  intro c hc
  walk_at "h1"
  rcases hm with rfl | rfl | rfl | rfl
  ·exact⟨QD,Qan,_,_,Qay,Qbh,⟨QvK,Qes,QcS⟩,Qem.mono (by decide),Qeb⟩
  ·exact⟨Qs,Qan,_,_,Q9,Qav,⟨QoZ,Qes,QcS⟩,Qem.mono (by decide),Qeb⟩
  ·exact⟨QA,Qan,_,_,Qaz,Qbb,⟨Quk,Qes,QcS⟩,Qem.mono (by decide),Qeb⟩
  ·exact⟨QC,Qan,_,_,Qax,Qbg,⟨QuM,Qes,QcS⟩,Qem.mono (by decide),Qeb⟩
 have QJR:"F"^3 ["thing"] false QdZ:=QKk Qta QlZ QFo QDY QeA v0 v9 v1 mt_outs mt_period
 have QJ2:"E"^QdZ "is_seat" 3 false:="D"^QJR QJT Qtu QIY
 have QAY:"F"^4 ["thing","doors"] false QcH:=QDi QmO QlH QJ2 Qhe v5 vd ⟨_,rfl⟩
 have QCi:"E"^QcH "are_seats" 4 false:="D"^QAY QAP QmD QBI
 have QHt:"F"^2 ["thing","names"] false Qc9:=QFM Qpb QlZ v0 v9 v1
 have QFL:"E"^Qc9 "is_entry" 2 false:="D"^QHt QF4 QoA QET
 have QtV:"F"^3 ["thing","names"] false QbN:=QuT Qkl QlH QFL Qhe v5 vb ⟨_,rfl⟩
 have QtZ:"E"^QbN "are_entries" 3 false:="D"^QtV QuX Qj2 Quf
 have QHF:"F"^1 ["seat","places"] true Qc7:=QER Qp3
 have QFf:"E"^Qc7 "leads_to" 1 true:="D"^QHF QG8 Qoo QFZ
 have Qvl:FnOk l.prog w K mg base (CXR l.prog w) 5 _ _ ["self","clerks","entries","doors"] (SpI K (ctOf K) QaF):=QvY Qkh QC5 QCi QtZ QDF QFf vu v3 vi ⟨_,rfl⟩ fo_clerk_names fo_door_names fo_entry_places fo_staff fo_first_states fo_ways
 have QkC:MkOk l.prog w K mg base (ctOf K) "Office" 5 QaF:=⟨QO,Qdl,_,_,Qaq,QKr,⟨QGc,Qt1,Quy,QGq⟩,Qvl,QvS⟩
 have QHZ:"F"^1 ["one","other"] true Qc5:=QH6 Qtz v4
 have QJ5:"E"^Qc5 "sums_of" 1 true:="D"^QHZ QHJ Qtq QJH
 have QqU:"F"^2 ["rows"] true QaK:=QrA Qi5 QJ5
 have QqT:"E"^QaK "running_sums" 2 true:="D"^QqU Qsh QiQ Qro
 have QcO:FnOk l.prog w K mg base (CXR l.prog w) 3 _ _ ["self","rows"] (SpI K (ctOf K) QQ):=Qml QgH QqT v3 fo_table fo_heads
 have ms_keep_rows:MtOk l.prog w K mg base (ctOf K) (CXR l.prog w) "keep_rows" 3 Qc (fun _=>SpI K (ctOf K) QQ):=by
  intro c hc
  walk_at "h1"
  rcases hm with rfl | rfl | rfl | rfl
  ·exact⟨QD,Q0,_,_,Qay,Qbh,⟨Qni,QcR,QbR⟩,QcO.mono (by decide),QcM⟩
  ·exact⟨Qs,Q0,_,_,Q9,Qav,⟨QlB,QcR,QbR⟩,QcO.mono (by decide),QcM⟩
  ·exact⟨QA,Q0,_,_,Qaz,Qbb,⟨Qne,QcR,QbR⟩,QcO.mono (by decide),QcM⟩
  ·exact⟨QC,Q0,_,_,Qax,Qbg,⟨QnO,QcR,QbR⟩,QcO.mono (by decide),QcM⟩
 have QLK:"F"^3 ["thing"] false Qdb:=QLl Qx2 QeA v0 v3 v1 v5 v7 ⟨_,rfl⟩ vn ⟨_,rfl⟩
 have QzD:"E"^Qdb "is_row" 3 false:="D"^QLK QLB QxH QLO
 have QGt:"F"^4 ["thing"] false Qdi:=QFE QoH QzD v0 v3 v1 v5 v8 ⟨_,rfl⟩
 have QGi:"E"^Qdi "is_table" 4 false:="D"^QGt QFn Qov QHi
 have QB2:FnOk l.prog w K mg base (CXR l.prog w) 5 _ _ ["self","rows"] (SpI K (ctOf K) Qcz):=QDy QmK QGi ms_keep_rows
 have Qr1:MkOk l.prog w K mg base (ctOf K) "Rows" 5 Qcz:=⟨QC,Qey,_,_,Qax,QEM,⟨QK7,QDW,QDP,QKZ⟩,QB2,QAN⟩
 have Qwl:"F"^1 ["many","place"] true Qb6:=QwT QlD v2
 have Qzc:"E"^Qb6 "single_row" 1 true:="D"^Qwl Qw9 Qlz Qwc
 have QAd:FnOk l.prog w K mg base (CXR l.prog w) 4 _ _ ["self","many"] (SpI K (ctOf K) QcK):=QDk Qmu QeA Qzc v2 v7 ⟨_,rfl⟩ ms_keep_rows
 have QsD:MkOk l.prog w K mg base (ctOf K) "Deal" 4 QcK:=⟨QD,QeC,_,_,Qay,QEd,⟨QLv,QBG,QDH,QLJ⟩,QAd,QDZ⟩
 have QuH:FnOk l.prog w K mg base (CXR l.prog w) 4 _ _ ["self","size"] (SpI K (ctOf K) QbM):=QtX Qki QeA v2 v8 ⟨_,rfl⟩ ms_keep_rows
 have QkT:MkOk l.prog w K mg base (ctOf K) "Bundle" 4 QbM:=⟨Qs,Qdn,_,_,Q9,Qte,⟨QF3,Qui,QtU,QFz⟩,QuH,QuR⟩
 have QCf:FnOk l.prog w K mg base (CXR l.prog w) 4 _ _ ["self","counts"] (SpI K (ctOf K) QcB):=QCr QmX QzD ms_keep_rows
 have QrJ:MkOk l.prog w K mg base (ctOf K) "Copy" 4 QcB:=⟨QA,Qev,_,_,Qaz,QD8,⟨QL1,QBS,QDa,QKD⟩,QCf,QBM⟩
 have QCh:"F"^7 ["_law_kind","_law_rows_here"] true Qbz:=QAM Qmt v1 v3 QsD QkT QrJ Qr1
 have QDg:"E"^Qbz "_law_clerk" 7 true:="D"^QCh QDj QmH QCA
 have QxK:"F"^8 ["_law_plan_here","_law_doors"] true Qcb:=QyG QkX QDg v2 v1 QkC
 have QxE:"E"^Qcb "_law_office" 8 true:="D"^QxK Qzo QlA Qzj
 have QtT:"F"^1 ["_law_one","_law_other"] false QbL:=QvJ Qj4 vs
 have Qvz:"E"^QbL "_law_divisor" 1 false:="D"^QtT QuD Qka QuW
 have QIX:"F"^2 ["_law_top","_law_bottom"] false QbH:=QJj QtA Qvz
 have Qlf:"E"^QbH "_law_low" 2 false:="D"^QIX QHL Qs6 QJx
 have Qxk:"F"^3 ["_law_cell_here","_law_many"] true Qch:=Qyh QkQ Qgb Qlf v2
 have QxV:"E"^Qch "_law_worths" 3 true:="D"^Qxk QzE QlX QyI
 have Qls:"F"^1 ["one","other"] false Q4:=QlQ Qgo
 have Qgn:"E"^Q4 "greatest_divisor" 1 false:="D"^Qls QkO Qgk Qlj
 have Qpm:"F"^2 ["fractions"] false QaO:=Qpy QhY Qgn
 have Qpn:"E"^QaO "common_bottom" 2 false:="D"^Qpm Qp0 QhO Qqm
 have QED:"F"^2 ["top","bottom"] false QaQ:=QN4 QMS Qof Qgn vs
 have B_share_0:Binds K (W.fnOf "share" "share" (Ql Qcl) (Qk Qcl) (Qd Qcl) (.ref Ql9) QnV QnG QnK Qm8 QjO Qn5) ["top","bottom"] []:=fun s us kin hl=>by
  match us,hl with
  | [],hh=>exact absurd hh (by simp)
  | [_],hh=>exact absurd hh (by simp)
  | [_,_],_=>exact W.binds_K kin rfl t_shareh rfl rfl rfl
  | _::_::_::_,hh=>exact absurd hh (by simp<;>omega)
 have QrO:"E"^QaQ "share" 2 false:="D"^QED QEq QqR B_share_0
 have B_share_1:Binds K (W.fnOf "share" "share" (Ql Qcl) (Qk Qcl) (Qd Qcl) (.ref Ql9) QnV QnG QnK Qm8 QjO Qn5) ["top","bottom"] [.int 1 Qzt]:=fun s us kin hl=>by
  match us,hl with
  | [],hh=>exact absurd hh (by simp)
  | [_],_=>exact W.binds_K kin rfl t_shareh rfl rfl rfl
  | _::_::_,hh=>exact absurd hh (by simp<;>omega)
 have ve:DefOk l.prog w K mg base (ctOf K) "share" 2 false [(.int 1)] QaQ:=⟨_,_,_,_,QED,"A"^QEq,QqR,B_share_1,(.cons ⟨_,rfl⟩ .nil)⟩
 have QHu:"F"^3 ["shares","worths"] false QaI:=QHh QpC Qpn QrO v4 vv
 have Qjl:"E"^QaI "worth_of" 3 false:="D"^QHu QF5 QpD QGX
 have QNa:"F"^3 ["one","other"] false QfZ:=QMW QEH QrO
 have QNQ:"E"^QfZ "added" 3 false:="D"^QNa QNN QEe QMk
 have Qq7:"F"^3 ["counts"] true Qbw:=Qrt Qi9 ve
 have QqQ:"E"^Qbw "whole_shares" 3 true:="D"^Qq7 Qsc Qjj QqP
 have QsW:"F"^1 ["self","k"] false Qao:=QrM Qi1 fo_staff
 have mt_clerk:MtOk l.prog w K mg base (ctOf K) CX0 "clerk" 1 Qu (fun c=>SpD K (ctOf K) false ((fun _=>Qao) c)):=by
  intro c hc
  walk_at "h2"
  rcases hm with rfl
  ·exact⟨QO,Qc4,_,_,Qaq,QaW,⟨QqG,Qsq,QiK⟩,QsW.mono (by decide),Qsm⟩
 have QeK:"F"^2 ["self"] true Qai:=QtQ Qj0 v3 fo_heads mt_period
 have mt_whole:MtOk l.prog w K mg base (ctOf K) CX0 "whole" 2 Qc (fun c=>SpD K (ctOf K) true ((fun _=>Qai) c)):=by
  intro c hc
  walk_at "h1"
  rcases hm with rfl | rfl | rfl | rfl
  ·exact⟨QD,Qat,_,_,Qay,Qbh,⟨QxM,QeF,Qdm⟩,QeK.mono (by decide),QeE⟩
  ·exact⟨Qs,Qat,_,_,Q9,Qav,⟨Qsb,QeF,Qdm⟩,QeK.mono (by decide),QeE⟩
  ·exact⟨QA,Qat,_,_,Qaz,Qbb,⟨Qyw,QeF,Qdm⟩,QeK.mono (by decide),QeE⟩
  ·exact⟨QC,Qat,_,_,Qax,Qbg,⟨Qz9,QeF,Qdm⟩,QeK.mono (by decide),QeE⟩
 have Qbm:"F"^3 ["self","count"] true QR:=QhG Qet v4 fo_heads mt_period mt_whole
 have mt_sent_from_start:MtOk l.prog w K mg base (ctOf K) CX0 "sent_from_start" 3 Qc (fun c=>SpD K (ctOf K) true ((fun _=>QR) c)):=by
  intro c hc
  walk_at "h1"
  rcases hm with rfl | rfl | rfl | rfl
  ·exact⟨QD,QL,_,_,Qay,Qbh,⟨Qit,Qbn,QaL⟩,Qbm.mono (by decide),Qbo⟩
  ·exact⟨Qs,QL,_,_,Q9,Qav,⟨Qhy,Qbn,QaL⟩,Qbm.mono (by decide),Qbo⟩
  ·exact⟨QA,QL,_,_,Qaz,Qbb,⟨Qiw,Qbn,QaL⟩,Qbm.mono (by decide),Qbo⟩
  ·exact⟨QC,QL,_,_,Qax,Qbg,⟨Qih,Qbn,QaL⟩,Qbm.mono (by decide),Qbo⟩
 have Qfn:"F"^4 ["self","state","count"] true QbD:=Qwr QkL v4 mt_sent_from_start
 have mt_sent:MtOk l.prog w K mg base (ctOf K) CX0 "sent" 4 Qc (fun c=>SpD K (ctOf K) true ((fun _=>QbD) c)):=by
  intro c hc
  walk_at "h1"
  rcases hm with rfl | rfl | rfl | rfl
  ·exact⟨QD,QaE,_,_,Qay,Qbh,⟨QCP,Qfw,Qd1⟩,Qfn.mono (by decide),Qfh⟩
  ·exact⟨Qs,QaE,_,_,Q9,Qav,⟨Qv5,Qfw,Qd1⟩,Qfn.mono (by decide),Qfh⟩
  ·exact⟨QA,QaE,_,_,Qaz,Qbb,⟨QAD,Qfw,Qd1⟩,Qfn.mono (by decide),Qfh⟩
  ·exact⟨QC,QaE,_,_,Qax,Qbg,⟨QCQ,Qfw,Qd1⟩,Qfn.mono (by decide),Qfh⟩
 have QrU:"F"^1 ["self","k"] true Qad:=Qrv QiE v3 fo_ways
 have mt_leads:MtOk l.prog w K mg base (ctOf K) CX0 "leads" 1 Qu (fun c=>SpD K (ctOf K) true ((fun _=>Qad) c)):=by
  intro c hc
  walk_at "h2"
  rcases hm with rfl
  ·exact⟨QO,Qc0,_,_,Qaq,QaW,⟨QqF,Qrx,Qi7⟩,QrU.mono (by decide),Qrz⟩
 have QpY:"F"^2 ["office","k","worths","door_worths"] true Qa5:=Qoq Qh7 mt_leads
 have Qqn:"E"^Qa5 "worths_behind" 2 true:="D"^QpY QpH QhV Qqe
 have QOC:"F"^5 ["office","k","state","worths","door_worths"] false Qd4:=QOP QH3 QrO Qjl Qqn v4 mt_clerk mt_period mt_sent mt_whole
 have QOx:"E"^Qd4 "lean" 5 false:="D"^QOC QOu QJg QPC
 have QKA:"F"^4 ["fractions"] false QeT:=QLq QzR Qjl ve
 have QLp:"E"^QeT "sum_of" 4 false:="D"^QKA QLi Qwf QKy
 have QPw:"F"^6 ["office","worths","door_worths","states","desks","out"] false QfI:=QP6 QHY Qjl QqQ QOx QNQ QLp v6
 have QOv:"E"^QfI "book" 6 false:="D"^QPw QP5 QJN QPJ
 have Qsk:"F"^1 ["self"] true QaJ:=QrX QiN v3 fo_door_names
 have mt_doors:MtOk l.prog w K mg base (ctOf K) CX0 "doors" 1 Qu (fun c=>SpD K (ctOf K) true ((fun _=>QaJ) c)):=by
  intro c hc
  walk_at "h2"
  rcases hm with rfl
  ·exact⟨QO,Qc1,_,_,Qaq,QaW,⟨QsH,QqS,Qi2⟩,Qsk.mono (by decide),Qse⟩
 have QuQ:"F"^2 ["office"] true QbQ:=Qur Qkf mt_doors
 have QuB:"E"^QbQ "nothing_out" 2 true:="D"^QuQ QvT Qko QuA
 have QQF:FnOk l.prog w K mg base CX0 1 _ _ ["desks","out","leads","dockets"] (SpW K (ctOf K) false [true,true,false,false] QjS):=QQC QMi v4
 have QQJ:DefW l.prog w K mg base (ctOf K) "lay" 1 false [true,true,false,false] QjS:=⟨_,_,_,QQF,"A"^QQx,QMg,QQI⟩
 have Qf7:"F"^1 ["self","state"] true QbV:=QAU QmV v3 fo_table
 have mt_row:MtOk l.prog w K mg base (ctOf K) CX0 "row" 1 Qc (fun c=>SpD K (ctOf K) true ((fun _=>QbV) c)):=by
  intro c hc
  walk_at "h1"
  rcases hm with rfl | rfl | rfl | rfl
  ·exact⟨QD,QaR,_,_,Qay,Qbh,⟨QHs,Qga,QeB⟩,Qf7.mono (by decide),Qf1⟩
  ·exact⟨Qs,QaR,_,_,Q9,Qav,⟨Qza,Qga,QeB⟩,Qf7.mono (by decide),Qf1⟩
  ·exact⟨QA,QaR,_,_,Qaz,Qbb,⟨QG2,Qga,QeB⟩,Qf7.mono (by decide),Qf1⟩
  ·exact⟨QC,QaR,_,_,Qax,Qbg,⟨QFa,Qga,QeB⟩,Qf7.mono (by decide),Qf1⟩
 have QMc:FnOk l.prog w K mg base CX0 2 _ _ ["office","states","desks","out","k"] (SpW K (ctOf K) false [false,true,true,true,false] QeX):=QLt Qzv QQJ mt_clerk mt_leads mt_row mt_period
 have QK3:DefW l.prog w K mg base (ctOf K) "handle" 2 false [false,true,true,true,false] QeX:=⟨_,_,_,QMc,"A"^QL0,Qxe,QKK⟩
 have QvV:"F"^1 ["self"] false Qbj:=QvA Qj3 v1 fo_clerk_names
 have mt_many:MtOk l.prog w K mg base (ctOf K) CX0 "many" 1 Qu (fun c=>SpD K (ctOf K) false ((fun _=>Qbj) c)):=by
  intro c hc
  walk_at "h2"
  rcases hm with rfl
  ·exact⟨QO,Qdq,_,_,Qaq,QaW,⟨Qvb,QvF,Qj5⟩,QvV.mono (by decide),Qvu⟩
 have QIx:"F"^3 ["office","states","desks","k"] false QdR:=QJr Qs2 QeA QuB QK3 v3 mt_many
 have QIU:"E"^QdR "handled" 3 false:="D"^QIx QJ1 Qtp QJo
 have QF1:"F"^3 ["_law_one","_law_other"] false Qaw:=QGY Qo9 Qlf
 have QjV:"E"^Qaw "_law_plus" 3 false:="D"^QF1 QHr Qos QF8
 have Qp6:"F"^4 ["_law_plan_here","_law_k","_law_state","_law_worths_here","_law_door_worths"] false Qa9:=Qpp Qie QjV v4
 have QpP:"E"^Qa9 "_law_row_worth" 4 false:="D"^Qp6 Qqk QhW Qpi
 have QFK:"F"^5 ["_law_plan_here","_law_k","_law_worths_here","_law_door_worths"] false Qdg:=QGP Qo2 QjV QpP Qlf v1 v2
 have QGN:"E"^Qdg "_law_mean" 5 false:="D"^QFK QFh QpO QGZ
 have QA7:"F"^1 ["_law_found"] false QbX:=QC3 QmB v0 vm vo
 have QCW:"E"^QbX "_law_whole" 1 false:="D"^QA7 QC4 QmZ QCo
 have QHx:"F"^2 ["_law_found","_law_due"] false Qc8:=QGu Qoa QCW v0 v9 v1
 have QGz:"E"^Qc8 "_law_same" 2 false:="D"^QHx QGg QoM QF7
 have QQz:"F"^9 ["_law_script"] false QhZ:=QQD QMh QBx QxE QxV QjR QOv Qgb QIU QGN QGz QjV v1 v2 v4
 exact QQz
theorem walk{l:W.OpenLaw}{q:Program}{loose:List Str}{XP:(Str->Option Value)->Heap->Prop}{YP:World->Heap->Prop}{d:DefRec}{K:Params->W.Frag}(hn:l.most=some 63)(hdf:d.params.defaults=[])
 (hY:∀(w:World)(h:Heap),YP w h->(K w.params).In h) (hlaw:∀ ns:List Int,ns.length<=63->(∀ z∈ns,bitsI z<=1048576)->QhZ [.lst (ns.map .int)]=.ok (.bl true))
 (F:∀(w:World)(mg:Str->Option Value)(fa:Addr)(h:Heap),(K w.params).In h->h.Ns mainGlobals mg->mg d.name=some (.ref fa)->
  ∃ fd:FuncData,(∀(s:Shared)(u:Value),BindsTo s fd ⟨[u],[]⟩ [("_law_script",u)])/\∀ base:Heap,(K w.params).In base->base.Ns mainGlobals mg->FnOk l.prog w (K w.params) mg base CX0 9 fa fd ["_law_script"] (SpD (K w.params) (ctOf (K w.params)) false QhZ)):
 W.WalkO q loose XP YP l.row.toRowW d [] (fun f vs=>PySem.call f vs):=
 DL.walk_of (n:=63) (k:=9) (x:="_law_script") (CX:=fun _=>CX0) (sp:=fun w=>SpD (K w.params) (ctOf (K w.params)) false QhZ) hn (by decide) hdf ⟨rfl,by decide,by decide⟩ hY F
  (fun w H a ns hl hbits _ hS=>⟨[.lst (ns.map .int)],H,Same.refl H,⟨.ref a,[],rfl,⟨a,_,rfl,hS,RepL.map_int ns⟩,rfl⟩,by rw[hlaw ns hl hbits];exact fun v H' G' _ _ _ _ r=>r⟩) fun _ _ _ _ _ z=>z
end My
open PySem PySem.W PyProof.Rows
set_option maxRecDepth 100000 in
set_option maxHeartbeats 0 in
theorem PySem.Challenge.cw_dockethall_k58_one_handling_in_the_book_holds : PySem.Challenge.rw_dockethall_k58_one_handling_in_the_book.Holds := by
 w_on;o_law;k_head;(case hw=>w_witness2)
 k_fill
 refine My.walk (l:=PySem.Challenge.rw_dockethall_k58_one_handling_in_the_book) rfl rfl (fun w h Y=>PySem.W.kIn_of Y) My.the_law ?F
 case F=>
  intro w mg fa h KX G hmg
  refine' My.all_mk KX G hmg ..
  all_goals try first | k_is | kit_is
