import PyProof.Rows.All
import Wide.All
import OpenK.AllK
import Wide.FinOn
import PyProof.EqAt
import PyProof.EqKinds
import PyProof.TupleCall
import KE.BitLaws
import Open.SpecLaws
import KE.OsHead
import KE.OsGo
import PySem.Challenge.RW_closedroom_s01_answers
import VabldiSpec
import KE.KSortTupG
import VabldiNeutral
import KE.KSortTupUse
import KE.KDictSum
import PyProof.SetScanFacts
import PyProof.TupleKey
import PyProof.SetKind
import PyProof.IsRules
import PyProof.Rows.SetFrom
import PyVabldi
set_option Elab.async false
set_option linter.all false
set_option maxRecDepth 100000
set_option maxHeartbeats 4000000
inductive Ex2{A0 A1:Type}(p:A0->A1->Prop):Prop|mk(a0 a1)(h:p a0 a1):Ex2 p
inductive Ex3{A0 A1 A2:Type}(p:A0->A1->A2->Prop):Prop|mk(a0 a1 a2)(h:p a0 a1 a2):Ex3 p
inductive Ex4{A0 A1 A2 A3:Type}(p:A0->A1->A2->A3->Prop):Prop|mk(a0 a1 a2 a3)(h:p a0 a1 a2 a3):Ex4 p
inductive Ex5{A0 A1 A2 A3 A4:Type}(p:A0->A1->A2->A3->A4->Prop):Prop|mk(a0 a1 a2 a3 a4)(h:p a0 a1 a2 a3 a4):Ex5 p
inductive Ex6{A0 A1 A2 A3 A4 A5:Type}(p:A0->A1->A2->A3->A4->A5->Prop):Prop|mk(a0 a1 a2 a3 a4 a5)(h:p a0 a1 a2 a3 a4 a5):Ex6 p
inductive Ex7{A0 A1 A2 A3 A4 A5 A6:Type}(p:A0->A1->A2->A3->A4->A5->A6->Prop):Prop|mk(a0 a1 a2 a3 a4 a5 a6)(h:p a0 a1 a2 a3 a4 a5 a6):Ex7 p
inductive Ex8{A0 A1 A2 A3 A4 A5 A6 A7:Type}(p:A0->A1->A2->A3->A4->A5->A6->A7->Prop):Prop|mk(a0 a1 a2 a3 a4 a5 a6 a7)(h:p a0 a1 a2 a3 a4 a5 a6 a7):Ex8 p
inductive Ex9{A0 A1 A2 A3 A4 A5 A6 A7 A8:Type}(p:A0->A1->A2->A3->A4->A5->A6->A7->A8->Prop):Prop|mk(a0 a1 a2 a3 a4 a5 a6 a7 a8)(h:p a0 a1 a2 a3 a4 a5 a6 a7 a8):Ex9 p
inductive Ex10{A0 A1 A2 A3 A4 A5 A6 A7 A8 A9:Type}(p:A0->A1->A2->A3->A4->A5->A6->A7->A8->A9->Prop):Prop|mk(a0 a1 a2 a3 a4 a5 a6 a7 a8 a9)(h:p a0 a1 a2 a3 a4 a5 a6 a7 a8 a9):Ex10 p
inductive Ex11{A0 A1 A2 A3 A4 A5 A6 A7 A8 A9 A10:Type}(p:A0->A1->A2->A3->A4->A5->A6->A7->A8->A9->A10->Prop):Prop|mk(a0 a1 a2 a3 a4 a5 a6 a7 a8 a9 a10)(h:p a0 a1 a2 a3 a4 a5 a6 a7 a8 a9 a10):Ex11 p
inductive Ex12{A0 A1 A2 A3 A4 A5 A6 A7 A8 A9 A10 A11:Type}(p:A0->A1->A2->A3->A4->A5->A6->A7->A8->A9->A10->A11->Prop):Prop|mk(a0 a1 a2 a3 a4 a5 a6 a7 a8 a9 a10 a11)(h:p a0 a1 a2 a3 a4 a5 a6 a7 a8 a9 a10 a11):Ex12 p
inductive Ex14{A0 A1 A2 A3 A4 A5 A6 A7 A8 A9 A10 A11 A12 A13:Type}(p:A0->A1->A2->A3->A4->A5->A6->A7->A8->A9->A10->A11->A12->A13->Prop):Prop|mk(a0 a1 a2 a3 a4 a5 a6 a7 a8 a9 a10 a11 a12 a13)(h:p a0 a1 a2 a3 a4 a5 a6 a7 a8 a9 a10 a11 a12 a13):Ex14 p
inductive And4(A0 A1 A2 A3:Prop):Prop|mk(_:A0)(_:A1)(_:A2)(_:A3):And4 A0 A1 A2 A3
inductive And5(A0 A1 A2 A3 A4:Prop):Prop|mk(_:A0)(_:A1)(_:A2)(_:A3)(_:A4):And5 A0 A1 A2 A3 A4
inductive And6(A0 A1 A2 A3 A4 A5:Prop):Prop|mk(_:A0)(_:A1)(_:A2)(_:A3)(_:A4)(_:A5):And6 A0 A1 A2 A3 A4 A5
inductive And7(A0 A1 A2 A3 A4 A5 A6:Prop):Prop|mk(_:A0)(_:A1)(_:A2)(_:A3)(_:A4)(_:A5)(_:A6):And7 A0 A1 A2 A3 A4 A5 A6
inductive And8(A0 A1 A2 A3 A4 A5 A6 A7:Prop):Prop|mk(_:A0)(_:A1)(_:A2)(_:A3)(_:A4)(_:A5)(_:A6)(_:A7):And8 A0 A1 A2 A3 A4 A5 A6 A7
inductive And9(A0 A1 A2 A3 A4 A5 A6 A7 A8:Prop):Prop|mk(_:A0)(_:A1)(_:A2)(_:A3)(_:A4)(_:A5)(_:A6)(_:A7)(_:A8):And9 A0 A1 A2 A3 A4 A5 A6 A7 A8
inductive And10(A0 A1 A2 A3 A4 A5 A6 A7 A8 A9:Prop):Prop|mk(_:A0)(_:A1)(_:A2)(_:A3)(_:A4)(_:A5)(_:A6)(_:A7)(_:A8)(_:A9):And10 A0 A1 A2 A3 A4 A5 A6 A7 A8 A9
inductive And11(A0 A1 A2 A3 A4 A5 A6 A7 A8 A9 A10:Prop):Prop|mk(_:A0)(_:A1)(_:A2)(_:A3)(_:A4)(_:A5)(_:A6)(_:A7)(_:A8)(_:A9)(_:A10):And11 A0 A1 A2 A3 A4 A5 A6 A7 A8 A9 A10
inductive And12(A0 A1 A2 A3 A4 A5 A6 A7 A8 A9 A10 A11:Prop):Prop|mk(_:A0)(_:A1)(_:A2)(_:A3)(_:A4)(_:A5)(_:A6)(_:A7)(_:A8)(_:A9)(_:A10)(_:A11):And12 A0 A1 A2 A3 A4 A5 A6 A7 A8 A9 A10 A11
inductive And13(A0 A1 A2 A3 A4 A5 A6 A7 A8 A9 A10 A11 A12:Prop):Prop|mk(_:A0)(_:A1)(_:A2)(_:A3)(_:A4)(_:A5)(_:A6)(_:A7)(_:A8)(_:A9)(_:A10)(_:A11)(_:A12):And13 A0 A1 A2 A3 A4 A5 A6 A7 A8 A9 A10 A11 A12
open Lean in
local macro_rules|`(∃$s,$b)=>do
 let e:=s.raw[0]
 let q:=if e.getKind==``unbracketedExplicitBinders then e[0].getArgs.map fun i=>(i[0],if e[1].isNone then (mkHole e).raw else e[1][1]) else e.getArgs.flatMap fun z=>z[1].getArgs.map fun i=>(i[0],z[3])
 if q.size<2||q.size==13||q.size>14 then Macro.throwUnsupported
 let x:Array Term:=q.map fun i=>⟨i.1⟩
 let t:Array Term:=q.map fun i=>⟨i.2⟩
 `($(mkIdent (.mkSimple s!"Ex{q.size}")) fun $[($x : $t)]* => $b)
open Lean in
local macro_rules|`($a/\$b)=>do
 let mut l:=#[a]
 let mut r:=b
 repeat
  match r with
  |`($x/\$y)=>
   l:=l.push x
   r:=y
  |_=>break
 if l.size<3||l.size>12 then Macro.throwUnsupported
 `($(mkIdent (.mkSimple s!"And{l.size+1}")) $l* $r)
namespace L2
open PySem PySem.Spec PyProof.Rows
abbrev bG:=Sum Int Str
def mj:bG->Value->Bool
 | .inl k,v=>Value.isInt k v
 | .inr x,v=>Value.isStrOf x v
def G6(w:World):bG->Int
 | .inl k=>hashInt k
 | .inr x=>hashStr w x
theorem bE:∀{k:bG} {v:Value},mj k v=true->(∃i t,k=Sum.inl i/\v=Value.int i t)\/(∃x t,k=Sum.inr x/\v=Value.str x t)
 | .inl i,v,h=>by
  obtain⟨t,e⟩:=Value.isInt_shape (k:=i) (v:=v) h;exact .inl ⟨i,t,rfl,e⟩
 | .inr x,v,h=>by
  obtain⟨t,e⟩:=Value.isStrOf_shape (x:=x) (v:=v) h;exact .inr ⟨x,t,rfl,e⟩
theorem xu(i:Int)(t:Tok):mj (.inl i) (.int i t)=true:=by simp[mj,Value.isInt]
theorem xx(x:Str)(t:Tok):mj (.inr x) (.str x t)=true:=by simp[mj,Value.isStrOf]
theorem Dh(a b:Int):decide ((Sum.inl a:bG)=Sum.inl b)=(a==b):=by
 by_cases e:a=b
 ·subst e;simp
 ·have h:¬(Sum.inl a:bG)=Sum.inl b:=λq=>e (Sum.inl.inj q)
  rw[decide_eq_false h];exact(beq_eq_false_iff_ne.mpr e).symm
theorem Di(a b:Str):decide ((Sum.inr a:bG)=Sum.inr b)=decide (a=b):=by
 by_cases e:a=b
 ·subst e;simp
 ·have h:¬(Sum.inr a:bG)=Sum.inr b:=λq=>e (Sum.inr.inj q)
  rw[decide_eq_false h,decide_eq_false e]
theorem Dj(a:Int)(b:Str):decide ((Sum.inl a:bG)=Sum.inr b)=false:=decide_eq_false (λq=>nomatch q)
theorem Dk(a:Str)(b:Int):decide ((Sum.inr a:bG)=Sum.inl b)=false:=decide_eq_false (λq=>nomatch q)
def bz(prog:Program)(w:World):PySem.KeyKind prog w bG where
 is:=mj
 hash:=G6 w
 inj:=λv a b ha hb=>by
  rcases bE ha with⟨i,t,rfl,rfl⟩|⟨x,t,rfl,rfl⟩
  ·rcases bE hb with⟨j,u,rfl,e⟩|⟨y,u,rfl,e⟩
   ·injection e with e1 _;rw[e1]
   ·exact nomatch e
  ·rcases bE hb with⟨j,u,rfl,e⟩|⟨y,u,rfl,e⟩
   ·exact nomatch e
   ·injection e with e1 _;rw[e1]
 byValue:=λk v h=>by
  rcases bE h with⟨i,t,rfl,rfl⟩|⟨x,t,rfl,rfl⟩<;>rfl
 pyHash:=λhv h=>by
  rcases bE hv with⟨i,t,rfl,rfl⟩|⟨x,t,rfl,rfl⟩
  ·exact wpAny_pyHash_int h
  ·exact wpAny_pyHash_str h
 eqBool:=λhu hv h=>by
  rcases bE hu with⟨i,t,rfl,rfl⟩|⟨x,t,rfl,rfl⟩
  ·rcases bE hv with⟨j,u,rfl,rfl⟩|⟨y,u,rfl,rfl⟩
   ·rw[Dh]at h;exact wpAny_eqBool_int h
   ·rw[Dj]at h;exact SeqAt.EqAt.int_str i t y u _ _ _ _ h
  ·rcases bE hv with⟨j,u,rfl,rfl⟩|⟨y,u,rfl,rfl⟩
   ·rw[Dk]at h;exact SeqAt.EqAt.str_int x t j u _ _ _ _ h
   ·rw[Di]at h;exact wpAny_eqBool_str h
 «strs»:=λk x t v h=>by
  rcases bE h with⟨i,u,rfl,e⟩|⟨y,u,rfl,e⟩
  ·exact nomatch e
  ·injection e with e1 _
   subst e1;cases v<;>rfl
theorem su(prog:Program)(w:World)(i:Int)(t:Tok):(bz prog w).is (.inl i) (.int i t)=true:=xu i t
theorem sv(prog:Program)(w:World)(x:Str)(t:Tok):(bz prog w).is (.inr x) (.str x t)=true:=xx x t
end L2
namespace L2
open PySem PySem.Spec PyProof.Rows
inductive V where
 |non|bl (b:Bool)|int (i:Int)|str (x:Str)|byt (b:Array UInt8)|flt (b:UInt64)|ref (a:Addr)|ty (n:String)
 deriving DecidableEq
def be:V->Value->Prop
 | .non,u=>u=Value.none
 | .bl b,u=>u=Value.bool b
 | .int i,u=>∃t,u=Value.int i t
 | .str x,u=>∃t,u=Value.str x t
 | .byt b,u=>∃t,u=Value.bytes b t
 | .flt b,u=>∃t,u=Value.float b t
 | .ref a,u=>u=Value.ref a
 | .ty n,u=>u=Value.type n
abbrev aW:List V->List Value->Prop:=Paired be
theorem aW.length{xs:List V}{us:List Value}(r:aW xs us):xs.length=us.length:=Paired.length r
theorem aW.get:∀{xs:List V} {us:List Value} {i:Nat} {x:V},aW xs us->xs[i]? =some x->∃u,us[i]? =some u/\be x u
 |_,_,_,_,.nil,e=>by simp at e
 |_,_,0,_,.cons r _,e=>by simp at e;subst e;exact⟨_,rfl,r⟩
 |_,_,i+1,x,.cons _ t,e=>by
  obtain⟨u,h1,h2⟩:=aW.get (i:=i) (x:=x) t (by simpa using e);exact⟨u,by simpa using h1,h2⟩
theorem aW.set{x:V}{u:Value}(r:be x u):∀{xs:List V} {us:List Value} (i:Nat),aW xs us->aW (xs.set i x) (us.set i u)
 |_,_,_,.nil=> .nil
 |_,_,0,.cons _ t=> .cons r t
 |_,_,i+1,.cons q t=> .cons q (aW.set r i t)
theorem aW.append:∀{xs ys:List V} {us ws:List Value},aW xs us->aW ys ws->aW (xs++ys) (us++ws)
 |_,_,_,_,.nil,s=>s
 |_,_,_,_,.cons r t,s=> .cons r (aW.append t s)
theorem aW.take:∀{xs:List V} {us:List Value} (n:Nat),aW xs us->aW (xs.take n) (us.take n)
 |_,_,0,_=> .nil
 |_,_,_+1,.nil=> .nil
 |_,_,n+1,.cons r t=> .cons r (aW.take n t)
theorem aW.drop:∀{xs:List V} {us:List Value} (n:Nat),aW xs us->aW (xs.drop n) (us.drop n)
 |_,_,0,r=>r
 |_,_,_+1,.nil=> .nil
 |_,_,n+1,.cons _ t=>aW.drop n t
def gD:Option V->Option Value->Prop
 |some v,some u=>be v u
 |none,none=>True
 |_,_=>False
def KV{κ:Type}:List (κ×V)->List (κ×Value)->Prop:=Paired λ(p:κ×V) (q:κ×Value)=>p.1=q.1/\be p.2 q.2
def kV:bG->V
 | .inl i=> .int i
 | .inr x=> .str x
inductive HO where
 |lst (xs:List V)
 |tup (xs:List V)
 |dK (kvs:List (bG×V))|dT (kvs:List (List bG×V))
 |set (S:Int->Bool) (n:Nat)
 |ins (C dx:Addr) (fs:List (Str×V))
 |own (x:Addr)
 |xd (fs:List (Str×V))
 |met (f x:Addr)
 |rng (lo hi:Int)
 |frz (o:Obj) (u:HO)
 |tbl (ps:Array Value)
 |ext (φ:Heap->Prop)
abbrev Hp:=Addr->Option HO
def aJ(H:Hp)(a:Addr)(o:HO):Hp:=λb=>if b=a then some o else H b
theorem aa{H:Hp}{a:Addr}{o:HO}:aJ H a o a=some o:=by unfold aJ;rw[if_pos rfl]
theorem aj{H:Hp}{a b:Addr}{o:HO}(h:b≠a):aJ H a o b=H b:=by unfold aJ;rw[if_neg h]
theorem bN{H:Hp}{a:Addr}{o u:HO}:aJ (aJ H a o) a u=aJ H a u:=by
 funext b;unfold aJ;split<;>rfl
theorem CS{H:Hp}{a b:Addr}{o u:HO}(h:H a=some o)(h':H b=some u)(d:o≠u):a≠b:=by
 intro e;subst e;rw[h]at h';exact d (Option.some.inj h')
theorem az{H:Hp}{a b:Addr}{o:HO}(h:H a=some o)(h':H b=none):a≠b:=by
 intro e;subst e;rw[h]at h';cases h'
section
variable(P:Program)(w:World)
def bK(H:Hp)(h:Heap)(a:Addr):HO->Prop
 | .lst xs=>xs.length<=sizeLine/\∃(its:List Value) (n:Nat),aW xs its/\h.get? a=some {cls:= .type "list",data:= .seq its.toArray n}
 | .tup xs=>xs.length<=sizeLine/\∃its:List Value,aW xs its/\IsTup h a its.toArray
 | .dK kvs=>kvs.length<=sizeLine/\(a==sysModules)=false/\∃vs,KV kvs vs/\h.DictOf (bz P w) a vs
 | .dT kvs=>kvs.length<=sizeLine/\(a==sysModules)=false/\∃xs:List (List bG×Addr×Value),
   Paired (λ(p:List bG×V) (q:List bG×Addr×Value)=>p.1=q.1/\H q.2.1=some (.tup (p.1.map kV))/\be p.2 q.2.2) kvs xs/\
   ∃o es ep,h.get? a=some o/\o.ExactDict/\o.data= .dict es ep/\es.toList=xs.map (entryOfKey (tupleKind (bz P w)))/\(xs.map (·.1)).Nodup
 | .set S n=>h.SetOf (intKind P w) a S n
 | .ins C dx fs=>H dx=some (.own a)/\fs.length<=1000/\dx≠a/\h.get? a=some (PySem.W.instObj C dx)/\
   ∃mA,h.Ns1 dx mA/\(∀f,gD (fs.lookup f) (mA f))/\PySem.Within mA (fs.map (·.1))
 | .own _=>∃o,h.get? a=some o
 | .xd fs=>∃mA,h.Ns1 a mA/\∀f,gD (fs.lookup f) (mA f)
 | .rng lo hi=>∃t u v,h.get? a=some {cls:= .type "range",data:= .fields #[.int lo t,.int hi u,.int 1 v]}
 | .frz o u=>h.get? a=some o/\bK H h a u
 | .tbl ps=>h.get? a=some {cls:= .none,data:= .fields ps}
 | .met f x=>h.get? a=some (PySem.W.methodObj (.ref f) (.ref x))
 | .ext φ=>φ h/\(∃o,h.get? a=some o)/\∀h1 h2:Heap,φ h1->(∀o,h1.get? a=some o->h2.get? a=some o)->φ h2
def ir(H:Hp)(h:Heap):Prop:=∀a o,H a=some o->bK P w H h a o
end
section
variable{P:Program}{w:World}{H H':Hp}{h h':Heap}{a:Addr}{o:HO}
theorem bK.lt(x:bK P w H h a o):a<h.objs.size:=by
 cases o with
 |lst xs=>obtain⟨_,_,_,_,e⟩:=x;exact Heap.lt_size e
 |tup xs=>obtain⟨_,_,_,p⟩:=x;exact p.lt
 |dK kvs=>obtain⟨_,_,_,_,o,_,_,e,_⟩:=x;exact Heap.lt_size e
 |dT kvs=>obtain⟨_,_,_,_,o,_,_,e,_⟩:=x;exact Heap.lt_size e
 |set S n=>obtain⟨o,_,_,_,e,_⟩:=x;exact Heap.lt_size e
 |ins C dx fs=>obtain⟨_,_,_,e,_⟩:=x;exact Heap.lt_size e
 |own y=>obtain⟨_,e⟩:=x;exact Heap.lt_size e
 |xd fs=>obtain⟨_,⟨_,_,_,e,_⟩,_⟩:=x;exact Heap.lt_size e
 |rng lo hi=>obtain⟨_,_,_,e⟩:=x;exact Heap.lt_size e
 |frz ob u=>obtain⟨e,_⟩:=x;exact Heap.lt_size e
 |tbl ps=>exact Heap.lt_size (show h.get? a=some _ from x)
 |met f y=>exact Heap.lt_size (show h.get? a=some _ from x)
 |ext φ=>obtain⟨_,⟨_,e⟩,_⟩:=x;exact Heap.lt_size e
theorem Paired.mapP{α β:Type}{F G:α->β->Prop}:∀{l₁:List α} {l₂:List β},Paired F l₁ l₂->(∀a b,F a b->G a b)->Paired G l₁ l₂
 |_,_,.nil,_=> .nil
 |_,_,.cons r t,f=> .cons (f _ _ r) (Paired.mapP t f)
theorem bK.stay(x:bK P w H h a o)(k:∀b u,(b=a\/H b=some (.own a))->h.get? b=some u->h'.get? b=some u)
  (ho:∀b,H b=some (.own a)->H' b=some (.own a))(ht:∀b xs,H b=some (.tup xs)->H' b=some (.tup xs)):bK P w H' h' a o:=by
 induction o with
 |lst xs=>obtain⟨z,its,n,r,e⟩:=x;exact⟨z,its,n,r,k _ _ (.inl rfl) e⟩
 |tup xs=>obtain⟨z,its,r,ob,e,c⟩:=x;exact⟨z,its,r,ob,k _ _ (.inl rfl) e,c⟩
 |dK kvs=>obtain⟨z,y,vs,r,ob,es,ep,e,c⟩:=x;exact⟨z,y,vs,r,ob,es,ep,k _ _ (.inl rfl) e,c⟩
 |dT kvs=>
  obtain⟨z,y,xs,r,ob,es,ep,e,c,c2,c3,c4⟩:=x;exact⟨z,y,xs,Paired.mapP r λp q z=>⟨z.1,ht _ _ z.2.1,z.2.2⟩,ob,es,ep,k _ _ (.inl rfl) e,c,c2,c3,c4⟩
 |set S n=>obtain⟨ob,es,ep,t,e,c⟩:=x;exact⟨ob,es,ep,t,k _ _ (.inl rfl) e,c⟩
 |ins C dx fs=>
  obtain⟨d,z,ne,e,mA,⟨od,es,ep,e2,c⟩,r⟩:=x;exact⟨ho _ d,z,ne,k _ _ (.inl rfl) e,mA,⟨od,es,ep,k _ _ (.inr d) e2,c⟩,r⟩
 |own y=>obtain⟨ob,e⟩:=x;exact⟨ob,k _ _ (.inl rfl) e⟩
 |xd fs=>obtain⟨mA,⟨od,es,ep,e,c⟩,r⟩:=x;exact⟨mA,⟨od,es,ep,k _ _ (.inl rfl) e,c⟩,r⟩
 |rng lo hi=>obtain⟨t,u,v,e⟩:=x;exact⟨t,u,v,k _ _ (.inl rfl) e⟩
 |frz ob u ih=>obtain⟨e,q⟩:=x;exact⟨k _ _ (.inl rfl) e,ih q⟩
 |tbl ps=>
  have e:h.get? a=some {cls:= .none,data:= .fields ps}:=x;show h'.get? a=some {cls:= .none,data:= .fields ps};exact k a _ (.inl rfl) e
 |met f y=>
  have e:h.get? a=some (PySem.W.methodObj (.ref f) (.ref y)):=x;show h'.get? a=some (PySem.W.methodObj (.ref f) (.ref y));exact k a _ (.inl rfl) e
 |ext φ=>obtain⟨p,⟨o,e⟩,st⟩:=x;exact⟨st _ _ p λo q=>k _ _ (.inl rfl) q,⟨o,k _ _ (.inl rfl) e⟩,st⟩
theorem ir.lt(x:ir P w H h)(e:H a=some o):a<h.objs.size:=(x a o e).lt
theorem ir.fresh(x:ir P w H h)(e:h.objs.size<=a):H a=none:=by
 cases q:H a with
 |none=>rfl
 |some u=>exact absurd (Nat.lt_of_lt_of_le (x.lt q) e) (Nat.lt_irrefl _)
theorem ir.kept(x:ir P w H h)(k:∀b u,h.get? b=some u->h'.get? b=some u):ir P w H h':=λa o e=>
 (x a o e).stay (λb u _ q=>k b u q) (λ_ q=>q) λ_ _ q=>q
theorem ir.laid(x:ir P w H h)(k:∀b u,h.get? b=some u->h'.get? b=some u)(hp:h.objs.size<=a)(new:bK P w (aJ H a o) h' a o):ir P w (aJ H a o) h':=λb u e=>by
 have hn:=x.fresh hp;by_cases hb:b=a
 ·subst hb;rw[aa]at e;cases e;exact new
 ·rw[aj hb]at e;exact(x b u e).stay (λc v _ q=>k c v q) (λc q=>by rw[aj (az q hn)];exact q) λc xs q=>by rw[aj (az q hn)];exact q
end
def Rd(H:Hp)(a:Addr)(u:HO):Prop:=H a=some u\/∃o,H a=some (.frz o u)
theorem Rd.ok{P:Program}{w:World}{H:Hp}{h:Heap}{a:Addr}{u:HO}(r:Rd H a u)(x:ir P w H h):bK P w H h a u:=by
 rcases r with r|⟨o,r⟩
 ·exact x a u r
 ·obtain⟨_,q⟩:=x a _ r;exact q
def Bd:Option HO->Prop
 |some (.lst _)=>True
 |some (.dK _)=>True
 |some (.dT _)=>True
 |some (.set _ _)=>True
 |some (.ins _ _ _)=>True
 |some (.ext _)=>True
 |_=>False
section
variable{P:Program}{w:World}{H:Hp}{h h':Heap}{x e:Addr}{o':HO}
theorem ir.write(ok:ir P w H h)(mu:Bd (H x))(he:e=x\/H e=some (.own x))(k:∀b u,b≠e->h.get? b=some u->h'.get? b=some u)(heo:∃u,h'.get? e=some u)
  (new:bK P w (aJ H x o') h' x o'):ir P w (aJ H x o') h':=λb u q=>by
 have nown:∀c y,H c=some (.own y)->c≠x:=λc y r z=>by subst z;rw[r]at mu;exact mu
 have ntup:∀c xs,H c=some (.tup xs)->c≠x:=λc xs r z=>by subst z;rw[r]at mu;exact mu
 by_cases hb:b=x
 ·subst hb;rw[aa]at q;cases q;exact new
 ·rw[aj hb]at q;by_cases hbe:b=e
  ·have q':H b=some (.own x):=by
    rcases he with z|z
    ·exact absurd (hbe.trans z) hb
    ·rw[hbe];exact z
   rw[q]at q';cases q';obtain⟨v,hv⟩:=heo;exact⟨v,by rw[hbe];exact hv⟩
  ·refine(ok b u q).stay (λc v hc r=>k c v ?_ r) (λc r=>by rw[aj (nown c b r)];exact r) λc xs r=>by rw[aj (ntup c xs r)];exact r
   rcases hc with rfl|hc
   ·exact hbe
   ·rintro rfl
    rcases he with z|z
    ·exact nown c b hc z
    ·rw[hc]at z;cases z;exact hb rfl
end
structure Un(fs ex:List Addr)(H H':Hp)(h h':Heap):Prop where
 keep:∀b o,h.get? b=some o->H b=none->b∉fs->b∉ex->h'.get? b=some o
 slot:∀b o,h.get? b=some o->H b=none->b∈fs->b∉ex->∃sl,h'.get? b=some {o with slots:=sl}
 free:∀b o,h.get? b=some o->H b=none->b∉ex->H' b=none
 there:∀b o,h.get? b=some o->b∉ex->∃o',h'.get? b=some o'
 tups:∀b xs,H b=some (.tup xs)->H' b=some (.tup xs)
 frzs:∀b o u,H b=some (.frz o u)->H' b=some (.frz o u)
 tbls:∀b ps,H b=some (.tbl ps)->∃more,H' b=some (.tbl (ps++more))
section
variable{fs fs' ex ex':List Addr}{H H1 H2:Hp}{h h1 h2 h':Heap}{a x e:Addr}{o:HO}
theorem Un.any(u:Un fs ex H H1 h h1){b:Addr}{ob:Obj}(q:h.get? b=some ob)(n:H b=none)(hx:b∉ex):∃sl,h1.get? b=some {ob with slots:=sl}:=by
 by_cases hb:b∈fs
 ·exact u.slot b ob q n hb hx
 ·exact⟨ob.slots,u.keep b ob q n hb hx⟩
theorem Un.kept(k:∀b u,h.get? b=some u->h'.get? b=some u):Un fs ex H H h h':=
 ⟨λb ob q _ _ _=>k b ob q,λb ob q _ _ _=>⟨ob.slots,k b ob q⟩,λ_ _ _ n _=>n,λb ob q _=>⟨ob,k b ob q⟩,λ_ _ q=>q,λ_ _ _ q=>q,λ_ ps q=>⟨#[],by rw[q];simp⟩⟩
theorem Un.refl:Un fs ex H H h h:=Un.kept λ_ _ q=>q
theorem Un.laid(k:∀b u,h.get? b=some u->h'.get? b=some u)(hp:h.objs.size<=a)(hn:H a=none):Un fs ex H (aJ H a o) h h' where
 keep:=λb u q _ _ _=>k b u q
 slot:=λb u q _ _ _=>⟨u.slots,k b u q⟩
 free:=λb u q n _=>by rw[aj (Nat.ne_of_lt (Nat.lt_of_lt_of_le (Heap.lt_size q) hp))];exact n
 there:=λb u q _=>⟨u,k b u q⟩
 tups:=λb xs q=>by rw[aj (az q hn)];exact q
 frzs:=λb u xs q=>by rw[aj (az q hn)];exact q
 tbls:=λb ps q=>⟨#[],by rw[aj (az q hn),q];simp⟩
theorem Un.write(mu:Bd (H x))(he:e=x\/H e=some (.own x))(k:∀b u,b≠e->h.get? b=some u->h'.get? b=some u)(heo:∃u,h'.get? e=some u):Un fs ex H (aJ H x o) h h':=by
 have hx:∀b,H b=none->b≠x:=λb n z=>by subst z;rw[n]at mu;exact mu
 have hb:∀b,H b=none->b≠e:=λb n z=>by
  subst z;rcases he with r|r
  ·exact hx b n r
  ·rw[n]at r;cases r
 have hm:∀b u,H b=some u->¬Bd (some u)->b≠x:=λb u q nm z=>by subst z;rw[q]at mu;exact nm mu
 refine⟨λb u q n _ _=>k b u (hb b n) q,λb u q n _ _=>⟨u.slots,k b u (hb b n) q⟩,λb u q n _=>by rw[aj (hx b n)];exact n,λb u q _=> ?_,
  λb xs q=>by rw[aj (hm b _ q λz=>z)];exact q,λb u xs q=>by rw[aj (hm b _ q λz=>z)];exact q,λb ps q=>⟨#[],by rw[aj (hm b _ q λz=>z),q];simp⟩⟩
 by_cases hbe:b=e
 ·subst hbe;exact heo
 ·exact⟨u,k b u hbe q⟩
end
def GW(h:Heap)(H:Hp):List Addr:=(List.range h.objs.size).filter λa=>(H a).isSome
def qV(h:Heap)(H:Hp):Heap:=PySem.W.hideAll h (GW h H)
theorem xy(h:Heap)(H:Hp):(qV h H).objs.size=h.objs.size:=PySem.W.hideAll_size _ _
theorem yO{h:Heap}{H:Hp}{b:Addr}{o:Obj}(e:h.get? b=some o)(n:H b=none):(qV h H).get? b=some o:=
 PySem.W.hideAll_get _ e λhm=>by
  have q:(H b).isSome=true:=(List.mem_filter.mp hm).2;rw[n]at q;simp at q
theorem Be{h:Heap}{H:Hp}{b:Addr}{o:Obj}(e:(qV h H).get? b=some o):h.get? b=some o/\H b=none:=by
 have e':h.get? b=some o:=PySem.W.of_hideAll (GW h H) e;refine⟨e',?_⟩;cases q:H b with
 |none=>rfl
 |some x=>
  have hm:b∈GW h H:=List.mem_filter.mpr ⟨List.mem_range.mpr (Heap.lt_size e'),by simp[q]⟩;have z:(qV h H).get? b=none:=PySem.W.hideAll_none (GW h H) hm;rw[z]at e;cases e
end L2
namespace L2
open PySem PySem.Spec PyProof.Rows
structure GX(K:PySem.W.Frag)(mg:Str->Option Value)(base:Heap):Prop where
 kin:K.In base
 glob:base.Ns mainGlobals mg
 blt:∃mb,base.Ns builtinsNs mb/\∀x:Str,x≠"__name__"->mb x=bootBuiltins x
 nolimit:base.NoLimit
structure Cx where
 prog:Program
 w:World
 K:PySem.W.Frag
 mg:Str->Option Value
 base:Heap
 A:Around
 N:List Str
 s_0:Shared
 H_0:Hp
 env:Env
 outer:List Env
 stack:List Env
 ex:List Addr
 fn:Str->Bool
 calm:Bool
 pn:List (Addr×Obj)
 xe:Value->Shared->Prop
def yP(l:List Env):List Addr:=l.filterMap (·.frame)
abbrev Cx.fs(X:Cx):List Addr:=yP X.outer
def Dl(sc:Scope)(x:Str):Prop:=sc.names.lookup x=some .local\/sc.names.lookup x=some .cell\/sc.names.lookup x=some .free
def E4(sc:Scope)(x:Str):Prop:=sc.names.lookup x=some .local\/sc.names.lookup x=some .cell
def G7(env:Env)(h:Heap)(m:Str->Option Value)(x:Str)(u:Value):Prop:=
 (env.kindOf x=some .local/\m x=some u)\/((env.kindOf x=some .cell\/env.kindOf x=some .free)/\∃c,env.cells.lookup x=some c/\h.IsCell c (some u))
structure Cx.Ok(X:Cx):Prop where
 mod:GX X.K X.mg X.base
 kind:X.env.scope.kind= .function
 glob:X.env.globals=mainGlobals
 blt:X.env.builtins=builtinsNs
 above:X.s_0.heap.objs.size<=X.env.locals
 inj:∀x y c,X.env.cells.lookup x=some c->X.env.cells.lookup y=some c->x=y
 has:∀x,(X.env.kindOf x=some .cell\/X.env.kindOf x=some .free)->∃c,X.env.cells.lookup x=some c
 cab:∀x c,X.fn x=true->X.env.cells.lookup x=some c->X.s_0.heap.objs.size<=c
 hd:X.calm=true->X.A.handled=none
 frames:X.A.frames=some X.stack
 stk:X.stack=X.outer\/(X.stack=X.env::X.outer/\X.env.frame=some X.env.locals)
 exf:∀b∈X.ex,b≠X.env.locals/\∀x c,X.env.cells.lookup x=some c->c≠b
 bs:∀b o,X.base.get? b=some o->X.s_0.heap.get? b=some o/\X.H_0 b=none
 bsz:X.base.objs.size<=X.s_0.heap.objs.size
 noex:∀b o,X.base.get? b=some o->b∉X.ex
 exfs:∀b∈X.ex,b∉X.fs
 funs:X.s_0.heap.FunFrames X.base X.outer
 frf:∀b∈X.fs,X.H_0 b=none
structure aO(X:Cx)(pins:List (Addr×Obj))(σ:List (Option V))(H:Hp)(s:Shared):Prop where
 ok:X.Ok
 os:s.os=X.s_0.os
 bare:AllBare s.gens
 base:Un X.fs X.ex X.H_0 H X.s_0.heap s.heap
 loc:∃m,s.heap.Ns X.env.locals m/\∀(i:Nat) (x:Str) (v:V),X.N[i]? =some x->σ[i]? =some (some v)->Dl X.env.scope x->∃u,be v u/\G7 X.env s.heap m x u
 cell:∀x c,X.env.cells.lookup x=some c->∃v,s.heap.IsCell c v
 free:H X.env.locals=none
 freeC:∀x c,X.env.cells.lookup x=some c->H c=none
 pin:∀p∈X.pn++pins,s.heap.get? p.1=some p.2/\H p.1=none/\p.1≠X.env.locals/\p.1∉X.fs/\∀v,p.2.data≠ .cell v
 hok:ir X.prog X.w H s.heap
 len:σ.length=X.N.length
section
variable{X:Cx}{pins:List (Addr×Obj)}{σ:List (Option V)}{H H':Hp}{s:Shared}{h':Heap}
theorem Cx.Ok.nofr(ok:X.Ok){b:Addr}{o:Obj}(e:X.base.get? b=some o):b∉X.fs:=λhb=>by
 have :=(ok.funs.mem hb).1;rw[e]at this;cases this
theorem aO.bs(I:aO X pins σ H s):∀b o,X.base.get? b=some o->s.heap.get? b=some o/\H b=none:=λb o e=>
 ⟨I.base.keep b o (I.ok.bs b o e).1 (I.ok.bs b o e).2 (I.ok.nofr e) (I.ok.noex b o e),I.base.free b o (I.ok.bs b o e).1 (I.ok.bs b o e).2 (I.ok.noex b o e)⟩
theorem aO.bk(I:aO X pins σ H s):∀b o,X.base.get? b=some o->s.heap.get? b=some o:=λb o e=>(I.bs b o e).1
theorem aO.mod(I:aO X pins σ H s):GX X.K X.mg X.base:=I.ok.mod
theorem aO.kIn(I:aO X pins σ H s):X.K.In s.heap:=I.ok.mod.kin.keeps I.bk
theorem aO.lt(I:aO X pins σ H s):X.env.locals<s.heap.objs.size:=let⟨_,hn,_⟩:=I.loc;hn.lt
theorem aO.sz(I:aO X pins σ H s):X.s_0.heap.objs.size<=s.heap.objs.size:=Nat.le_trans I.ok.above (Nat.le_of_lt I.lt)
theorem aO.nofs(I:aO X pins σ H s){a:Addr}(h:s.heap.objs.size<=a):a∉X.fs:=λhb=>by
 obtain⟨_,o,ho,_⟩:=I.ok.funs.mem hb;exact absurd (Nat.lt_of_lt_of_le (Heap.lt_size ho) (Nat.le_trans I.sz h)) (Nat.lt_irrefl _)
theorem aO.cne(I:aO X pins σ H s):∀x c,X.env.cells.lookup x=some c->c≠X.env.locals:=λx c e z=>by
 obtain⟨v,o,ho,hd⟩:=I.cell x c e;obtain⟨m,⟨o',es,ep,ho',hd',_⟩,_⟩:=I.loc;rw[z,ho']at ho;cases ho;rw[hd']at hd;cases hd
theorem aO.funs(I:aO X pins σ H s):s.heap.FunFrames X.base X.outer:=by
 have all:∀(l:List Env),(∀b∈yP l,b∈X.fs)->X.s_0.heap.FunFrames X.base l->s.heap.FunFrames X.base l:=by
  intro l;induction l with
  |nil=>intro _ _;trivial
  |cons env r ih=>
   intro hs hl;obtain⟨hk,⟨L,o,hf,hn,ho,hd⟩,hr⟩:=hl;have hL:L∈X.fs:=hs L (by unfold yP;rw[List.filterMap_cons,hf];exact List.mem_cons_self);obtain⟨sl,e⟩:=I.base.slot L o ho (I.ok.frf L hL) hL λz=>I.ok.exfs L z hL
   exact⟨hk,⟨L,_,hf,hn,e,hd⟩,ih (λb hb=>hs b (by unfold yP;rw[List.filterMap_cons,hf];exact List.mem_cons_of_mem _ hb)) hr⟩
 exact all X.outer (λ_ hb=>hb) I.ok.funs
theorem aO.stack(I:aO X pins σ H s):s.heap.FunFrames X.base X.stack:=by
 rcases I.ok.stk with e|⟨e,hf⟩
 ·rw[e];exact I.funs
 ·rw[e];obtain⟨m,hn,_⟩:=I.loc;refine .cons (by rw[I.ok.kind];decide) hf hn ?_ I.funs;exact Heap.get?_none_of_le (Nat.le_trans I.ok.bsz I.ok.above)
theorem aO.stkSub(I:aO X pins σ H s):∀b∈yP X.stack,b∈X.env.locals::X.fs:=λb hb=>by
 rcases I.ok.stk with e|⟨e,hf⟩
 ·rw[e]at hb;exact List.mem_cons_of_mem _ hb
 ·rw[e]at hb;unfold yP at hb;rw[List.filterMap_cons,hf]at hb;exact hb
theorem aO.stkFree(I:aO X pins σ H s):∀b∈yP X.stack,H b=none:=λb hb=>by
 rcases List.mem_cons.mp (I.stkSub b hb)with e|hb
 ·rw[e];exact I.free
 ·obtain⟨_,o,ho,_⟩:=I.ok.funs.mem hb;exact I.base.free b o ho (I.ok.frf b hb) λz=>I.ok.exfs b z hb
theorem aO.step{g':Array GenState}{t':Nat}{d':Drawn}{ch:List Addr}(I:aO X pins σ H s)
  (hch:∀b∈ch,(b∈X.ex\/X.s_0.heap.objs.size<=b)/\b≠X.env.locals/\(∀x c,X.env.cells.lookup x=some c->c≠b)/\∀p∈X.pn++pins,p.1≠b)
  (keep:∀b o,b≠X.env.locals->b∉X.fs->b∉ch->s.heap.get? b=some o->H b=none->h'.get? b=some o)
  (slot:∀b o,b≠X.env.locals->b∈X.fs->b∉ch->s.heap.get? b=some o->H b=none->∃sl,h'.get? b=some {o with slots:=sl})(free:∀b o,b∉ch->s.heap.get? b=some o->H b=none->H' b=none)
  (there:∀b o,b∉ch->s.heap.get? b=some o->∃o',h'.get? b=some o')
  (tups:∀b xs,H b=some (.tup xs)->H' b=some (.tup xs))(frzs:∀b o u,H b=some (.frz o u)->H' b=some (.frz o u))(tbls:∀b ps,H b=some (.tbl ps)->∃more,H' b=some (.tbl (ps++more)))
  (ns:∀m,s.heap.Ns X.env.locals m->h'.Ns X.env.locals m)(hok:ir X.prog X.w H' h')(hg:AllBare g'):
  aO X pins σ H' {s with heap:=h',gens:=g',drawn:=d',toks:=t'}:=by
 have neL:∀b o,X.s_0.heap.get? b=some o->b≠X.env.locals:=λb o e=>Nat.ne_of_lt (Nat.lt_of_lt_of_le (Heap.lt_size e) I.ok.above)
 have neC:∀b o,X.s_0.heap.get? b=some o->b∉X.ex->b∉ch:=λb o e hx hb=>by
  rcases(hch b hb).1 with z|z
  ·exact hx z
  ·exact absurd (Nat.lt_of_lt_of_le (Heap.lt_size e) z) (Nat.lt_irrefl _)
 have cellK:∀x c,X.env.cells.lookup x=some c->∀v,s.heap.IsCell c v->h'.IsCell c v:=λx c e v ⟨o,ho,hd⟩=>by
  have nch:c∉ch:=λz=>(hch c z).3 x c e rfl
  by_cases hc:c∈X.fs
  ·obtain⟨sl,q⟩:=slot c o (I.cne x c e) hc nch ho (I.freeC x c e);exact⟨_,q,hd⟩
  ·exact⟨o,keep c o (I.cne x c e) hc nch ho (I.freeC x c e),hd⟩
 refine⟨I.ok,I.os,hg,⟨λb o e n hb hx=> ?_,λb o e n hb hx=> ?_,λb o e n hx=> ?_,λb o e hx=> ?_,λb xs e=>tups b xs (I.base.tups b xs e),λb o xs e=>frzs b o xs (I.base.frzs b o xs e),λb ps e=> ?_⟩,?_,λx c e=> ?_,?_,λx c e=> ?_,λp hp=> ?_,hok,I.len⟩
 ·exact keep b o (neL b o e) hb (neC b o e hx) (I.base.keep b o e n hb hx) (I.base.free b o e n hx)
 ·obtain⟨sl,e1⟩:=I.base.slot b o e n hb hx;obtain⟨sl',e2⟩:=slot b _ (neL b o e) hb (neC b o e hx) e1 (I.base.free b o e n hx);exact⟨sl',e2⟩
 ·obtain⟨o',e1⟩:=I.base.there b o e hx;exact free b o' (neC b o e hx) e1 (I.base.free b o e n hx)
 ·obtain⟨o',e1⟩:=I.base.there b o e hx;exact there b o' (neC b o e hx) e1
 ·obtain⟨m1,e1⟩:=I.base.tbls b ps e;obtain⟨m2,e2⟩:=tbls b _ e1;exact⟨m1++m2,by rw[e2,Array.append_assoc]⟩
 ·obtain⟨m,hn,hl⟩:=I.loc;refine⟨m,ns m hn,λi x v e1 e2 e3=> ?_⟩;obtain⟨u,r,l⟩:=hl i x v e1 e2 e3;refine⟨u,r,?_⟩;rcases l with l|⟨k,c,e,z⟩
  ·exact .inl l
  ·exact .inr ⟨k,c,e,cellK x c e _ z⟩
 ·obtain⟨v,z⟩:=I.cell x c e;exact⟨v,cellK x c e v z⟩
 ·obtain⟨m,⟨o,_,_,ho,_⟩,_⟩:=I.loc;exact free _ o (λz=>(hch _ z).2 rfl) ho I.free
 ·obtain⟨v,o,ho,hd⟩:=I.cell x c e;exact free c o (λz=>(hch c z).3 x c e rfl) ho (I.freeC x c e)
 ·obtain⟨e,n,ne,nf,d⟩:=I.pin p hp;have nch:p.1∉ch:=λz=>(hch p.1 z).4 p hp rfl
  exact⟨keep p.1 p.2 ne nf nch e n,free p.1 p.2 nch e n,ne,nf,d⟩
theorem aO.un{t':Nat}(I:aO X pins σ H s)(u:Un X.fs [] H H' s.heap h')(hok:ir X.prog X.w H' h'):aO X pins σ H' {s with heap:=h',toks:=t'}:=by
 obtain⟨m,⟨o,es,ep,ho,r⟩,_⟩:=id I.loc;obtain⟨sl,hL⟩:=u.any ho I.free (by simp)
 exact I.step (g':=s.gens) (d':=s.drawn) (ch:=[]) (λ_ z=>nomatch z) (λb o _ hb _ e n=>u.keep b o e n hb (by simp)) (λb o _ hb _ e n=>u.slot b o e n hb (by simp)) (λb o _ e n=>u.free b o e n (by simp)) (λb o _ e=>u.there b o e (by simp)) u.tups u.frzs u.tbls (λm' hm=>by
  obtain⟨o',es',ep',ho',r'⟩:=hm;rw[ho]at ho';cases ho'
  exact⟨_,es',ep',hL,r'⟩) hok I.bare
theorem aO.call{g':Array GenState}{t':Nat}{d':Drawn}{ch:List Addr}(I:aO X pins σ H s)(u:Un (yP X.stack) ch H H' s.heap h')(hok:ir X.prog X.w H' h')(hg:AllBare g')
  (hch:∀b∈ch,(b∈X.ex\/X.s_0.heap.objs.size<=b)/\b≠X.env.locals/\(∀x c,X.env.cells.lookup x=some c->c≠b)/\∀p∈X.pn++pins,p.1≠b):
  aO X pins σ H' {s with heap:=h',gens:=g',drawn:=d',toks:=t'}:=by
 obtain⟨m,⟨o,es,ep,ho,r⟩,_⟩:=id I.loc;obtain⟨sl,hL⟩:=u.any ho I.free λz=>(hch _ z).2 rfl
 exact I.step (ch:=ch) hch (λb o hL hb hc e n=>u.keep b o e n (λz=>(List.mem_cons.mp (I.stkSub b z)).elim hL hb) hc) (λb o _ _ hc e n=>u.any e n hc) (λb o hc e n=>u.free b o e n hc) (λb o hc e=>u.there b o e hc) u.tups u.frzs u.tbls (λm' hm=>by
  obtain⟨o',es',ep',ho',r'⟩:=hm;rw[ho]at ho';cases ho'
  exact⟨_,es',ep',hL,r'⟩) hok hg
theorem aO.turned{t':Nat}{it:Addr}(I:aO X pins σ H s)(k:∀b o,b≠it->s.heap.get? b=some o->h'.get? b=some o)(hn:H it=none)(hL:it≠X.env.locals)
  (h1:it∈X.ex\/X.s_0.heap.objs.size<=it)(h2:∀x c,X.env.cells.lookup x=some c->c≠it)(h3:∀p∈X.pn++pins,p.1≠it):aO X pins σ H {s with heap:=h',toks:=t'}:=by
 have nit:∀b u,H b=some u->b≠it:=λb u e z=>by rw[z,hn]at e;cases e
 refine I.step (g':=s.gens) (d':=s.drawn) (ch:=[it]) (λb hb=> ?_) (λb o _ _ hc e _=>k b o (λz=>hc (by simp[z])) e) (λb o _ _ hc e _=>⟨o.slots,k b o (λz=>hc (by simp[z])) e⟩) (λ_ _ _ _ n=>n)
  (λb o hc e=>⟨o,k b o (λz=>hc (by simp[z])) e⟩) (λ_ _ e=>e) (λ_ _ _ e=>e) (λb ps e=>⟨#[],by rw[e];simp⟩) (λm hm=> ?_) (λb u e=> ?_) I.bare
 ·have e:b=it:=by simpa using hb
  subst e;exact⟨h1,hL,h2,h3⟩
 ·obtain⟨o,es,ep,ho,r⟩:=hm;exact⟨o,es,ep,k _ o (Ne.symm hL) ho,r⟩
 ·refine(I.hok b u e).stay (λc v hc q=>k c v ?_ q) (λ_ q=>q) λ_ _ q=>q
  rcases hc with z|z
  ·rw[z];exact nit b u e
  ·exact nit c _ z
theorem aO.tok(I:aO X pins σ H s)(t:Nat):aO X pins σ H {s with toks:=t}:=I.un (h':=s.heap) (t':=t) Un.refl I.hok
theorem aO.kept{t':Nat}(I:aO X pins σ H s)(k:∀b u,s.heap.get? b=some u->h'.get? b=some u):aO X pins σ H {s with heap:=h',toks:=t'}:=I.un (Un.kept k) (I.hok.kept k)
theorem aO.laid{a:Addr}{o:HO}{t':Nat}(I:aO X pins σ H s)(k:∀b u,s.heap.get? b=some u->h'.get? b=some u)(hp:s.heap.objs.size<=a)(new:bK X.prog X.w (aJ H a o) h' a o):
  aO X pins σ (aJ H a o) {s with heap:=h',toks:=t'}:=I.un (Un.laid k hp (I.hok.fresh hp)) (I.hok.laid k hp new)
theorem aO.write{x e:Addr}{o:HO}{t':Nat}(I:aO X pins σ H s)(mu:Bd (H x))(he:e=x\/H e=some (.own x))(k:∀b u,b≠e->s.heap.get? b=some u->h'.get? b=some u)(heo:∃u,h'.get? e=some u)
  (new:bK X.prog X.w (aJ H x o) h' x o):aO X pins σ (aJ H x o) {s with heap:=h',toks:=t'}:=I.un (Un.write mu he k heo) (I.hok.write mu he k heo new)
theorem aO.weak{σ':List (Option V)}(I:aO X pins σ H s)(hl:σ'.length=σ.length)(w:∀(i:Nat) v,σ'[i]? =some (some v)->σ[i]? =some (some v)):aO X pins σ' H s:=
 ⟨I.ok,I.os,I.bare,I.base,let⟨m,hn,hl'⟩:=I.loc;⟨m,hn,λi x v e1 e2 e3=>hl' i x v e1 (w i v e2) e3⟩,I.cell,I.free,I.freeC,I.pin,I.hok,hl.trans I.len⟩
theorem aO.pins_of{pins':List (Addr×Obj)}(I:aO X pins σ H s)(h:∀p∈pins',s.heap.get? p.1=some p.2/\H p.1=none/\p.1≠X.env.locals/\p.1∉X.fs/\∀v,p.2.data≠ .cell v):aO X pins' σ H s:=
 ⟨I.ok,I.os,I.bare,I.base,I.loc,I.cell,I.free,I.freeC,λp hp=>(List.mem_append.mp hp).elim (λz=>I.pin p (List.mem_append_left _ z)) (h p),I.hok,I.len⟩
theorem nH{N:List Str}(hN:N.Nodup){i j:Nat}{x:Str}(a:N[i]? =some x)(b:N[j]? =some x):i=j:=by
 obtain⟨h1,e1⟩:=List.getElem?_eq_some_iff.mp a;obtain⟨h2,e2⟩:=List.getElem?_eq_some_iff.mp b;exact(List.getElem_inj hN).mp (e1.trans e2.symm)
theorem pP{M:Model}{A:Around}{E:Value->Shared->Prop}{i:Nat}{x:Str}{v:V}{u:Value}{Q:Unit->Shared->Prop}(I:aO X pins σ H s)(hN:X.N.Nodup)(hi:X.N[i]? =some x)(hx:E4 X.env.scope x)(r:be v u)
  (h:∀s',aO X pins (σ.set i (some v)) H s'->(∃a,Heap.SameBut a s.heap s'.heap/\(a=X.env.locals\/X.env.cells.lookup x=some a))->Q () s')(hf:X.fn x=true\/X.env.scope.names.lookup x=some .local:=by first|exact .inl rfl|exact .inr rfl|assumption):wpAny M A (storeName X.env x u) Q E s:=by
 obtain⟨m,hn,hl⟩:=id I.loc;have hcls:(X.env.scope.kind== .class||(X.env.scope.kind== .module&&X.env.locals !=X.env.globals))=false:=by rw[I.ok.kind];rfl
 have hiσ:i<σ.length:=by rw[I.len];exact(List.getElem?_eq_some_iff.mp hi).1
 have cne:=I.cne
 have tracked:∀{a:Addr} {h':Heap},(∃o,s.heap.get? a=some o/\H a=none)->Heap.SameBut a s.heap h'->ir X.prog X.w H h':=λ{a h'} ha hs b ob e=>by
  obtain⟨_,_,hfree⟩:=ha;refine(I.hok b ob e).stay (λc w' hc q=>(hs.2 c ?_).trans q) (λ_ q=>q) λ_ _ q=>q
  rintro rfl
  rcases hc with rfl|hc
  ·rw[hfree]at e;cases e
  ·rw[hfree]at hc;cases hc
 rcases hx with hk|hk
 ·refine wpAny_storeName_local hk hn (λh' hn' hs=> ?_) hcls;obtain⟨oL,_,_,hoL,_⟩:=id hn;refine h _ ⟨I.ok,I.os,I.bare,⟨λb o e n hb hx=> ?_,λb o e n hb hx=> ?_,I.base.free,λb o e hx=> ?_,I.base.tups,I.base.frzs,I.base.tbls⟩,⟨_,hn',λj y v' e1 e2 e3=> ?_⟩,λy c e=> ?_,I.free,I.freeC,λp hp=> ?_,tracked ⟨oL,hoL,I.free⟩ hs,by simpa using I.len⟩ ⟨_,hs,.inl rfl⟩
  ·exact(hs.2 b (Nat.ne_of_lt (Nat.lt_of_lt_of_le (Heap.lt_size e) I.ok.above))).trans (I.base.keep b o e n hb hx)
  ·obtain⟨sl,e1⟩:=I.base.slot b o e n hb hx;exact⟨sl,(hs.2 b (Nat.ne_of_lt (Nat.lt_of_lt_of_le (Heap.lt_size e) I.ok.above))).trans e1⟩
  ·obtain⟨o',e1⟩:=I.base.there b o e hx;exact⟨o',(hs.2 b (Nat.ne_of_lt (Nat.lt_of_lt_of_le (Heap.lt_size e) I.ok.above))).trans e1⟩
  ·by_cases hj:j=i
   ·subst hj;rw[hi]at e1;cases e1;rw[List.getElem?_set_self hiσ]at e2;cases e2;exact⟨u,r,.inl ⟨hk,by simp⟩⟩
   ·rw[List.getElem?_set_ne (Ne.symm hj)]at e2;obtain⟨u',r',q⟩:=hl j y v' e1 e2 e3;refine⟨u',r',?_⟩;rcases q with⟨k,e⟩|⟨k,c,e,z⟩
    ·refine .inl ⟨k,?_⟩;have :y≠x:=λe=>hj (nH hN e1 (e▸hi))
     simp[this,e]
    ·exact .inr ⟨k,c,e,z.sameBut hs (cne y c e)⟩
  ·obtain⟨w',z⟩:=I.cell y c e;exact⟨w',z.sameBut hs (cne y c e)⟩
  ·obtain⟨e,n,ne,nf,d⟩:=I.pin p hp;exact⟨(hs.2 p.1 ne).trans e,n,ne,nf,d⟩
 ·have hfn:X.fn x=true:=by
   rcases hf with z|z
   ·exact z
   ·rw[z]at hk;cases hk
  obtain⟨c,hc⟩:=I.ok.has x (.inl hk);obtain⟨w',z⟩:=I.cell x c hc;refine wpAny_storeName_cell I.ok.kind hk hc z (λh' hc' hs=> ?_);obtain⟨oc,hoc,hocd⟩:=id z;refine h {s with heap:=h'} ⟨I.ok,I.os,I.bare,⟨λb o e n hb hx=> ?_,λb o e n hb hx=> ?_,I.base.free,λb o e hx=> ?_,I.base.tups,I.base.frzs,I.base.tbls⟩,⟨m,hn.sameBut hs (Ne.symm (cne x c hc)),λj y v' e1 e2 e3=> ?_⟩,λy c' e=> ?_,I.free,I.freeC,λp hp=> ?_,tracked ⟨oc,hoc,I.freeC x c hc⟩ hs,by simpa using I.len⟩ ⟨c,hs,.inr hc⟩
  ·exact(hs.2 b (Nat.ne_of_lt (Nat.lt_of_lt_of_le (Heap.lt_size e) (I.ok.cab x c hfn hc)))).trans (I.base.keep b o e n hb hx)
  ·obtain⟨sl,e1⟩:=I.base.slot b o e n hb hx;exact⟨sl,(hs.2 b (Nat.ne_of_lt (Nat.lt_of_lt_of_le (Heap.lt_size e) (I.ok.cab x c hfn hc)))).trans e1⟩
  ·obtain⟨o',e1⟩:=I.base.there b o e hx;exact⟨o',(hs.2 b (Nat.ne_of_lt (Nat.lt_of_lt_of_le (Heap.lt_size e) (I.ok.cab x c hfn hc)))).trans e1⟩
  ·by_cases hj:j=i
   ·subst hj;rw[hi]at e1;cases e1;rw[List.getElem?_set_self hiσ]at e2;cases e2;exact⟨u,r,.inr ⟨.inl hk,c,hc,hc'⟩⟩
   ·rw[List.getElem?_set_ne (Ne.symm hj)]at e2;obtain⟨u',r',q⟩:=hl j y v' e1 e2 e3;refine⟨u',r',?_⟩;rcases q with q|⟨k,c',e,z'⟩
    ·exact .inl q
    ·refine .inr ⟨k,c',e,z'.sameBut hs ?_⟩;rintro rfl;exact hj (nH hN e1 (I.ok.inj _ _ _ e hc▸hi))
  ·by_cases hcc:c'=c
   ·subst hcc;exact⟨_,hc'⟩
   ·obtain⟨w2,z2⟩:=I.cell y c' e;exact⟨w2,z2.sameBut hs hcc⟩
  ·obtain⟨e,n,ne,nf,d⟩:=I.pin p hp;refine⟨(hs.2 p.1 ?_).trans e,n,ne,nf,d⟩;intro q;rw[q,hoc]at e;have q':oc=p.2:=Option.some.inj e;exact d w' (by rw[<-q'];exact hocd)
theorem nI{M:Model}{A:Around}{E:Value->Shared->Prop}{i:Nat}{x:Str}{v:V}{u:Value}{Q:Unit->Shared->Prop}(I:aO X pins σ H s)(hN:X.N.Nodup)(hi:X.N[i]? =some x)(hx:E4 X.env.scope x)(r:be v u)
  (h:∀s',aO X pins (σ.set i (some v)) H s'->Q () s')(hf:X.fn x=true\/X.env.scope.names.lookup x=some .local:=by first|exact .inl rfl|exact .inr rfl|assumption):wpAny M A (storeName X.env x u) Q E s:=
 pP I hN hi hx r (λs' I' _=>h s' I') hf
theorem aO.call'{s':Shared}{ch:List Addr}(I:aO X pins σ H s)(ho:s'.os=s.os)(u:Un (yP X.stack) ch H H' s.heap s'.heap)(hok:ir X.prog X.w H' s'.heap)(hg:AllBare s'.gens)
  (hch:∀b∈ch,(b∈X.ex\/X.s_0.heap.objs.size<=b)/\b≠X.env.locals/\(∀x c,X.env.cells.lookup x=some c->c≠b)/\∀p∈X.pn++pins,p.1≠b):aO X pins σ H' s':=by
 obtain⟨h',g',d',t',o'⟩:=s';have e:o'=s.os:=ho;subst e;exact I.call (g':=g') (t':=t') (d':=d') u hok hg hch
end
abbrev XK:=Value->Option Addr->Hp->Prop
abbrev St:=List (Option V)
abbrev VK:=V->Hp->Prop
abbrev TE:=St->Hp->VK->Prop
abbrev TT:=St->Hp->(Bool->Hp->Prop)->Prop
abbrev TA:=St->Hp->(List V->Hp->Prop)->Prop
structure ip where
 nx:St->Hp->Prop
 rt:VK
 bk:St->Hp->Prop:=λ_ _=>False
 ct:St->Hp->Prop:=λ_ _=>False
abbrev TS:=ip->St->Hp->Prop
def EP(X:Cx)(pins:List (Addr×Obj))(σ:St)(Q:VK)(u:Value)(s':Shared):Prop:=∃v H',aO X pins σ H' s'/\be v u/\Q v H'
def TP(X:Cx)(pins:List (Addr×Obj))(σ:St)(Q:Bool->Hp->Prop)(b:Bool)(s':Shared):Prop:=∃H',aO X pins σ H' s'/\Q b H'
def AP(X:Cx)(pins:List (Addr×Obj))(σ:St)(Q:List V->Hp->Prop)(us:List Value)(s':Shared):Prop:=∃vs H',aO X pins σ H' s'/\aW vs us/\Q vs H'
def SP(X:Cx)(pins:List (Addr×Obj))(D:ip)(f:Flow)(s':Shared):Prop:=
 match f with
 | .next=>∃σ' H',aO X pins σ' H' s'/\D.nx σ' H'
 | .brk=>∃σ' H',aO X pins σ' H' s'/\D.bk σ' H'
 | .cont=>∃σ' H',aO X pins σ' H' s'/\D.ct σ' H'
 | .ret u=>∃v σ' H',aO X pins σ' H' s'/\be v u/\D.rt v H'
def PE(X:Cx)(e:Expr)(t:TE):Prop:=
 ∀(pins:List (Addr×Obj)) (s:Shared) (σ:St) (H:Hp) (Q:VK),aO X pins σ H s->t σ H Q->wpAny (model X.prog X.w) X.A (eval e X.env) (EP X pins σ Q) X.xe s
def PT(X:Cx)(e:Expr)(t:TT):Prop:=
 ∀(pins:List (Addr×Obj)) (s:Shared) (σ:St) (H:Hp) (Q:Bool->Hp->Prop),aO X pins σ H s->t σ H Q->wpAny (model X.prog X.w) X.A (isTrue e X.env (eval e X.env)) (TP X pins σ Q) X.xe s
def PW(X:Cx)(e:Expr)(t:TT):Prop:=
 ∀(whole:Sem Value) (pins:List (Addr×Obj)) (s:Shared) (σ:St) (H:Hp) (Q:Bool->Hp->Prop),aO X pins σ H s->t σ H Q->wpAny (model X.prog X.w) X.A (isTrue e X.env whole) (TP X pins σ Q) X.xe s
theorem PW.pt{X:Cx}{e:Expr}{t:TT}(h:PW X e t):PT X e t:=h _
def PA(X:Cx)(es:List Expr)(t:TA):Prop:=
 ∀(pos:Pos) (pins:List (Addr×Obj)) (s:Shared) (σ:St) (H:Hp) (Q:List V->Hp->Prop),aO X pins σ H s->t σ H Q->wpAny (model X.prog X.w) X.A (spliced (backTo pos (starEach es X.env))) (AP X pins σ Q) X.xe s
def PS(X:Cx)(st:Stmt)(t:TS):Prop:=
 ∀(pins:List (Addr×Obj)) (s:Shared) (σ:St) (H:Hp) (D:ip),aO X pins σ H s->t D σ H->wpAny (model X.prog X.w) X.A (exec st X.env) (SP X pins D) X.xe s
def uK(X:Cx)(st:List Stmt)(t:TS):Prop:=
 ∀(pins:List (Addr×Obj)) (s:Shared) (σ:St) (H:Hp) (D:ip),aO X pins σ H s->t D σ H->wpAny (model X.prog X.w) X.A (execs st X.env) (SP X pins D) X.xe s
theorem bC{α:Type}{t:Sem α}{Q Q':α->Shared->Prop}{M:Model}{A:Around}{E:Value->Shared->Prop}{s:Shared}(h:wpAny M A t Q E s)(hQ:∀a s,Q a s->Q' a s):wpAny M A t Q' E s:=wpAny_mono h hQ λ_ _ x=>x
end L2
namespace L2
open PySem PySem.Spec PyProof.Rows
section
variable{X:Cx}
def nJ(i:Nat):TE:=λσ H Q=>∃v,σ[i]? =some (some v)/\Q v H
def tC(v:V):TE:=λ_ H Q=>Q v H
theorem yQ{i:Nat}{x:Str}{pos:Pos}(hN:X.N[i]? =some x)(hv:Dl X.env.scope x)(hd:(x==("__debug__":Str))=false:=by decide)(hcd:(x==("__classdict__":Str))=false:=by decide):PE X (.Name x pos) (nJ i):=by
 intro pins s σ H Q I h;obtain⟨v,e,h⟩:=h;obtain⟨m,hn,hl⟩:=I.loc;obtain⟨u,r,l⟩:=hl i x v hN e hv;have fin:EP X pins σ Q u s:=⟨v,H,I,r,h⟩;rcases l with⟨hk,hm⟩|⟨hk,c,hc,hcell⟩
 ·exact wpAny_Name (wpAny_loadName_local I.ok.kind hk hn hm fin) hd
 ·rcases hk with hk|hk
  ·exact wpAny_Name (wpAny_loadName_cell I.ok.kind hk hc hcell fin) hd
  ·exact wpAny_Name (wpAny_loadName_free I.ok.kind hk hc hcell fin hcd) hd
theorem aG{i j pos}:PE X (.Constant (.int i) j pos) (tC (.int i)):=λ_ _ _ H _ I h=>wpAny_Constant_int ⟨.int i,H,I.tok _,⟨_,rfl⟩,h⟩
theorem jy{b j pos}:PE X (.Constant (.bool b) j pos) (tC (.bl b)):=λ_ _ _ H _ I h=>Constant_bool ⟨.bl b,H,I,rfl,h⟩
theorem qW{j pos}:PE X (.Constant .none j pos) (tC .non):=λ_ _ _ H _ I h=>Constant_none ⟨.non,H,I,rfl,h⟩
theorem gE{x j pos}:PE X (.Constant (.str x) j pos) (tC (.str x)):=λ_ _ _ H _ I h=>Calls.Constant_str ⟨.str x,H,I.tok _,⟨_,rfl⟩,h⟩
def Gl(X:Cx)(x:Str):Prop:=X.env.kindOf x=some .globalImplicit
theorem mY{E:Value->Shared->Prop}{pins:List (Addr×Obj)}{s:Shared}{σ:St}{H:Hp}{x:Str}{u:Value}{pos:Pos}{Q:Value->Shared->Prop}(I:aO X pins σ H s)(hg:Gl X x)(hm:X.mg x=some u)(h:Q u s)
  (hd:(x==("__debug__":Str))=false:=by decide):wpAny (model X.prog X.w) X.A (eval (.Name x pos) X.env) Q E s:=
 Calls.Name_function_global I.ok.kind hg (Calls.loadGlobal_global (by rw[I.ok.glob];exact I.mod.glob.keeps I.bk) hm h) hd
theorem nM{E:Value->Shared->Prop}{pins:List (Addr×Obj)}{s:Shared}{σ:St}{H:Hp}{x:Str}{u:Value}{pos:Pos}{Q:Value->Shared->Prop}(I:aO X pins σ H s)(hg:Gl X x)(hm:X.mg x=none)(hv:bootBuiltins x=some u)(h:Q u s)
  (hn:x≠"__name__":=by decide)(hd:(x==("__debug__":Str))=false:=by decide):wpAny (model X.prog X.w) X.A (eval (.Name x pos) X.env) Q E s:=by
 obtain⟨mb,h1,h2⟩:=I.mod.blt;exact Calls.Name_function_global I.ok.kind hg (Calls.loadGlobal_builtin (by rw[I.ok.glob];exact I.mod.glob.keeps I.bk) hm (by rw[I.ok.blt];exact h1.keeps I.bk) ((h2 x hn).trans hv) h) hd
theorem mZ{x:Str}{v:V}{u:Value}{pos:Pos}(hg:Gl X x)(hm:X.mg x=some u)(r:be v u)(hd:(x==("__debug__":Str))=false:=by decide):PE X (.Name x pos) (tC v):=
 λ_ _ _ H _ I h=>mY I hg hm ⟨v,H,I,r,h⟩ hd
variable{a b:Expr}{ta tb:TE}{pos:Pos}
def PC(X:Cx)(op:CmpOp)(a b:Expr)(t:TE):Prop:=
 ∀(pins:List (Addr×Obj)) (s:Shared) (σ:St) (H:Hp) (Q:VK),aO X pins σ H s->t σ H Q->
  wpAny (model X.prog X.w) X.A (eval a X.env) (λv s₁=>wpAny (model X.prog X.w) X.A (eval b X.env) (λu s₂=>wpAny (model X.prog X.w) X.A (compareOp op v u) (EP X pins σ Q) X.xe s₂) X.xe s₁) X.xe s
theorem sx(b:Expr){op:CmpOp}(h:op≠ .In)(h2:op≠ .NotIn):behindInMarks op b=false:=by
 have e1:(op==CmpOp.In)=false:=by cases op<;>first|rfl|exact absurd rfl h
 have e2:(op==CmpOp.NotIn)=false:=by cases op<;>first|rfl|exact absurd rfl h2
 cases b<;>simp[behindInMarks,e1,e2]
def G8(ta:TE):TE:=λσ H Q=>ta σ H λx H1=>Q (.bl (decide (x= .non))) H1
theorem be.none_iff{x:V}{v:Value}(r:be x v):(v==Value.none)=decide (x= .non):=by
 cases x with
 |non=>cases r;rfl
 |bl _=>cases r;rfl
 |int _=>obtain⟨t,rfl⟩:=r;rfl
 |str _=>obtain⟨t,rfl⟩:=r;rfl
 |byt _=>obtain⟨t,rfl⟩:=r;rfl
 |flt _=>obtain⟨t,rfl⟩:=r;rfl
 |ref _=>cases r;rfl
 |ty _=>cases r;rfl
theorem lE{j pos'}(ha:PE X a ta):PC X .Is a (.Constant .none j pos') (G8 ta):=by
 intro pins s σ H Q I h;refine bC (ha pins s σ H _ I h) λv s1 ⟨x,H1,I1,r1,q1⟩=> ?_
 exact Constant_none (is_none_gen ⟨.bl _,H1,I1,by rw[r1.none_iff];rfl,q1⟩)
def tB(t:TE):TT:=λσ H Q=>t σ H λx H1=>∃c,x= .bl c/\Q c H1
theorem uL{op:CmpOp}{t:TE}(h:PC X op a b t)(h1:behindInMarks op b=false:=by first|exact sx _ (by decide) (by decide)|rfl):PE X (.Compare a [op] [b] pos) t:=λpins s σ H Q I hw=>wpAny_Compare1 (h pins s σ H Q I hw) h1
theorem fJ{op:CmpOp}{t:TE}(h:PC X op a b t)(h1:behindInMarks op b=false:=by first|exact sx _ (by decide) (by decide)|rfl):PT X (.Compare a [op] [b] pos) (tB t):=by
 intro pins s σ H Q I hw;refine wpAny_isTrue_Compare1 (bC (h pins s σ H _ I hw) λv s1 h1=>bC h1 λu s2 h2=>bC h2 λc s3 ⟨x,H1,I1,r1,q1⟩=> ?_) h1;obtain⟨d,rfl,q⟩:=q1;cases r1;exact wpAny_truthy_bool ⟨H1,I1,q⟩
theorem bI{e:Expr}{t:TE}(h:PE X e t)(he:∀whole,isTrue e X.env whole=(do let v<-whole;standAt e.pos;holding [v] (truthy v)):=by intro _;rfl):PT X e (tB t):=by
 intro pins s σ H Q I hw;refine isTrue_plain (bC (h pins s σ H _ I hw) λv s1 ⟨x,H1,I1,r1,q1⟩=> ?_) (he _);obtain⟨d,rfl,q⟩:=q1;cases r1;exact wpAny_truthy_bool ⟨H1,I1,q⟩
variable{tA tB':TT}{br:List Expr}
def G9(t u:TT):TT:=λσ H Q=>t σ H λc H1=>if c=true then u σ H1 Q else Q false H1
def Iz(t u:TT):TT:=λσ H Q=>t σ H λc H1=>if c=true then Q true H1 else u σ H1 Q
def Ha(t:TT):TT:=λσ H Q=>t σ H λc H1=>Q (!c) H1
theorem Bf(ha:PT X a tA):PW X (.BoolOp .And [a] pos) tA:=by
 intro wh pins s σ H Q I h;refine isTrue_and (bC (ha pins s σ H Q I h) λc s1 e=> ?_);cases c with
 |true=>exact isTrue_and_nil e
 |false=>exact e
theorem lF(ha:PT X a tA):PW X (.BoolOp .Or [a] pos) tA:=by
 intro wh pins s σ H Q I h;refine isTrue_or (bC (ha pins s σ H Q I h) λc s1 e=> ?_);cases c with
 |false=>exact isTrue_or_nil e
 |true=>exact e
theorem Dm(ha:PT X a tA)(hb:PW X (.BoolOp .And (b::br) pos) tB'):PW X (.BoolOp .And (a::b::br) pos) (G9 tA tB'):=by
 intro wh pins s σ H Q I h;refine isTrue_and (bC (ha pins s σ H _ I h) λc s1 ⟨H1,I1,q1⟩=> ?_);cases c with
 |true=>exact hb wh pins s1 σ H1 Q I1 q1
 |false=>exact⟨H1,I1,q1⟩
theorem km(ha:PT X a tA)(hb:PW X (.BoolOp .Or (b::br) pos) tB'):PW X (.BoolOp .Or (a::b::br) pos) (Iz tA tB'):=by
 intro wh pins s σ H Q I h;refine isTrue_or (bC (ha pins s σ H _ I h) λc s1 ⟨H1,I1,q1⟩=> ?_);cases c with
 |true=>exact⟨H1,I1,q1⟩
 |false=>exact hb wh pins s1 σ H1 Q I1 q1
theorem bR(ha:PT X a tA):PT X (.UnaryOp .Not a pos) (Ha tA):=by
 intro pins s σ H Q I h;exact isTrue_not (ha pins s σ H (λc H1=>Q (!c) H1) I h)
def E5(ta tb:TE):TE:=λσ H Q=>ta σ H λx H1=>∃c,x= .bl c/\if c=true then tb σ H1 Q else Q (.bl false) H1
def Hb(ta tb:TE):TE:=λσ H Q=>ta σ H λx H1=>∃c,x= .bl c/\if c=true then Q (.bl true) H1 else tb σ H1 Q
def E6(ta:TE):TE:=λσ H Q=>ta σ H λx H1=>∃c,x= .bl c/\Q (.bl (!c)) H1
theorem yR{op}{t:TE}(h:PE X a t):PE X (.BoolOp op [a] pos) t:=λpins s σ H Q I hw=>BoolOp_one (h pins s σ H Q I hw)
theorem Do(ha:PE X a ta)(hb:PE X (.BoolOp .And (b::br) pos) tb):PE X (.BoolOp .And (a::b::br) pos) (E5 ta tb):=by
 intro pins s σ H Q I h;refine BoolOp_and (bC (ha pins s σ H _ I h) λv s1 ⟨x,H1,I1,r1,q1⟩=> ?_);obtain⟨c,rfl,q1⟩:=q1;cases r1;refine wpAny_truthy_bool ?_;cases c with
 |true=>exact hb pins s1 σ H1 Q I1 q1
 |false=>exact⟨.bl false,H1,I1,rfl,q1⟩
theorem E7(ha:PE X a ta)(hb:PE X (.BoolOp .Or (b::br) pos) tb):PE X (.BoolOp .Or (a::b::br) pos) (Hb ta tb):=by
 intro pins s σ H Q I h;refine BoolOp_or (bC (ha pins s σ H _ I h) λv s1 ⟨x,H1,I1,r1,q1⟩=> ?_);obtain⟨c,rfl,q1⟩:=q1;cases r1;refine wpAny_truthy_bool ?_;cases c with
 |false=>exact hb pins s1 σ H1 Q I1 q1
 |true=>exact⟨.bl true,H1,I1,rfl,q1⟩
theorem Dq(ha:PE X a ta):PE X (.UnaryOp .Not a pos) (E6 ta):=by
 intro pins s σ H Q I h;refine UnaryOp_ (bC (ha pins s σ H _ I h) λv s1 ⟨x,H1,I1,r1,q1⟩=> ?_);obtain⟨c,rfl,q1⟩:=q1;cases r1;exact not_of (wpAny_truthy_bool ⟨.bl (!c),H1,I1,rfl,q1⟩)
def IA(t:TT)(ta tb:TE):TE:=λσ H Q=>t σ H λc H1=>if c=true then ta σ H1 Q else tb σ H1 Q
theorem sy{c:Expr}(hc:PT X c tA)(ha:PE X a ta)(hb:PE X b tb):PE X (.IfExp c a b pos) (IA tA ta tb):=by
 intro pins s σ H Q I h;refine wpAny_IfExp (bC (hc pins s σ H _ I h) λd s1 ⟨H1,I1,q1⟩=> ?_);cases d with
 |true=>exact ha pins s1 σ H1 Q I1 q1
 |false=>exact hb pins s1 σ H1 Q I1 q1
end
end L2
namespace L2
open PySem PySem.Spec PyProof.Rows
def aZ(K:PySem.W.Frag)(H:Hp)(a:Addr)(xs:List V):Prop:=
 Rd H a (.lst xs)\/
  ∃(o:Obj) (its:Array Value) (n:Nat),K.lookup a=some o/\o.cls= .type "list"/\o.dict=none/\o.data= .seq its n/\its.size<=sizeLine/\aW xs its.toList
def jN(K:PySem.W.Frag)(H:Hp)(a:Addr)(xs:List V):Prop:=
 Rd H a (.tup xs)\/
  ∃(o:Obj) (its:Array Value) (n:Nat),K.lookup a=some o/\o.cls= .type "tuple"/\o.data= .seq its n/\its.size<=sizeLine/\aW xs its.toList
def Hc:Value->Option V
 | .none=>some .non
 | .bool b=>some (.bl b)
 | .int i _=>some (.int i)
 | .str x _=>some (.str x)
 | .bytes b _=>some (.byt b)
 | .float b _=>some (.flt b)
 | .ref a=>some (.ref a)
 | .type n=>some (.ty n)
 |_=>none
theorem be.abs{x:V}{u:Value}(r:be x u):Hc u=some x:=by
 cases x with
 |non=>cases r;rfl
 |bl _=>cases r;rfl
 |int _=>obtain⟨t,rfl⟩:=r;rfl
 |str _=>obtain⟨t,rfl⟩:=r;rfl
 |byt _=>obtain⟨t,rfl⟩:=r;rfl
 |flt _=>obtain⟨t,rfl⟩:=r;rfl
 |ref _=>cases r;rfl
 |ty _=>cases r;rfl
theorem be.inj{x y:V}{u:Value}(r:be x u)(q:be y u):x=y:=Option.some.inj (r.abs.symm.trans q.abs)
theorem aW.inj:∀{xs ys:List V} {us:List Value},aW xs us->aW ys us->xs=ys
 |_,_,_,.nil,.nil=>rfl
 |_,_,_,.cons r t,.cons r' t'=>by rw[r.inj r',aW.inj t t']
section
variable{X:Cx}{pins:List (Addr×Obj)}{σ:St}{H:Hp}{s:Shared}{a:Addr}{xs ys:List V}
theorem aZ.of{K:PySem.W.Frag}(h:H a=some (.lst xs)):aZ K H a xs:= .inl (.inl h)
theorem jN.of{K:PySem.W.Frag}(h:H a=some (.tup xs)):jN K H a xs:= .inl (.inl h)
theorem aO.list(I:aO X pins σ H s)(h:aZ X.K H a xs):∃its:List Value,aW xs its/\PlainL s.heap a its.toArray/\xs.length<=sizeLine:=by
 rcases h with h|⟨o,its,n,hk,hc,hd,hs,hz,r⟩
 ·obtain⟨z,its,n,r,e⟩:=h.ok I.hok;exact⟨its,r,⟨_,n,e,rfl,rfl,rfl⟩,z⟩
 ·refine⟨its.toList,r,⟨o,n,I.kIn a o hk,hc,hd,by simpa using hs⟩,?_⟩;have e:=r.length;simp only[Array.length_toList]at e;omega
theorem aO.tuple(I:aO X pins σ H s)(h:jN X.K H a xs):∃its:List Value,aW xs its/\IsTup s.heap a its.toArray/\xs.length<=sizeLine:=by
 rcases h with h|⟨o,its,n,hk,hc,hs,hz,r⟩
 ·obtain⟨z,its,r,p⟩:=h.ok I.hok;exact⟨its,r,p,z⟩
 ·refine⟨its.toList,r,⟨o,I.kIn a o hk,hc,n,by simpa using hs⟩,?_⟩;have e:=r.length;simp only[Array.length_toList]at e;omega
theorem aO.list_inj(I:aO X pins σ H s)(h:aZ X.K H a xs)(h':aZ X.K H a ys):xs=ys:=by
 obtain⟨its,r,⟨o,n,e,_,_,d⟩,_⟩:=I.list h;obtain⟨its',r',⟨o',n',e',_,_,d'⟩,_⟩:=I.list h';rw[e]at e';cases e';rw[d]at d';injection d' with d1 _
 have :its=its':=by simpa using congrArg Array.toList d1
 subst this;exact r.inj r'
end
abbrev Cx.wish(X:Cx)(E:Value->Shared->Prop):Cx:={X with xe:=E}
abbrev Cx.nox(X:Cx):Cx:=X.wish λ_ _=>False
theorem Cx.Ok.wish{X:Cx}(ok:X.Ok)(E:Value->Shared->Prop):(X.wish E).Ok:=
 ⟨ok.mod,ok.kind,ok.glob,ok.blt,ok.above,ok.inj,ok.has,ok.cab,ok.hd,ok.frames,ok.stk,ok.exf,ok.bs,ok.bsz,ok.noex,ok.exfs,ok.funs,ok.frf⟩
theorem Cx.Ok.unwish{X:Cx}{E:Value->Shared->Prop}(ok:(X.wish E).Ok):X.Ok:=
 ⟨ok.mod,ok.kind,ok.glob,ok.blt,ok.above,ok.inj,ok.has,ok.cab,ok.hd,ok.frames,ok.stk,ok.exf,ok.bs,ok.bsz,ok.noex,ok.exfs,ok.funs,ok.frf⟩
section
variable{X:Cx}{pins:List (Addr×Obj)}{σ:St}{H:Hp}{s:Shared}{E:Value->Shared->Prop}
theorem aO.wish(I:aO X pins σ H s)(E:Value->Shared->Prop):aO (X.wish E) pins σ H s:=⟨I.ok.wish E,I.os,I.bare,I.base,I.loc,I.cell,I.free,I.freeC,I.pin,I.hok,I.len⟩
theorem aO.unwish(I:aO (X.wish E) pins σ H s):aO X pins σ H s:=⟨I.ok.unwish,I.os,I.bare,I.base,I.loc,I.cell,I.free,I.freeC,I.pin,I.hok,I.len⟩
theorem SP.unwish{D:ip}{f:Flow}{s':Shared}(h:SP (X.wish E) pins D f s'):SP X pins D f s':=by
 cases f with
 |next=>obtain⟨σ',H',I,q⟩:=h;exact⟨σ',H',I.unwish,q⟩
 |brk=>obtain⟨σ',H',I,q⟩:=h;exact⟨σ',H',I.unwish,q⟩
 |cont=>obtain⟨σ',H',I,q⟩:=h;exact⟨σ',H',I.unwish,q⟩
 |ret u=>obtain⟨v,σ',H',I,r,q⟩:=h;exact⟨v,σ',H',I.unwish,r,q⟩
theorem uK.nox{st:List Stmt}{t:TS}(h:uK X.nox st t):uK X st t:=λpins s σ H D I hw=>
 wpAny_mono (h pins s σ H D (I.wish _) hw) (λ_ _ q=>q.unwish) λ_ _ z=>False.elim z
end
section
variable{X:Cx}{st:Stmt}{br:List Stmt}{t u:TS}{e:Expr}{te:TE}{pos:Pos}
def E8:TS:=λD σ H=>D.nx σ H
def Hd(t u:TS):TS:=λD σ H=>t {D with nx:=u D} σ H
theorem aE:uK X [] E8:=λ_ _ σ H _ I h=>wpAny_execs_nil ⟨σ,H,I,h⟩
theorem ae(h1:PS X st t)(h2:uK X br u):uK X (st::br) (Hd t u):=by
 intro pins s σ H D I h;refine wpAny_execs_cons (bC (h1 pins s σ H {D with nx:=u D} I h) λf s1 q=> ?_);cases f with
 |next=>
  obtain⟨σ',H',I',q⟩:=q;exact h2 pins s1 σ' H' D I' q
 |ret v=>exact q
 |brk=>exact q
 |cont=>exact q
theorem ah(h1:PS X st t):uK X [st] t:=by
 intro pins s σ H D I h;refine wpAny_execs_cons (bC (h1 pins s σ H D I h) λf s1 q=> ?_);cases f with
 |next=>exact wpAny_execs_nil q
 |ret v=>exact q
 |brk=>exact q
 |cont=>exact q
def E9:TS:=λD σ H=>D.ct σ H
theorem sC:PS X (.Continue pos) E9:=λ_ _ σ H _ I h=>wpAny_Continue ⟨σ,H,I,h⟩
theorem aO.quiet{pins:List (Addr×Obj)}{σ:St}{H:Hp}{s:Shared}(I:aO X pins σ H s):interactive X.env=false:=by simp[interactive,I.ok.kind]
def Fa(te:TE):TS:=λD σ H=>te σ H λ_ H1=>D.nx σ H1
theorem ko(he:PE X e te)(hs:swapsWith e none pos.line X.env=pure false:=by rfl):PS X (.Expr e pos) (Fa te):=by
 intro pins s σ H D I h;exact wpAny_Expr_any (bC (he pins s σ H _ I h) λv s1 ⟨x,H1,I1,r1,q1⟩=>⟨σ,H1,I1,q1⟩) I.quiet hs
def He(te:TE):TS:=λD σ H=>te σ H D.rt
theorem aq(he:PE X e te):PS X (.Return (some e) pos) (He te):=by
 intro pins s σ H D I h;exact wpAny_Return_some (bC (he pins s σ H _ I h) λv s1 ⟨x,H1,I1,r1,q1⟩=>⟨x,σ,H1,I1,r1,q1⟩)
def Hf(c:TT)(t u:TS):TS:=λD σ H=>c σ H λb H1=>if b=true then t D σ H1 else u D σ H1
theorem aN{c:Expr}{a b:List Stmt}{tc:TT}(hc:PT X c tc)(ha:uK X a t)(hb:uK X b u):PS X (.If c a b pos) (Hf tc t u):=by
 intro pins s σ H D I h;refine wpAny_If (bC (hc pins s σ H _ I h) λd s1 ⟨H1,I1,q1⟩=> ?_);cases d with
 |true=>exact ha pins s1 σ H1 D I1 q1
 |false=>exact hb pins s1 σ H1 D I1 q1
def Dr:TS:=λ_ _ _=>False
theorem xz{sts:List Stmt}:uK X sts Dr:=λ_ _ _ _ _ _ h=>h.elim
end
abbrev TG:=V->St->Hp->(St->Hp->Prop)->Prop
abbrev Ds:=List V->St->Hp->(St->Hp->Prop)->Prop
def PG(X:Cx)(target:Expr)(t:TG):Prop:=
 ∀(pins:List (Addr×Obj)) (s:Shared) (σ:St) (H:Hp) (v:V) (u:Value) (Q:St->Hp->Prop),aO X pins σ H s->be v u->t v σ H Q->
  wpAny (model X.prog X.w) X.A (assign target X.env u) (λ_ s'=>∃σ' H',aO X pins σ' H' s'/\Q σ' H') X.xe s
def GY(X:Cx)(ts:List Expr)(t:Ds):Prop:=
 ∀(pins:List (Addr×Obj)) (s:Shared) (σ:St) (H:Hp) (vs:List V) (us:List Value) (Q:St->Hp->Prop),aO X pins σ H s->aW vs us->t vs σ H Q->
  wpAny (model X.prog X.w) X.A (assignInOrder ((assignEach ts X.env).map (·.2)) us) (λ_ s'=>∃σ' H',aO X pins σ' H' s'/\Q σ' H') X.xe s
abbrev Dt:=V->V->V->Hp->(Hp->Prop)->Prop
def Fb(X:Cx)(t:Dt):Prop:=
 ∀(pins:List (Addr×Obj)) (s:Shared) (σ:St) (H:Hp) (o i v:V) (ov iv u:Value) (Q:Hp->Prop),aO X pins σ H s->be o ov->be i iv->be v u->t o i v H Q->
  wpAny (model X.prog X.w) X.A (setItem ov iv u) (λ_ s'=>∃H',aO X pins σ H' s'/\Q H') X.xe s
abbrev EY:=V->V->Hp->VK->Prop
def Hg(X:Cx)(op:Operator)(t:EY):Prop:=
 ∀(pins:List (Addr×Obj)) (s:Shared) (σ:St) (H:Hp) (x y:V) (v u:Value) (Q:VK),aO X pins σ H s->be x v->be y u->t x y H Q->
  wpAny (model X.prog X.w) X.A (inplaceOp op v u) (EP X pins σ Q) X.xe s
section
variable{X:Cx}{pos:Pos}
def kq(i:Nat):TG:=λv σ H Q=>Q (σ.set i (some v)) H
theorem aS{i:Nat}{x:Str}(hN:X.N.Nodup)(hi:X.N[i]? =some x)(hx:E4 X.env.scope x)(hf:X.fn x=true\/X.env.scope.names.lookup x=some .local:=by first|exact .inl rfl|exact .inr rfl|assumption):PG X (.Name x pos) (kq i):=by
 intro pins s σ H v u Q I r h;exact wpAny_assign_Name (nI I hN hi hx r (λs' I'=>⟨_,H,I',h⟩) hf)
def Du:Ds:=λvs σ H Q=>vs=[]/\Q σ H
def sD(t:TG)(u:Ds):Ds:=λvs σ H Q=>∃v r,vs=v::r/\t v σ H λσ' H'=>u r σ' H' Q
theorem m4:GY X [] Du:=by
 intro pins s σ H vs us Q I r h;obtain⟨e,h⟩:=h;subst e;cases r;exact assignInOrder_nil ⟨σ,H,I,h⟩
theorem dH{e:Expr}{es:List Expr}{t:TG}{u:Ds}(h1:PG X e t)(h2:GY X es u)
  (hs:(assignEach (e::es) X.env).map (·.2)=assign e X.env::(assignEach es X.env).map (·.2):=by rfl):GY X (e::es) (sD t u):=by
 intro pins s σ H vs us Q I r h;obtain⟨v,vr,e1,h⟩:=h;subst e1;cases r with
 |cons r rr=>
  rw[hs];refine assignInOrder_cons (bC (h1 pins s σ H _ _ _ I r h) λ_ s1 ⟨σ1,H1,I1,q1⟩=> ?_);exact h2 pins s1 σ1 H1 _ _ Q I1 rr q1
def Dv(K:PySem.W.Frag)(n:Nat)(t:Ds):TG:=λv σ H Q=>∃a xs,v= .ref a/\jN K H a xs/\xs.length=n/\t xs σ H Q
theorem qX{es:List Expr}{k:Nat}{t:Ds}{n:Nat}(hc:X.calm=true)(h:GY X es t)
  (hn:(assignEach es X.env).length=n:=by rfl)(hst:(assignEach es X.env).findIdx? (·.1)=none:=by rfl):PG X (.Tuple es k pos) (Dv X.K n t):=by
 intro pins s σ H v u Q I r hw;obtain⟨a,xs,e1,hq,hl,hw⟩:=hw;subst e1;cases r;obtain⟨its,rv,ht,hz⟩:=I.tuple hq;refine assign_Tuple_tuple (I.ok.hd hc) ht (by simp[hn,<-hl,rv.length]) hst λh' hx=> ?_
 have I1:aO X pins σ H {s with heap:=h'}:=I.kept (t':=s.toks) λb o e=>hx b o (Nat.ne_of_lt (Heap.lt_size e)) e
 exact h pins _ σ H xs _ Q I1 (by simpa using rv) hw
def Fc(te:TE)(g:TG):TS:=λD σ H=>te σ H λx H1=>g x σ H1 D.nx
theorem aF{i:Nat}{x:Str}{e:Expr}{te:TE}{pos':Pos}(hN:X.N.Nodup)(hi:X.N[i]? =some x)(hx:E4 X.env.scope x)(he:PE X e te)(hs:swapsWith e (some (.Name x pos')) pos.line X.env=pure false:=by rfl)(hf:X.fn x=true\/X.env.scope.names.lookup x=some .local:=by first|exact .inl rfl|exact .inr rfl|assumption):
  PS X (.Assign [.Name x pos'] e pos) (Fc te (kq i)):=by
 intro pins s σ H D I h;refine wpAny_Assign_Name (bC (he pins s σ H _ I h) λv s1 ⟨y,H1,I1,r1,q1⟩=> ?_) hs;exact nI I1 hN hi hx r1 (λs2 I2=>⟨_,H1,I2,q1⟩) hf
def Hh(i:Nat)(te:TE)(ti:EY):TS:=λD σ H=>∃x,σ[i]? =some (some x)/\te σ H λy H1=>ti x y H1 λz H2=>D.nx (σ.set i (some z)) H2
theorem jO{i:Nat}{x:Str}{e:Expr}{te:TE}{op:Operator}{ti:EY}{pos':Pos}(hN:X.N.Nodup)(hi:X.N[i]? =some x)(hx:E4 X.env.scope x)(he:PE X e te)(ho:Hg X op ti)(hf:X.fn x=true\/X.env.scope.names.lookup x=some .local:=by first|exact .inl rfl|exact .inr rfl|assumption):
  PS X (.AugAssign (.Name x pos') op e pos) (Hh i te ti):=by
 intro pins s σ H D I h;obtain⟨v,e1,h⟩:=h;obtain⟨m,hn,hl⟩:=I.loc;have vis:Dl X.env.scope x:=by rcases hx with k|k;exact .inl k;exact .inr (.inl k)
 obtain⟨u,r,l⟩:=hl i x v hi e1 vis;refine wpAny_AugAssign_Name ?_
 have go:wpAny (model X.prog X.w) X.A (eval e X.env) (λw s₂=>wpAny (model X.prog X.w) X.A (inplaceOp op u w) (λr s₃=>wpAny (model X.prog X.w) X.A (storeName X.env x r) (λ_=>SP X pins D .next) X.xe s₃) X.xe s₂) X.xe s:=by
  refine bC (he pins s σ H _ I h) λw s1 ⟨y,H1,I1,r1,q1⟩=> ?_
  refine bC (ho pins s1 σ H1 v y u w _ I1 r r1 q1) λz s2 ⟨zv,H2,I2,r2,q2⟩=> ?_
  exact nI I2 hN hi hx r2 (λs3 I3=>⟨_,H2,I3,q2⟩) hf
 rcases l with⟨hk,hm⟩|⟨hk,c,hc,hcell⟩
 ·exact wpAny_loadName_local I.ok.kind hk hn hm go
 ·rcases hk with hk|hk
  ·exact wpAny_loadName_cell I.ok.kind hk hc hcell go
  ·rcases hx with k|k
   ·have :X.env.scope.names.lookup x=some .free:=hk;rw[k]at this;cases this
   ·have :X.env.scope.names.lookup x=some .free:=hk;rw[k]at this;cases this
def Fd(to ti te:TE)(tget:V->V->Hp->VK->Prop)(tip:EY)(tset:Dt):TS:=λD σ H=>to σ H λo H1=>ti σ H1 λi H2=>tget o i H2 λx H3=>te σ H3 λy H4=>tip x y H4 λz H5=>tset o i z H5 λH6=>D.nx σ H6
def Fe(X:Cx)(t:V->V->Hp->VK->Prop):Prop:=
 ∀(pins:List (Addr×Obj)) (s:Shared) (σ:St) (H:Hp) (o i:V) (ov iv:Value) (Q:VK),aO X pins σ H s->be o ov->be i iv->t o i H Q->
  wpAny (model X.prog X.w) X.A (getItem ov iv) (EP X pins σ Q) X.xe s
theorem Bg{o i e:Expr}{to ti te:TE}{tget:V->V->Hp->VK->Prop}{tip:EY}{tset:Dt}{op:Operator}{tpos:Pos}(ho:PE X o to)(hi:PE X i ti)(hg:Fe X tget)(he:PE X e te)(hp:Hg X op tip)(hs:Fb X tset)
  (ha:∀ov iv new,augStore i ov iv new=(do holding [new,ov,iv] (setItem ov iv new);release [new,ov,iv] [];pure .next):=by intros;rfl):PS X (.AugAssign (.Subscript o i tpos) op e pos) (Fd to ti te tget tip tset):=by
 intro pins s σ H D I h;refine wpAny_AugAssign_SubscriptAny (bC (ho pins s σ H _ I h) λov s1 ⟨x1,H1,I1,r1,q1⟩=> ?_) ha;refine bC (hi pins s1 σ H1 _ I1 q1) λiv s2 ⟨x2,H2,I2,r2,q2⟩=> ?_
 refine bC (hg pins s2 σ H2 x1 x2 ov iv _ I2 r1 r2 q2) λold s3 ⟨x3,H3,I3,r3,q3⟩=> ?_
 refine bC (he pins s3 σ H3 _ I3 q3) λv s4 ⟨x4,H4,I4,r4,q4⟩=> ?_
 refine bC (hp pins s4 σ H4 x3 x4 old v _ I4 r3 r4 q4) λnew s5 ⟨x5,H5,I5,r5,q5⟩=> ?_
 exact bC (hs pins s5 σ H5 x1 x2 x5 ov iv new _ I5 r1 r2 r5 q5) λ_ s6 ⟨H6,I6,q6⟩=>⟨σ,H6,I6,q6⟩
def IB(f:Int->Int->Int):EY:=λx y H Q=>∃i j,x= .int i/\y= .int j/\Q (.int (f i j)) H
theorem iu:Hg X .Add (IB λi j=>i+j):=by
 intro pins s σ H x y v u Q I r1 r2 h;obtain⟨i,j,e1,e2,q⟩:=h;subst e1;subst e2;obtain⟨t,rfl⟩:=r1;obtain⟨t',rfl⟩:=r2;exact iadd_int ⟨.int _,H,I.tok _,⟨_,rfl⟩,q⟩
end
section
variable{X:Cx}{pos:Pos}
def uM(c:TT)(tb:TS):TS:=λD σ H=>∃W:Nat->St->Hp->Prop,(∃m,W m σ H)/\∀m σ H,W m σ H->
 c σ H λb H1=>if b=true then∃N:St->Hp->Prop,(∀σ' H',N σ' H'->∃m',m'<m/\W m' σ' H')/\tb {D with nx:=N,ct:=N,bk:=D.nx} σ H1 else D.nx σ H1
theorem kr{c:Expr}{body:List Stmt}{tc:TT}{tb:TS}(hp:PassesOwn (model X.prog X.w) X.A X.env X.xe)(hc:PT X c tc)(hb:uK X body tb):PS X (.While c body [] pos) (uM tc tb):=by
 intro pins s σ H D I h;obtain⟨W,⟨m0,w0⟩,turn⟩:=h;refine wpAny_While (codeAny_whileLoop (λn s'=>∃σ' H',aO X pins σ' H' s'/\W n σ' H') ?_ m0 ⟨σ,H,I,w0⟩);rintro n s1 ⟨σ1,H1,I1,w1⟩;refine wpAny_passesOwn hp (bC (hc pins s1 σ1 H1 _ I1 (turn n σ1 H1 w1)) λb s2 ⟨H2,I2,q2⟩=> ?_);cases b with
 |true=>
  obtain⟨N,hN,q2⟩:=q2;rw[if_pos rfl];refine wpAny_passesOwn hp (bC (hb pins s2 σ1 H2 _ I2 q2) λf s3 q3=> ?_);cases f with
  |next=>
   obtain⟨σ3,H3,I3,n3⟩:=q3;obtain⟨m',hm,w3⟩:=hN σ3 H3 n3;exact⟨m',hm,σ3,H3,I3,w3⟩
  |cont=>
   obtain⟨σ3,H3,I3,n3⟩:=q3;obtain⟨m',hm,w3⟩:=hN σ3 H3 n3;exact⟨m',hm,σ3,H3,I3,w3⟩
  |brk=>exact q3
  |ret v=>exact q3
 |false=>
  rw[if_neg Bool.false_ne_true];exact wpAny_execs_nil ⟨σ1,H2,I2,q2⟩
end
structure It where
 go:Nat->Hp->Prop
 yld:Nat->Hp->V->Hp->Prop
 stop:Nat->Hp->Prop
def mU(X:Cx)(pins:List (Addr×Obj))(H:Hp)(b:Addr):Prop:=
 H b=none/\b≠X.env.locals/\b∉X.fs/\(b∈X.ex\/X.s_0.heap.objs.size<=b)/\(∀x c,X.env.cells.lookup x=some c->c≠b)/\∀p∈X.pn++pins,p.1≠b
theorem aO.fpOk{X:Cx}{pins:List (Addr×Obj)}{σ:St}{H H':Hp}{s:Shared}{b:Addr}(I:aO X pins σ H s)(hb:s.heap.objs.size<=b)(hn:H' b=none):mU X pins H' b:=by
 refine⟨hn,Nat.ne_of_gt (Nat.lt_of_lt_of_le I.lt hb),I.nofs hb,.inr (Nat.le_trans I.sz hb),λx c e z=> ?_,λp hp z=> ?_⟩
 ·obtain⟨v,q⟩:=I.cell x c e;exact absurd (Nat.lt_of_lt_of_le q.lt (by rw[z];exact hb)) (Nat.lt_irrefl _)
 ·exact absurd (Nat.lt_of_lt_of_le (Heap.lt_size (I.pin p hp).1) (by rw[z];exact hb)) (Nat.lt_irrefl _)
structure pE(P:Program)(w:World)(K:PySem.W.Frag)(tg:Expr)(J:It)(fp:List Addr)(it:Addr)(tn:Nat->Heap->Prop):Prop where
 mem:it∈fp
 obj:∀i h,tn i h->∀b∈fp,∃o,h.get? b=some o/\∀v,o.data≠ .cell v
 keep:∀i h h',tn i h->(∀b∈fp,∀o,h.get? b=some o->h'.get? b=some o)->tn i h'
 item:∀(X:Cx),X.prog=P->X.w=w->X.K=K->X.calm=true->∀(i:Nat) (pins:List (Addr×Obj)) (s:Shared) (σ:St) (H:Hp) (E:Value->Shared->Prop),aO X pins σ H s->(∀b∈fp,mU X pins H b)->tn i s.heap->J.go i H->
  wpAny (model P w) X.A (pyNext (.ref it)) (λr s1=>∃u,r=some u/\
   wpAny (model P w) X.A (letOwnedTupleGo tg (.ref it) u) (λ_ s2=>∃x H',aO X pins σ H' s2/\be x u/\J.yld i H x H'/\tn (i+1) s2.heap/\∀b∈fp,H' b=none) E s1) E s
 done:∀(X:Cx),X.prog=P->X.w=w->X.K=K->X.calm=true->∀(i:Nat) (pins:List (Addr×Obj)) (s:Shared) (σ:St) (H:Hp) (E:Value->Shared->Prop),aO X pins σ H s->(∀b∈fp,mU X pins H b)->tn i s.heap->J.stop i H->
  wpAny (model P w) X.A (pyNext (.ref it)) (λr s1=>r=none/\aO X pins σ H s1) E s
 self:∀(A:Around) (i:Nat) (s:Shared) (Q:Value->Shared->Prop) (E:Value->Shared->Prop),tn i s.heap->Q (.ref it) s->wpAny (model P w) A (pyIter (.ref it)) Q E s
abbrev TI:=St->Hp->(It->Hp->Prop)->Prop
def GZ(X:Cx)(pins:List (Addr×Obj))(σ:St)(tg:Expr)(R:It->Hp->Prop)(itv:Value)(s2:Shared):Prop:=
 ∃(it:Addr) (fp:List Addr) (tn:Nat->Heap->Prop) (J:It) (H':Hp),itv= .ref it/\aO X pins σ H' s2/\pE X.prog X.w X.K tg J fp it tn/\tn 0 s2.heap/\(∀b∈fp,mU X pins H' b)/\R J H'
def PI(X:Cx)(tg iter:Expr)(wi:TI):Prop:=
 ∀(pins:List (Addr×Obj)) (s:Shared) (σ:St) (H:Hp) (R:It->Hp->Prop),aO X pins σ H s->wi σ H R->
  wpAny (model X.prog X.w) X.A (eval iter X.env) (λv s1=>wpAny (model X.prog X.w) X.A (pyIter v) (GZ X pins σ tg R) X.xe s1) X.xe s
theorem pQ{M:Model}{A:Around}{E:Value->Shared->Prop}{s:Shared}{tg:Expr}{it:Addr}{u:Value}{o:Obj}{n:String}{vs:Array Value}{Q:Unit->Shared->Prop}(ho:s.heap.get? it=some o)(hc:o.cls= .type n)(hd:o.data= .fields vs)
  (hn:["enumerate","zip","dict_itemiterator","dict_reverseitemiterator","odict_iterator","itertools.zip_longest","itertools.pairwise"].contains n=false)(hQ:Q () s):wpAny M A (letOwnedTupleGo tg (.ref it) u) Q E s:=by
 unfold letOwnedTupleGo
 cases tg<;>first
  |exact wpAny_pure hQ
  |(cases u<;>first
    |exact wpAny_pure hQ
    |(refine wpAny_bind (wpAny_load ho ?_)
      rw[hc,hd];show wpAny M A (if(["enumerate","zip","dict_itemiterator","dict_reverseitemiterator","odict_iterator","itertools.zip_longest","itertools.pairwise"].contains n&&vs[0]? ==some (rawInt _))=true then _ else _) Q E s;rw[if_neg (by intro h;rw[hn,Bool.false_and]at h;cases h)]
      exact wpAny_pure hQ))
def wy(K:PySem.W.Frag)(a:Addr):It:=
 ⟨λi H=>∃xs x,aZ K H a xs/\xs[i]? =some x,λi H x H'=>H'=H/\∀xs,aZ K H a xs->xs[i]? =some x,λi H=>∃xs,aZ K H a xs/\xs.length<=i⟩
def EZ(lo:Int)(n:Nat):It:=⟨λi _=>i<n,λi H x H'=>H'=H/\x= .int (lo+i),λi _=>n<=i⟩
theorem xA{P:Program}{w:World}{K:PySem.W.Frag}{tg:Expr}(a it:Addr):pE P w K tg (wy K a) [it] it (λi h=>h.IsListIter it a i) where
 mem:=by simp
 obj:=λi h st b hb=>by
  have e:b=it:=by simpa using hb
  subst e;obtain⟨o,e,c,d⟩:=st;exact⟨o,e,λv z=>by rw[d]at z;cases z⟩
 keep:=λi h h' st k=>st.at λo e=>k it (by simp) o e
 item:=by
  intro X hP hw hK hc i pins s σ H E I hf st hg;subst hP hw hK;obtain⟨xs,x,hq,hx⟩:=hg;obtain⟨its,rv,p,hz⟩:=I.list hq;obtain⟨u,hu,ru⟩:=rv.get hx;obtain⟨f0,f1,f2,f3,f4,f5⟩:=hf it (by simp);refine wpAny_pyNext_list_item st p.isList (x:=u) (by simpa using hu) λh' st' sb=> ?_
  have I1:aO X pins σ H {s with heap:=h'}:=I.turned (t':=s.toks) (λb o hb e=>(sb.2 b hb).trans e) f0 f1 f3 f4 f5;obtain⟨o,e,c,d⟩:=id st';exact⟨u,rfl,pQ (s:={s with heap:=h'}) e c d (by decide) ⟨x,H,I1,ru,⟨rfl,λys hy=>by rw[I.list_inj hy hq];exact hx⟩,st',λb hb=>(hf b hb).1⟩⟩
 done:=by
  intro X hP hw hK hc i pins s σ H E I hf st hg;subst hP hw hK;obtain⟨xs,hq,hx⟩:=hg;obtain⟨its,rv,p,hz⟩:=I.list hq;obtain⟨f0,f1,f2,f3,f4,f5⟩:=hf it (by simp);have hl:=rv.length;exact wpAny_pyNext_list_end (I.ok.hd hc) st p.isList (by simp;omega) λh' eb=>⟨rfl,I.turned (t':=s.toks) (λb o hb e=>eb b o hb e) f0 f1 f3 f4 f5⟩
 self:=λ_ _ _ _ _ st h=>wpAny_pyIter_listiter st h
theorem uN{P:Program}{w:World}{K:PySem.W.Frag}{tg:Expr}(it:Addr)(lo:Int)(n:Nat):pE P w K tg (EZ lo n) [it] it (λi h=>IsRangeIter h it (lo+(i:Nat)*1) ((n:Int)-(i:Nat)) 1) where
 mem:=by simp
 obj:=λi h st b hb=>by
  have e:b=it:=by simpa using hb
  subst e
  exact⟨_,st,λv z=>by
   have z':Data.fields _=Data.cell v:=z
   cases z'⟩
 keep:=λi h h' st k=>k it (by simp) _ st
 item:=by
  intro X hP hw hK hc i pins s σ H E I hf st hg;subst hP hw hK;obtain⟨f0,f1,f2,f3,f4,f5⟩:=hf it (by simp);have W:=Walks.range (prog:=X.prog) (w:=X.w) (I.ok.hd hc) it lo 1 n;refine W.item i s _ _ hg st λv h' tk hv st' kk=> ?_
  obtain⟨t,rfl⟩:=hv;have I1:aO X pins σ H {s with heap:=h',toks:=tk}:=I.turned (λb o hb e=>kk b o (by simpa using hb) e) f0 f1 f3 f4 f5;refine⟨_,rfl,pQ (s:={s with heap:=h',toks:=tk}) (n:="range_iterator") st' rfl rfl (by decide) ⟨.int (lo+i),H,I1,⟨t,?_⟩,⟨rfl,rfl⟩,st',λb hb=>(hf b hb).1⟩⟩;rw[Int.mul_one]
 done:=by
  intro X hP hw hK hc i pins s σ H E I hf st hg;subst hP hw hK;obtain⟨f0,f1,f2,f3,f4,f5⟩:=hf it (by simp);exact wpAny_pyNext_range_end (I.ok.hd hc) st (by have :n<=i:=hg;omega) λh' eb=>⟨rfl,I.turned (t':=s.toks) (λb o hb e=>eb b o hb e) f0 f1 f3 f4 f5⟩
 self:=λ_ _ _ _ _ st h=>wpAny_pyIter_rangeiter st h
end L2
namespace L2
open PySem PySem.Spec PyProof.Rows
section
variable{X:Cx}{tg:Expr}
def Ff(K:PySem.W.Frag)(tl:TE):TI:=λσ H R=>tl σ H λx H1=>∃a,x= .ref a/\(∃xs,aZ K H1 a xs)/\R (wy K a) H1
theorem bj{l:Expr}{tl:TE}(hl:PE X l tl):PI X tg l (Ff X.K tl):=by
 intro pins s σ H R I h;refine bC (hl pins s σ H _ I h) λv s1 ⟨x,H1,I1,r1,q1⟩=> ?_
 obtain⟨a,e,⟨xs,hq⟩,q⟩:=q1;subst e;cases r1;obtain⟨its,rv,p,hz⟩:=I1.list hq;refine wpAny_pyIter_list p.isList ?_;refine⟨s1.heap.objs.size,[s1.heap.objs.size],_,_,H1,rfl,I1.kept (t':=s1.toks) λb o e=>Heap.get?_push_of_some _ e,xA a _,⟨_,Heap.get?_push_size _ rfl,rfl,rfl⟩,λb hb=> ?_,q⟩;have e:b=s1.heap.objs.size:=by simpa using hb
 subst e;exact I1.fpOk (Nat.le_refl _) (I1.hok.fresh (Nat.le_refl _))
theorem yS{pins:List (Addr×Obj)}{σ:St}{H:Hp}{s:Shared}{R:It->Hp->Prop}{E:Value->Shared->Prop}{lo hi:Int}{t u v:Tok}{tk:Nat}(I:aO X pins σ H s)(h1: -(2 ^ 62)<=lo)(h2:lo<2 ^ 62)(h3: -(2 ^ 62)<=hi)(h4:hi<2 ^ 62)
  (q:R (EZ lo (hi-lo).toNat) H):wpAny (model X.prog X.w) X.A (pyIter (.ref s.heap.objs.size)) (GZ X pins σ tg R) E {s with heap:=s.heap.push {cls:= .type "range",data:= .fields #[.int lo t,.int hi u,.int 1 v]},toks:=tk}:=by
 refine wpAny_pyIter_range (IsRange.new ..) (small_one h1 h2 h3 h4) ?_;have I1:aO X pins σ H {s with heap:=s.heap.push {cls:= .type "range",data:= .fields #[.int lo t,.int hi u,.int 1 v]},toks:=tk}:=I.kept λb o e=>Heap.get?_push_of_some _ e
 refine⟨(s.heap.push {cls:= .type "range",data:= .fields #[.int lo t,.int hi u,.int 1 v]}).objs.size,[(s.heap.push {cls:= .type "range",data:= .fields #[.int lo t,.int hi u,.int 1 v]}).objs.size],_,_,H,rfl,
  I1.kept (t':=tk) λb o e=>Heap.get?_push_of_some _ e,uN _ lo (hi-lo).toNat,?_,λb hb=> ?_,q⟩
 ·have e1:lo+((0:Nat):Int)*1=lo:=by simp
  have e2:(((hi-lo).toNat:Nat):Int)-((0:Nat):Int)=Builtin.Range.rangeSize lo hi 1:=by rw[rangeSize_one];split<;>omega
  show IsRangeIter _ _ (lo+((0:Nat):Int)*1) ((((hi-lo).toNat:Nat):Int)-((0:Nat):Int)) 1;rw[e1,e2];exact Heap.get?_push_size _ rfl
 ·have e:b=(s.heap.push {cls:= .type "range",data:= .fields #[.int lo t,.int hi u,.int 1 v]}).objs.size:=by simpa using hb
  subst e;exact I1.fpOk (Nat.le_refl _) (I1.hok.fresh (Nat.le_refl _))
def Fg(ta:TA):TI:=λσ H R=>ta σ H λvs H1=>∃j:Int,vs=[.int j]/\ -(2 ^ 62)<=j/\j<2 ^ 62/\R (EZ 0 j.toNat) H1
theorem xB{a:Expr}{ta:TA}{p pos:Pos}(hg:Gl X "range")(hm:X.mg "range"=none)(ha:PA X [a] ta)(hs:starEach [a] X.env=[(false,eval a X.env)]:=by rfl):PI X tg (.Call (.Name "range" p) [a] [] pos) (Fg ta):=by
 intro pins s σ H R I h;refine Call_ (nM I hg hm boot_range (PyProof.Rows.callWith_type1 (bC (ha pos pins s σ H _ I h) λus s1 ⟨vs,H1,I1,r1,q1⟩=> ?_) hs rfl));obtain⟨j,e,q1,q2,q⟩:=q1;subst e;cases r1 with
 |cons r rr=>
  cases rr;obtain⟨t,rfl⟩:=r;exact call_range_1 (yS I1 (by omega) (by omega) q1 q2 (by simpa using q))
def Hi(wi:TI)(g:TG)(tb:TS):TS:=λD σ H=>wi σ H λJ H1=>∃W:Nat->Nat->St->Hp->Prop,(∃m,W 0 m σ H1)/\∀i m σ H,W i m σ H->
 (J.stop i H/\D.nx σ H)\/(J.go i H/\∃N:St->Hp->Prop,(∀σ' H',N σ' H'->∃m',m'<m/\W (i+1) m' σ' H')/\∀x H',J.yld i H x H'->g x σ H' λσ2 H2=>tb {D with nx:=N,ct:=N,bk:=D.nx} σ2 H2)
def nN(fp:List Addr)(h:Heap):List (Addr×Obj):=fp.filterMap λb=>(h.get? b).map λo=>(b,o)
theorem jQ{fp:List Addr}{h:Heap}{b:Addr}{o:Obj}(hb:b∈fp)(e:h.get? b=some o):(b,o)∈nN fp h:=List.mem_filterMap.mpr ⟨b,hb,by rw[e];rfl⟩
theorem xC{fp:List Addr}{h:Heap}{p:Addr×Obj}(hp:p∈nN fp h):p.1∈fp/\h.get? p.1=some p.2:=by
 obtain⟨b,hb,e⟩:=List.mem_filterMap.mp hp;cases q:h.get? b with
 |none=>rw[q]at e;cases e
 |some o=>
  rw[q]at e;have e':(b,o)=p:=Option.some.inj e;subst e';exact⟨hb,q⟩
theorem aO.pinned{pins:List (Addr×Obj)}{σ:St}{H:Hp}{s:Shared}{fp:List Addr}(I:aO X pins σ H s)(hf:∀b∈fp,mU X pins H b)(ho:∀b∈fp,∃o,s.heap.get? b=some o/\∀v,o.data≠ .cell v):aO X (pins++nN fp s.heap) σ H s:=
 I.pins_of λp hp=>(List.mem_append.mp hp).elim (λz=>I.pin p (List.mem_append_right _ z)) λz=>by
  obtain⟨hb,e⟩:=xC z;obtain⟨f0,f1,f2,_⟩:=hf p.1 hb;obtain⟨o,e',d⟩:=ho p.1 hb;rw[e]at e';cases e';exact⟨e,f0,f1,f2,d⟩
theorem aO.unpinned{pins pl:List (Addr×Obj)}{σ:St}{H:Hp}{s:Shared}(I:aO X (pins++pl) σ H s):aO X pins σ H s:=I.pins_of λp hp=>I.pin p (List.mem_append_right _ (List.mem_append_left _ hp))
theorem b0{iter:Expr}{body:List Stmt}{wi:TI}{g:TG}{tb:TS}{pos:Pos}(hp:PassesOwn (model X.prog X.w) X.A X.env X.xe)(hc:X.calm=true)(hi:PI X tg iter wi)(hg:PG X tg g)(hb:uK X body tb)
  (hs:∀x,foldedSetIterable iter X.env x=pure x:=by intro _;rfl):PS X (.For tg iter body [] pos) (Hi wi g tb):=by
 intro pins s σ H D I h;refine wpAny_For (bC (hi pins s σ H _ I h) λv s1 h1=>bC h1 λitv s2 h2=> ?_) hs;obtain⟨it,fp,tn,J,H2,e,I2,T,st2,f2,W,⟨m0,w0⟩,turn⟩:=h2;subst e;have stat:∀{H':Hp},(∀b∈fp,H' b=none)->∀b∈fp,mU X pins H' b:=λhn b hb=>⟨hn b hb,(f2 b hb).2,(f2 b hb).3,(f2 b hb).4,(f2 b hb).5,(f2 b hb).6⟩
 refine codeAny_forLoop_any (λn s'=>∃i σ' H',aO X pins σ' H' s'/\tn i s'.heap/\(∀b∈fp,H' b=none)/\W i n σ' H') ?_ m0 ⟨0,σ,H2,I2,st2,λb hb=>(f2 b hb).1,w0⟩;rintro n s3 ⟨i,σ3,H3,I3,st3,fr3,w3⟩;rcases turn i n σ3 H3 w3 with⟨stop,qn⟩|⟨go,N,hN,step⟩
 ·refine wpAny_passesOwn hp (bC (T.done X rfl rfl rfl hc i pins s3 σ3 H3 X.xe I3 (stat fr3) st3 stop) λr s4 ⟨hr,I4⟩=> ?_);subst hr;exact wpAny_execs_nil ⟨σ3,H3,I4,qn⟩
 ·refine wpAny_passesOwn hp (bC (T.item X rfl rfl rfl hc i pins s3 σ3 H3 X.xe I3 (stat fr3) st3 go) λr s4 ⟨u,hr,h4⟩=> ?_);subst hr;refine wpAny_passesOwn hp (bC h4 λ_ s5 ⟨x,H5,I5,r5,y5,st5,fr5⟩=> ?_);have I5':=I5.pinned (stat fr5) (T.obj _ _ st5);refine wpAny_passesOwn hp (bC (hg _ s5 σ3 H5 x u _ I5' r5 (step x H5 y5)) λ_ s6 ⟨σ6,H6,I6,q6⟩=> ?_);refine wpAny_passesOwn hp (bC (hb _ s6 σ6 H6 _ I6 q6) λf s7 q7=> ?_)
  have again:∀{σ7:St} {H7:Hp},aO X (pins++nN fp s5.heap) σ7 H7 s7->N σ7 H7->∃m,m<n/\∃i σ' H',aO X pins σ' H' s7/\tn i s7.heap/\(∀b∈fp,H' b=none)/\W i m σ' H':=λ{σ7 H7} I7 n7=>by
   obtain⟨m',hm,w7⟩:=hN σ7 H7 n7;refine⟨m',hm,i+1,σ7,H7,I7.unpinned,T.keep _ _ _ st5 λb hb o e=>(I7.pin (b,o) (List.mem_append_right _ (List.mem_append_right _ (jQ hb e)))).1,λb hb=> ?_,w7⟩;obtain⟨o,e,d⟩:=T.obj _ _ st5 b hb;exact(I7.pin (b,o) (List.mem_append_right _ (List.mem_append_right _ (jQ hb e)))).2
  cases f with
  |next=>obtain⟨σ7,H7,I7,n7⟩:=q7;exact again I7 n7
  |cont=>obtain⟨σ7,H7,I7,n7⟩:=q7;exact again I7 n7
  |brk=>obtain⟨σ7,H7,I7,q7⟩:=q7;exact⟨σ7,H7,I7.unpinned,q7⟩
  |ret v=>obtain⟨x7,σ7,H7,I7,r7,q7⟩:=q7;exact⟨x7,σ7,H7,I7.unpinned,r7,q7⟩
end
theorem yT{K:PySem.W.Frag}{a:Addr}{xs:List V}{g:TG}{tb:TS}{D:ip}{σ:St}{H:Hp}(Pv:Nat->St->Hp->Prop)(h0:Pv 0 σ H)(hl:∀i σ H,i<=xs.length->Pv i σ H->aZ K H a xs)
  (hs:∀i x σ H,xs[i]? =some x->Pv i σ H->g x σ H λσ2 H2=>tb {D with nx:=Pv (i+1),ct:=Pv (i+1),bk:=D.nx} σ2 H2)(hd:∀σ H,Pv xs.length σ H->D.nx σ H):
  ∃W:Nat->Nat->St->Hp->Prop,(∃m,W 0 m σ H)/\∀i m σ H,W i m σ H->
   ((wy K a).stop i H/\D.nx σ H)\/((wy K a).go i H/\∃N:St->Hp->Prop,(∀σ' H',N σ' H'->∃m',m'<m/\W (i+1) m' σ' H')/\∀x H',(wy K a).yld i H x H'->g x σ H' λσ2 H2=>tb {D with nx:=N,ct:=N,bk:=D.nx} σ2 H2):=by
 refine⟨λi m σ H=>m=xs.length-i/\i<=xs.length/\Pv i σ H,⟨xs.length,by simp,Nat.zero_le _,h0⟩,?_⟩;rintro i m σ H ⟨rfl,hi,p⟩;have q:=hl i σ H hi p;by_cases hlt:i<xs.length
 ·refine .inr ⟨⟨xs,xs[i],q,by simp[hlt]⟩,Pv (i+1),λσ' H' p'=>⟨xs.length-(i+1),by omega,rfl,hlt,p'⟩,λx H' y=> ?_⟩;obtain⟨e,y⟩:=y;subst e;exact hs i x σ _ (y xs q) p
 ·have e:i=xs.length:=by omega
  subst e;exact .inl ⟨⟨xs,q,Nat.le_refl _⟩,hd σ H p⟩
theorem xD{lo:Int}{n:Nat}{g:TG}{tb:TS}{D:ip}{σ:St}{H:Hp}(Pv:Nat->St->Hp->Prop)(h0:Pv 0 σ H)
  (hs:∀i σ H,i<n->Pv i σ H->g (.int (lo+i)) σ H λσ2 H2=>tb {D with nx:=Pv (i+1),ct:=Pv (i+1),bk:=D.nx} σ2 H2)(hd:∀σ H,Pv n σ H->D.nx σ H):
  ∃W:Nat->Nat->St->Hp->Prop,(∃m,W 0 m σ H)/\∀i m σ H,W i m σ H->
   ((EZ lo n).stop i H/\D.nx σ H)\/((EZ lo n).go i H/\∃N:St->Hp->Prop,(∀σ' H',N σ' H'->∃m',m'<m/\W (i+1) m' σ' H')/\∀x H',(EZ lo n).yld i H x H'->g x σ H' λσ2 H2=>tb {D with nx:=N,ct:=N,bk:=D.nx} σ2 H2):=by
 refine⟨λi m σ H=>m=n-i/\i<=n/\Pv i σ H,⟨n,by simp,Nat.zero_le _,h0⟩,?_⟩;rintro i m σ H ⟨rfl,hi,p⟩;by_cases hlt:i<n
 ·refine .inr ⟨hlt,Pv (i+1),λσ' H' p'=>⟨n-(i+1),by omega,rfl,hlt,p'⟩,λx H' y=> ?_⟩;obtain⟨e,y⟩:=y;subst e y;exact hs i σ _ hlt p
 ·have e:i=n:=by omega
  subst e;exact .inl ⟨Nat.le_refl _,hd σ H p⟩
end L2
namespace L2
open PySem PySem.Spec PyProof.Rows
abbrev R2:=V->V->Hp->VK->Prop
def jS(X:Cx)(f:Value->Value->Sem Value)(r:R2):Prop:=
 ∀(pins:List (Addr×Obj)) (s:Shared) (σ:St) (H:Hp) (x y:V) (v u:Value) (Q:VK),aO X pins σ H s->be x v->be y u->r x y H Q->
  wpAny (model X.prog X.w) X.A (f v u) (EP X pins σ Q) X.xe s
def Hj(X:Cx)(f:Value->Sem Value)(r:V->Hp->VK->Prop):Prop:=
 ∀(pins:List (Addr×Obj)) (s:Shared) (σ:St) (H:Hp) (x:V) (v:Value) (Q:VK),aO X pins σ H s->be x v->r x H Q->
  wpAny (model X.prog X.w) X.A (f v) (EP X pins σ Q) X.xe s
def dB(X:Cx)(f:Value)(r:List V->Hp->VK->Prop):Prop:=
 ∀(pins:List (Addr×Obj)) (s:Shared) (σ:St) (H:Hp) (xs:List V) (us:List Value) (Q:VK),aO X pins σ H s->aW xs us->r xs H Q->
  wpAny (model X.prog X.w) X.A (call f us) (EP X pins σ Q) X.xe s
def Hk(X:Cx)(r:V->Hp->(Bool->Hp->Prop)->Prop):Prop:=
 ∀(pins:List (Addr×Obj)) (s:Shared) (σ:St) (H:Hp) (x:V) (v:Value) (Q:Bool->Hp->Prop),aO X pins σ H s->be x v->r x H Q->
  wpAny (model X.prog X.w) X.A (truthy v) (TP X pins σ Q) X.xe s
def G0(r:R2)(ta tb:TE):TE:=λσ H Q=>ta σ H λx H1=>tb σ H1 λy H2=>r x y H2 Q
def IC(r:V->Hp->VK->Prop)(ta:TE):TE:=λσ H Q=>ta σ H λx H1=>r x H1 Q
def rI(C:Int->Int->Prop)(g:Int->Int->V):R2:=λx y H Q=>∃i j,x= .int i/\y= .int j/\C i j/\Q (g i j) H
def yM(g:Int->Int->V):R2:=λx y H Q=>∃i j,x= .int i/\y= .int j/\Q (g i j) H
def rU(g:Int->V):V->Hp->VK->Prop:=λx H Q=>∃i,x= .int i/\Q (g i) H
section
variable{X:Cx}{a b c:Expr}{ta tb tc:TE}{pos:Pos}
theorem Dx(ha:PE X a ta)(hb:PE X b tb){pins:List (Addr×Obj)}{s:Shared}{σ:St}{H:Hp}{R:V->V->Hp->Prop}(I:aO X pins σ H s)
  (h:ta σ H λx H1=>tb σ H1 λy H2=>R x y H2){Q:Value->Shared->Prop}{f:Value->Value->Sem Value}
  (hf:∀v u s2 x y H2,aO X pins σ H2 s2->be x v->be y u->R x y H2->wpAny (model X.prog X.w) X.A (f v u) Q X.xe s2):
  wpAny (model X.prog X.w) X.A (eval a X.env) (λv s₁=>wpAny (model X.prog X.w) X.A (eval b X.env) (λu s₂=>wpAny (model X.prog X.w) X.A (f v u) Q X.xe s₂) X.xe s₁) X.xe s:=by
 refine bC (ha pins s σ H _ I h) λv s1 ⟨x,H1,I1,r1,q1⟩=> ?_
 refine bC (hb pins s1 σ H1 _ I1 q1) λu s2 ⟨y,H2,I2,r2,q2⟩=> ?_
 exact hf v u s2 x y H2 I2 r1 r2 q2
theorem bD{op:Operator}{r:R2}(ho:jS X (binaryOp op) r)(ha:PE X a ta)(hb:PE X b tb):PE X (.BinOp a op b pos) (G0 r ta tb):=by
 intro pins s σ H Q I h;exact wpAny_BinOp (Dx ha hb I h λv u s2 x y H2 I2 rx ry q=>ho pins s2 σ H2 x y v u Q I2 rx ry q)
theorem sE{op:UnaryOp}{r:V->Hp->VK->Prop}(ho:Hj X (unaryOp op) r)(ha:PE X a ta):PE X (.UnaryOp op a pos) (IC r ta):=by
 intro pins s σ H Q I h;exact UnaryOp_ (bC (ha pins s σ H _ I h) λv s1 ⟨x,H1,I1,r1,q1⟩=>ho pins s1 σ H1 x v Q I1 r1 q1)
theorem ID{f:Value->Value->Sem Value}{C:Int->Int->Prop}{g:Int->Int->Int}
  (rule:∀(i j:Int) (t u:Tok) (s:Shared) (Q:Value->Shared->Prop) (E:Value->Shared->Prop),C i j->Q (.int (g i j) s.toks) {s with toks:=s.toks+1}->wpAny (model X.prog X.w) X.A (f (.int i t) (.int j u)) Q E s):
  jS X f (rI C λi j=> .int (g i j)):=by
 intro pins s σ H x y v u Q I rx ry h;obtain⟨i,j,rfl,rfl,hc,q⟩:=h;obtain⟨t,rfl⟩:=rx;obtain⟨t',rfl⟩:=ry;exact rule i j t t' s _ _ hc ⟨.int (g i j),H,I.tok _,⟨_,rfl⟩,q⟩
theorem Fh{f:Value->Value->Sem Value}{g:Int->Int->Int}
  (rule:∀(i j:Int) (t u:Tok) (s:Shared) (Q:Value->Shared->Prop) (E:Value->Shared->Prop),Q (.int (g i j) s.toks) {s with toks:=s.toks+1}->wpAny (model X.prog X.w) X.A (f (.int i t) (.int j u)) Q E s):
  jS X f (yM λi j=> .int (g i j)):=by
 intro pins s σ H x y v u Q I rx ry h;obtain⟨i,j,rfl,rfl,q⟩:=h;obtain⟨t,rfl⟩:=rx;obtain⟨t',rfl⟩:=ry;exact rule i j t t' s _ _ ⟨.int (g i j),H,I.tok _,⟨_,rfl⟩,q⟩
theorem Bh{f:Value->Value->Sem Value}{g:Int->Int->Bool}
  (rule:∀(i j:Int) (t u:Tok) (s:Shared) (Q:Value->Shared->Prop) (E:Value->Shared->Prop),Q (.bool (g i j)) s->wpAny (model X.prog X.w) X.A (f (.int i t) (.int j u)) Q E s):
  jS X f (yM λi j=> .bl (g i j)):=by
 intro pins s σ H x y v u Q I rx ry h;obtain⟨i,j,rfl,rfl,q⟩:=h;obtain⟨t,rfl⟩:=rx;obtain⟨t',rfl⟩:=ry;exact rule i j t t' s _ _ ⟨.bl (g i j),H,I,rfl,q⟩
def Dy(i j:Int):Prop:=(-(2 ^ 64)<i/\i<2 ^ 64)\/(-(2 ^ 64)<j/\j<2 ^ 64)
theorem Dy.ok{i j:Int}(h:Dy i j):IntMulOk i j:=by
 rcases h with⟨h1,h2⟩|⟨h1,h2⟩
 ·exact .of_left (intBits_le_64 h1 h2)
 ·exact .of_right (intBits_le_64 h1 h2)
theorem fK:jS X (binaryOp .Add) (yM λi j=> .int (i+j)):=Fh λ_ _ _ _ _ _ _ q=>add_int q
theorem nO:jS X (binaryOp .Sub) (yM λi j=> .int (i-j)):=Fh λ_ _ _ _ _ _ _ q=>sub_int q
theorem Dz:jS X (binaryOp .Mult) (rI Dy λi j=> .int (i*j)):=ID λ_ _ _ _ _ _ _ hc q=>mul_int q hc.ok
theorem IE{f:Value->Sem Value}{g:Int->Int}
  (rule:∀(i:Int) (t:Tok) (s:Shared) (Q:Value->Shared->Prop) (E:Value->Shared->Prop),Q (.int (g i) s.toks) {s with toks:=s.toks+1}->wpAny (model X.prog X.w) X.A (f (.int i t)) Q E s):
  Hj X f (rU λi=> .int (g i)):=by
 intro pins s σ H x v Q I rx h;obtain⟨i,rfl,q⟩:=h;obtain⟨t,rfl⟩:=rx;exact rule i t s _ _ ⟨.int (g i),H,I.tok _,⟨_,rfl⟩,q⟩
theorem nP:Hj X (unaryOp .USub) (rU λi=> .int (-i)):=IE λ_ _ _ _ _ q=>neg_int q
end
def Fi:V->V->Bool
 | .non,.non=>true| .non,.int _=>true| .int _,.non=>true| .non,.bl _=>true| .bl _,.non=>true| .non,.str _=>true| .str _,.non=>true
 | .int _,.int _=>true| .bl _,.bl _=>true| .str _,.str _=>true| .byt _,.byt _=>true
 | .int _,.str _=>true| .str _,.int _=>true| .bl _,.str _=>true| .str _,.bl _=>true
 |_,_=>false
def IF:R2:=λx y H Q=>Fi x y=true/\Q (.bl (decide (x=y))) H
def IG:R2:=λx y H Q=>Fi x y=true/\Q (.bl (!decide (x=y))) H
theorem wz{i j:Int}:decide (V.int i=V.int j)=(i==j):=by
 rw[Bool.eq_iff_iff];simp
theorem yU{i j:Bool}:decide (V.bl i=V.bl j)=(i==j):=by
 rw[Bool.eq_iff_iff];simp
theorem wA{i j:Str}:decide (V.str i=V.str j)=(i==j):=by
 rw[Bool.eq_iff_iff];simp
theorem wB{i j:Array UInt8}:decide (V.byt i=V.byt j)=(i.toList==j.toList):=by
 rw[Bool.eq_iff_iff];cases i;cases j;simp
section
variable{X:Cx}{a b c:Expr}{ta tb tc:TE}{pos:Pos}
theorem bu{pins:List (Addr×Obj)}{σ:St}{H:Hp}{s:Shared}{Q:VK}{k k':Bool}(I:aO X pins σ H s)(q:Q (.bl k) H)(e:k=k'):EP X pins σ Q (.bool k') s:=by
 subst e;exact⟨.bl k,H,I,rfl,q⟩
theorem eZ:jS X (compareOp .Eq) IF:=by
 intro pins s σ H x y v u Q I rx ry h;obtain⟨hs,q⟩:=h;cases x with
 |non=>
  cases rx;cases y with
  |non=>cases ry;exact PySem.EqNone.eq_none_none (bu I q (by simp))
  |bl j=>cases ry;exact PySem.EqNone.eq_none_bool (bu I q (by simp))
  |int j=>obtain⟨t',rfl⟩:=ry;exact PySem.EqNone.eq_none_int (bu I q (by simp))
  |str j=>obtain⟨t',rfl⟩:=ry;exact PySem.EqNone.eq_none_str (bu I q (by simp))
  |_=>exact absurd (show false=true from hs) Bool.false_ne_true
 |bl i=>
  cases rx;cases y with
  |non=>cases ry;exact PySem.EqNone.eq_bool_none (bu I q (by simp))
  |bl j=>cases ry;exact eq_bool (bu I q yU)
  |str j=>obtain⟨t',rfl⟩:=ry;exact PySem.EqMixed.eq_bool_str (bu I q (by simp))
  |_=>exact absurd (show false=true from hs) Bool.false_ne_true
 |int i=>
  obtain⟨t,rfl⟩:=rx;cases y with
  |non=>cases ry;exact PySem.EqNone.eq_int_none (bu I q (by simp))
  |int j=>obtain⟨t',rfl⟩:=ry;exact eq_int (bu I q wz)
  |str j=>obtain⟨t',rfl⟩:=ry;exact PySem.EqMixed.eq_int_str (bu I q (by simp))
  |_=>exact absurd (show false=true from hs) Bool.false_ne_true
 |str i=>
  obtain⟨t,rfl⟩:=rx;cases y with
  |non=>cases ry;exact PySem.EqNone.eq_str_none (bu I q (by simp))
  |bl j=>cases ry;exact PySem.EqMixed.eq_str_bool (bu I q (by simp))
  |int j=>obtain⟨t',rfl⟩:=ry;exact PySem.EqMixed.eq_str_int (bu I q (by simp))
  |str j=>obtain⟨t',rfl⟩:=ry;exact eq_str (bu I q wA)
  |_=>exact absurd (show false=true from hs) Bool.false_ne_true
 |byt i=>
  obtain⟨t,rfl⟩:=rx;cases y with
  |byt j=>obtain⟨t',rfl⟩:=ry;exact PySem.W.eq_bytes (bu I q wB)
  |_=>exact absurd (show false=true from hs) Bool.false_ne_true
 |_=>cases y<;>exact absurd (show false=true from hs) Bool.false_ne_true
theorem dI:jS X (compareOp .NotEq) IG:=by
 intro pins s σ H x y v u Q I rx ry h;obtain⟨hs,q⟩:=h;cases x with
 |non=>
  cases rx;cases y with
  |non=>cases ry;exact PySem.EqNone.ne_none_none (bu I q (by simp))
  |bl j=>cases ry;exact PySem.EqNone.ne_none_bool (bu I q (by simp))
  |int j=>obtain⟨t',rfl⟩:=ry;exact PySem.EqNone.ne_none_int (bu I q (by simp))
  |str j=>obtain⟨t',rfl⟩:=ry;exact PySem.EqNone.ne_none_str (bu I q (by simp))
  |_=>exact absurd (show false=true from hs) Bool.false_ne_true
 |bl i=>
  cases rx;cases y with
  |non=>cases ry;exact PySem.EqNone.ne_bool_none (bu I q (by simp))
  |bl j=>cases ry;exact ne_bool (bu I q (congrArg not yU))
  |str j=>obtain⟨t',rfl⟩:=ry;exact PySem.EqMixed.ne_bool_str (bu I q (by simp))
  |_=>exact absurd (show false=true from hs) Bool.false_ne_true
 |int i=>
  obtain⟨t,rfl⟩:=rx;cases y with
  |non=>cases ry;exact PySem.EqNone.ne_int_none (bu I q (by simp))
  |int j=>obtain⟨t',rfl⟩:=ry;exact ne_int (bu I q (congrArg not wz))
  |str j=>obtain⟨t',rfl⟩:=ry;exact PySem.EqMixed.ne_int_str (bu I q (by simp))
  |_=>exact absurd (show false=true from hs) Bool.false_ne_true
 |str i=>
  obtain⟨t,rfl⟩:=rx;cases y with
  |non=>cases ry;exact PySem.EqNone.ne_str_none (bu I q (by simp))
  |bl j=>cases ry;exact PySem.EqMixed.ne_str_bool (bu I q (by simp))
  |int j=>obtain⟨t',rfl⟩:=ry;exact PySem.EqMixed.ne_str_int (bu I q (by simp))
  |str j=>obtain⟨t',rfl⟩:=ry;exact ne_str (bu I q (congrArg not wA))
  |_=>exact absurd (show false=true from hs) Bool.false_ne_true
 |byt i=>
  obtain⟨t,rfl⟩:=rx;cases y with
  |byt j=>obtain⟨t',rfl⟩:=ry;exact PySem.W.ne_bytes (bu I q (congrArg not wB))
  |_=>exact absurd (show false=true from hs) Bool.false_ne_true
 |_=>cases y<;>exact absurd (show false=true from hs) Bool.false_ne_true
theorem yV:jS X (compareOp .Lt) (yM λi j=> .bl (decide (i<j))):=Bh λ_ _ _ _ _ _ _ q=>lt_int q
theorem cP:jS X (compareOp .LtE) (yM λi j=> .bl (decide (i<=j))):=Bh λ_ _ _ _ _ _ _ q=>le_int q
theorem iw:jS X (compareOp .Gt) (yM λi j=> .bl (decide (j<i))):=Bh λ_ _ _ _ _ _ _ q=>gt_int q
theorem CT:jS X (compareOp .GtE) (yM λi j=> .bl (decide (j<=i))):=Bh λ_ _ _ _ _ _ _ q=>ge_int q
theorem aP(b:Expr){op:CmpOp}(h:op≠ .In:=by decide)(h2:op≠ .NotIn:=by decide):behindInMarks op b=false:=by
 have e1:(op==CmpOp.In)=false:=by cases op<;>first|rfl|exact absurd rfl h
 have e2:(op==CmpOp.NotIn)=false:=by cases op<;>first|rfl|exact absurd rfl h2
 cases b<;>simp[behindInMarks,e1,e2]
theorem m5{op:CmpOp}{r:R2}(ho:jS X (compareOp op) r)(ha:PE X a ta)(hb:PE X b tb)(hm:behindInMarks op b=false):PE X (.Compare a [op] [b] pos) (G0 r ta tb):=by
 intro pins s σ H Q I h;exact wpAny_Compare1 (Dx ha hb I h λv u s2 x y H2 I2 rx ry q=>ho pins s2 σ H2 x y v u Q I2 rx ry q) hm
def CU(t:TE):TT:=λσ H Q=>t σ H λx H'=>∃k,x= .bl k/\Q k H'
theorem aK{op:CmpOp}{r:R2}(ho:jS X (compareOp op) r)(ha:PE X a ta)(hb:PE X b tb)(hm:behindInMarks op b=false):PT X (.Compare a [op] [b] pos) (CU (G0 r ta tb)):=by
 intro pins s σ H Q I h
 refine wpAny_isTrue_Compare1 (bC (ha pins s σ H _ I h) λv s1 ⟨x,H1,I1,r1,q1⟩=>bC (hb pins s1 σ H1 _ I1 q1) λu s2 ⟨y,H2,I2,r2,q2⟩=>
  bC (ho pins s2 σ H2 x y v u _ I2 r1 r2 q2) λc s3 ⟨z,H3,I3,r3,k,e,q3⟩=> ?_) hm
 subst e;cases r3;exact wpAny_truthy_bool ⟨H3,I3,q3⟩
def yW(r r':R2)(ta tb tc:TE):TE:=λσ H Q=>ta σ H λx H1=>tb σ H1 λy H2=>r x y H2 λz H3=>∃k,z= .bl k/\
 (if k=true then tc σ H3 λw' H4=>r' y w' H4 Q else Q (.bl false) H3)
theorem yX{op op':CmpOp}{r r':R2}(ho:jS X (compareOp op) r)(ho':jS X (compareOp op') r')(ha:PE X a ta)(hb:PE X b tb)(hc:PE X c tc)
  (hm:lastMarks [op,op'] [b,c]=false:=by with_unfolding_all rfl):PE X (.Compare a [op,op'] [b,c] pos) (yW r r' ta tb tc):=by
 intro pins s σ H Q I h
 refine Compare_chain (bC (ha pins s σ H _ I h) λv s1 ⟨x,H1,I1,r1,q1⟩=>chain_link (bC (hb pins s1 σ H1 _ I1 q1) λu s2 ⟨y,H2,I2,r2,q2⟩=>
  bC (ho pins s2 σ H2 x y v u _ I2 r1 r2 q2) λd s3 ⟨z,H3,I3,r3,k,e,q3⟩=> ?_)) hm
 subst e;cases r3;refine wpAny_truthy_bool ?_;cases k with
 |false=>exact ite_ff ⟨.bl false,H3,I3,rfl,q3⟩
 |true=>exact ite_tt (chain_last (bC (hc pins s3 σ H3 _ I3 q3) λw' s4 ⟨z',H4,I4,r4,q4⟩=>ho' pins s4 σ H4 y z' u w' Q I4 r2 r4 q4))
theorem yY{op op':CmpOp}{r r':R2}(ho:jS X (compareOp op) r)(ho':jS X (compareOp op') r')(ha:PE X a ta)(hb:PE X b tb)(hc:PE X c tc)
  (hm:lastMarks [op,op'] [b,c]=false:=by with_unfolding_all rfl):PT X (.Compare a [op,op'] [b,c] pos) (CU (yW r r' ta tb tc)):=by
 intro pins s σ H Q I h
 refine isTrue_chain (bC (ha pins s σ H _ I h) λv s1 ⟨x,H1,I1,r1,q1⟩=>test_link (bC (hb pins s1 σ H1 _ I1 q1) λu s2 ⟨y,H2,I2,r2,q2⟩=>
  bC (ho pins s2 σ H2 x y v u _ I2 r1 r2 q2) λd s3 ⟨z,H3,I3,r3,k,e,q3⟩=> ?_)) hm
 subst e;cases r3;refine wpAny_truthy_bool ?_;cases k with
 |false=>
  obtain⟨k',e',q'⟩:=q3;cases e';exact ite_ff ⟨H3,I3,q'⟩
 |true=>
  refine ite_tt (test_last (bC (hc pins s3 σ H3 _ I3 q3) λw' s4 ⟨z',H4,I4,r4,q4⟩=>bC (ho' pins s4 σ H4 y z' u w' _ I4 r2 r4 q4) λd' s5 ⟨z2,H5,I5,r5,k2,e2,q5⟩=> ?_));subst e2;cases r5;exact wpAny_truthy_bool ⟨H5,I5,q5⟩
def Fj(K:PySem.W.Frag)(x:V)(H:Hp)(k:Bool):Prop:=
 match x with
 | .non=>k=false
 | .bl b=>k=b
 | .int i=>k=(i !=0)
 | .str y=>y.length<=sizeLine/\k=((y.length:Int) !=0)
 | .byt y=>y.size<=sizeLine/\k=((y.size:Int) !=0)
 | .ref p=>(∃xs,aZ K H p xs/\k= !xs.isEmpty)\/(∃xs,jN K H p xs/\k= !xs.isEmpty)\/∃kvs,H p=some (.dK kvs)/\k= !kvs.isEmpty
 |_=>False
theorem uO{κ:Type}{kvs:List (κ×V)}{vs:List (κ×Value)}(r:KV kvs vs):(!vs.isEmpty)= !kvs.isEmpty:=by
 cases r<;>rfl
theorem nQ{xs:List V}{its:List Value}(r:aW xs its):(!its.toArray.isEmpty)= !xs.isEmpty:=by
 cases r<;>simp
theorem lG:(sizeLine:Nat)<2 ^ 63:=by rw[sizeLine_eq];decide
theorem DA:Hk X (λx H Q=>∃k,Fj X.K x H k/\Q k H):=by
 intro pins s σ H x v Q I rx h;obtain⟨k,e,q⟩:=h;have hl:=lG;have hs:sizeLine=16777216:=sizeLine_eq;cases x with
 |non=>
  cases rx;have e':k=false:=e
  subst e';exact truthy_none ⟨H,I,q⟩
 |bl b=>
  cases rx;have e':k=b:=e
  subst e';exact wpAny_truthy_bool ⟨H,I,q⟩
 |int i=>
  obtain⟨t,rfl⟩:=rx;have e':k=(i !=0):=e;subst e';exact PySem.P.truthy_int ⟨H,I,q⟩
 |str y=>
  obtain⟨t,rfl⟩:=rx;obtain⟨hy,e'⟩:y.length<=sizeLine/\k=((y.length:Int) !=0):=e;subst e';exact PySem.P.truthy_str (by omega) ⟨H,I.tok _,q⟩
 |byt y=>
  obtain⟨t,rfl⟩:=rx;obtain⟨hy,e'⟩:y.size<=sizeLine/\k=((y.size:Int) !=0):=e;subst e';exact PySem.W.truthy_bytes (by omega) ⟨H,I.tok _,q⟩
 |ref p=>
  cases rx;have e':(∃xs,aZ X.K H p xs/\k= !xs.isEmpty)\/(∃xs,jN X.K H p xs/\k= !xs.isEmpty)\/∃kvs,H p=some (.dK kvs)/\k= !kvs.isEmpty:=e
  rcases e' with⟨xs,hx,e'⟩|⟨xs,hx,e'⟩|⟨kvs,hx,e'⟩
  ·subst e';obtain⟨its,r,pl,hz⟩:=I.list hx;have hlen:=r.length;exact wpAny_truthy_list pl.isList (by simp only[List.size_toArray];omega) ⟨H,I.tok _,by rw[nQ r];exact q⟩
  ·subst e';obtain⟨its,r,pl,hz⟩:=I.tuple hx;have hlen:=r.length;exact truthy_tuple pl (by simp only[List.size_toArray];omega) ⟨H,I.tok _,by rw[nQ r];exact q⟩
  ·subst e';obtain⟨hz,hS,vs,r,m⟩:kvs.length<=sizeLine/\(p==sysModules)=false/\∃vs,KV kvs vs/\s.heap.DictOf (bz X.prog X.w) p vs:=I.hok p _ hx;have hlen:kvs.length=vs.length:=Paired.length r;exact wpAny_truthy_dict hS m (by omega) ⟨H,I.tok _,by rw[uO r];exact q⟩
 |_=>exact(show False from e).elim
theorem iy(ha:PE X a ta)(he:∀whole,isTrue a X.env whole=(do let v<-whole;standAt a.pos;holding [v] (truthy v))):
  PT X a (λσ H Q=>ta σ H λx H'=>∃k,Fj X.K x H' k/\Q k H'):=by
 intro pins s σ H Q I h;exact isTrue_plain (bC (ha pins s σ H _ I h) λv s1 ⟨x,H1,I1,r1,q1⟩=>DA pins s1 σ H1 x v Q I1 r1 q1) (he _)
theorem iz{x:V}{us:List Value}(r:aW [x] us):∃u,us=[u]/\be x u:=by
 cases r with
 |cons r1 r2=>cases r2;exact⟨_,rfl,r1⟩
theorem qY:dB X (.type "str") (λxs H Q=>∃i,xs=[.int i]/\i.natAbs.log2<1920/\Q (.str (toString i)) H):=by
 intro pins s σ H xs us Q I r h;obtain⟨i,rfl,hz,q⟩:=h;obtain⟨u,rfl,t,rfl⟩:=iz r;exact PySem.P.str_of_int hz ⟨.str _,H,I.tok _,⟨_,rfl⟩,q⟩
theorem sF:dB X (.builtin "ord") (λxs H Q=>∃x,xs=[.str x]/\x.length=1/\Q (.int (x.cps.getD 0 0:Nat)) H):=by
 intro pins s σ H xs us Q I r h;obtain⟨x,rfl,hz,q⟩:=h;obtain⟨u,rfl,t,rfl⟩:=iz r;exact ord_of_one hz ⟨.int _,H,I.tok _,⟨_,rfl⟩,q⟩
end
end L2
namespace L2
open PySem PySem.Spec PyProof.Rows
structure uP(h:Heap)(x dx C:Addr)(mA:Str->Option Value):Prop where
 obj:h.get? x=some (PySem.W.instObj C dx)
 ns:h.Ns1 dx mA
 ne:dx≠x
theorem xE{h:Heap}{dx:Addr}{mA:Str->Option Value}(n:h.Ns1 dx mA):∃od,h.get? dx=some od/\∀name,PySem.W.lookIn name od=some (mA name):=by
 obtain⟨o,es,ep,ho,hd,hk,_,hm⟩:=n;refine⟨o,ho,λname=> ?_⟩;have e:=hm name;unfold nsFind findBy at e;rw[<-Array.find?_toList]at e;unfold PySem.W.lookIn;rw[hd];dsimp only;split
 ·rename_i y q;rw[q]at e;exact congrArg some e
 ·rename_i q;rw[q]at e
  have a:es.toList.any (·.refKey)=false:=by
   rw[List.any_eq_false];intro y hy;obtain⟨z,t,hkey⟩:=hk y (Array.mem_toList_iff.mp hy);simp[DictEntry.refKey,hkey]
  have a':¬es.toList.any (·.refKey)=true:=by rw[a];exact Bool.false_ne_true
  rw[if_neg a'];exact congrArg some e
theorem uP.look{h:Heap}{x dx C:Addr}{mA:Str->Option Value}(I:uP h x dx C mA):∃od,PySem.W.InstAt h x (PySem.W.instObj C dx) C (some od)/\∀name,PySem.W.lookIn name od=some (mA name):=
 let⟨od,ho,hl⟩:=xE I.ns
 ⟨od,⟨I.obj,rfl,rfl,ho⟩,hl⟩
section
variable{prog:Program}{w:World}{A:Around}{E:Value->Shared->Prop}{s:Shared}{K:PySem.W.Frag}{x dx C f:Addr}{mA:Str->Option Value}{name:Str}{v:Value}
theorem Bi{expr:Bool}{Q:Value->Shared->Prop}(X:K.In s.heap)(I:uP s.heap x dx C mA)(hg:PySem.W.plainGet K C name=true)(hh:PySem.W.hasDictIn K C=true)
  (ha:PySem.W.findIn K (.ref C) name=some none)(hv:mA name=some v)(hv':PySem.W.handedIn v=true)(h:Q v {s with toks:=s.toks+1}):
  wpAny (model prog w) A (getAttr (.ref x) name expr) Q E s:=by
 obtain⟨od,J,hl⟩:=I.look;exact PySem.W.get_value X J (PySem.W.plainGet_of hg).1 (PySem.W.findObj_own hh ha rfl (by rw[hl,hv])) hv' h
theorem yZ{pl:Sem Bool}{Q:Value×List Value->Shared->Prop}(X:K.In s.heap)(I:uP s.heap x dx C mA)(hg:PySem.W.plainGet K C name=true)
  (hf:PySem.W.findIn K (.ref C) name=some (some (.ref f)))(ht:PySem.W.isFn K (.ref f)=true)(hv:mA name=none)(h:Q (.ref f,[.ref x]) s):
  wpAny (model prog w) A (getMethod (.ref x) name pl) Q E s:=by
 obtain⟨od,J,hl⟩:=I.look;exact PySem.W.method_fn X J (PySem.W.plainGet_of hg).1 (PySem.W.plainGet_of hg).2 hf (beq_iff_eq.mp ht) (by show(PySem.W.lookIn name od).map (·.isSome)=some false;rw[hl,hv];rfl) h
theorem qZ{ns:List Str}{Q:Unit->Shared->Prop}(X:K.In s.heap)(I:uP s.heap x dx C mA)
  (hs:PySem.W.findIn K (.ref C) "__setattr__"=some (some (.builtin "object.__setattr__")))(hp:PySem.W.plainOver K C=true)(ht:PySem.W.takerIn K C name=some none)(hh:PySem.W.hasDictIn K C=true)
  (hw:PySem.Within mA ns)(hsz:ns.length<=sizeLine)
  (h:∀h',uP h' x dx C (λy=>if y=name then some v else mA y)->Heap.SameBut dx s.heap h'->Q () {s with heap:=h',toks:=s.toks+2}):
  wpAny (model prog w) A (setAttr (.ref x) name v) Q E s:=by
 obtain⟨od,J,hl⟩:=I.look;refine PySem.W.set_plain X J hs (PySem.W.osa_open (s:={s with toks:=s.toks+1}) (r:=none) X J hp ht λb=> ?_);obtain⟨cd,hc,hd'⟩:=PySem.W.any_some hh;have hx:s.heap.get? x=some ⟨.ref C,some dx,.plain,#[]⟩:=I.obj;refine wpAny_bind (wpAny_pure (wpAny_bind (wpAny_bind (wpAny_loadPart hx (wpAny_bind (PySem.W.Looks.here (s:={s with toks:=s.toks+1}) (PySem.W.looks_clsIn X hc) ?_))))));rw[hd'];refine wpAny_pure (a:=some dx) (wpAny_bind (wpAny_pure (wpAny_bind ?_)));refine wpAny_nsSet1 (s:={s with toks:=s.toks+1}) I.ns λh' hn2 hs2=> ?_
 obtain⟨oD,esD,epD,hoD,hdD,hcD⟩:=hn2.count (PySem.Within.cons name v hw);refine wpAny_bind (wpAny_lookBehind hoD (by rw[hdD];exact pastItsLine_dict (Nat.le_trans hcD (by rw[List.length_cons];omega))) ?_);exact wpAny_pure (h _ ⟨(hs2.2 _ (Ne.symm I.ne)).trans I.obj,hn2,I.ne⟩ hs2)
theorem za{R:Result->Shared->Prop}{vs:List Value}{kw:List (Str×Value)}(X:K.In s.heap)(hm:PySem.W.makesIn K C=true)
  (hi:PySem.W.findIn K (.ref C) "__init__"=some (some (.ref f)))(hf:PySem.W.typeIn K (.ref f)=some (.type "function"))
  (h:codeAny (model prog w) (A.under (.builtin "type.__call__" ⟨.ref C::vs,kw⟩)) (.call (.ref f) ⟨.ref (s.heap.objs.size+1)::vs,kw⟩) (PySem.W.InitBack (s.heap.objs.size+1) R)
   {s with heap:=(s.heap.push PySem.W.emptyDict).push (PySem.W.instObj C s.heap.objs.size)}):
  codeAny (model prog w) A (.call (.ref C) ⟨vs,kw⟩) R s:=by
 obtain⟨hh,g,d,t,os⟩:=s;exact PySem.W.make_core (PySem.W.makes_of X hm) (PySem.W.looks_findIn X hi) (λself=>PySem.W.bind_fn X self hf) (.inl rfl) h
end
def putF(f:Str)(v:V):List (Str×V)->List (Str×V)
 |[]=>[(f,v)]
 |(g,x)::r=>if g=f then(g,v)::r else(g,x)::putF f v r
theorem mm(f g:Str)(v:V):∀fs:List (Str×V),(putF f v fs).lookup g=if g=f then some v else fs.lookup g
 |[]=>by
  show List.lookup g [(f,v)]=_;by_cases h:g=f
  ·have hb:(g==f)=true:=beq_iff_eq.mpr h;simp only[List.lookup,hb,if_pos h]
  ·have hb:(g==f)=false:=beq_eq_false_iff_ne.mpr h;simp only[List.lookup,hb,if_neg h]
 |(k,x)::r=>by
  have ih:=mm f g v r;rw[show putF f v ((k,x)::r)=(if k=f then(k,v)::r else(k,x)::putF f v r)from rfl];by_cases hk:k=f
  ·rw[if_pos hk];by_cases h:g=k
   ·have hb:(g==k)=true:=beq_iff_eq.mpr h;simp only[List.lookup,hb,if_pos (h.trans hk)]
   ·have hb:(g==k)=false:=beq_eq_false_iff_ne.mpr h;simp only[List.lookup,hb,if_neg (λe:g=f=>h (e.trans hk.symm))]
  ·rw[if_neg hk];by_cases h:g=k
   ·have hb:(g==k)=true:=beq_iff_eq.mpr h;simp only[List.lookup,hb,if_neg (λe:g=f=>hk (h.symm.trans e))]
   ·have hb:(g==k)=false:=beq_eq_false_iff_ne.mpr h;simp only[List.lookup,hb];exact ih
theorem lH(f:Str)(v:V):∀fs:List (Str×V),f∈(putF f v fs).map (·.1)/\∀g,g∈fs.map (·.1)->g∈(putF f v fs).map (·.1)
 |[]=>⟨by simp[putF],λg h=>by simp at h⟩
 |(k,x)::r=>by
  obtain⟨i1,i2⟩:=lH f v r;rw[show putF f v ((k,x)::r)=(if k=f then(k,v)::r else(k,x)::putF f v r)from rfl];by_cases hk:k=f
  ·rw[if_pos hk];subst hk;exact⟨by simp,λg h=>by simpa using h⟩
  ·rw[if_neg hk];refine⟨?_,λg h=> ?_⟩
   ·rw[List.map_cons];exact List.mem_cons_of_mem _ i1
   ·rw[List.map_cons]at h⊢;rcases List.mem_cons.mp h with e|e
    ·exact List.mem_cons.mpr (.inl e)
    ·exact List.mem_cons_of_mem _ (i2 g e)
theorem mn(f:Str)(v:V):∀fs:List (Str×V),(putF f v fs).length<=fs.length+1
 |[]=>by simp[putF]
 |(k,x)::r=>by
  have ih:=mn f v r;rw[show putF f v ((k,x)::r)=(if k=f then(k,v)::r else(k,x)::putF f v r)from rfl];by_cases hk:k=f
  ·rw[if_pos hk,List.length_cons,List.length_cons];omega
  ·rw[if_neg hk,List.length_cons,List.length_cons];omega
theorem gD.some_of{v:V}{o:Option Value}(r:gD (some v) o):∃u,o=some u/\be v u:=by
 cases o with
 |none=>exact(show False from r).elim
 |some u=>exact⟨u,rfl,r⟩
theorem gD.none_of{o:Option Value}(r:gD none o):o=none:=by
 cases o with
 |none=>rfl
 |some u=>exact(show False from r).elim
theorem xF{v:V}{u:Value}(r:be v u):PySem.W.handedIn u=true:=by
 cases v with
 |non=>cases(show u=Value.none from r);rfl
 |bl b=>cases(show u=Value.bool b from r);rfl
 |int i=>obtain⟨t,e⟩:=(show∃t,u=Value.int i t from r);cases e;rfl
 |str x=>obtain⟨t,e⟩:=(show∃t,u=Value.str x t from r);cases e;rfl
 |byt b=>obtain⟨t,e⟩:=(show∃t,u=Value.bytes b t from r);cases e;rfl
 |flt b=>obtain⟨t,e⟩:=(show∃t,u=Value.float b t from r);cases e;rfl
 |ref a=>cases(show u=Value.ref a from r);rfl
 |ty n=>cases(show u=Value.type n from r);rfl
section
variable{P:Program}{w:World}{H H':Hp}{h h':Heap}{a C dx:Addr}{fs fs':List (Str×V)}
theorem rg(hok:ir P w H h)(e:H a=some (.ins C dx fs)):∃mA,uP h a dx C mA/\(∀f,gD (fs.lookup f) (mA f))/\PySem.Within mA (fs.map (·.1))/\fs.length<=1000/\H dx=some (.own a):=by
 obtain⟨d,z,ne,ob,mA,n,r,q⟩:=(show bK P w H h a (.ins C dx fs)from hok a _ e);exact⟨mA,⟨ob,n,ne⟩,r,q,z,d⟩
end
structure zb(K:PySem.W.Frag)(C:Addr):Prop where
 pg:PySem.W.plainGet K C Str.empty=true
 hd:PySem.W.hasDictIn K C=true
 po:PySem.W.plainOver K C=true
 sa:PySem.W.findIn K (.ref C) "__setattr__"=some (some (.builtin "object.__setattr__"))
theorem zb.get{K:PySem.W.Frag}{C:Addr}(c:zb K C)(f:Str):PySem.W.plainGet K C f=true:=c.pg
def bf(K:PySem.W.Frag)(C:Addr)(f:Str):Prop:=PySem.W.findIn K (.ref C) f=some none
theorem bf.taker{K:PySem.W.Frag}{C:Addr}{f:Str}(n:bf K C f):PySem.W.takerIn K C f=some none:=by
 unfold PySem.W.takerIn;rw[show PySem.W.findIn K (.ref C) f=some none from n];rfl
structure Bj(K:PySem.W.Frag)(C:Addr)(m:Str)(f:Addr):Prop where
 at_:PySem.W.findIn K (.ref C) m=some (some (.ref f))
 fn:PySem.W.isFn K (.ref f)=true
 kp:PySem.W.keepIn K (.ref f)=true
section
variable{X:Cx}{pins:List (Addr×Obj)}{σ:St}{H:Hp}{s:Shared}{a C dx:Addr}{fs:List (Str×V)}{f:Str}{v:V}{A:Around}{E:Value->Shared->Prop}
theorem nU{b:Bool}{Q:Value->Shared->Prop}(I:aO X pins σ H s)(e:H a=some (.ins C dx fs))(c:zb X.K C)(n:bf X.K C f)(l:fs.lookup f=some v)
  (h:∀u s',aO X pins σ H s'->be v u->Q u s'):wpAny (model X.prog X.w) A (getAttr (.ref a) f b) Q E s:=by
 obtain⟨mA,O,r,_,_,_⟩:=rg I.hok e;obtain⟨u,hu,ru⟩:=gD.some_of (v:=v) (o:=mA f) (by rw[<-l];exact r f);exact Bi I.kIn O (c.get f) c.hd n hu (xF ru) (h u _ (I.tok _) ru)
theorem uQ{m:Str}{g:Addr}{pl:Sem Bool}{Q:Value×List Value->Shared->Prop}(I:aO X pins σ H s)(e:H a=some (.ins C dx fs))(c:zb X.K C)(k:Bj X.K C m g)(l:fs.lookup m=none)
  (h:Q (.ref g,[.ref a]) s):wpAny (model X.prog X.w) A (getMethod (.ref a) m pl) Q E s:=by
 obtain⟨mA,O,r,_,_,_⟩:=rg I.hok e;have hn:mA m=none:=gD.none_of (by rw[<-l];exact r m);exact yZ I.kIn O (c.get m) k.at_ k.fn hn h
theorem nV{y:V}{u:Value}{Q:Unit->Shared->Prop}(I:aO X pins σ H s)(e:H a=some (.ins C dx fs))(c:zb X.K C)(n:bf X.K C f)(hl:fs.length<1000)(ry:be y u)
  (h:∀s',aO X pins σ (aJ H a (.ins C dx (putF f y fs))) s'->Q () s'):wpAny (model X.prog X.w) A (setAttr (.ref a) f u) Q E s:=by
 obtain⟨mA,O,r,wi,_,ho⟩:=rg I.hok e;have hz:(fs.map (·.1)).length<=sizeLine:=by rw[List.length_map,sizeLine_eq];omega
 refine qZ I.kIn O c.sa c.po n.taker c.hd wi hz λh' O' sb=>h _ ?_
 have hd:∃o,h'.get? dx=some o:=let⟨o,_,_,e',_⟩:=O'.ns;⟨o,e'⟩;refine I.write (x:=a) (e:=dx) (by rw[e];exact True.intro) (.inr ho) (λb q hb z=>(sb.2 b hb).trans z) hd ?_;refine⟨by rw[aj O.ne];exact ho,?_,O.ne,O'.obj,_,O'.ns,λg=> ?_,λg hg=> ?_⟩
 ·have :=mn f y fs;omega
 ·show gD ((putF f y fs).lookup g) (if g=f then some u else mA g);rw[mm];by_cases q:g=f
  ·rw[if_pos q,if_pos q];exact ry
  ·rw[if_neg q,if_neg q];exact r g
 ·by_cases q:g=f
  ·rw[q];exact(lH f y fs).1
  ·refine(lH f y fs).2 g (wi g λz=>hg ?_);show(if g=f then some u else mA g)=none;rw[if_neg q];exact z
theorem aO.made(I:aO X pins σ H s):aO X pins σ (aJ (aJ H s.heap.objs.size (.own (s.heap.objs.size+1))) (s.heap.objs.size+1) (.ins C s.heap.objs.size []))
  {s with heap:=(s.heap.push PySem.W.emptyDict).push (PySem.W.instObj C s.heap.objs.size)}:=by
 have e1:(s.heap.push PySem.W.emptyDict).get? s.heap.objs.size=some PySem.W.emptyDict:=Heap.get?_push_size s.heap rfl
 have e2:((s.heap.push PySem.W.emptyDict).push (PySem.W.instObj C s.heap.objs.size)).get? (s.heap.objs.size+1)=some (PySem.W.instObj C s.heap.objs.size):=by
  have :=Heap.get?_push_size (s.heap.push PySem.W.emptyDict) (o:=PySem.W.instObj C s.heap.objs.size) rfl;rwa[Heap.size_push]at this
 have e3:(s.heap.push PySem.W.emptyDict).Ns s.heap.objs.size (λ_=>none):=⟨PySem.W.emptyDict,#[],_,e1,rfl,(λe he=>absurd he (by simp)),λ_=>rfl⟩;have I1:=I.laid (a:=s.heap.objs.size) (o:= .own (s.heap.objs.size+1)) (h':=s.heap.push PySem.W.emptyDict) (t':=s.toks) (λb u q=>Heap.get?_push_of_some _ q) (Nat.le_refl _) ⟨_,e1⟩;refine I1.laid (a:=s.heap.objs.size+1) (o:= .ins C s.heap.objs.size []) (t':=s.toks) (λb u q=>Heap.get?_push_of_some _ q) (Nat.le_of_eq (Heap.size_push _ _)) ?_;have ne:s.heap.objs.size≠s.heap.objs.size+1:=Nat.ne_of_lt (Nat.lt_succ_self _);refine⟨by rw[aj ne,aa],Nat.zero_le _,ne,e2,λ_=>none,(Heap.Ns1.of_empty e3).at λo q=>Heap.get?_push_of_some _ q,λ_=>True.intro,λy hy=>absurd rfl hy⟩
theorem Bk{prog:Program}{w:World}{env:Env}{e:Expr}{f:Str}{pos:Pos}{s:Shared}{Q:Value->Shared->Prop}(hb:attributeBase e f env (eval e env)=eval e env)
  (h:wpAny (model prog w) A (eval e env) (λo s₁=>wpAny (model prog w) A (getAttr o f true) Q E s₁) E s):wpAny (model prog w) A (eval (.Attribute e f pos) env) Q E s:=
 Attribute_any_ h (by rw[arm_eval_Attribute,hb])
end
def zc(K:PySem.W.Frag)(ta:TE)(f:Str):TE:=λσ H Q=>ta σ H λx H1=>∃a C dx fs v,x= .ref a/\H1 a=some (.ins C dx fs)/\zb K C/\bf K C f/\fs.lookup f=some v/\Q v H1
def Hl(K:PySem.W.Frag)(ta tv:TE)(f:Str):TS:=λD σ H=>tv σ H λy H1=>ta σ H1 λx H2=>∃a C dx fs,x= .ref a/\H2 a=some (.ins C dx fs)/\zb K C/\bf K C f/\fs.length<1000/\
 D.nx σ (aJ H2 a (.ins C dx (putF f y fs)))
def Fk(X:Cx)(op:Operator)(rd:V->V->Hp->VK->Prop):Prop:=
 ∀(pins:List (Addr×Obj)) (s:Shared) (σ:St) (H:Hp) (x y:V) (u v:Value) (Q:VK),aO X pins σ H s->be x u->be y v->rd x y H Q->wpAny (model X.prog X.w) X.A (inplaceOp op u v) (EP X pins σ Q) X.xe s
def Bl(K:PySem.W.Frag)(ta tv:TE)(rd:V->V->Hp->VK->Prop)(f:Str):TS:=λD σ H=>ta σ H λx H1=>∃a C dx fs v,x= .ref a/\H1 a=some (.ins C dx fs)/\zb K C/\bf K C f/\fs.lookup f=some v/\
 tv σ H1 λy H2=>rd v y H2 λz H3=>∃dx' fs',H3 a=some (.ins C dx' fs')/\fs'.length<1000/\D.nx σ (aJ H3 a (.ins C dx' (putF f z fs')))
section
variable{X:Cx}{o e value:Expr}{f:Str}{pos pos' tpos:Pos}{ta tv:TE}
theorem aD(he:PE X e ta)(hb:attributeBase e f X.env (eval e X.env)=eval e X.env):PE X (.Attribute e f pos) (zc X.K ta f):=by
 intro pins s σ H Q I h;refine Bk hb (bC (he pins s σ H _ I h) λu s1 ⟨x,H1,I1,rx,a,C,dx,fs,v,ex,ea,c,n,l,q⟩=> ?_);subst ex;obtain rfl:u=Value.ref a:=rx;exact nU I1 ea c n l λu' s2 I2 ru=>⟨v,H1,I2,ru,q⟩
theorem dh(ha:PE X o ta)(hv:PE X value tv)(hs:swapsWith value (some (.Attribute o f pos')) pos.line X.env=pure false):PS X (.Assign [.Attribute o f pos'] value pos) (Hl X.K ta tv f):=by
 intro pins s σ H D I h;refine plainObj_wpAny_Assign_Attribute (bC (hv pins s σ H _ I h) λu s1 ⟨y,H1,I1,ry,q⟩=>bC (ha pins s1 σ H1 _ I1 q) λov s2 ⟨x,H2,I2,rx,a,C,dx,fs,ex,ea,c,n,l,q2⟩=> ?_) hs;subst ex;obtain rfl:ov=Value.ref a:=rx;exact nV I2 ea c n l ry λs3 I3=>⟨σ,_,I3,q2⟩
theorem pS{op:Operator}{rd:V->V->Hp->VK->Prop}(ha:PE X o ta)(hv:PE X value tv)(hop:Fk X op rd):PS X (.AugAssign (.Attribute o f tpos) op value pos) (Bl X.K ta tv rd f):=by
 intro pins s σ H D I h;refine wpAny_AugAssign_AttributeAny (bC (ha pins s σ H _ I h) λov s1 ⟨x,H1,I1,rx,a,C,dx,fs,v,ex,ea,c,n,l,q⟩=> ?_);subst ex;obtain rfl:ov=Value.ref a:=rx;refine nU I1 ea c n l λu s2 I2 ru=>bC (hv pins s2 σ H1 _ I2 q) λw3 s3 ⟨y,H2,I3,ry,q3⟩=>bC (hop pins s3 σ H2 v y u w3 _ I3 ru ry q3) λw4 s4 ⟨z,H3,I4,rz,dx',fs',ea',l',q4⟩=> ?_
 exact nV I4 ea' c n l' rz λs5 I5=>⟨σ,_,I5,q4⟩
def Hm:V->V->Hp->VK->Prop:=λx y H Q=>∃i j,x= .int i/\y= .int j/\Q (.int (i+j)) H
theorem zd:Fk X .Add Hm:=by
 rintro pins s σ H x y u v Q I rx ry ⟨i,j,rfl,rfl,q⟩
 obtain⟨t,rfl⟩:=(show∃t,u=Value.int i t from rx);obtain⟨t',rfl⟩:=(show∃t',v=Value.int j t' from ry);exact PyProof.Rows.iadd_int ⟨.int (i+j),H,I.tok _,⟨_,rfl⟩,q⟩
end
end L2
namespace L2
open PySem PySem.Spec PyProof.Rows
structure Room(k:Nat)(A:Around):Prop where
 hd:A.handled=none
 dp:A.depth+3*k+5<recursionLimit
 un:A.units+16*k+200<cLine
theorem Room.mono{j k:Nat}{A:Around}(r:Room k A)(h:j<=k):Room j A:=⟨r.hd,by have :=r.dp;omega,by have :=r.un;omega⟩
theorem Room.deeper{k:Nat}{A:Around}(r:Room (k+1) A)(env:Env):Room k (A.deeper env):=
 ⟨r.hd,by have :=r.dp;show A.depth+1+3*k+5<_;omega,by have :=r.un;show A.units+3+16*k+200<_;omega⟩
theorem uR{A:Around}{C:Addr}{us:List Value}{kw:List (Str×Value)}:(A.under (.builtin "type.__call__" ⟨.ref C::us,kw⟩)).depth=A.depth+1:=by
 first|rfl|simp[Around.under,Code.weight,Code.isCreation,Code.isGuard,Code.isCaller,Code.frames,Code.isFrame,guardIds]
theorem uS{A:Around}{C:Addr}{us:List Value}{kw:List (Str×Value)}:(A.under (.builtin "type.__call__" ⟨.ref C::us,kw⟩)).units=A.units+1:=by
 first|rfl|simp[Around.under,Code.cUnits,Code.frames,Code.isFrame]
theorem Room.make{k:Nat}{A:Around}(r:Room (k+1) A)(C:Addr)(us:List Value)(kw:List (Str×Value)):Room k (A.under (.builtin "type.__call__" ⟨.ref C::us,kw⟩)):=
 ⟨r.hd,by have :=r.dp;rw[uR];omega,by have :=r.un;rw[uS];omega⟩
theorem Room.depth{k:Nat}{A:Around}(r:Room k A):A.depth<recursionLimit:=by have :=r.dp;omega
theorem Room.units{k:Nat}{A:Around}(r:Room k A):A.units+64<cLine:=by have :=r.un;omega
def sG:TA:=λ_ H Q=>Q [] H
def sH(ta:TE)(tr:TA):TA:=λσ H Q=>ta σ H λx H1=>tr σ H1 λxs H2=>Q (x::xs) H2
section
variable{X:Cx}{e:Expr}{es:List Expr}{te:TE}{t:TA}{pos:Pos}
theorem af:PA X [] sG:=λ_ _ _ _ H Q I h=>Calls.spliced_nil ⟨[],H,I,.nil,h⟩
theorem ab(ha:PE X e te)(hr:PA X es t)(hs:starEach (e::es) X.env=(false,eval e X.env)::starEach es X.env:=by rfl):PA X (e::es) (sH te t):=by
 intro pos pins s σ H Q I h;rw[hs];show wpAny _ _ (spliced ((false,eval e X.env)::backTo pos (starEach es X.env))) _ _ s;refine Calls.spliced_cons (bC (ha pins s σ H _ I h) λu s1 ⟨x,H1,I1,r1,q1⟩=> ?_);exact bC (hr pos pins s1 σ H1 _ I1 q1) λus s2 ⟨xs,H2,I2,r2,q2⟩=>⟨x::xs,H2,I2,.cons r1 r2,q2⟩
def Hn(t:TA):TE:=λσ H Q=>t σ H λxs H1=>xs.length<=sizeLine/\∀p,H1 p=none->Q (.ref p) (aJ H1 p (.tup xs))
def Ho(t:TA):TE:=λσ H Q=>t σ H λxs H1=>xs.length<=sizeLine/\∀p,H1 p=none->Q (.ref p) (aJ H1 p (.lst xs))
theorem rh{x1}(h:PA X es t):PE X (.Tuple es x1 pos) (Hn t):=by
 intro pins s σ H Q I hq;refine wpAny_Tuple_spliced (bC (h pos pins s σ H _ I hq) λus s1 ⟨xs,H1,I1,r,z,q⟩=>⟨by rw[<-r.length];exact z,?_⟩);have hf:H1 s1.heap.objs.size=none:=I1.hok.fresh (Nat.le_refl _);refine⟨.ref s1.heap.objs.size,aJ H1 s1.heap.objs.size (.tup xs),I1.laid (t':=s1.toks) (λb u e=>Heap.get?_push_of_some _ e) (Nat.le_refl _) ?_,rfl,q _ hf⟩;exact⟨z,us,r,⟨_,Heap.get?_push_size _ rfl,rfl,_,rfl⟩⟩
theorem aL(h:PA X es t):PE X (.List es pos) (Ho t):=by
 intro pins s σ H Q I hq;refine wpAny_List_spliced (bC (h pos pins s σ H _ I hq) λus s1 ⟨xs,H1,I1,r,z,q⟩=>⟨by rw[<-r.length];exact z,?_⟩);have hf:H1 s1.heap.objs.size=none:=I1.hok.fresh (Nat.le_refl _);refine⟨.ref s1.heap.objs.size,aJ H1 s1.heap.objs.size (.lst xs),I1.laid (t':=s1.toks) (λb u e=>Heap.get?_push_of_some _ e) (Nat.le_refl _) ?_,rfl,q _ hf⟩;exact⟨z,us,0,r,Heap.get?_push_size _ rfl⟩
end
abbrev Sp:=List V->Hp->VK->XK->Prop
abbrev ze:=List Env->Hp->Shared->XK->Value->Shared->Prop
structure uT(P:Program)(w:World)(K:PySem.W.Frag)(mg:Str->Option Value)(base:Heap)(A:Around)(outer:List Env)(s:Shared)(H:Hp):Prop where
 frames:A.frames=some outer
 mod:GX K mg base
 bs:∀b o,base.get? b=some o->s.heap.get? b=some o/\H b=none
 bsz:base.objs.size<=s.heap.objs.size
 funs:s.heap.FunFrames base outer
 frf:∀b∈yP outer,H b=none
 hok:ir P w H s.heap
 bare:AllBare s.gens
def CE(outer:List Env)(P:Program)(w:World)(H:Hp)(s:Shared)(Q:VK)(u:Value)(s':Shared):Prop:=
 ∃v H',s'.os=s.os/\AllBare s'.gens/\Un (yP outer) [] H H' s.heap s'.heap/\ir P w H' s'.heap/\be v u/\Q v H'
def CR(CX:ze)(outer:List Env)(P:Program)(w:World)(H:Hp)(s:Shared)(Q:VK)(E:XK)(r:Result)(s':Shared):Prop:=
 match r with
 | .ok (.ret u)=>CE outer P w H s Q u s'
 | .ok _=>False
 | .error e=>CX outer H s E e s'
structure jv(P:Program)(w:World)(K:PySem.W.Frag)(mg:Str->Option Value)(base:Heap)(CX:ze)(k:Nat)(f:Addr)(fd:FuncData)(ps:List Str)(sp:Sp):Prop where
 len:∀vs H Q E,sp vs H Q E->vs.length=ps.length
 run:∀(A:Around) (outer:List Env) (s:Shared) (H:Hp) (args:Args) (us:List Value) (vs:List V) (Q:VK) (E:XK),Room k A->uT P w K mg base A outer s H->BindsTo s fd args (ps.zip us)->aW vs us->sp vs H Q E->
  codeAny (model P w) A (.call (.ref f) args) (CR CX outer P w H s Q E) s
theorem uT.make{P:Program}{w:World}{K:PySem.W.Frag}{mg:Str->Option Value}{base:Heap}{A:Around}{outer:List Env}{s:Shared}{H:Hp}(e:uT P w K mg base A outer s H)(C:Addr)(us:List Value)(kw:List (Str×Value)):
  uT P w K mg base (A.under (.builtin "type.__call__" ⟨.ref C::us,kw⟩)) outer s H:=⟨by first|exact e.frames|(simpa [Around.under,Code.envs,Code.isFrame,pushEnvs]using e.frames),e.mod,e.bs,e.bsz,e.funs,e.frf,e.hok,e.bare⟩
section
variable{X:Cx}{pins:List (Addr×Obj)}{σ:St}{H:Hp}{s s':Shared}
theorem aO.env0(I:aO X pins σ H s):uT X.prog X.w X.K X.mg X.base X.A X.stack s H:=
 ⟨I.ok.frames,I.ok.mod,I.bs,Nat.le_trans I.ok.bsz I.sz,I.stack,I.stkFree,I.hok,I.bare⟩
theorem aO.after{Q:VK}{u:Value}(I:aO X pins σ H s)(h:CE X.stack X.prog X.w H s Q u s'):EP X pins σ Q u s':=by
 obtain⟨v,H',os,bare,un,hok,r,q⟩:=h;obtain⟨hh,g,d,t,os'⟩:=s';obtain rfl:os'=s.os:=os;exact⟨v,H',I.call (h':=hh) (g':=g) (d':=d) (t':=t) (ch:=[]) un hok bare (λb z=>absurd z (by simp)),r,q⟩
end
def CV(sp:Sp)(dvs:List V)(E:XK)(t:TA):TE:=λσ H Q=>t σ H λvs H1=>sp (vs++dvs) H1 Q E
def CW(C:Addr)(m:Str)(sp:Sp)(dvs:List V)(E:XK)(ta:TE)(t:TA):TE:=λσ H Q=>ta σ H λx H1=>∃a dx fs,x= .ref a/\H1 a=some (.ins C dx fs)/\fs.lookup m=none/\
 t σ H1 λvs H2=>sp (x::(vs++dvs)) H2 Q E
def sI(C:Addr)(sp:Sp)(dvs:List V)(E:XK)(t:TA):TE:=λσ H Q=>t σ H λvs H1=>∀x dx,H1 x=none->H1 dx=none->dx≠x->
 sp (.ref x::(vs++dvs)) (aJ (aJ H1 dx (.own x)) x (.ins C dx [])) (λv H2=>v= .non/\Q (.ref x) H2) E
def d7(K:PySem.W.Frag)(fd:FuncData)(ps:List Str)(ds:List Value):Prop:=
 ∀(s:Shared) (us:List Value),K.In s.heap->(us++ds).length=ps.length->BindsTo s fd ⟨us,[]⟩ (ps.zip (us++ds))
theorem d7.all{K:PySem.W.Frag}{fd:FuncData}{ps:List Str}(h:∀us:List Value,us.length=ps.length->bindArgs fd ⟨us,[]⟩=pure (ps.zip us)):d7 K fd ps []:=λs us _ hl=>by
 rw[List.append_nil]at hl⊢;exact .of_eq (h us hl)
def jU(CX:ze)(X:Cx)(E:XK):Prop:=∀(pins:List (Addr×Obj)) (σ:St) (H:Hp) (s:Shared) (e:Value) (s':Shared),aO X pins σ H s->CX X.stack H s E e s'->X.xe e s'
section
variable{X:Cx}{CX:ze}{k:Nat}{f C:Addr}{fd:FuncData}{ps:List Str}{sp:Sp}{dvs:List V}{ds:List Value}{E:XK}{x m:Str}{p pos apos:Pos}{e o:Expr}{es:List Expr}{ta:TE}{t:TA}
theorem uU{pins:List (Addr×Obj)}{σ:St}{H:Hp}{s:Shared}{Q:VK}{us:List Value}{vs:List V}(F:jv X.prog X.w X.K X.mg X.base CX k f fd ps sp)(hr:Room k X.A)(hb:d7 X.K fd ps ds)(hd:aW dvs ds)(hx:jU CX X E)
  (I:aO X pins σ H s)(r:aW vs us)(h:sp (vs++dvs) H Q E):wpAny (model X.prog X.w) X.A (call (.ref f) us) (EP X pins σ Q) X.xe s:=by
 have r2:aW (vs++dvs) (us++ds):=r.append hd;have hl:(us++ds).length=ps.length:=by rw[<-r2.length];exact F.len _ _ _ _ h
 refine wpAny_call (codeAny_mono (F.run X.A X.stack s H ⟨us,[]⟩ (us++ds) (vs++dvs) Q E hr I.env0 (hb s us I.kIn hl) r2 h) λr s' hq=> ?_);cases r with
 |error e=>exact hx pins σ H s e s' I hq
 |ok fl=>
  cases fl with
  |ret u=>exact I.after hq
  |next=>exact False.elim hq
  |brk=>exact False.elim hq
  |cont=>exact False.elim hq
theorem Bm(F:jv X.prog X.w X.K X.mg X.base CX k f fd ps sp)(hr:Room k X.A)(hg:Gl X x)(hm:X.mg x=some (.ref f))(hk:PySem.W.keepIn X.K (.ref f)=true)(hb:d7 X.K fd ps ds)(hd:aW dvs ds)(hx:jU CX X E)
  (ha:PA X (e::es) t)(hdb:(x==("__debug__":Str))=false:=by decide)(he:starEach (e::es) X.env=(false,eval e X.env)::starEach es X.env:=by rfl)(hpl:(backTo pos (starEach es X.env)).any (·.1)=false:=by rfl):
  PE X (.Call (.Name x p) (e::es) [] pos) (CV sp dvs E t):=by
 intro pins s σ H Q I h;refine wpAny_Call_Name_kw (mY I hg hm ?_ hdb);refine PySem.W.callWith_K (h₀:=X.base) I.ok.mod.kin hk (bC (ha pos pins s σ H _ I h) λus s1 ⟨vs,H1,I1,r,q⟩=>⟨I1.kIn,?_⟩) he hpl;exact uU F hr hb hd hx I1 r q
theorem zf{pl:Sem Bool}(he:PE X o ta)(c:zb X.K C)(hm:Bj X.K C m f)(F:jv X.prog X.w X.K X.mg X.base CX k f fd ps sp)(hr:Room k X.A)(hb:d7 X.K fd ps ds)(hd:aW dvs ds)(hx:jU CX X E)
  (ht:eval (.Call (.Attribute o m apos) [] [] pos) X.env=(do
   let ov<-eval o X.env
   standAt apos.atName
   let(f,first)<-holding [ov] (getMethod ov m pl)
   callWith pos f first (backTo pos (starEach [] X.env)) (backToKw pos (keywordEach [] X.env))):=by rfl):
  PE X (.Call (.Attribute o m apos) [] [] pos) (CW C m sp dvs E ta sG):=by
 intro pins s σ H Q I h;refine PySem.W.methodCall_KW (pl:=pl) (bC (he pins s σ H _ I h) λu s1 ⟨x,H1,I1,rx,a,dx,fs,ex,ea,l,q⟩=> ?_) ht;subst ex;obtain rfl:u=Value.ref a:=rx;refine uQ I1 ea c hm l ?_;exact PySem.W.callWith_K0 (first:=[.ref a]) I1.kIn hm.kp (uU (us:=[.ref a]) (vs:=[.ref a]) F hr hb hd hx I1 (.cons rfl .nil) q)
structure Mk(K:PySem.W.Frag)(C f:Addr):Prop where
 makes:PySem.W.makesIn K C=true
 init:PySem.W.findIn K (.ref C) "__init__"=some (some (.ref f))
 fn:PySem.W.isFn K (.ref f)=true
 kp:PySem.W.keepIn K (.ref C)=true
theorem sJ{pins:List (Addr×Obj)}{σ:St}{H:Hp}{s:Shared}{Q:VK}{us:List Value}{vs:List V}(M:Mk X.K C f)(F:jv X.prog X.w X.K X.mg X.base CX k f fd ps sp)(hr:Room (k+1) X.A)(hb:d7 X.K fd ps ds)(hd:aW dvs ds)
  (hx:jU CX X E)(I:aO X pins σ H s)(r:aW vs us)
  (h:∀x dx,H x=none->H dx=none->dx≠x->sp (.ref x::(vs++dvs)) (aJ (aJ H dx (.own x)) x (.ins C dx [])) (λv H2=>v= .non/\Q (.ref x) H2) E):
  wpAny (model X.prog X.w) X.A (call (.ref C) us) (EP X pins σ Q) X.xe s:=by
 have hq:=h (s.heap.objs.size+1) s.heap.objs.size (I.hok.fresh (Nat.le_succ _)) (I.hok.fresh (Nat.le_refl _)) (Nat.ne_of_lt (Nat.lt_succ_self _));have I2:=aO.made (C:=C) I;have r2:aW (V.ref (s.heap.objs.size+1)::(vs++dvs)) (Value.ref (s.heap.objs.size+1)::(us++ds)):= .cons rfl (r.append hd)
 have hl:(Value.ref (s.heap.objs.size+1)::us++ds).length=ps.length:=by
  have e:=r2.length;rw[F.len _ _ _ _ hq]at e;exact e.symm
 refine wpAny_call (za (f:=f) I.kIn M.makes M.init (beq_iff_eq.mp M.fn) (codeAny_mono (F.run _ X.stack _ _ ⟨Value.ref (s.heap.objs.size+1)::us,[]⟩ (Value.ref (s.heap.objs.size+1)::(us++ds)) _ _ E (hr.make C us [])
  (I2.env0.make C us []) (hb _ (Value.ref (s.heap.objs.size+1)::us) I2.kIn hl) r2 hq) λr s' hq'=> ?_))
 cases r with
 |error e=>exact hx pins σ _ _ e s' I2 hq'
 |ok fl=>
  cases fl with
  |ret u=>
   obtain⟨v,H',I3,rv,ev,q3⟩:=I2.after hq';subst ev;exact⟨rv,⟨V.ref (s.heap.objs.size+1),H',I3,rfl,q3⟩⟩
  |next=>exact False.elim hq'
  |brk=>exact False.elim hq'
  |cont=>exact False.elim hq'
theorem Bn(M:Mk X.K C f)(F:jv X.prog X.w X.K X.mg X.base CX k f fd ps sp)(hr:Room (k+1) X.A)(hg:Gl X x)(hm:X.mg x=some (.ref C))(hb:d7 X.K fd ps ds)(hd:aW dvs ds)(hx:jU CX X E)
  (ha:PA X (e::es) t)(hdb:(x==("__debug__":Str))=false:=by decide)(he:starEach (e::es) X.env=(false,eval e X.env)::starEach es X.env:=by rfl)(hpl:(backTo pos (starEach es X.env)).any (·.1)=false:=by rfl):
  PE X (.Call (.Name x p) (e::es) [] pos) (sI C sp dvs E t):=by
 intro pins s σ H Q I h;refine wpAny_Call_Name_kw (mY I hg hm ?_ hdb);refine PySem.W.callWith_K (h₀:=X.base) I.ok.mod.kin M.kp (bC (ha pos pins s σ H _ I h) λus s1 ⟨vs,H1,I1,r,q⟩=>⟨I1.kIn,?_⟩) he hpl;exact sJ M F hr hb hd hx I1 r q
theorem zg(M:Mk X.K C f)(F:jv X.prog X.w X.K X.mg X.base CX k f fd ps sp)(hr:Room (k+1) X.A)(hg:Gl X x)(hm:X.mg x=some (.ref C))(hb:d7 X.K fd ps ds)(hd:aW dvs ds)(hx:jU CX X E)
  (hdb:(x==("__debug__":Str))=false:=by decide):PE X (.Call (.Name x p) [] [] pos) (sI C sp dvs E sG):=by
 intro pins s σ H Q I h;refine wpAny_Call_Name_kw (mY I hg hm ?_ hdb);exact PySem.W.callWith_K0 I.kIn M.kp (sJ (us:=[]) M F hr hb hd hx I .nil h)
end
structure aC(N P:List Str)(sc:Scope):Prop where
 kind:sc.kind= .function
 co:sc.isCoroutine=false
 gen:sc.isGenerator=false
 nd:N.Nodup
 pre:N.take P.length=P
 par:∀x∈P,sc.names.lookup x=some .local\/sc.names.lookup x=some .cell
 nofree:∀y∈sc.names,y.2≠ .free
theorem pT{kindOf:Str->Option NameKind}{x:Str}:∀{binds:List (Str×Value)} {m:Str->Option Value},(∀v,(x,v)∉binds)->bindL kindOf binds m x=m x
 |[],_,_=>rfl
 |(n,v)::r,m,h=>by
  unfold bindL;rw[pT λw hw=>h w (List.mem_cons_of_mem _ hw)];split
  ·have :x≠n:=by rintro rfl;exact h v List.mem_cons_self
   simp[this]
  ·rfl
theorem pU{kindOf:Str->Option NameKind}{x:Str}:∀{binds:List (Str×Value)} {m:Str->Option Value},(∀v,(x,v)∉binds)->bindC kindOf binds m x=m x
 |[],_,_=>rfl
 |(n,v)::r,m,h=>by
  unfold bindC;rw[pU λw hw=>h w (List.mem_cons_of_mem _ hw)];split
  ·rfl
  ·have :x≠n:=by rintro rfl;exact h v List.mem_cons_self
   simp[this]
theorem pV{kindOf:Str->Option NameKind}{x:Str}{v:Value}:∀{P:List Str} {vs:List Value} {i:Nat} {m:Str->Option Value},P.Nodup->P[i]? =some x->vs[i]? =some v->kindOf x=some .local->
  bindL kindOf (P.zip vs) m x=some v
 |[],_,_,_,_,h,_,_=>by simp at h
 |_::_,[],_,_,_,_,h,_=>by simp at h
 |p::P,w::vs,0,m,nd,h1,h2,hk=>by
  simp at h1 h2;subst h1;subst h2
  show bindL kindOf ((p,w)::P.zip vs) m p=_;unfold bindL;rw[pT λv hv=>(List.nodup_cons.mp nd).1 (List.of_mem_zip hv).1,if_pos hk];simp
 |p::P,w::vs,i+1,m,nd,h1,h2,hk=>by
  show bindL kindOf ((p,w)::P.zip vs) m x=_;unfold bindL;exact pV (i:=i) (List.nodup_cons.mp nd).2 (by simpa using h1) (by simpa using h2) hk
theorem pX{kindOf:Str->Option NameKind}{x:Str}{v:Value}:∀{P:List Str} {vs:List Value} {i:Nat} {m:Str->Option Value},P.Nodup->P[i]? =some x->vs[i]? =some v->kindOf x≠some .local->
  bindC kindOf (P.zip vs) m x=some v
 |[],_,_,_,_,h,_,_=>by simp at h
 |_::_,[],_,_,_,_,h,_=>by simp at h
 |p::P,w::vs,0,m,nd,h1,h2,hk=>by
  simp at h1 h2;subst h1;subst h2
  show bindC kindOf ((p,w)::P.zip vs) m p=_;unfold bindC;rw[pU λv hv=>(List.nodup_cons.mp nd).1 (List.of_mem_zip hv).1,if_neg hk];simp
 |p::P,w::vs,i+1,m,nd,h1,h2,hk=>by
  show bindC kindOf ((p,w)::P.zip vs) m x=_;unfold bindC;exact pX (i:=i) (List.nodup_cons.mp nd).2 (by simpa using h1) (by simpa using h2) hk
def start(N:List Str)(vs:List V):St:=vs.map some++List.replicate (N.length-vs.length) none
def uV(CX:ze)(P:Program)(w:World)(K:PySem.W.Frag)(mg:Str->Option Value)(base:Heap)(N:List Str)(qual:Str)(scope:Scope)(f:Addr)(cd:Value)(A:Around)(outer:List Env)(s:Shared)(H:Hp)(E:XK):Cx where
 prog:=P
 w:=w
 K:=K
 mg:=mg
 base:=base
 A:=A.deeper (envOfC qual scope s.heap.objs.size f cd)
 N:=N
 s_0:=s
 H_0:=H
 env:=envOfC qual scope s.heap.objs.size f cd
 outer:=outer
 stack:=envOfC qual scope s.heap.objs.size f cd::outer
 ex:=[]
 calm:=true
 fn:=λ_=>true
 pn:=[]
 xe:=λe s'=>wpAny (model P w) (A.deeper (envOfC qual scope s.heap.objs.size f cd)) (leaving (envOfC qual scope s.heap.objs.size f cd) e) (λ_ s''=>CX outer H s E e s'') (λe' s''=>CX outer H s E e' s'') s'
theorem sK{sc:Scope}{n:Nat}{x:Str}(h:sc.names.lookup x=some .cell):∃c,(cellsFrom n sc.names []).lookup x=some c:=by
 have q:=PySem.W.cellsFrom_some sc.names n [] (.inl h);exact Option.isSome_iff_exists.mp q
theorem xG{CX:ze}{P:Program}{w:World}{K:PySem.W.Frag}{mg:Str->Option Value}{base:Heap}{N ps:List Str}{qual:Str}{scope:Scope}{f:Addr}{cd:Value}{A:Around}{outer:List Env}{s s1:Shared}{H:Hp}{E:XK}{us:List Value}{vs:List V}
  (S:aC N ps scope)(hd:A.handled=none)(e0:uT P w K mg base A outer s H)(hl:vs.length=ps.length)(r:aW vs us)
  (x:InCallC s s.heap.objs.size (bindL (envOfC qual scope s.heap.objs.size f cd).kindOf (ps.zip us) λ_=>none) (cellsFrom (s.heap.objs.size+1) scope.names []) (bindC (envOfC qual scope s.heap.objs.size f cd).kindOf (ps.zip us) λ_=>none) s1):
  aO (uV CX P w K mg base N qual scope f cd A outer s H E) [] (start N vs) H s1:=by
 have hpl:ps.length<=N.length:=by have :=congrArg List.length S.pre;rw[List.length_take]at this;omega
 obtain⟨h1,tk,rfl,hk⟩:=x.done;have noA:∀b:Addr,b∉(uV CX P w K mg base N qual scope f cd A outer s H E).ex:=λb z=>absurd (show b∈([]:List Addr)from z) (by simp)
 refine⟨⟨e0.mod,S.kind,rfl,rfl,Nat.le_refl _,λy z c h1 h2=> ?_,λy hy=> ?_,λy c _ h=> ?_,λ_=>hd,Around.frames_deeper e0.frames,.inr ⟨rfl,rfl⟩,λb z=>absurd z (noA b),e0.bs,e0.bsz,λb _ _=>noA b,λb z=>absurd z (noA b),e0.funs,e0.frf⟩,
  rfl,e0.bare,Un.kept hk,⟨_,x.toInCall.ns,λi y v h1 h2 h3=> ?_⟩,λy c h=>⟨_,x.cell y c h⟩,e0.hok.fresh (Nat.le_refl _),λy c h=> ?_,λp hp=>absurd (show p∈([]:List (Addr×Obj))from hp) (by simp),e0.hok.kept hk,?_⟩
 ·exact name_of_addr x.apart (PySem.mem_of_lookup h1) (PySem.mem_of_lookup h2)
 ·have hy:scope.names.lookup y=some .cell\/scope.names.lookup y=some .free:=hy;rcases hy with hy|hy
  ·exact sK hy
  ·exact absurd rfl (S.nofree _ (PySem.mem_of_lookup hy))
 ·exact Nat.le_of_lt (x.above y c (PySem.mem_of_lookup h))
 ·have hi:i<vs.length:=by
   unfold start at h2;by_cases hi:i<vs.length
   ·exact hi
   ·rw[List.getElem?_append_right (by simpa using hi)]at h2;rw[List.getElem?_replicate]at h2;split at h2<;>cases h2
  have ha:vs[i]? =some v:=by
   unfold start at h2;rw[List.getElem?_append_left (by simpa using hi),List.getElem?_map]at h2;cases e:vs[i]? with
   |none=>rw[e]at h2;cases h2
   |some a=>rw[e]at h2;cases h2;rfl
  obtain⟨u,hu,rv⟩:=r.get ha
  have hp:ps[i]? =some y:=by
   rw[<-S.pre,List.getElem?_take_of_lt (by omega)];exact h1
  have ndP:ps.Nodup:=by rw[<-S.pre];exact S.nd.sublist (List.take_sublist _ _)
  refine⟨u,rv,?_⟩;rcases S.par y (List.mem_of_getElem? hp)with k|k
  ·exact .inl ⟨k,pV ndP hp hu k⟩
  ·obtain⟨c,e⟩:=sK (n:=s.heap.objs.size+1) k;refine .inr ⟨.inl k,c,e,?_⟩;have q:=x.cell y c e;rw[pX ndP hp hu (by show scope.names.lookup y≠_;rw[k];decide)]at q;exact q
 ·exact e0.hok.fresh (Nat.le_of_lt (x.above y c (PySem.mem_of_lookup h)))
 ·unfold start;show _=N.length;rw[List.length_append,List.length_map,List.length_replicate];omega
theorem Fl{CX:ze}{P:Program}{w:World}{K:PySem.W.Frag}{mg:Str->Option Value}{base:Heap}{k:Nat}{f:Addr}{name qual:Str}{params:Arguments}{body:List Stmt}{scope:Scope}{dV kV doc pm cdv ct oc:Value}{an od:Option Addr}
  {osl:Array (Option Value)}{N ps:List Str}{sp:Sp}(lk:K.lookup f=some ⟨oc,od,.func (PySem.W.fnOf name qual params body scope dV kV doc pm an cdv ct),osl⟩)(hcd:PySem.W.codeIn K cdv qual=true)(S:aC N ps scope)
  (len:∀vs H Q E,sp vs H Q E->vs.length=ps.length)
  (hbody:∀(A:Around) (outer:List Env) (s:Shared) (H:Hp) (vs:List V) (Q:VK) (E:XK),Room k (A.deeper (envOfC qual scope s.heap.objs.size f cdv))->sp vs H Q E->
   ∃t,uK (uV CX P w K mg base N qual scope f cdv A outer s H E) body t/\t {nx:=λ_ H'=>Q .non H',rt:=Q} (start N vs) H):
  jv P w K mg base CX (k+1) f (PySem.W.fnOf name qual params body scope dV kV doc pm an cdv ct) ps sp:=by
 refine⟨len,λA outer s H args us vs Q E hr e0 hb r hsp=> ?_⟩;have hl:=len _ _ _ _ hsp;have KX:K.In s.heap:=e0.mod.kin.keeps λb o e=>(e0.bs b o e).1
 have lim:s.heap.NoLimit:=e0.mod.nolimit.keeps λb o e=>(e0.bs b o e).1
 have hkind:∀y∈ps.zip us,scope.names.lookup y.1=some .local\/(scope.names.lookup y.1=some .cell/\((cellsFrom (s.heap.objs.size+1) scope.names []).lookup y.1).isSome=true):=λ⟨n,v⟩ hy=>by
  rcases S.par n (List.of_mem_zip hy).1 with q|q
  ·exact .inl q
  ·exact .inr ⟨q,PySem.W.cellsFrom_some _ _ _ (.inl q)⟩
 refine codeAny_call_function hr.depth (KX _ _ lk) rfl S.co S.gen rfl (PySem.W.codeRec_of KX hcd) (hb _ _ _ _ ?_);refine wpAny_newFunctionEnv_cells S.kind hkind λenv he s1 x=> ?_
 subst he;refine⟨lim.keeps x.toInCall.keep,codeAny_func ?_⟩;obtain⟨t,ht,hq⟩:=hbody A outer s H vs Q E (hr.deeper _) hsp;have I:aO (uV CX P w K mg base N qual scope f cdv A outer s H E) [] (start N vs) H s1:=xG S hr.hd e0 hl r x;refine wpAny_mono (ht [] s1 (start N vs) H _ I hq) (λfl s' hs=> ?_) λe s' hs=>hs
 have fin:∀{σ':St} {H':Hp} {v:V} {u:Value},aO (uV CX P w K mg base N qual scope f cdv A outer s H E) [] σ' H' s'->be v u->Q v H'->CE outer P w H s Q u s':=
  λ{σ' H' v u} J rv q=>⟨v,H',J.os,J.bare,J.base,J.hok,rv,q⟩
 cases fl with
 |ret u=>
  obtain⟨v,σ',H',J,rv,q⟩:=hs;exact fin J rv q
 |next=>
  obtain⟨σ',H',J,q⟩:=hs;exact fin (v:=V.non) (u:=Value.none) J rfl q
 |brk=>
  obtain⟨_,_,_,q⟩:=hs;exact False.elim q
 |cont=>
  obtain⟨_,_,_,q⟩:=hs;exact False.elim q
end L2
namespace L2
open PySem PySem.Spec PyProof.Rows
section
variable{X:Cx}{x:Str}{p pos:Pos}{e:Expr}{es:List Expr}{t:TA}{id T:String}{r:List V->Hp->VK->Prop}
def Ip(r:List V->Hp->VK->Prop)(t:TA):TE:=λσ H Q=>t σ H λvs H1=>r vs H1 Q
theorem ku(hc:dB X (.builtin id) r)(hg:Gl X x)(hm:X.mg x=none)(hv:bootBuiltins x=some (.builtin id))(ha:PA X (e::es) t)(hn:x≠"__name__":=by decide)(hdb:(x==("__debug__":Str))=false:=by decide)
  (he:starEach (e::es) X.env=(false,eval e X.env)::starEach es X.env:=by rfl)(hpl:(backTo pos (starEach es X.env)).any (·.1)=false:=by rfl):PE X (.Call (.Name x p) (e::es) [] pos) (Ip r t):=by
 intro pins s σ H Q I h;refine wpAny_Call_Name_kw (nM I hg hm hv ?_ hn hdb);exact PyProof.Rows.callWith_builtin1 (bC (ha pos pins s σ H _ I h) λus s1 ⟨vs,H1,I1,r1,q1⟩=>hc pins s1 σ H1 vs us Q I1 r1 q1) he hpl
theorem pY(hc:dB X (.type T) r)(hg:Gl X x)(hm:X.mg x=none)(hv:bootBuiltins x=some (.type T))(ha:PA X (e::es) t)(hn:x≠"__name__":=by decide)(hdb:(x==("__debug__":Str))=false:=by decide)
  (he:starEach (e::es) X.env=(false,eval e X.env)::starEach es X.env:=by rfl)(hpl:(backTo pos (starEach es X.env)).any (·.1)=false:=by rfl):PE X (.Call (.Name x p) (e::es) [] pos) (Ip r t):=by
 intro pins s σ H Q I h;refine wpAny_Call_Name_kw (nM I hg hm hv ?_ hn hdb);exact PyProof.Rows.callWith_type1 (bC (ha pos pins s σ H _ I h) λus s1 ⟨vs,H1,I1,r1,q1⟩=>hc pins s1 σ H1 vs us Q I1 r1 q1) he hpl
end
end L2
namespace HT
open PySem PyProof.Rows
def lexLt:List Int->List Int->Bool
 |[],[]=>false
 |[],_::_=>true
 |_::_,[]=>false
 |x::xs,y::ys=>if x=y then lexLt xs ys else decide (x<y)
theorem lexLt_cons(x y:Int)(xs ys:List Int):lexLt (x::xs) (y::ys)=if x=y then lexLt xs ys else decide (x<y):=rfl
theorem eqAt_int(A:Around)(s:Shared)(a:Int)(t:Tok)(c:Int)(u:Tok):∃e,SeqAt.EqAt A s (.int a t) (.int c u) e/\(e=true↔a=c):=
 ⟨(a==c),SeqAt.EqAt.int_int a t c u,by simp⟩
theorem rcLt_int(A:Around)(s:Shared)(a:Int)(t:Tok)(c:Int)(u:Tok)(prog:Program)(w:World)(E:Value->Shared->Prop)(Q:Value->Shared->Prop)(h:Q (.bool (decide (a<c))) s):
  wpAny (model prog w) A (richCompare .Lt (.int a t) (.int c u)) Q E s:=
 (PyProof.Rows.lt_int h:wpAny (model prog w) A (compareOp .Lt (.int a t) (.int c u)) Q E s)
section
variable{prog:Program}{w:World}{A:Around}{E:Value->Shared->Prop}{s:Shared}
def sIx(n d:Nat):Option Int->Nat
 |none=>d
 |some v=>if v<0 then(v+(n:Int)).toNat else min v.toNat n
theorem sIx_none(n d:Nat):sIx n d none=d:=rfl
theorem sIx_nat(n d k:Nat):sIx n d (some (k:Int))=min k n:=by
 show(if(k:Int)<0 then((k:Int)+(n:Int)).toNat else min (k:Int).toNat n)=min k n
 rw[if_neg (by omega),Int.toNat_natCast]
end
end HT
namespace L2
open PySem PySem.Spec PyProof.Rows
abbrev TO:=St->Hp->(Option Int->Hp->Prop)->Prop
def PO(X:Cx)(e:Option Expr)(t:TO):Prop:=
 ∀(pins:List (Addr×Obj)) (s:Shared) (σ:St) (H:Hp) (Q:Option Int->Hp->Prop),aO X pins σ H s->t σ H Q->
  wpAny (model X.prog X.w) X.A (evalPart e X.env) (λu s'=>∃o H',aO X pins σ H' s'/\IsPart u o/\Q o H') X.xe s
def Bo:TO:=λ_ H Q=>Q none H
def Fm(t:TE):TO:=λσ H Q=>t σ H λx H1=>∃i,x= .int i/\Q (some i) H1
section
variable{X:Cx}{e:Expr}{te:TE}{lo hi:Option Expr}{tl th:TO}{pos p2:Pos}
theorem m6:PO X none Bo:=by
 intro pins s σ H Q I h;rw[evalPart_none];exact wpAny_pure ⟨none,H,I,.none,h⟩
theorem cT(h:PE X e te):PO X (some e) (Fm te):=by
 intro pins s σ H Q I hw;rw[evalPart_some];refine bC (h pins s σ H _ I hw) λu s1 ⟨x,H1,I1,r1,q1⟩=> ?_
 obtain⟨i,rfl,q⟩:=q1;obtain⟨t,rfl⟩:=r1;exact⟨some i,H1,I1,.int i t,q⟩
def Iq(X:Cx)(r:V->Option Int->Option Int->Hp->VK->Prop):Prop:=
 ∀(pins:List (Addr×Obj)) (s:Shared) (σ:St) (H:Hp) (x:V) (v vl vu:Value) (lo hi:Option Int) (sl:Addr) (Q:VK),aO X pins σ H s->be x v->s.heap.IsSliceOf sl vl vu .none->IsPart vl lo->IsPart vu hi->r x lo hi H Q->
  ∃T id,typeLookup (.type T) "__getitem__"=pure (some (.builtin id))/\s.TypeIs v T/\wpAny (model X.prog X.w) X.A (getItem v (.ref sl)) (EP X pins σ Q) X.xe s
def IH(r:V->Option Int->Option Int->Hp->VK->Prop)(te:TE)(tl th:TO):TE:=λσ H Q=>te σ H λx H1=>tl σ H1 λl H2=>th σ H2 λu H3=>r x l u H3 Q
theorem dJ{r:V->Option Int->Option Int->Hp->VK->Prop}(hr:Iq X r)(he:PE X e te)(hl:PO X lo tl)(hu:PO X hi th):PE X (.Subscript e (.Slice lo hi none p2) pos) (IH r te tl th):=by
 intro pins s σ H Q I h;refine Subscript_ (bC (he pins s σ H _ I h) λv s1 ⟨x,H1,I1,r1,q1⟩=> ?_);refine wpAny_Slice (bC (hl pins s1 σ H1 _ I1 q1) λvl s2 ⟨l,H2,I2,pl,q2⟩=>bC (hu pins s2 σ H2 _ I2 q2) λvu s3 ⟨u,H3,I3,pu,q3⟩=> ?_);rw[evalPart_none];refine wpAny_pure ?_;have I4:aO X pins σ H3 {s3 with heap:=s3.heap.push {cls:= .type "slice",data:= .fields #[vl,vu,.none]}}:=I3.kept (t':=s3.toks) λb ob q=>Heap.get?_push_of_some _ q
 obtain⟨T,id,hT,ht,hg⟩:=hr pins {s3 with heap:=s3.heap.push {cls:= .type "slice",data:= .fields #[vl,vu,.none]}} σ H3 x v vl vu l u s3.heap.objs.size Q I4 r1 (Heap.IsSliceOf.new ..) pl pu q3;show wpAny (model X.prog X.w) X.A (subscriptTail e (.Slice lo hi none p2) v (.ref s3.heap.objs.size)) (EP X pins σ Q) X.xe {s3 with heap:=s3.heap.push {cls:= .type "slice",data:= .fields #[vl,vu,.none]}};exact tail_any (ops:=[.ref s3.heap.objs.size,v]) ht hT hg (by with_unfolding_all rfl)
def iA(xs:List V)(lo hi:Option Int):List V:=(xs.drop (HT.sIx xs.length 0 lo)).take (HT.sIx xs.length xs.length hi-HT.sIx xs.length 0 lo)
theorem sL(xs:List V)(lo hi:Option Int):(iA xs lo hi).length<=xs.length:=by
 unfold iA;rw[List.length_take,List.length_drop];omega
end
end L2
namespace L2
open PySem PySem.Spec PyProof.Rows
def zh(n:Nat)(i:Int):Option Nat:=if 0<=i then(if i<n then some i.toNat else none)else if -(n:Int)<=i then some (i+n).toNat else none
def yN{α:Type}(xs:List α)(i:Int):Option α:=(zh xs.length i).bind λj=>xs[j]?
theorem wC{n:Nat}{i:Int}{j:Nat}(h:zh n i=some j):seqIndex? i n=some j/\j<n/\ -(n:Int)<=i/\i<n:=by
 unfold zh at h;by_cases h0:0<=i
 ·rw[if_pos h0]at h;by_cases h1:i<n
  ·rw[if_pos h1]at h;have e:i.toNat=j:=Option.some.inj h;exact⟨by rw[seqIndex_of h0 h1,e],by omega,by omega,h1⟩
  ·rw[if_neg h1]at h;cases h
 ·rw[if_neg h0]at h;by_cases h1: -(n:Int)<=i
  ·rw[if_pos h1]at h;have e:(i+n).toNat=j:=Option.some.inj h;exact⟨by rw[seqIndex_neg (by omega) h1,e],by omega,h1,by omega⟩
  ·rw[if_neg h1]at h;cases h
theorem rk{α:Type}{xs:List α}{i:Int}{v:α}(h:yN xs i=some v):∃j,seqIndex? i xs.length=some j/\xs[j]? =some v/\j<xs.length/\ -(xs.length:Int)<=i/\i<xs.length:=by
 unfold yN at h;cases e:zh xs.length i with
 |none=>rw[e]at h;cases h
 |some j=>
  rw[e]at h;obtain⟨h1,h2,h3,h4⟩:=wC e;exact⟨j,h1,h,h2,h3,h4⟩
theorem bd{α:Type}{xs:List α}{j:Nat}{v:α}(h:xs[j]? =some v):yN xs (j:Int)=some v:=by
 have hj:j<xs.length:=(List.getElem?_eq_some_iff.mp h).1
 have e:zh xs.length (j:Int)=some j:=by
  unfold zh;rw[if_pos (by omega),if_pos (by omega)];simp
 unfold yN;rw[e];exact h
theorem iB{α:Type}(xs:List α)(v:α):yN (xs++[v]) (-1)=some v:=by
 have hl:(xs++[v]).length=xs.length+1:=by simp
 have e:zh (xs++[v]).length (-1)=some xs.length:=by
  unfold zh;rw[hl,if_neg (by decide),if_pos (by omega)];congr 1;omega
 unfold yN;rw[e];show(xs++[v])[xs.length]? =some v;simp
def Bp(b:Expr):Prop:=∀o i,subscripted b false o i=operate [o,i] (getItem o i)
def Hq(X:Cx)(r:R2):Prop:=
 ∀(value slice:Expr) (pins:List (Addr×Obj)) (s:Shared) (σ:St) (H:Hp) (x y:V) (v u:Value) (Q:VK),aO X pins σ H s->be x v->be y u->r x y H Q->
  subscripted slice false v u=operate [v,u] (getItem v u)->wpAny (model X.prog X.w) X.A (subscriptTail value slice v u) (EP X pins σ Q) X.xe s
def CY(X:Cx)(id:String)(r:V->List V->Hp->VK->Prop):Prop:=
 ∀(pins:List (Addr×Obj)) (s:Shared) (σ:St) (H:Hp) (x:V) (xs:List V) (v:Value) (us:List Value) (Q:VK),aO X pins σ H s->be x v->aW xs us->r x xs H Q->
  wpAny (model X.prog X.w) X.A (call (.builtin id) (v::us)) (EP X pins σ Q) X.xe s
section
variable{X:Cx}{a b:Expr}{ta tb:TE}{pos:Pos}
theorem CY.or{id:String}{r r':V->List V->Hp->VK->Prop}(h:CY X id r)(h':CY X id r'):CY X id (λx xs H Q=>r x xs H Q\/r' x xs H Q):=by
 intro pins s σ H x xs v us Q I rx rs q;rcases q with q|q
 ·exact h pins s σ H x xs v us Q I rx rs q
 ·exact h' pins s σ H x xs v us Q I rx rs q
theorem bx{r:R2}(hr:Hq X r)(ha:PE X a ta)(hb:PE X b tb)(hs:Bp b):PE X (.Subscript a b pos) (G0 r ta tb):=by
 intro pins s σ H Q I h;exact Subscript_ (Dx ha hb I h λv u s2 x y H2 I2 rx ry q=>hr a b pins s2 σ H2 x y v u Q I2 rx ry q (hs _ _))
def Hr(K:PySem.W.Frag):R2:=λx y H Q=>∃p xs i v,x= .ref p/\y= .int i/\aZ K H p xs/\yN xs i=some v/\Q v H
def Hs(K:PySem.W.Frag):R2:=λx y H Q=>∃p xs i v,x= .ref p/\y= .int i/\jN K H p xs/\yN xs i=some v/\Q v H
theorem bn:Hq X (Hr X.K):=by
 intro value slice pins s σ H x y v u Q I rx ry h hs;obtain⟨p,xs,i,z,rfl,rfl,hq,he,q⟩:=h;cases rx;obtain⟨t,rfl⟩:=ry;obtain⟨its,r,pl,hz⟩:=I.list hq;obtain⟨j,h1,h2,h3,h4,h5⟩:=rk he;obtain⟨w,ew,rw'⟩:=r.get h2;have hl:=r.length;have hn:=lG;have fin:EP X pins σ Q w s:=⟨z,H,I,rw',q⟩;by_cases h0:0<=i
 ·have hj:i.toNat=j:=by
   rw[seqIndex_of h0 h5]at h1;exact Option.some.inj h1
  exact item_listR pl.isList h0 (by omega) (by rw[hj];simpa using ew) fin hs
 ·have hj:(i+(its.toArray.size:Int)).toNat=j:=by
   rw[seqIndex_neg (by omega) h4]at h1;rw[List.size_toArray,<-hl];exact Option.some.inj h1
  exact subscriptTail_builtinR (x:=w) pl.isList.typeIs slot_list_getitem.lookup
   (wpAny_getItem_list_neg (Q:=λr s'=>r=w/\EP X pins σ Q r s') pl.isList (by omega) (by rw[List.size_toArray]<;>omega) (by omega) (by rw[hj];simpa using ew) ⟨rfl,fin⟩) hs
theorem gF:Hq X (Hs X.K):=by
 intro value slice pins s σ H x y v u Q I rx ry h hs;obtain⟨p,xs,i,z,rfl,rfl,hq,he,q⟩:=h;cases rx;obtain⟨t,rfl⟩:=ry;obtain⟨its,r,pl,hz⟩:=I.tuple hq;obtain⟨j,h1,h2,h3,h4,h5⟩:=rk he;obtain⟨w,ew,rw'⟩:=r.get h2;have hl:=r.length;have hn:=lG;have fin:EP X pins σ Q w s:=⟨z,H,I,rw',q⟩
 exact subscriptTail_builtinR (x:=w) pl.typeIs slot_tuple_getitem.lookup
  (getItem_tuple (j:=j) (Q:=λr s'=>r=w/\EP X pins σ Q r s') pl (by omega) (by omega) (by rw[List.size_toArray,<-hl];exact h1) (by simpa using ew) ⟨rfl,fin⟩) hs
theorem uW(its:List Value)(n j:Nat)(u:Value):Obj.mapSeq (·.setIfInBounds j u) {cls:= .type "list",data:= .seq its.toArray n}={cls:= .type "list",data:= .seq (its.set j u).toArray n}:=by
 simp[Obj.mapSeq]
theorem aO.lst{pins:List (Addr×Obj)}{σ:St}{H:Hp}{s:Shared}{p:Addr}{xs:List V}(I:aO X pins σ H s)(h:H p=some (.lst xs)):
  ∃(its:List Value) (n:Nat),aW xs its/\s.heap.get? p=some {cls:= .type "list",data:= .seq its.toArray n}/\xs.length<=sizeLine:=by
 obtain⟨z,its,n,r,e⟩:=I.hok p _ h;exact⟨its,n,r,e,z⟩
theorem aO.lstUpd{pins:List (Addr×Obj)}{σ:St}{H:Hp}{s:Shared}{p:Addr}{xs ys:List V}{its its':List Value}{n n':Nat}{f:Obj->Obj}(I:aO X pins σ H s)(h:H p=some (.lst xs))
  (ho:s.heap.get? p=some {cls:= .type "list",data:= .seq its.toArray n})(hf:f {cls:= .type "list",data:= .seq its.toArray n}={cls:= .type "list",data:= .seq its'.toArray n'})(r:aW ys its')(hz:ys.length<=sizeLine)(t:Nat):
  aO X pins σ (aJ H p (.lst ys)) {s with heap:=s.heap.update p f,toks:=t}:=by
 have e:(s.heap.update p f).get? p=some {cls:= .type "list",data:= .seq its'.toArray n'}:=by
  rw[Heap.get?_update_self f ho (by rw[hf]<;>rfl),hf]
 refine I.write (x:=p) (e:=p) (by rw[h];trivial) (.inl rfl) (λb u hb q=>(Heap.get?_update_other _ _ (Ne.symm hb)).trans q) ⟨_,e⟩ ?_;exact⟨hz,its',n',r,e⟩
def Fn:V->V->V->Hp->(Hp->Prop)->Prop:=λo i v H Q=>∃p xs k j,o= .ref p/\i= .int k/\H p=some (.lst xs)/\zh xs.length k=some j/\Q (aJ H p (.lst (xs.set j v)))
theorem zi:Fb X Fn:=by
 intro pins s σ H o i v ov iv u Q I ro ri rv h;obtain⟨p,xs,k,j,rfl,rfl,hp,hj,q⟩:=h;cases ro;obtain⟨t,rfl⟩:=ri;obtain⟨its,n,r,ho,hz⟩:=I.lst hp;obtain⟨h1,h2,h3,h4⟩:=wC hj;have hl:=r.length;have hn:=lG
 have I':aO X pins σ (aJ H p (.lst (xs.set j v))) {s with heap:=s.heap.update p (Obj.mapSeq (·.setIfInBounds j u))}:=
  I.lstUpd hp ho (uW its n j u) (r.set rv j) (by rw[List.length_set];exact hz) s.toks
 by_cases h0:0<=k
 ·have hk:k.toNat=j:=by
   rw[seqIndex_of h0 h4]at h1;exact Option.some.inj h1
  exact PySem.W.ki_setAt ho h0 (by omega) (by rw[List.size_toArray,<-hl];exact h4) (by rw[hk];exact⟨_,I',q⟩)
 ·have hk:(k+(its.toArray.size:Int)).toNat=j:=by
   rw[seqIndex_neg (by omega) h3]at h1;rw[List.size_toArray,<-hl];exact Option.some.inj h1
  exact PySem.W.ki_setBack ho (by omega) (by rw[List.size_toArray,<-hl];exact h3) (by omega) (by rw[hk];exact⟨_,I',q⟩)
theorem rp(lo hi:Option Int)(n:Nat):(sliceBounds lo hi none n).1=((HT.sIx n 0 lo:Nat):Int)/\(sliceBounds lo hi none n).2.1=((HT.sIx n n hi:Nat):Int)/\(sliceBounds lo hi none n).2.2=1:=by
 refine⟨?_,?_,rfl⟩
 ·cases lo with
  |none=>simp[sliceBounds,HT.sIx]
  |some i=>
   simp only[sliceBounds,HT.sIx,Option.getD_none,show(1:Int)>0 by decide,if_true];by_cases h:i<0
   ·simp only[h,if_true]<;>omega
   ·simp only[h,if_false]<;>omega
 ·cases hi with
  |none=>simp[sliceBounds,HT.sIx]
  |some i=>
   simp only[sliceBounds,HT.sIx,Option.getD_none,show(1:Int)>0 by decide,if_true];by_cases h:i<0
   ·simp only[h,if_true]<;>omega
   ·simp only[h,if_false]<;>omega
theorem pF(its:List Value)(lo hi:Option Int):slicePick its.toArray lo hi none=((its.drop (HT.sIx its.length 0 lo)).take (HT.sIx its.length its.length hi-HT.sIx its.length 0 lo)).toArray:=by
 obtain⟨h1,h2,h3⟩:=rp lo hi its.toArray.size;unfold slicePick;rw[h1,h2,h3];simp only[sliceRange_one,pick_run,List.size_toArray]<;>rfl
def Ht(K:PySem.W.Frag):V->Option Int->Option Int->Hp->VK->Prop:=λx lo hi H Q=>∃a xs,x= .ref a/\aZ K H a xs/\∀p,H p=none->Q (.ref p) (aJ H p (.lst (iA xs lo hi)))
theorem fb:Iq X (Ht X.K):=by
 intro pins s σ H x v vl vu lo hi sl Q I rx hs pl pu h;obtain⟨a,xs,rfl,hx,q⟩:=h;cases rx;obtain⟨its,r,ht,hz⟩:=I.list hx;have hlen:=r.length;refine⟨"list",_,slot_list_getitem.lookup,ht.isList.typeIs,?_⟩;refine wpAny_getItem_list_slice ht.isList hs pl pu .none (by simp) ?_ (by rw[List.size_toArray]<;>omega);rw[pF,<-hlen];refine⟨.ref s.heap.objs.size,_,I.laid (t':=s.toks) (o:= .lst (iA xs lo hi)) (λb ob q=>Heap.get?_push_of_some _ q) (Nat.le_refl _) ?_,rfl,q _ (I.hok.fresh (Nat.le_refl _))⟩;exact⟨Nat.le_trans (sL xs lo hi) hz,_,0,(r.drop (HT.sIx xs.length 0 lo)).take (HT.sIx xs.length xs.length hi-HT.sIx xs.length 0 lo),Heap.get?_push_size _ rfl⟩
def mo:V->Bool
 | .non=>true
 | .bl _=>true
 | .int _=>true
 | .str _=>true
 |_=>false
def Bq:V->V->Bool
 | .non,.non=>true
 | .bl a,.bl b=>a==b
 | .bl a,.int b=>(if a then 1 else 0)==b
 | .int a,.bl b=>a==(if b then 1 else 0)
 | .int a,.int b=>a==b
 | .str a,.str b=>a==b
 |_,_=>false
theorem DB{A:Around}{s:Shared}{y x:V}{u v:Value}(ry:be y u)(rx:be x v)(fy:mo y=true)(fx:mo x=true):SeqAt.EqAt A s u v (Bq y x):=by
 cases y with
 |non=>
  cases ry;cases x with
  |non=>cases rx;exact SeqAt.EqAt.same _
  |bl b=>cases rx;exact SeqAt.EqAt.none_bool b
  |int b=>obtain⟨t,rfl⟩:=rx;exact SeqAt.EqAt.none_int b t
  |str b=>obtain⟨t,rfl⟩:=rx;exact SeqAt.EqAt.none_str b t
  |_=>exact absurd (show false=true from fx) Bool.false_ne_true
 |bl a=>
  cases ry;cases x with
  |non=>cases rx;exact SeqAt.EqAt.bool_none a
  |bl b=>cases rx;exact SeqAt.EqAt.bool_bool a b
  |int b=>obtain⟨t,rfl⟩:=rx;exact SeqAt.EqAt.bool_int a b t
  |str b=>obtain⟨t,rfl⟩:=rx;exact SeqAt.EqAt.bool_str a b t
  |_=>exact absurd (show false=true from fx) Bool.false_ne_true
 |int a=>
  obtain⟨t',rfl⟩:=ry;cases x with
  |non=>cases rx;exact SeqAt.EqAt.int_none a t'
  |bl b=>cases rx;exact SeqAt.EqAt.int_bool a t' b
  |int b=>obtain⟨t,rfl⟩:=rx;exact SeqAt.EqAt.int_int a t' b t
  |str b=>obtain⟨t,rfl⟩:=rx;exact SeqAt.EqAt.int_str a t' b t
  |_=>exact absurd (show false=true from fx) Bool.false_ne_true
 |str a=>
  obtain⟨t',rfl⟩:=ry;cases x with
  |non=>cases rx;exact SeqAt.EqAt.str_none a t'
  |bl b=>cases rx;exact SeqAt.EqAt.str_bool a t' b
  |int b=>obtain⟨t,rfl⟩:=rx;exact SeqAt.EqAt.str_int a t' b t
  |str b=>obtain⟨t,rfl⟩:=rx;exact SeqAt.EqAt.str_str a t' b t
  |_=>exact absurd (show false=true from fx) Bool.false_ne_true
 |_=>exact absurd (show false=true from fy) Bool.false_ne_true
def Br(x:V)(u:Value):Bool:=match u with
 | .none=>Bq .non x
 | .bool b=>Bq (.bl b) x
 | .int i _=>Bq (.int i) x
 | .str z _=>Bq (.str z) x
 |_=>false
theorem zj{x y:V}{u:Value}(r:be y u)(f:mo y=true):Br x u=Bq y x:=by
 cases y with
 |non=>cases r;rfl
 |bl b=>cases r;rfl
 |int i=>obtain⟨t,rfl⟩:=r;rfl
 |str z=>obtain⟨t,rfl⟩:=r;rfl
 |_=>exact absurd (show false=true from f) Bool.false_ne_true
theorem rq{x:V}:∀{xs:List V} {us:List Value},aW xs us->xs.all mo=true->us.any (Br x)=xs.any λy=>Bq y x
 |_,_,.nil,_=>rfl
 |y::xs,u::us,.cons r t,f=>by
  rw[List.all_cons,Bool.and_eq_true]at f;rw[List.any_cons,List.any_cons,zj r f.1,rq t f.2]
theorem nW{A:Around}{s:Shared}{x:V}{v:Value}(rx:be x v)(fx:mo x=true):∀{xs:List V} {us:List Value},aW xs us->xs.all mo=true->∀u∈us,SeqAt.EqAt A s u v (Br x u)
 |_,_,.nil,_=>λu hu=>by cases hu
 |y::xs,u::us,.cons r t,f=>λu' hu=>by
  rw[List.all_cons,Bool.and_eq_true]at f;rcases List.mem_cons.mp hu with rfl|hu
  ·rw[zj r f.1];exact DB r rx f.1 fx
  ·exact nW rx fx t f.2 u' hu
def DC(x:V)(xs:List V):Bool:=xs.any λy=>Bq y x
def II(K:PySem.W.Frag)(neg:Bool):R2:=λx y H Q=>∃p xs,y= .ref p/\(aZ K H p xs\/jN K H p xs)/\mo x=true/\xs.all mo=true/\Q (.bl (if neg then !DC x xs else DC x xs)) H
theorem xH:jS X (compareOp .In) (II X.K false):=by
 intro pins s σ H x y v u Q I rx ry h;obtain⟨p,xs,rfl,hq,fx,fs,q⟩:=h;cases ry;rcases hq with hq|hq
 ·obtain⟨its,r,pl,hz⟩:=I.list hq;refine SeqAt.in_listAt (Br x) pl.isList (λw hw=>nW rx fx r fs w (by simpa using hw)) ⟨.bl _,H,I,rfl,?_⟩;rw[show its.toArray.any (Br x)=its.any (Br x) by simp,rq r fs];exact q
 ·obtain⟨its,r,pl,hz⟩:=I.tuple hq;refine SeqAt.in_tupleAt (Br x) pl (λw hw=>nW rx fx r fs w (by simpa using hw)) ⟨.bl _,H,I,rfl,?_⟩;rw[show its.toArray.any (Br x)=its.any (Br x) by simp,rq r fs];exact q
theorem d9:dB X (.builtin "len") (λxs H Q=>∃p ys,xs=[.ref p]/\(aZ X.K H p ys\/jN X.K H p ys)/\Q (.int ys.length) H):=by
 intro pins s σ H xs us Q I r h;obtain⟨p,ys,rfl,hq,q⟩:=h;obtain⟨u,rfl,rx⟩:=iz r;cases rx;have hn:=lG;rcases hq with hq|hq
 ·obtain⟨its,r',pl,hz⟩:=I.list hq;have hlen:=r'.length;exact Calls.call_len_list pl.isList (by simp only[List.size_toArray]<;>omega) ⟨.int ys.length,H,I.tok _,⟨s.toks+1,by rw[List.size_toArray,hlen]⟩,q⟩
 ·obtain⟨its,r',pl,hz⟩:=I.tuple hq;have hlen:=r'.length;exact len_tuple pl (by simp only[List.size_toArray]<;>omega) ⟨.int ys.length,H,I.tok _,⟨s.toks+1,by rw[List.size_toArray,hlen]⟩,q⟩
theorem rA:dB X (.type "list") (λxs H Q=>∃p ys,xs=[.ref p]/\(aZ X.K H p ys\/jN X.K H p ys)/\∀l,H l=none->Q (.ref l) (aJ H l (.lst ys))):=by
 intro pins s σ H xs us Q I r h;obtain⟨p,ys,rfl,hq,q⟩:=h;obtain⟨u,rfl,rx⟩:=iz r;cases rx
 have fin:∀(its:List Value),aW ys its->ys.length<=sizeLine->∀(h':Heap) (c':Nat),(∀b o',s.heap.get? b=some o'->h'.get? b=some o')->
   h'.get? s.heap.objs.size=some {cls:= .type "list",dict:=none,data:= .seq its.toArray c',slots:=#[]}->EP X pins σ Q (.ref s.heap.objs.size) {s with heap:=h'}:=λits r' hz h' c' kp e=>
  ⟨.ref s.heap.objs.size,_,I.laid (t':=s.toks) kp (Nat.le_refl _) (show bK X.prog X.w _ h' _ (.lst ys)from⟨hz,its,c',r',e⟩),rfl,q _ (I.hok.fresh (Nat.le_refl _))⟩
 rcases hq with hq|hq
 ·obtain⟨its,r',pl,hz⟩:=I.list hq;have hlen:=r'.length;obtain⟨o,ho,hc,n,hd⟩:=pl.isList;exact call_list_seq p (.inl rfl) ho hc hd (λh' c' kp e=>fin its r' hz h' c' kp e) (by simp only[List.size_toArray]<;>omega)
 ·obtain⟨its,r',pl,hz⟩:=I.tuple hq;have hlen:=r'.length;obtain⟨o,ho,hc,n,hd⟩:=pl;exact call_list_seq p (.inr rfl) ho hc hd (λh' c' kp e=>fin its r' hz h' c' kp e) (by simp only[List.size_toArray]<;>omega)
theorem pG:dB X (.type "tuple") (λxs H Q=>∃p ys,xs=[.ref p]/\((aZ X.K H p ys/\∀l,H l=none->Q (.ref l) (aJ H l (.tup ys)))\/(jN X.K H p ys/\Q (.ref p) H))):=by
 intro pins s σ H xs us Q I r h;obtain⟨p,ys,rfl,h⟩:=h;obtain⟨u,rfl,rx⟩:=iz r;cases rx;rcases h with⟨hq,q⟩|⟨hq,q⟩
 ·obtain⟨its,r',pl,hz⟩:=I.list hq;have hlen:=r'.length;refine call_tuple_list pl.isList (λh' kp=> ?_) (by simp only[List.size_toArray]<;>omega);have I1:aO X pins σ H {s with heap:=h'}:=I.kept (t':=s.toks) kp
  have I2:aO X pins σ (aJ H h'.objs.size (.tup ys)) {s with heap:=h'.push {cls:= .type "tuple",data:= .seq its.toArray}}:=
   I1.laid (t':=s.toks) (λb o e=>Heap.get?_push_of_some _ e) (Nat.le_refl _) (show bK X.prog X.w _ _ _ (.tup ys)from⟨hz,its,r',IsTup.new _ _⟩)
  exact⟨.ref h'.objs.size,_,I2,rfl,q _ (I1.hok.fresh (Nat.le_refl _))⟩
 ·obtain⟨its,r',pl,hz⟩:=I.tuple hq;exact call_tuple_same pl ⟨.ref p,H,I,rfl,q⟩
def Hu(K:PySem.W.Frag)(T:String)(x:V)(H:Hp):Prop:=match x with
 | .str _=>T="str"
 | .int _=>T="int"
 | .ref p=>(T="list"/\∃xs,aZ K H p xs)\/(T="tuple"/\∃o,K.lookup p=some o/\o.cls= .type "tuple"/\o.dict=none)\/
   (T="dict"/\((∃kvs,H p=some (.dK kvs))\/∃kvs,H p=some (.dT kvs)))\/(T="set"/\∃S n,H p=some (.set S n))
 |_=>False
theorem zk{pins:List (Addr×Obj)}{σ:St}{H:Hp}{s:Shared}{T:String}{x:V}{v:Value}(I:aO X pins σ H s)(r:be x v)(ty:Hu X.K T x H):
  s.TypeIs v T/\∀a,v= .ref a->∃ob,s.heap.get? a=some ob/\ob.dict=none:=by
 cases x with
 |str z=>
  obtain⟨t,rfl⟩:=r;cases(show T="str" from ty);exact⟨typeIs_str s z t,λ_ e=>nomatch e⟩
 |int i=>
  obtain⟨t,rfl⟩:=r;cases(show T="int" from ty);exact⟨typeIs_int s i t,λ_ e=>nomatch e⟩
 |ref p=>
  cases r;rcases ty with⟨rfl,xs,hq⟩|⟨rfl,o,hk,hc,hd⟩|⟨rfl,hk⟩|⟨rfl,S,n,hk⟩
  ·obtain⟨its,_,pl,_⟩:=I.list hq;refine⟨pl.isList.typeIs,λa e=> ?_⟩;cases e;obtain⟨o,n,e,c,hd,_⟩:=pl;exact⟨o,e,hd⟩
  ·refine⟨⟨o,I.kIn p o hk,hc⟩,λa e=> ?_⟩;cases e;exact⟨o,I.kIn _ o hk,hd⟩
  ·have z:∃o,s.heap.get? p=some o/\o.ExactDict:=by
    rcases hk with⟨kvs,hk⟩|⟨kvs,hk⟩
    ·obtain⟨_,_,_,_,o,_,_,e,ex,_⟩:=I.hok p _ hk;exact⟨o,e,ex⟩
    ·obtain⟨_,_,_,_,o,_,_,e,ex,_⟩:=I.hok p _ hk;exact⟨o,e,ex⟩
   obtain⟨o,e,ex⟩:=z;refine⟨⟨o,e,ex.1⟩,λa e2=> ?_⟩;cases e2;exact⟨o,e,ex.2.1⟩
  ·obtain⟨o,_,_,_,e,ex,_⟩:=I.hok p _ hk;refine⟨⟨o,e,ex.1⟩,λa e2=> ?_⟩;cases e2;exact⟨o,e,ex.2.1⟩
 |_=>exact False.elim ty
def Hv(K:PySem.W.Frag)(T:String)(r:V->List V->Hp->VK->Prop)(to:TE):TE:=λσ H Q=>to σ H λx H1=>Hu K T x H1/\r x [] H1 Q
def IJ(K:PySem.W.Frag)(T:String)(r:V->List V->Hp->VK->Prop)(to:TE)(t:TA):TE:=λσ H Q=>to σ H λx H1=>Hu K T x H1/\t σ H1 λxs H2=>r x xs H2 Q
variable{o e:Expr}{es:List Expr}{to:TE}{t:TA}{name:Str}{apos cpos:Pos}{T id:String}{r:V->List V->Hp->VK->Prop}
theorem zl(pa:PlainAttrs T)(slot:Slot T name id)(hty:typeOf (.builtin id)=pure (.type "method_descriptor"))(hm:CY X id r)(ho:PE X o to)
  (hbase:attributeBase o name X.env (eval o X.env)=eval o X.env:=by rfl)(hline:(apos.endLine==cpos.line)=true:=by rfl):PE X (.Call (.Attribute o name apos) [] [] cpos) (Hv X.K T r to):=by
 intro pins s σ H Q I h;refine wpAny_Call_method0_late hbase hline (bC (ho pins s σ H _ I h) λv s1 ⟨x,H1,I1,r1,ty,q1⟩=> ?_);obtain⟨h1,h2⟩:=zk I1 r1 ty;exact⟨T,id,pa,slot,hty,h1,h2,Calls.callWith_builtin rfl (PySem.evalArgs_none (hm pins s1 σ H1 x [] v [] Q I1 r1 .nil q1))⟩
theorem CZ(pa:PlainAttrs T)(slot:Slot T name id)(hty:typeOf (.builtin id)=pure (.type "method_descriptor"))(hm:CY X id r)(ho:PE X o to)(ha:PA X (e::es) t)
  (hbase:attributeBase o name X.env (eval o X.env)=eval o X.env:=by rfl)
  (hfew:((backTo cpos (starEach (e::es) X.env)).all (λx=> !x.1)&&(backToKw cpos (keywordEach [] X.env)).all (λx=>x.1.isSome)
   &&decide ((e::es).length+([]:List Keyword).length+(if([]:List Keyword).isEmpty then 0 else 1)<30))=true:=by rfl)
  (hline:(apos.endLine==cpos.line)=true:=by rfl)(hs:starEach (e::es) X.env=(false,eval e X.env)::starEach es X.env:=by rfl)(hplain:(backTo cpos (starEach es X.env)).any (·.1)=false:=by rfl):
  PE X (.Call (.Attribute o name apos) (e::es) [] cpos) (IJ X.K T r to t):=by
 intro pins s σ H Q I h;refine wpAny_Call_method_late hbase hfew hline rfl (bC (ho pins s σ H _ I h) λv s1 ⟨x,H1,I1,r1,ty,q1⟩=> ?_);obtain⟨h1,h2⟩:=zk I1 r1 ty;refine⟨T,id,pa,slot,hty,h1,h2,?_⟩;have hA:=ha cpos pins s1 σ H1 _ I1 q1;rw[hs]at hA⊢;refine Calls.callWith_builtin (by show(false||(backTo cpos (starEach es X.env)).any (·.1))=false;rw[hplain]<;>rfl) (Calls.evalArgs_plain ?_);exact bC hA λus s2 ⟨vs,H2,I2,r2,q2⟩=>hm pins s2 σ H2 x vs v us Q I2 r1 r2 q2
end
end L2
namespace L2
open PySem PySem.Spec PyProof.Rows
def G1(X:Cx)(id:String)(r:V->List V->Hp->VK->Prop):Prop:=
 ∀(pins:List (Addr×Obj)) (s:Shared) (σ:St) (H:Hp) (x:V) (xs:List V) (v:Value) (us:List Value) (Q:VK),aO X pins σ H s->be x v->aW xs us->r x xs H Q->
  wpAny (model X.prog X.w) X.A (call (.builtin id) (v::us)) (EP X pins σ Q) X.xe s
theorem aW.one:∀{x:V} {us:List Value},aW [x] us->∃u,us=[u]/\be x u
 |_,_,.cons r .nil=>⟨_,rfl,r⟩
theorem aW.zero:∀{us:List Value},aW [] us->us=[]
 |_,.nil=>rfl
theorem aW.dropLast{xs:List V}{us:List Value}(h:aW xs us):aW xs.dropLast us.dropLast:=by
 induction h with
 |nil=>exact .nil
 |cons r t ih=>
  cases t with
  |nil=>exact .nil
  |cons q t'=>exact .cons r ih
theorem uX{α:Type}(l:List α):l.eraseIdx (l.length-1)=l.dropLast:=by
 induction l with
 |nil=>rfl
 |cons a r ih=>
  cases r with
  |nil=>rfl
  |cons b r=>
   have e:(a::b::r).length-1=((b::r).length-1)+1:=by
    have h1:(a::b::r).length=r.length+2:=rfl;have h2:(b::r).length=r.length+1:=rfl;omega
   rw[e,List.eraseIdx_cons_succ,ih];all_goals rfl
section
variable{X:Cx}{pins:List (Addr×Obj)}{σ:St}{H:Hp}{s:Shared}{l b:Addr}{xs ys zs:List V}
theorem aO.lset{its its':List Value}{n:Nat}{f:Array Value->Array Value}{t':Nat}(I:aO X pins σ H s)(hH:H l=some (.lst xs))
  (e:s.heap.get? l=some {cls:= .type "list",data:= .seq its.toArray n})(hf:f its.toArray=its'.toArray)(hv:aW ys its')(hz:ys.length<=sizeLine):
  aO X pins σ (aJ H l (.lst ys)) {s with heap:=s.heap.update l (Obj.mapSeq f),toks:=t'}:=by
 have q:=PySem.IsL.update e f;rw[hf]at q;refine I.write (x:=l) (e:=l) (by rw[hH];exact trivial) (.inl rfl) (λb' u hb hu=>(Heap.get?_update_other s.heap (Obj.mapSeq f) (Ne.symm hb)).trans hu) ⟨_,q⟩ ?_;exact⟨hz,its',_,hv,q⟩
theorem aO.lnew{its:List Value}{t':Nat}(I:aO X pins σ H s)(hv:aW ys its)(hz:ys.length<=sizeLine):
  aO X pins σ (aJ H s.heap.objs.size (.lst ys)) {s with heap:=s.heap.push {cls:= .type "list",data:= .seq its.toArray},toks:=t'}:=
 I.laid (λ_ _ q=>Heap.get?_push_of_some _ q) (Nat.le_refl _) ⟨hz,its,0,hv,Heap.get?_push_size _ rfl⟩
theorem aO.fresh(I:aO X pins σ H s):H s.heap.objs.size=none:=I.hok.fresh (Nat.le_refl _)
theorem aO.lstM(I:aO X pins σ H s)(hH:H l=some (.lst xs)):xs.length<=sizeLine/\∃(its:List Value) (n:Nat),aW xs its/\xs.length=its.length/\s.heap.get? l=some {cls:= .type "list",data:= .seq its.toArray n}:=by
 obtain⟨z,its,n,r,e⟩:=I.hok l _ hH;exact⟨z,its,n,r,r.length,e⟩
theorem sM{n:Nat}(h:n<=sizeLine):Builtin.List.listTooLong n=false:=by
 unfold Builtin.List.listTooLong;exact decide_eq_false (by omega)
end
section
variable{X:Cx}
def Bs:V->List V->Hp->VK->Prop:=λx vs H Q=>∃l xs y,x= .ref l/\vs=[y]/\H l=some (.lst xs)/\xs.length<sizeLine/\Q .non (aJ H l (.lst (xs++[y])))
theorem xI:G1 X "list.append" Bs:=by
 intro pins s σ H x vs v us Q I rx rv h;obtain⟨l,xs,y,rfl,rfl,hH,hz,q⟩:=h;cases rx;obtain⟨u,rfl,ru⟩:=rv.one;obtain⟨z,its,n,r,hl,e⟩:=I.lstM hH;refine call_meets F.slot_list_append ⟨_,e,rfl⟩ F.entry_list_append (F.args_list_append_2 _ _) (PySem.list_append l its.toArray n u (by rw[List.size_toArray];omega)) ⟨e,?_⟩;refine⟨.non,_,I.lset (its':=its++[u]) hH e (by simp) (r.append (.cons ru .nil)) ?_,rfl,q⟩;rw[List.length_append,List.length_singleton];omega
def wD:V->List V->Hp->VK->Prop:=λx vs H Q=>∃l b xs zs,x= .ref l/\vs=[.ref b]/\H l=some (.lst xs)/\H b=some (.lst zs)/\xs.length+zs.length<=sizeLine/\Q .non (aJ H l (.lst (xs++zs)))
theorem xJ:G1 X "list.extend" wD:=by
 intro pins s σ H x vs v us Q I rx rv h;obtain⟨l,b,xs,zs,rfl,rfl,hH,hB,hz,q⟩:=h;cases rx;obtain⟨u,rfl,ru⟩:=rv.one;cases ru;obtain⟨z,its,n,r,hl,e⟩:=I.lstM hH;obtain⟨z2,its2,n2,r2,hl2,e2⟩:=I.lstM hB;have hsz:its.toArray.size+its2.toArray.size<=sizeLine:=by rw[List.size_toArray,List.size_toArray];omega
 have hlong:¬(!its.toArray.isEmpty&&Builtin.List.listTooLong (its.toArray.size+its2.toArray.size))=true:=by
  rw[sM hsz,Bool.and_false];exact Bool.false_ne_true
 refine call_meets F.slot_list_extend ⟨_,e,rfl⟩ F.entry_list_extend (F.args_list_extend_2 _ _)
  (AutoSeq1.list_extend_list_list_0 l its.toArray n b its2.toArray n2 hlong (by rw[List.size_toArray];omega) (by omega)) ⟨e,e2,?_⟩
 refine⟨.non,_,I.lset (its':=its++its2) hH e (by simp) (r.append r2) ?_,rfl,q⟩;rw[List.length_append];omega
def Hw:V->List V->Hp->VK->Prop:=λx vs H Q=>∃l xs y,x= .ref l/\vs=[]/\H l=some (.lst xs)/\xs[xs.length-1]? =some y/\Q y (aJ H l (.lst xs.dropLast))
theorem zm:G1 X "list.pop" Hw:=by
 intro pins s σ H x vs v us Q I rx rv h;obtain⟨l,xs,y,rfl,rfl,hH,hy,q⟩:=h;cases rx;have hus:=rv.zero;subst hus;obtain⟨z,its,n,r,hl,e⟩:=I.lstM hH;obtain⟨u,hu,ru⟩:=r.get hy
 have hy':its.toArray[its.toArray.size-1]? =some u:=by
  show its.toArray[its.length-1]? =some u;rw[<-Array.getElem?_toList,<-hl];exact hu
 refine call_meets F.slot_list_pop ⟨_,e,rfl⟩ F.entry_list_pop (F.args_list_pop_1 _) (MeetsSeq.list_pop_last l its.toArray n u hy' (by rw[List.size_toArray];omega)) ⟨e,?_⟩;refine⟨y,_,I.lset (its':=its.dropLast) hH e ?_ r.dropLast ?_,ru,q⟩
 ·show its.toArray.eraseIdxIfInBounds (its.toArray.size-1)=its.dropLast.toArray;rw[List.size_toArray,List.eraseIdxIfInBounds_toArray,uX]
 ·rw[List.length_dropLast];omega
def Fo:R2:=λx y H Q=>∃l b xs zs,x= .ref l/\y= .ref b/\H l=some (.lst xs)/\H b=some (.lst zs)/\xs.length+zs.length<=sizeLine/\∀p,H p=none->Q (.ref p) (aJ H p (.lst (xs++zs)))
theorem cC:jS X (binaryOp .Add) Fo:=by
 intro pins s σ H x y v u Q I rx ry h;obtain⟨l,b,xs,zs,rfl,rfl,hH,hB,hz,q⟩:=h;cases rx;cases ry;obtain⟨z,its,n,r,hl,e⟩:=I.lstM hH;obtain⟨z2,its2,n2,r2,hl2,e2⟩:=I.lstM hB;refine PySem.P.add_list e e2 ?_ (by rw[List.size_toArray,List.size_toArray];omega);have ea:its.toArray++its2.toArray=(its++its2).toArray:=by simp
 rw[ea];exact⟨.ref _,_,I.lnew (t':=s.toks) (r.append r2) (by rw[List.length_append];omega),rfl,q _ I.fresh⟩
end
section
variable{prog:Program}{w:World}{A:Around}{E:Value->Shared->Prop}{s:Shared}
set_option maxRecDepth 100000 in
end
end L2
namespace L2
open PySem PySem.Spec PyProof.Rows
theorem aW.ints:∀{ns:List Int} {us:List Value},aW (ns.map V.int) us->IntsAre us ns
 |[],us,h=>by
  rw[List.map_nil]at h;cases h;exact IntsAre.nil
 |n::ns,us,h=>by
  rw[List.map_cons]at h;cases h with
  |cons r t=>
   obtain⟨k,rfl⟩:=r;exact IntsAre.cons n k (aW.ints t)
theorem aW.bls:∀{bs:List Bool} {us:List Value},aW (bs.map V.bl) us->us=bs.map Value.bool
 |[],us,h=>by
  rw[List.map_nil]at h;cases h;rfl
 |b::bs,us,h=>by
  rw[List.map_cons]at h;cases h with
  |cons r t=>
   cases r;rw[aW.bls t,List.map_cons]
theorem aW.ref1{a:Addr}{us:List Value}(r:aW [V.ref a] us):us=[Value.ref a]:=by
 cases r with
 |cons r t=>
  cases t;cases r
  rfl
section
variable{prog:Program}{w:World}{A:Around}{E:Value->Shared->Prop}{s:Shared}{l:Addr}{its:List Value}{ns:List Int}{Q:Value->Shared->Prop}
theorem Bt(hh:A.handled=none)(hl:s.heap.IsList l its.toArray)(hi:IntsAre its ns)
  (h:∀h' tk t',(∀b o,s.heap.get? b=some o->h'.get? b=some o)->Q (.int ns.sum t') {s with heap:=h',toks:=tk}):wpAny (model prog w) A (call (.builtin "sum") [.ref l]) Q E s:=by
 obtain⟨xs,e⟩:=hi.allInts.items;have hn:numsOf (intItems xs).toList=ns:=by rw[<-e];exact hi.numsOf
 rw[nums_intItems]at hn;rw[e]at hl;refine PySem.sum_intListG hh hl λh' tk t' hk=> ?_
 have :=h h' tk t' hk;rw[preSum_eq,List.take_of_length_le (by simp),hn];exact this
end
section
variable{X:Cx}
def Fp(K:PySem.W.Frag):List V->Hp->VK->Prop:=λvs H Q=>∃(a:Addr) (ns:List Int),vs=[V.ref a]/\aZ K H a (ns.map V.int)/\Q (.int ns.sum) H
theorem DD(hc:X.calm=true):dB X (.builtin "sum") (Fp X.K):=by
 intro pins s σ H vs us Q I r h;obtain⟨a,ns,rfl,hs,q⟩:=h;obtain⟨its,rv,hl,_⟩:=I.list hs;rw[aW.ref1 r];exact Bt (I.ok.hd hc) hl.isList rv.ints λh' tk t' hk=>⟨.int _,H,I.kept hk,⟨_,rfl⟩,q⟩
end
theorem sN{prog:Program}{w:World}{A:Around}{E:Value->Shared->Prop}{s:Shared}{l:Addr}{items:Array Value}{Q:Value->Shared->Prop}(hl:s.heap.IsList l items)
  (h:∀s₂:Shared,s₂={s with heap:=s.heap.push {cls:= .type "list_iterator",data:= .fields #[.ref l,.int 0 0]}}->
   (s₂.heap.IsListIter s.heap.objs.size l 0/\s₂.heap.IsList l items)->l≠s.heap.objs.size->Q (.ref s.heap.objs.size) s₂):wpAny (model prog w) A (pyIter (.ref l)) Q E s:=by
 have hlt:l<s.heap.objs.size:=by obtain⟨_,e,_⟩:=hl;exact Heap.lt_size e
 exact wpAny_pyIter_list hl (h _ rfl ⟨⟨_,Heap.get?_push_size _ rfl,rfl,rfl⟩,hl.push _⟩ (Nat.ne_of_lt hlt))
theorem mq{prog:Program}{w:World}{A:Around}{bs:List Bool}{its:List Value}(e:its=bs.map Value.bool):
  TruthOf prog w A (λi v=>its.toArray[i]? =some v) (λi=>bs.getD i false):=λi v s Q E hv hq=>by
 have hv':its[i]? =some v:=by simpa using hv
 rw[e,List.getElem?_map]at hv';obtain⟨b,hb,rfl⟩:=Option.map_eq_some_iff.mp hv';have hg:bs.getD i false=b:=by rw[List.getD_eq_getElem?_getD,hb]<;>rfl
 have hq':Q (bs.getD i false) s:=hq;rw[hg]at hq';exact wpAny_truthy_bool hq'
theorem pZ:∀bs:List Bool,(List.range bs.length).any (λi=>bs.getD i false)=bs.any id
 |[]=>rfl
 |b::bs=>by
  rw[List.length_cons,List.range_succ_eq_map,List.any_cons,List.any_map,List.any_cons,<-pZ bs];all_goals rfl
theorem p8:∀bs:List Bool,(List.range bs.length).all (λi=>bs.getD i false)=bs.all id
 |[]=>rfl
 |b::bs=>by
  rw[List.length_cons,List.range_succ_eq_map,List.all_cons,List.all_map,List.all_cons,<-p8 bs];all_goals rfl
section
variable{X:Cx}
def Fq(K:PySem.W.Frag):List V->Hp->VK->Prop:=λvs H Q=>∃(a:Addr) (bs:List Bool),vs=[V.ref a]/\aZ K H a (bs.map V.bl)/\Q (.bl (bs.any id)) H
def Fs(K:PySem.W.Frag):List V->Hp->VK->Prop:=λvs H Q=>∃(a:Addr) (bs:List Bool),vs=[V.ref a]/\aZ K H a (bs.map V.bl)/\Q (.bl (bs.all id)) H
theorem DE(hc:X.calm=true):dB X (.builtin "any") (Fq X.K):=by
 intro pins s σ H vs us Q I r h;obtain⟨a,bs,rfl,hs,q⟩:=h;obtain⟨its,rv,hl,_⟩:=I.list hs;rw[aW.ref1 r];have hb:=rv.bls;refine call_any_walk (sN hl.isList λs₂ e2 st hne=> ?_);subst e2;refine⟨_,_,_,_,_,_,_,rfl,Walks.list (A:=X.A.in1) (I.ok.hd hc) _ a hne its.toArray,st,mq hb,λh' tk hk=> ?_⟩;refine⟨.bl _,H,I.kept λb o eo=>hk b o (λhmem=> ?_) (Heap.get?_push_of_some _ eo),?_,q⟩
 ·rcases List.mem_cons.mp hmem with e1|hmem
  ·exact absurd (e1▸Heap.lt_size eo) (Nat.lt_irrefl _)
  ·cases hmem
 ·show Value.bool _=Value.bool _;rw[<-pZ,hb,List.size_toArray,List.length_map]
theorem DF(hc:X.calm=true):dB X (.builtin "all") (Fs X.K):=by
 intro pins s σ H vs us Q I r h;obtain⟨a,bs,rfl,hs,q⟩:=h;obtain⟨its,rv,hl,_⟩:=I.list hs;rw[aW.ref1 r];have hb:=rv.bls;refine call_all_walk (sN hl.isList λs₂ e2 st hne=> ?_);subst e2;refine⟨_,_,_,_,_,_,_,rfl,Walks.list (A:=X.A.in1) (I.ok.hd hc) _ a hne its.toArray,st,mq hb,λh' tk hk=> ?_⟩;refine⟨.bl _,H,I.kept λb o eo=>hk b o (λhmem=> ?_) (Heap.get?_push_of_some _ eo),?_,q⟩
 ·rcases List.mem_cons.mp hmem with e1|hmem
  ·exact absurd (e1▸Heap.lt_size eo) (Nat.lt_irrefl _)
  ·cases hmem
 ·show Value.bool _=Value.bool _;rw[<-p8,hb,List.size_toArray,List.length_map]
end
mutual
inductive Dp(K:PySem.W.Frag)(H:Hp):V->PyData->Prop
 |non:Dp K H .non .none
 |bl (b:Bool):Dp K H (.bl b) (.bool b)
 |int (i:Int):Dp K H (.int i) (.int i)
 |str (x:Str):Dp K H (.str x) (.str x)
 |lst {a:Addr} {xs:List V} {ds:List PyData}:aZ K H a xs->nX K H xs ds->Dp K H (.ref a) (.list ds)
 |tup {a:Addr} {xs:List V} {ds:List PyData}:jN K H a xs->nX K H xs ds->Dp K H (.ref a) (.tuple ds)
inductive nX(K:PySem.W.Frag)(H:Hp):List V->List PyData->Prop
 |nil:nX K H [] []
 |cons {v:V} {vs:List V} {d:PyData} {ds:List PyData}:Dp K H v d->nX K H vs ds->nX K H (v::vs) (d::ds)
end
section
variable{X:Cx}{pins:List (Addr×Obj)}{σ:St}{H:Hp}{s:Shared}
mutual
theorem Dp.reads(I:aO X pins σ H s):∀(d:PyData) (v:V) (u:Value),Dp X.K H v d->be v u->∃as,Reads s.heap u d as
 | .none,_,_,h,r=>by
  cases h;cases r
  exact⟨_,Reads.none⟩
 | .bool b,_,_,h,r=>by
  cases h;cases r
  exact⟨_,Reads.bool b⟩
 | .int i,_,_,h,r=>by
  cases h;obtain⟨t,rfl⟩:=r;exact⟨_,Reads.int i t⟩
 | .str x,_,_,h,r=>by
  cases h;obtain⟨t,rfl⟩:=r;exact⟨_,Reads.str x t⟩
 | .list ds,_,_,h,r=>by
  cases h with
  |lst hs ha=>
   cases r;obtain⟨its,rv,⟨o,n,ho,hc,_,hd⟩,_⟩:=I.list hs
   obtain⟨as,hr⟩:=Dp.readsAll I ds _ its ha rv;exact⟨_,Reads.list ho hc hd hr⟩
 | .tuple ds,_,_,h,r=>by
  cases h with
  |tup hs ha=>
   cases r;obtain⟨its,rv,⟨o,ho,hc,n,hd⟩,_⟩:=I.tuple hs
   obtain⟨as,hr⟩:=Dp.readsAll I ds _ its ha rv;exact⟨_,Reads.tuple ho hc hd hr⟩
 | .dict _,_,_,h,_=>by cases h
theorem Dp.readsAll(I:aO X pins σ H s):∀(ds:List PyData) (vs:List V) (us:List Value),nX X.K H vs ds->aW vs us->∃as,ReadsAll s.heap us ds as
 |[],_,_,h,r=>by
  cases h;cases r
  exact⟨_,ReadsAll.nil⟩
 |d::ds,_,_,h,r=>by
  cases h with
  |cons h1 h2=>
   cases r with
   |cons r1 r2=>
    obtain⟨as,q1⟩:=Dp.reads I d _ _ h1 r1;obtain⟨bs,q2⟩:=Dp.readsAll I ds _ _ h2 r2;exact⟨_,ReadsAll.cons q1 q2⟩
end
end
section
variable{X:Cx}
def Hx(K:PySem.W.Frag):R2:=λx y H Q=>∃d e,Dp K H x d/\Dp K H y e/\SeqAt.shaped d=true/\SeqAt.shaped e=true/\Q (.bl (PyData.eqv d e)) H
def Hy(K:PySem.W.Frag):R2:=λx y H Q=>∃d e,Dp K H x d/\Dp K H y e/\SeqAt.shaped d=true/\SeqAt.shaped e=true/\Q (.bl (!PyData.eqv d e)) H
theorem DG(hu:X.A.units+64<cLine):jS X (compareOp .Eq) (Hx X.K):=by
 intro pins s σ H x y v u Q I rx ry h;obtain⟨d,e,hd,he,sd,se,q⟩:=h;obtain⟨as,r1⟩:=Dp.reads I d x v hd rx;obtain⟨bs,r2⟩:=Dp.reads I e y u he ry;exact SeqAt.compareEq_shaped r1 r2 sd se hu ⟨.bl _,H,I,rfl,q⟩
theorem DH(hu:X.A.units+64<cLine):jS X (compareOp .NotEq) (Hy X.K):=by
 intro pins s σ H x y v u Q I rx ry h;obtain⟨d,e,hd,he,sd,se,q⟩:=h;obtain⟨as,r1⟩:=Dp.reads I d x v hd rx;obtain⟨bs,r2⟩:=Dp.reads I e y u he ry;exact SeqAt.compareNe_shaped r1 r2 sd se hu ⟨.bl _,H,I,rfl,q⟩
end
end L2
namespace L2
open PySem PySem.Spec PyProof.Rows
abbrev zn(h:Heap)(c:Addr)(v:Option Value):Prop:=h.IsCell c v
def Hz(scope sc:Scope):Scope:=
 {scope with names:=scope.names.map λ(n,k)=>if(k== .free&&sc.kind== .function&&sc.names.lookup n==some .cell)then(n,.cell)else(n,k)}
def bA(cells:List (Str×Addr)):List (Str×NameKind)->List (Str×Addr)->List (Str×Addr)
 |[],acc=>acc
 |(n,k)::r,acc=>if k== .free then bA cells r ((n,(cells.lookup n).getD 0)::acc)else bA cells r acc
theorem kz(env:Env)(f:Str×NameKind->List (Str×Addr)->Sem (ForInStep (List (Str×Addr))))
  (hf:∀n k c,f (n,k) c=if k== .free then(do let a<-cellOf env n;pure (.yield ((n,a)::c)))else pure (.yield c)):
  ∀(names:List (Str×NameKind)) (acc:List (Str×Addr)),(∀y∈names,y.2= .free->∃c,env.cells.lookup y.1=some c)->forIn names acc f=pure (bA env.cells names acc)
 |[],acc,_=>by rw[List.forIn_nil];rfl
 |(n,k)::r,acc,h=>by
  rw[List.forIn_cons,hf];have ih:=λacc=>kz env f hf r acc λy hy=>h y (List.mem_cons_of_mem _ hy)
  unfold bA;by_cases hk:(k==NameKind.free)=true
  ·rw[if_pos hk,if_pos hk];obtain⟨c,hc⟩:=h (n,k) List.mem_cons_self (by simpa using hk);have e:cellOf env n=pure c:=by unfold cellOf;rw[hc]
   rw[e];have e2:(env.cells.lookup n).getD 0=c:=by rw[hc];rfl
   rw[e2];exact ih _
  ·rw[if_neg hk,if_neg hk];exact ih _
theorem uY{scope:Scope}{env:Env}(h:∀y∈scope.names,y.2= .free->∃c,env.cells.lookup y.1=some c):closureFor scope env=pure (bA env.cells scope.names []):=by
 simp only[closureFor];rw[kz env _ (λn k c=>rfl) scope.names [] h];rfl
theorem jV{α:Type}:∀{l:List (Str×α)} {n:Str} {c:α},(n,c)∈l->∃c',l.lookup n=some c'
 |(k,v)::r,n,c,h=>by
  rw[List.lookup_cons];cases hb:n==k with
  |true=>exact⟨_,rfl⟩
  |false=>
   rcases List.mem_cons.mp h with e|h
   ·cases e;simp at hb
   ·exact jV h
theorem fi{cells:List (Str×Addr)}:∀{names:List (Str×NameKind)} {acc:List (Str×Addr)} {n:Str} {c:Addr},(n,c)∈bA cells names acc->(n,c)∈acc\/((n,.free)∈names/\c=(cells.lookup n).getD 0)
 |[],_,_,_,h=> .inl h
 |(m,k)::r,acc,n,c,h=>by
  unfold bA at h;split at h
  ·rename_i hk;have hk:k= .free:=by simpa using hk
   rcases fi h with h|⟨h1,h2⟩
   ·rcases List.mem_cons.mp h with e|h
    ·cases e;exact .inr ⟨hk▸List.mem_cons_self,rfl⟩
    ·exact .inl h
   ·exact .inr ⟨List.mem_cons_of_mem _ h1,h2⟩
  ·rcases fi h with h|⟨h1,h2⟩
   ·exact .inl h
   ·exact .inr ⟨List.mem_cons_of_mem _ h1,h2⟩
theorem iC{cells:List (Str×Addr)}:∀{names:List (Str×NameKind)} {acc:List (Str×Addr)} {p:Str×Addr},p∈acc->p∈bA cells names acc
 |[],_,_,h=>h
 |(m,k)::r,acc,p,h=>by
  unfold bA;split
  ·exact iC (List.mem_cons_of_mem _ h)
  ·exact iC h
theorem iD{cells:List (Str×Addr)}:∀{names:List (Str×NameKind)} {acc:List (Str×Addr)} {n:Str},(n,.free)∈names->(n,(cells.lookup n).getD 0)∈bA cells names acc
 |(m,k)::r,acc,n,h=>by
  unfold bA;rcases List.mem_cons.mp h with e|h
  ·cases e;exact iC List.mem_cons_self
  ·split
   ·exact iD h
   ·exact iD h
theorem fV:∀{names:List (Str×NameKind)} {h:Heap} {acc:List (Str×Addr)} {x:Str} {c:Addr},(x,c)∈cellsFrom h.objs.size names acc->
  (x,c)∈acc\/((x,.cell)∈names/\h.objs.size<=c/\zn (pushCells h names) c none)
 |[],_,_,_,_,h=> .inl h
 |(n,k)::r,h,acc,x,c,hm=>by
  unfold cellsFrom at hm;unfold pushCells;split at hm
  ·rename_i hk;rw[if_pos hk];have hk:k= .cell:=by simpa using hk
   rw[<-Heap.size_push h {cls:= .type "cell",data:= .cell none}]at hm;rcases fV hm with hm|⟨h1,h2,h3⟩
   ·rcases List.mem_cons.mp hm with e|hm
    ·cases e;exact .inr ⟨hk▸List.mem_cons_self,Nat.le_refl _,_,pushCells_keeps r _ _ _ (Heap.get?_push_size _ rfl),rfl⟩
    ·exact .inl hm
   ·rw[Heap.size_push]at h2;exact .inr ⟨List.mem_cons_of_mem _ h1,Nat.le_of_succ_le h2,h3⟩
  ·rename_i hk;rw[if_neg hk];rcases fV hm with hm|⟨h1,h2,h3⟩
   ·exact .inl hm
   ·exact .inr ⟨List.mem_cons_of_mem _ h1,h2,h3⟩
theorem ji:∀{names:List (Str×NameKind)} {n:Nat} {acc:List (Str×Addr)} {p:Str×Addr},p∈acc->p∈cellsFrom n names acc
 |[],_,_,_,h=>h
 |(m,k)::r,n,acc,p,h=>by
  unfold cellsFrom;split
  ·exact ji (List.mem_cons_of_mem _ h)
  ·exact ji h
theorem lI:∀{names:List (Str×NameKind)} {n:Nat} {acc:List (Str×Addr)} {x:Str},(x,.cell)∈names->∃c,(x,c)∈cellsFrom n names acc
 |(m,k)::r,n,acc,x,h=>by
  unfold cellsFrom;rcases List.mem_cons.mp h with e|h
  ·cases e;exact⟨n,ji List.mem_cons_self⟩
  ·split
   ·exact lI h
   ·exact lI h
theorem lJ:∀{names:List (Str×NameKind)} {h:Heap} {acc:List (Str×Addr)} {x y:Str} {c:Addr},(∀p∈acc,p.2<h.objs.size)->(∀x y c,(x,c)∈acc->(y,c)∈acc->x=y)->
  (x,c)∈cellsFrom h.objs.size names acc->(y,c)∈cellsFrom h.objs.size names acc->x=y
 |[],_,_,_,_,_,_,hi,h1,h2=>hi _ _ _ h1 h2
 |(n,k)::r,h,acc,x,y,c,hl,hi,h1,h2=>by
  unfold cellsFrom at h1 h2;split at h1
  ·rename_i hk;rw[if_pos hk]at h2;rw[<-Heap.size_push h {cls:= .type "cell",data:= .cell none}]at h1 h2;refine lJ (h:=h.push _) (λp hp=> ?_) (λx y c a b=> ?_) h1 h2
   ·rw[Heap.size_push];rcases List.mem_cons.mp hp with rfl|hp
    ·exact Nat.lt_succ_self _
    ·exact Nat.lt_succ_of_lt (hl p hp)
   ·rcases List.mem_cons.mp a with e|a<;>rcases List.mem_cons.mp b with e'|b
    ·cases e;cases e';rfl
    ·cases e;exact absurd (hl _ b) (Nat.lt_irrefl _)
    ·cases e';exact absurd (hl _ a) (Nat.lt_irrefl _)
    ·exact hi _ _ _ a b
  ·rename_i hk;rw[if_neg hk]at h2;exact lJ hl hi h1 h2
theorem sO{M:Model}{A:Around}{E:Value->Shared->Prop}{s:Shared}{scope:Scope}{globals:Addr}{closure:List (Str×Addr)}{qual:Str}{func:Option Addr}{code:Value}{around:Env}{builtins:Addr}{Q:Env->Shared->Prop}
  (h:Q (newEnv scope s.heap.objs.size globals (cellsFrom (s.heap.objs.size+1) scope.names closure) qual func code (some around) builtins)
   {s with heap:=pushCells (s.heap.push {cls:= .type "dict",data:= .dict #[]}) scope.names}):
  wpAny M A (newFunctionEnv scope globals closure [] qual func code (some around) builtins) Q E s:=by
 simp only[newFunctionEnv,Option.isSome_some,if_true];refine wpAny_bind (wpAny_alloc ?_);refine wpAny_bind (wpAny_layCells _ (λn k c=>rfl) scope.names closure _ _ ?_);rw[show({s with heap:=s.heap.push {cls:= .type "dict",data:= .dict #[]}}:Shared).heap.objs.size=s.heap.objs.size+1 from Heap.size_push ..];rw[List.forIn_nil];exact wpAny_bind (wpAny_pure (wpAny_pure h))
theorem iE{sc:Scope}:∀{names:List (Str×NameKind)} {x:Str} {k:NameKind},
  (names.map λ(n,k)=>if(k==NameKind.free&&sc.kind== .function&&sc.names.lookup n==some .cell)then(n,NameKind.cell)else(n,k)).lookup x=some k->
  ∃k',names.lookup x=some k'/\(k=k'\/(k'= .free/\k= .cell))
 |[],_,_,h=>by simp at h
 |(n,k₀)::r,x,k,h=>by
  have ih:= @iE sc r x k;have h':List.lookup x ((if(k₀==NameKind.free&&sc.kind== .function&&sc.names.lookup n==some .cell)=true then(n,NameKind.cell)else(n,k₀))::(r.map _))=some k:=h;cases hx:x==n with
  |true=>
   simp only[List.lookup_cons,hx];by_cases hc:(k₀==NameKind.free&&sc.kind== .function&&sc.names.lookup n==some .cell)=true
   ·rw[if_pos hc]at h';simp only[List.lookup_cons,hx]at h';cases h';simp only[Bool.and_eq_true,beq_iff_eq]at hc;exact⟨k₀,rfl,.inr ⟨hc.1.1,rfl⟩⟩
   ·rw[if_neg hc]at h';simp only[List.lookup_cons,hx]at h';cases h';exact⟨_,rfl,.inl rfl⟩
  |false=>
   simp only[List.lookup_cons,hx];by_cases hc:(k₀==NameKind.free&&sc.kind== .function&&sc.names.lookup n==some .cell)=true
   ·rw[if_pos hc]at h';simp only[List.lookup_cons,hx]at h';exact ih h'
   ·rw[if_neg hc]at h';simp only[List.lookup_cons,hx]at h';exact ih h'
structure qc(N:List Str)(sc scope:Scope)(own:List (Str×Nat)):Prop where
 kind:scope.kind= .function
 uniq:∀y∈scope.names,scope.names.lookup y.1=some y.2
 ix:∀p∈own,N[p.2]? =some p.1
 free:∀y∈scope.names,y.2= .free->sc.names.lookup y.1=some .cell\/sc.names.lookup y.1=some .free
 own:∀y∈scope.names,y.2= .local\/y.2= .cell->y.1∈own.map (·.1)\/y.1∉N
def cr(σ:St):List Nat->St
 |[]=>σ
 |v::vs=>(cr σ vs).set v none
theorem iF(σ:St):∀vs:List Nat,(cr σ vs).length=σ.length
 |[]=>rfl
 |v::vs=>by unfold cr;rw[List.length_set,iF σ vs]
theorem lK{σ:St}{i:Nat}{x:V}:∀{vs:List Nat},(cr σ vs)[i]? =some (some x)->σ[i]? =some (some x)/\i∉vs
 |[],h=>⟨h,by simp⟩
 |v::vs,h=>by
  unfold cr at h;by_cases hi:v=i
  ·subst hi;by_cases hv:v<(cr σ vs).length
   ·rw[List.getElem?_set_self hv]at h;cases h
   ·rw[List.getElem?_eq_none (by simpa using hv)]at h;cases h
  ·rw[List.getElem?_set_ne hi]at h;obtain⟨h1,h2⟩:=lK h;exact⟨h1,by simp only[List.mem_cons,not_or];exact⟨λe=>hi e.symm,h2⟩⟩
abbrev Cx.blk(X:Cx)(s:Shared)(H:Hp)(scope:Scope)(cenv:Env)(fp:List Addr):Cx:={X with s_0:=s,H_0:=H,env:=cenv,outer:=X.stack,ex:=fp,fn:=λx=>scope.names.lookup x==some .cell,pn:=[],xe:=λ_ _=>False}
section
variable{X:Cx}{pins:List (Addr×Obj)}{σ:St}{H:Hp}{s:Shared}
theorem sP{scope:Scope}{own:List (Str×Nat)}{fp:List Addr}(I:aO X pins σ H s)(ok:qc X.N X.env.scope scope own)(hN:X.N.Nodup)(hfp:∀b∈fp,mU X pins H b/\b<s.heap.objs.size):
  aO (X.blk s H scope (compEnvC scope (cellsFrom (s.heap.objs.size+1) scope.names (bA X.env.cells scope.names [])) s.heap.objs.size X.env) fp) [] (cr σ (own.map (·.2))) H {s with heap:=pushCells (s.heap.push {cls:= .type "dict",data:= .dict #[]}) scope.names}:=by
 have hfree:∀y∈scope.names,y.2= .free->∃c,X.env.cells.lookup y.1=some c:=λy hy e=>by
  rcases ok.free y hy e with k|k
  ·exact I.ok.has _ (.inl k)
  ·exact I.ok.has _ (.inr k)
 generalize hcenv:compEnvC scope (cellsFrom (s.heap.objs.size+1) scope.names (bA X.env.cells scope.names [])) s.heap.objs.size X.env=cenv
 have kp:∀b o,s.heap.get? b=some o->(pushCells (s.heap.push {cls:= .type "dict",data:= .dict #[]}) scope.names).get? b=some o:=λb o e=>pushCells_keeps _ _ _ _ (Heap.get?_push_of_some _ e)
 have hL:cenv.locals=s.heap.objs.size:=by rw[<-hcenv];rfl
 have hcl:cenv.cells=cellsFrom (s.heap.objs.size+1) scope.names (bA X.env.cells scope.names []):=by rw[<-hcenv];rfl
 have hsc:cenv.scope=Hz scope X.env.scope:=by rw[<-hcenv];rfl
 rw[<-Heap.size_push s.heap {cls:= .type "dict",data:= .dict #[]}]at hcl
 have cm:∀{y c},(y,c)∈bA X.env.cells scope.names []->X.env.cells.lookup y=some c/\c<s.heap.objs.size:=λ{y c} hm=>by
  rcases fi hm with hm|⟨h1,rfl⟩
  ·cases hm
  ·obtain⟨c,hc⟩:=hfree _ h1 rfl;rw[hc];obtain⟨w,z⟩:=I.cell _ _ hc;exact⟨rfl,z.lt⟩
 have mem:∀{y c},cenv.cells.lookup y=some c->(X.env.cells.lookup y=some c/\c<s.heap.objs.size)\/(s.heap.objs.size+1<=c/\zn (pushCells (s.heap.push {cls:= .type "dict",data:= .dict #[]}) scope.names) c none):=λ{y c} e=>by
  rw[hcl]at e;rcases fV (PySem.mem_of_lookup e)with hm|⟨_,h2,h3⟩
  ·exact .inl (cm hm)
  ·rw[Heap.size_push]at h2;exact .inr ⟨h2,h3⟩
 have look:∀{y},scope.names.lookup y=some .free->∃c,cenv.cells.lookup y=some c/\X.env.cells.lookup y=some c:=λ{y} hl=>by
  have hy:(y,NameKind.free)∈scope.names:=PySem.mem_of_lookup hl;obtain⟨c',e'⟩:=jV (ji (names:=scope.names) (n:=(s.heap.push {cls:= .type "dict",data:= .dict #[]}).objs.size) (iD (cells:=X.env.cells) (acc:=[]) hy));rw[<-hcl]at e';refine⟨c',e',?_⟩;rw[hcl]at e';rcases fV (PySem.mem_of_lookup e')with hm|⟨h1,_,_⟩
  ·exact(cm hm).1
  ·have :=ok.uniq _ h1;rw[hl]at this;cases this
 have okB:(X.blk s H scope cenv fp).Ok:=by
  refine⟨I.ok.mod,by show cenv.scope.kind=_;rw[hsc];exact ok.kind,by show cenv.globals=_;rw[<-hcenv];exact I.ok.glob,by show cenv.builtins=_;rw[<-hcenv];exact I.ok.blt,by show s.heap.objs.size<=cenv.locals;rw[hL];exact Nat.le_refl _,
   λy z c e1 e2=> ?_,λy hy=> ?_,λy c z e=> ?_,I.ok.hd,I.ok.frames,.inl rfl,λb hb=>⟨?_,λy c e z=> ?_⟩,I.bs,Nat.le_trans I.ok.bsz I.sz,λb o e hb=> ?_,λb hb z=> ?_,I.stack,I.stkFree⟩
  ·have e1:cenv.cells.lookup y=some c:=e1;have e2:cenv.cells.lookup z=some c:=e2;rw[hcl]at e1 e2;refine lJ (λp hp=> ?_) (λy z c a b=>I.ok.inj y z c (cm a).1 (cm b).1) (PySem.mem_of_lookup e1) (PySem.mem_of_lookup e2);rw[Heap.size_push];exact Nat.lt_succ_of_lt (cm (y:=p.1) (c:=p.2) hp).2
  ·show∃c,cenv.cells.lookup y=some c
   have key:∀k,cenv.kindOf y=some k->(k= .cell\/k= .free)->∃c,cenv.cells.lookup y=some c:=λk hk hk'=>by
    unfold Env.kindOf at hk;rw[hsc]at hk;obtain⟨k',e,r⟩:=iE hk
    have :k'= .cell\/k'= .free:=by
     rcases r with rfl|⟨rfl,_⟩
     ·exact hk'
     ·exact .inr rfl
    rcases this with rfl|rfl
    ·obtain⟨c,hm⟩:=lI (n:=(s.heap.push {cls:= .type "dict",data:= .dict #[]}).objs.size) (acc:=bA X.env.cells scope.names []) (PySem.mem_of_lookup e);obtain⟨c',e'⟩:=jV hm;exact⟨c',by rw[hcl];exact e'⟩
    ·obtain⟨c,h1,_⟩:=look e;exact⟨c,h1⟩
   rcases hy with hy|hy
   ·exact key _ hy (.inl rfl)
   ·exact key _ hy (.inr rfl)
  ·have z:(scope.names.lookup y==some NameKind.cell)=true:=z;have z:scope.names.lookup y=some .cell:=by simpa using z
   have e:cenv.cells.lookup y=some c:=e;rw[hcl]at e;rcases fV (PySem.mem_of_lookup e)with hm|⟨_,h2,_⟩
   ·rcases fi hm with hm|⟨h1,_⟩
    ·cases hm
    ·have q:=ok.uniq _ h1;rw[z]at q;cases q
   ·rw[Heap.size_push]at h2;exact Nat.le_of_succ_le h2
  ·show b≠cenv.locals;rw[hL];exact Nat.ne_of_lt (hfp b hb).2
  ·have e:cenv.cells.lookup y=some c:=e;rcases mem e with⟨h1,_⟩|⟨h1,_⟩
   ·exact(hfp b hb).1.5 y c h1 z
   ·have h2:s.heap.objs.size+1<=b:=by rw[<-z];exact h1
    exact absurd (Nat.lt_of_lt_of_le (hfp b hb).2 (Nat.le_of_succ_le h2)) (Nat.lt_irrefl _)
  ·rcases(hfp b hb).1.4 with z|z
   ·exact I.ok.noex b o e z
   ·exact absurd (Nat.lt_of_lt_of_le (Heap.lt_size e) (Nat.le_trans I.ok.bsz z)) (Nat.lt_irrefl _)
  ·rcases List.mem_cons.mp (I.stkSub b z)with z|z
   ·exact(hfp b hb).1.2 z
   ·exact(hfp b hb).1.3 z
 refine⟨okB,rfl,I.bare,Un.kept kp,⟨λ_=>none,?_,λi y av e1 e2 e3=> ?_⟩,λy c e=> ?_,?_,λy c e=> ?_,λp hp=> ?_,I.hok.kept kp,by rw[iF];exact I.len⟩
 ·show Heap.Ns _ cenv.locals _;rw[hL];exact Heap.Ns.keeps (Heap.Ns.new ..) λb o e=>pushCells_keeps _ _ _ _ e
 ·obtain⟨e2,hne⟩:=lK e2
  have hfr:scope.names.lookup y=some .free/\(cenv.kindOf y=some .cell\/cenv.kindOf y=some .free):=by
   have key:∀k,cenv.scope.names.lookup y=some k->k= .local\/k= .cell\/k= .free->scope.names.lookup y=some .free/\(cenv.kindOf y=some .cell\/cenv.kindOf y=some .free):=λk hk hk'=>by
    have hk0:=hk;rw[hsc]at hk;obtain⟨k',e,r⟩:=iE hk
    have no:¬(k'= .local\/k'= .cell):=λhh=>by
     rcases ok.own _ (PySem.mem_of_lookup e) hh with e'|e'
     ·obtain⟨p,hp,hpy⟩:=List.mem_map.mp e';have e3:=ok.ix p hp;have :p.1=y:=hpy;rw[this]at e3;exact hne (List.mem_map.mpr ⟨p,hp,nH hN e3 e1⟩)
     ·exact e' (List.mem_of_getElem? e1)
    rcases r with rfl|⟨rfl,rfl⟩
    ·rcases hk' with rfl|rfl|rfl
     ·exact absurd (.inl rfl) no
     ·exact absurd (.inr rfl) no
     ·exact⟨e,.inr hk0⟩
    ·exact⟨e,.inl hk0⟩
   have e3:Dl cenv.scope y:=e3;rcases e3 with e3|e3|e3
   ·exact key _ e3 (.inl rfl)
   ·exact key _ e3 (.inr (.inl rfl))
   ·exact key _ e3 (.inr (.inr rfl))
  obtain⟨m,hn,hl⟩:=I.loc;have hvis:Dl X.env.scope y:=(ok.free _ (PySem.mem_of_lookup hfr.1) rfl).elim (λk=> .inr (.inl k)) (λk=> .inr (.inr k));obtain⟨w,r,q⟩:=hl i y av e1 e2 hvis;refine⟨w,r,.inr ⟨hfr.2,?_⟩⟩;obtain⟨c,h1,h2⟩:=look hfr.1;rcases q with⟨k,_⟩|⟨_,c',e',z⟩
  ·have k:X.env.scope.names.lookup y=some .local:=k;rcases ok.free _ (PySem.mem_of_lookup hfr.1) rfl with k'|k'<;>rw[show X.env.scope.names.lookup y=_ from k']at k<;>cases k
  ·rw[h2]at e';cases e';exact⟨c,h1,z.keeps kp⟩
 ·have e:cenv.cells.lookup y=some c:=e;rcases mem e with⟨h1,_⟩|⟨_,z⟩
  ·obtain⟨w,z⟩:=I.cell y c h1;exact⟨w,z.keeps kp⟩
  ·exact⟨_,z⟩
 ·show H cenv.locals=none;rw[hL];exact I.hok.fresh (Nat.le_refl _)
 ·have e:cenv.cells.lookup y=some c:=e;rcases mem e with⟨h1,_⟩|⟨h1,_⟩
  ·exact I.freeC y c h1
  ·exact I.hok.fresh (Nat.le_of_succ_le h1)
 ·exact absurd (show p∈([]:List (Addr×Obj))++[]from hp) (by simp)
theorem DI{E:Value->Shared->Prop}{D:Addr}{xs:List V}{y:V}{v:Value}{Q:Value->Shared->Prop}(I:aO X pins σ H s)(hD:H D=some (.lst xs))(hz:xs.length<sizeLine)(r:be y v)
  (h:∀s',aO X pins σ (aJ H D (.lst (xs++[y]))) s'->Q .none s'):wpAny (model X.prog X.w) X.A (call (.builtin "list.append") [.ref D,v]) Q E s:=by
 obtain⟨hz',its,n,ri,e⟩:=I.hok D _ hD;have hl:=ri.length;refine append_at (hsz:=by rw[List.size_toArray];omega) e λh' sb ho'=> ?_
 refine h {s with heap:=h'} (I.write (t':=s.toks) (by rw[hD];trivial) (.inl rfl) (λb u hb q=>(sb.2 b hb).trans q) ⟨_,ho'⟩ ⟨by rw[List.length_append];exact hz,its++[v],n+1,ri.append (.cons r .nil),?_⟩);rw[ho'];simp
def Ft(X:Cx)(ifs:List Expr)(t:TT):Prop:=
 ∀(pins:List (Addr×Obj)) (s:Shared) (σ:St) (H:Hp) (Q:Bool->Hp->Prop),aO X pins σ H s->t σ H Q->
  wpAny (model X.prog X.w) X.A (forIn ifs true λc r=>if r=true then do let ok<-isTrue c X.env (eval c X.env);pure (ForInStep.yield ok)else pure (ForInStep.yield r)) (TP X pins σ Q) X.xe s
def HA:TT:=λ_ H Q=>Q true H
theorem b4:Ft X [] HA:=λ_ _ _ H _ I h=>wpAny_tests_nil ⟨H,I,h⟩
theorem rB{c:Expr}{t:TT}(h:PT X c t):Ft X [c] t:=λpins s σ H Q I hw=>wpAny_tests_one (h pins s σ H Q I hw)
end
theorem xK{α:Type}{t:Sem α}{Q Q':α->Shared->Prop}{M:Model}{A:Around}{E:Value->Shared->Prop}{s:Shared}(h:wpAny M A t Q (λ_ _=>False) s)(hQ:∀a s,Q a s->Q' a s):wpAny M A t Q' E s:=wpAny_mono h hQ λ_ _ z=>False.elim z
theorem rC{prog:Program}{w:World}{A:Around}{R:Result->Shared->Prop}{s:Shared}{elt target iter:Expr}{ifs:List Expr}{scope:Scope}{pos:Pos}{it acc:Value}{env:Env}(I:Nat->Shared->Prop)
  (turn:∀n s,I n s->wpAny (model prog w) A (pyNext it) (λr s₁=>match r with
   |none=>R (.ok .next) s₁
   |some v=>wpAny (model prog w) A (letOwnedTupleGo target it v) (λ_ s₁'=>wpAny (model prog w) A (assign target env v) (λ_ s₂=>
     wpAny (model prog w) A (forIn ifs true λc r=>if r=true then do let ok<-isTrue c env (eval c env);pure (ForInStep.yield ok)else pure (ForInStep.yield r)) (λok s₃=>
      if ok=true then wpAny (model prog w) A (eval elt env) (λx s₄=>
       wpAny (model prog w) A (call (.builtin "list.append") [acc,x]) (λ_ s₅=>∃m,m<n/\I m s₅) (notedBy (model prog w) A env λe s'=>R (.error e) s') s₄) (notedBy (model prog w) A env λe s'=>R (.error e) s') s₃
      else∃m,m<n/\I m s₃) (notedBy (model prog w) A env λe s'=>R (.error e) s') s₂) (notedBy (model prog w) A env λe s'=>R (.error e) s') s₁') (notedBy (model prog w) A env λe s'=>R (.error e) s') s₁) (notedBy (model prog w) A env λe s'=>R (.error e) s') s)
  (n:Nat)(h:I n s):
  codeAny (model prog w) A (.compLoop (.ListComp elt [⟨target,iter,ifs,0⟩] scope pos) 0 it acc env) R s:=by
 refine codeAny_loop rfl I (λn s hI=> ?_) n h;show wpAny _ A ((compTurn (.ListComp elt [⟨target,iter,ifs,0⟩] scope pos) 0 it acc env).onRaise (λx=>do noteFrame x env;theTreesLotGoes x)) _ _ s;refine wpAny_noted ?_;rw[compTurn_list];refine wpAny_bind (wpAny_standAt (wpAny_bind (wpAny_mono (turn n s hI) (λr s₁ h₁=> ?_) λ_ _ h'=>h')));cases r with
 |none=>exact wpAny_pure h₁
 |some v=>
  refine wpAny_bind (wpAny_mono h₁ (λ_ s₁' h₁'=> ?_) λ_ _ h'=>h');refine wpAny_bind (wpAny_mono h₁' (λ_ s₂ h₂=>wpAny_bind (wpAny_mono h₂ (λok s₃ h₃=> ?_) λ_ _ h'=>h')) λ_ _ h'=>h');cases ok with
  |false=>exact wpAny_pure ⟨rfl,h₃⟩
  |true=>
   exact wpAny_bind (wpAny_bind (wpAny_mono h₃ (λx s₄ h₄=>wpAny_bind (wpAny_mono h₄ (λ_ s₅ h₅=>wpAny_pure (wpAny_pure ⟨rfl,h₅⟩)) λ_ _ h'=>h')) λ_ _ h'=>h'))
section
variable{X:Cx}
def G2(wi:TI)(g:TG)(tt:TT)(te:TE)(vs:List Nat):TE:=λσ H Q=>wi σ H λJ H1=>∀D,H1 D=none->∃W:Nat->Nat->Hp->Prop,(∃m,W 0 m (aJ H1 D (.lst [])))/\∀i m H,W i m H->
 (J.stop i H/\Q (.ref D) H)\/(J.go i H/\∃Nx:Hp->Prop,(∀H',Nx H'->∃m',m'<m/\W (i+1) m' H')/\∀x H',J.yld i H x H'->g x (cr σ vs) H' λσ2 H2=>cr σ2 vs=cr σ vs/\tt σ2 H2 λb H3=>
  if b=true then te σ2 H3 λy H4=>∃acc,H4 D=some (.lst acc)/\acc.length<sizeLine/\Nx (aJ H4 D (.lst (acc++[y])))else Nx H3)
theorem wE{pins:List (Addr×Obj)}{s:Shared}{σ:St}{H:Hp}{Q:VK}{elt tg iter:Expr}{ifs:List Expr}{scope:Scope}{own:List (Str×Nat)}{pos pos':Pos}{wi:TI}{g:TG}{tt:TT}{te:TE}{use:Option (Value->Sem Unit)}{Qf:Value->Shared->Prop}
  (hc:X.calm=true)(hN:X.N.Nodup)(I:aO X pins σ H s)(hi:PI X tg iter wi)(ok:qc X.N X.env.scope scope own)
  (hg:∀(s:Shared) (H:Hp) (C:Addr) (cl:List (Str×Addr)) (fp:List Addr),PG (X.blk s H scope (compEnvC scope cl C X.env) fp) tg g)(ht:∀(s:Shared) (H:Hp) (C:Addr) (cl:List (Str×Addr)) (fp:List Addr),Ft (X.blk s H scope (compEnvC scope cl C X.env) fp) ifs tt)
  (he:∀(s:Shared) (H:Hp) (C:Addr) (cl:List (Str×Addr)) (fp:List Addr),PE (X.blk s H scope (compEnvC scope cl C X.env) fp) elt te)(hs:∀x,foldedSetIterable iter X.env x=pure x)
  (h:G2 wi g tt te (own.map (·.2)) σ H Q)
  (hRR:∀D C s' m H',aO X pins σ H' s'->Q (.ref D) H'->s'.heap.Ns C m->mU X pins H' C->compPost (model X.prog X.w) X.A X.xe use Qf (.ref D) C (.ok .next) s'):
  wpAny (model X.prog X.w) X.A (comprehension (.ListComp elt [⟨tg,iter,ifs,0⟩] scope pos) scope X.env pos' (newList []) false (eval iter X.env) use) Qf X.xe s:=by
 have hfree:∀y∈scope.names,y.2= .free->∃c,X.env.cells.lookup y.1=some c:=λy hy e=>by
  rcases ok.free y hy e with k|k
  ·exact I.ok.has _ (.inl k)
  ·exact I.ok.has _ (.inr k)
 refine wpAny_comprehension_free (use:=use) rfl hs (uY hfree) ok.kind (λy hy e=>by rw[ok.uniq y hy,e])
  (bC (hi pins s σ H _ I h) λxv s1 hx=>bC hx λitv s2 h2=> ?_)
 obtain⟨it,fp,tn,J,H2,e,I2,T,st2,f2,q⟩:=h2;subst e;refine wpAny_newObj_type (sO ?_) (by show 0<=sizeLine;decide);generalize hD:s2.heap.objs.size=D;have hDn:H2 D=none:=I2.hok.fresh (Nat.le_of_eq hD);obtain⟨W,⟨m0,w0⟩,turn⟩:=q D hDn;generalize hs3:({s2 with heap:=s2.heap.push {cls:= .type "list",data:= .seq ([]:List Value).toArray}}:Shared)=s3
 have I3:aO X pins σ (aJ H2 D (.lst [])) s3:=by
  rw[<-hs3];refine I2.laid (t':=s2.toks) (λb o e=>Heap.get?_push_of_some _ e) (Nat.le_of_eq hD) ⟨Nat.zero_le _,[],0,.nil,?_⟩;rw[<-hD];exact Heap.get?_push_size _ rfl
 have h3:s3.heap=s2.heap.push {cls:= .type "list",data:= .seq ([]:List Value).toArray}:=by rw[<-hs3]
 have sz:∀b∈fp,b<s2.heap.objs.size:=λb hb=>by
  obtain⟨o,e,_⟩:=T.obj _ _ st2 b hb;exact Heap.lt_size e
 have f3:∀b∈fp,mU X pins (aJ H2 D (.lst [])) b/\b<s3.heap.objs.size:=λb hb=>by
  have hlt:=sz b hb;refine⟨⟨?_,(f2 b hb).2,(f2 b hb).3,(f2 b hb).4,(f2 b hb).5,(f2 b hb).6⟩,by rw[h3,Heap.size_push];exact Nat.lt_succ_of_lt hlt⟩;rw[aj (by rw[<-hD];exact Nat.ne_of_lt hlt)];exact(f2 b hb).1
 have st3:tn 0 s3.heap:=T.keep _ _ _ st2 λb _ o e=>by rw[h3];exact Heap.get?_push_of_some _ e
 have I4:=sP I3 ok hN f3;have pg:=hg s3 (aJ H2 D (.lst [])) s3.heap.objs.size (cellsFrom (s3.heap.objs.size+1) scope.names (bA X.env.cells scope.names [])) fp;have pt:=ht s3 (aJ H2 D (.lst [])) s3.heap.objs.size (cellsFrom (s3.heap.objs.size+1) scope.names (bA X.env.cells scope.names [])) fp;have pe:=he s3 (aJ H2 D (.lst [])) s3.heap.objs.size (cellsFrom (s3.heap.objs.size+1) scope.names (bA X.env.cells scope.names [])) fp;show codeAny _ _ (.compStart (.ListComp elt [⟨tg,iter,ifs,0⟩] scope pos) 0 (.ref it) (.ref D) (compEnvC scope (cellsFrom (s3.heap.objs.size+1) scope.names (bA X.env.cells scope.names [])) s3.heap.objs.size X.env)) (compPost (model X.prog X.w) X.A X.xe use Qf (.ref D) s3.heap.objs.size) {s3 with heap:=pushCells (s3.heap.push {cls:= .type "dict",data:= .dict #[]}) scope.names};have nfp:∀b∈fp,(aJ H2 D (.lst [])) b=none:=λb hb=>(f3 b hb).1.1
 generalize hce:compEnvC scope (cellsFrom (s3.heap.objs.size+1) scope.names (bA X.env.cells scope.names [])) s3.heap.objs.size X.env=ce at I4 pg pt pe⊢
 have cL:ce.locals=s3.heap.objs.size:=by subst hce;rfl
 generalize hH3:aJ H2 D (.lst [])=H3 at I3 I4 pg pt pe w0 nfp f3
 generalize hs4:({s3 with heap:=pushCells (s3.heap.push {cls:= .type "dict",data:= .dict #[]}) scope.names}:Shared)=s4 at I4⊢
 have st4:tn 0 s4.heap:=T.keep _ _ _ st3 λb _ o e=>by rw[<-hs4];exact pushCells_keeps _ _ _ _ (Heap.get?_push_of_some _ e)
 have stat:∀{σ':St} {H':Hp} {s':Shared},aO (X.blk s3 H3 scope ce fp) [] σ' H' s'->(∀b∈fp,H' b=none)->∀b∈fp,mU (X.blk s3 H3 scope ce fp) [] H' b:=λ{σ' H' s'} I' hn b hb=>
  ⟨hn b hb,(I'.ok.exf b hb).1,I'.ok.exfs b hb,.inl hb,λx c e=>(I'.ok.exf b hb).2 x c e,λp hp=>absurd (show p∈([]:List (Addr×Obj))++[]from hp) (by simp)⟩
 have loop:codeAny (model X.prog X.w) X.A (.compLoop (.ListComp elt [⟨tg,iter,ifs,0⟩] scope pos) 0 (.ref it) (.ref D) ce) (compPost (model X.prog X.w) X.A X.xe use Qf (.ref D) s3.heap.objs.size) s4:=by
  refine rC (λn s'=>∃i H',aO (X.blk s3 H3 scope ce fp) [] (cr σ (own.map (·.2))) H' s'/\tn i s'.heap/\(∀b∈fp,H' b=none)/\W i n H') ?_ m0 ⟨0,H3,I4,st4,nfp,w0⟩;rintro n s5 ⟨i,H5,I5,st5,n5,w5⟩;rcases turn i n H5 w5 with⟨stop,qq⟩|⟨go,Nx,hNx,step⟩
  ·have td:=T.done (X.blk s3 H3 scope ce fp) rfl rfl rfl hc i [] s5 _ H5 (λ_ _=>False) I5 (stat I5 n5) st5 stop;refine xK td λr s6 ⟨hr,I6⟩=> ?_
   subst hr;have I7:aO X pins σ H5 s6:=I3.call' (ch:=fp) I6.os I6.base I6.hok I6.bare λb hb=>⟨(f3 b hb).1.4,(f3 b hb).1.2,(f3 b hb).1.5,(f3 b hb).1.6⟩
   have nC:H5 s3.heap.objs.size=none:=by
    have z:H5 ce.locals=none:=I6.free;rw[cL]at z;exact z
   obtain⟨m,hn,_⟩:=I6.loc;have hn:s6.heap.Ns ce.locals m:=hn;rw[cL]at hn;exact hRR D s3.heap.objs.size s6 m H5 I7 qq hn (I3.fpOk (Nat.le_refl _) nC)
  ·have ti:=T.item (X.blk s3 H3 scope ce fp) rfl rfl rfl hc i [] s5 _ H5 (λ_ _=>False) I5 (stat I5 n5) st5 go;refine xK ti λr s6 ⟨u,hr,h6⟩=> ?_
   subst hr;refine xK h6 λ_ s7 ⟨x,H7,I7,r7,y7,st7,n7⟩=> ?_
   have I7':=I7.pinned (stat I7 n7) (T.obj _ _ st7);refine xK (pg _ s7 _ H7 x u _ I7' r7 (step x H7 y7)) λ_ s8 ⟨σ8,H8,I8,hw8,q8⟩=> ?_
   refine xK (pt _ s8 σ8 H8 _ I8 q8) λb s9 ⟨H9,I9,q9⟩=> ?_
   have fin:∀{s':Shared} {H':Hp},aO (X.blk s3 H3 scope ce fp) ([]++nN fp s7.heap) σ8 H' s'->Nx H'->∃m,m<n/\∃i H',aO (X.blk s3 H3 scope ce fp) [] (cr σ (own.map (·.2))) H' s'/\tn i s'.heap/\(∀b∈fp,H' b=none)/\W i m H':=λ{s' H'} I' nx=>by
    obtain⟨m',hm,w'⟩:=hNx H' nx
    have pin':∀b∈fp,∀o,s7.heap.get? b=some o->s'.heap.get? b=some o/\H' b=none:=λb hb o e=>
     let z:=I'.pin (b,o) (List.mem_append_right _ (List.mem_append_right _ (jQ hb e)))
     ⟨z.1,z.2⟩
    have hl:(cr σ (own.map (·.2))).length=σ8.length:=by rw[<-hw8,iF]
    refine⟨m',hm,i+1,H',(I'.unpinned (pins:=[])).weak hl (λj v e=> ?_),T.keep _ _ _ st7 λb hb o e=>(pin' b hb o e).1,λb hb=> ?_,w'⟩
    ·rw[<-hw8]at e;exact(lK e).1
    ·obtain⟨o,e,_⟩:=T.obj _ _ st7 b hb;exact(pin' b hb o e).2
   cases b with
   |false=>
    simp only[Bool.false_eq_true,if_false]at q9⊢;exact fin I9 q9
   |true=>
    simp only[if_true]at q9⊢;refine xK (pe _ s9 σ8 H9 _ I9 q9) λz s10 ⟨yv,H10,I10,r10,acc,hD10,hz10,nx⟩=> ?_
    exact DI (X:=X.blk s3 H3 scope ce fp) I10 hD10 hz10 r10 λs11 I11=>fin I11 nx
 exact codeAny_compStart_list loop (T.self X.A 0 _ _ _ st4 loop)
theorem fj{elt tg iter:Expr}{ifs:List Expr}{scope:Scope}{own:List (Str×Nat)}{pos:Pos}{wi:TI}{g:TG}{tt:TT}{te:TE}(hc:X.calm=true)(hN:X.N.Nodup)(hi:PI X tg iter wi)(ok:qc X.N X.env.scope scope own)
  (hg:∀(s:Shared) (H:Hp) (C:Addr) (cl:List (Str×Addr)) (fp:List Addr),PG (X.blk s H scope (compEnvC scope cl C X.env) fp) tg g)(ht:∀(s:Shared) (H:Hp) (C:Addr) (cl:List (Str×Addr)) (fp:List Addr),Ft (X.blk s H scope (compEnvC scope cl C X.env) fp) ifs tt)
  (he:∀(s:Shared) (H:Hp) (C:Addr) (cl:List (Str×Addr)) (fp:List Addr),PE (X.blk s H scope (compEnvC scope cl C X.env) fp) elt te)(hs:∀x,foldedSetIterable iter X.env x=pure x:=by intro _;rfl):
  PE X (.ListComp elt [⟨tg,iter,ifs,0⟩] scope pos) (G2 wi g tt te (own.map (·.2))):=by
 intro pins s σ H Q I h;rw[eval_ListComp];refine wE hc hN I hi ok hg ht he hs h λD C s' m H' I' q hn f=>⟨m,hn,λh'' sb=> ?_⟩
 obtain⟨f0,f1,f2,f3,f4,f5⟩:=f;exact⟨.ref D,H',I'.turned (t':=s'.toks) (λb o hb e=>(sb.2 b hb).trans e) f0 f1 f3 f4 f5,rfl,q⟩
theorem kC{i:Nat}{y:Str}{py:Pos}{elt tg iter:Expr}{ifs:List Expr}{scope:Scope}{own:List (Str×Nat)}{pos spos:Pos}{wi:TI}{g:TG}{tt:TT}{te:TE}(hc:X.calm=true)(hN:X.N.Nodup)(hy:X.N[i]? =some y)(hyl:X.env.scope.names.lookup y=some .local)
  (hsw:swapsWith (.ListComp elt [⟨tg,iter,ifs,0⟩] scope pos) (some (.Name y py)) spos.line X.env=pure true)(hi:PI X tg iter wi)(ok:qc X.N X.env.scope scope own)
  (hg:∀(s:Shared) (H:Hp) (C:Addr) (cl:List (Str×Addr)) (fp:List Addr),PG (X.blk s H scope (compEnvC scope cl C X.env) fp) tg g)(ht:∀(s:Shared) (H:Hp) (C:Addr) (cl:List (Str×Addr)) (fp:List Addr),Ft (X.blk s H scope (compEnvC scope cl C X.env) fp) ifs tt)
  (he:∀(s:Shared) (H:Hp) (C:Addr) (cl:List (Str×Addr)) (fp:List Addr),PE (X.blk s H scope (compEnvC scope cl C X.env) fp) elt te)(hs:∀x,foldedSetIterable iter X.env x=pure x:=by intro _;rfl):
  PS X (.Assign [.Name y py] (.ListComp elt [⟨tg,iter,ifs,0⟩] scope pos) spos) (Fc (G2 wi g tt te (own.map (·.2))) (kq i)):=by
 intro pins s σ H D I h;rw[exec_Assign_Name_used _ _ _ _ hsw];refine wpAny_bind (wpAny_standAt (wpAny_bind ?_));show wpAny _ X.A (do let _<-comprehension (.ListComp elt [⟨tg,iter,ifs,0⟩] scope pos) scope X.env (firstIterPos [⟨tg,iter,ifs,0⟩] pos) (newList []) false (eval iter X.env) (some (assign (.Name y py) X.env))) _ _ s;have h:G2 wi g tt te (own.map (·.2)) σ H (λx H1=>kq i x σ H1 D.nx):=h;refine wpAny_bind (bC (wE (Qf:=λ_ s'=>SP X pins D .next s') hc hN I hi ok hg ht he hs h λL C s' m H' I' q hn f=> ?_) λ_ s' hq=>wpAny_pure (wpAny_pure hq));show wpAny _ _ (assign (.Name y py) X.env (.ref L)) _ _ _;refine wpAny_assign_Name (pP (v:=V.ref L) I' hN hy (.inl hyl) rfl (λs2 I2 ⟨a,sb,ha⟩=> ?_) (.inr hyl));obtain⟨f0,f1,f2,f3,f4,f5⟩:=f
 have haC:C≠a:=by
  rcases ha with z|z
  ·rw[z];exact f1
  ·exact λe=>f4 y a z e.symm
 refine⟨m,hn.sameBut sb haC,λh3 sb3=> ?_⟩;exact⟨_,H',I2.turned (t':=s2.toks) (λb o hb e=>(sb3.2 b hb).trans e) f0 f1 f3 f4 f5,q⟩
theorem m7{elt:Expr}{gs:List Comprehension}{scope:Scope}{pos py:Pos}{y:Str}{l:Nat}{env:Env}(hk:env.scope.kind= .function)(hy:env.scope.names.lookup y=some .local)(hl:(py.line==pos.line)=true)
  (ha:(scope.names.any λ(n,k)=>n==y&&(k== .local||k== .cell))=false):swapsWith (.ListComp elt gs scope pos) (some (.Name y py)) l env=pure true:=by
 have ky:env.kindOf y=some .local:=hy;have hb:env.blockKind= .function:=by unfold Env.blockKind;rw[hk];rfl
 unfold swapsWith;simp only[hb,ky,ha,Expr.pos,hl];rfl
end
theorem Bu{K:PySem.W.Frag}{a:Addr}{xs:List V}{g:TG}{tt:TT}{te:TE}{vs:List Nat}{σ:St}{H1:Hp}{D:Addr}{Qd:Hp->Prop}(Pv:Nat->Hp->Prop)(h0:Pv 0 (aJ H1 D (.lst [])))(hl:∀i H,i<=xs.length->Pv i H->aZ K H a xs)
  (hs:∀i x H,xs[i]? =some x->Pv i H->g x (cr σ vs) H λσ2 H2=>cr σ2 vs=cr σ vs/\tt σ2 H2 λb H3=>
   if b=true then te σ2 H3 λy H4=>∃acc,H4 D=some (.lst acc)/\acc.length<sizeLine/\Pv (i+1) (aJ H4 D (.lst (acc++[y])))else Pv (i+1) H3)(hd:∀H,Pv xs.length H->Qd H):
  ∃W:Nat->Nat->Hp->Prop,(∃m,W 0 m (aJ H1 D (.lst [])))/\∀i m H,W i m H->
   ((wy K a).stop i H/\Qd H)\/((wy K a).go i H/\∃Nx:Hp->Prop,(∀H',Nx H'->∃m',m'<m/\W (i+1) m' H')/\∀x H',(wy K a).yld i H x H'->g x (cr σ vs) H' λσ2 H2=>cr σ2 vs=cr σ vs/\tt σ2 H2 λb H3=>
    if b=true then te σ2 H3 λy H4=>∃acc,H4 D=some (.lst acc)/\acc.length<sizeLine/\Nx (aJ H4 D (.lst (acc++[y])))else Nx H3):=by
 refine⟨λi m H=>m=xs.length-i/\i<=xs.length/\Pv i H,⟨xs.length,by simp,Nat.zero_le _,h0⟩,?_⟩;rintro i m H ⟨rfl,hi,p⟩;have q:=hl i H hi p;by_cases hlt:i<xs.length
 ·refine .inr ⟨⟨xs,xs[i],q,by simp[hlt]⟩,Pv (i+1),λH' p'=>⟨xs.length-(i+1),by omega,rfl,hlt,p'⟩,λx H' y=> ?_⟩;obtain⟨e,y⟩:=y;subst e;exact hs i x _ (y xs q) p
 ·have e:i=xs.length:=by omega
  subst e;exact .inl ⟨⟨xs,q,Nat.le_refl _⟩,hd H p⟩
def DJ(N:List Str)(sc scope:Scope)(own:List (Str×Nat)):Bool:=
 (match scope.kind with | .function=>true|_=>false)&&(scope.names.all λy=>decide (scope.names.lookup y.1=some y.2))&&(own.all λp=>decide (N[p.2]? =some p.1))&&
  (scope.names.all λy=>match y.2 with
   | .free=>(match sc.names.lookup y.1 with |some .cell=>true|some .free=>true|_=>false)
   | .local=>decide (y.1∈own.map (·.1))||decide (y.1∉N)
   | .cell=>decide (y.1∈own.map (·.1))||decide (y.1∉N)
   |_=>true)
theorem zo{N:List Str}{sc scope:Scope}{own:List (Str×Nat)}(h:DJ N sc scope own=true):qc N sc scope own:=by
 unfold DJ at h;simp only[Bool.and_eq_true,List.all_eq_true,decide_eq_true_eq]at h;obtain⟨⟨⟨h1,h2⟩,h3⟩,h4⟩:=h;refine⟨?_,h2,h3,λy hy e=> ?_,λy hy e=> ?_⟩
 ·split at h1
  ·assumption
  ·cases h1
 ·have q:=h4 y hy;simp only[e]at q;split at q<;>first|exact .inl (by assumption)|exact .inr (by assumption)|cases q
 ·have q:=h4 y hy;rcases e with e|e<;>(simp only[e,Bool.or_eq_true,decide_eq_true_eq]at q;exact q)
end L2
namespace L2
open PySem PySem.Spec PyProof.Rows
end L2
namespace L2
open PySem PySem.Spec PyProof.Rows
section
variable{κ:Type}[DecidableEq κ]
def cB(kvs:List (κ×V))(k:κ):Option V:=(kvs.find? λkv=>decide (kv.1=k)).map (·.2)
def eX(kvs:List (κ×V))(k:κ)(v:V):List (κ×V):=
 if(kvs.any λkv=>decide (kv.1=k))=true then kvs.map (λkv=>if kv.1=k then(kv.1,v)else kv)else kvs++[(k,v)]
def kD(kvs:List (κ×V))(k:κ):List (κ×V):=kvs.filter λkv=>decide (kv.1≠k)
theorem zp{k:κ}:cB ([]:List (κ×V)) k=none:=rfl
theorem iG{p:κ×V}{r:List (κ×V)}{k:κ}(e:p.1=k):cB (p::r) k=some p.2:=by simp[cB,List.find?_cons,e]
theorem iH{p:κ×V}{r:List (κ×V)}{k:κ}(e:¬p.1=k):cB (p::r) k=cB r k:=by simp[cB,List.find?_cons,e]
theorem sQ(k:κ):∀kvs:List (κ×V),(kvs.any λkv=>decide (kv.1=k))=(cB kvs k).isSome
 |[]=>rfl
 |p::r=>by
  rw[List.any_cons];by_cases e:p.1=k
  ·simp only[iG e,decide_eq_true e,Bool.true_or,Option.isSome_some]
  ·rw[iH e,decide_eq_false e,Bool.false_or];exact sQ k r
theorem mr(kvs:List (κ×V))(k:κ)(v:V):(eX kvs k v).length<=kvs.length+1:=by
 unfold eX;split
 ·rw[List.length_map];omega
 ·rw[List.length_append,List.length_cons,List.length_nil];omega
theorem gD.isSome_eq{o:Option V}{u:Option Value}(r:gD o u):o.isSome=u.isSome:=by
 cases o with
 |none=>cases u with
  |none=>rfl
  |some _=>exact(show False from r).elim
 |some _=>cases u with
  |none=>exact(show False from r).elim
  |some _=>rfl
theorem gD.getD{o:Option V}{u:Option Value}{d:V}{d':Value}(r:gD o u)(rd:be d d'):be (o.getD d) (u.getD d'):=by
 cases o with
 |none=>cases u with
  |none=>exact rd
  |some _=>exact(show False from r).elim
 |some _=>cases u with
  |none=>exact(show False from r).elim
  |some _=>exact r
theorem KV.val{kvs:List (κ×V)}{vs:List (κ×Value)}(r:KV kvs vs)(k:κ):gD (cB kvs k) (valueAt vs k):=by
 unfold KV at r;induction r with
 |nil=>exact True.intro
 | @cons p q ps qs h t ih=>
  obtain⟨h1,h2⟩:=h;by_cases e:p.1=k
  ·have e':q.1=k:=h1.symm.trans e;have b:valueAt (q::qs) k=some q.2:=by simp[valueAt,List.find?_cons,e']
   rw[iG e,b];exact h2
  ·have e':¬q.1=k:=λz=>e (h1.trans z)
   have b:valueAt (q::qs) k=valueAt qs k:=by simp[valueAt,List.find?_cons,e']
   rw[iH e,b];exact ih
theorem KV.any{kvs:List (κ×V)}{vs:List (κ×Value)}(r:KV kvs vs)(k:κ):(kvs.any λkv=>decide (kv.1=k))=vs.any λkv=>decide (kv.1=k):=by
 unfold KV at r;induction r with
 |nil=>rfl
 |cons h t ih=>rw[List.any_cons,List.any_cons,ih,h.1]
theorem KV.repl{kvs:List (κ×V)}{vs:List (κ×Value)}(r:KV kvs vs)(k:κ){y:V}{u:Value}(ry:be y u):
  KV (kvs.map λkv=>if kv.1=k then(kv.1,y)else kv) (vs.map λkv=>if kv.1=k then(kv.1,u)else kv):=by
 unfold KV at r⊢;induction r with
 |nil=>exact .nil
 | @cons p q ps qs h t ih=>
  rw[List.map_cons,List.map_cons];refine .cons ?_ ih;obtain⟨h1,h2⟩:=h;by_cases e:p.1=k
  ·rw[if_pos e,if_pos (h1.symm.trans e)];exact⟨h1,ry⟩
  ·rw[if_neg e,if_neg (λz=>e (h1.trans z))];exact⟨h1,h2⟩
theorem KV.put{kvs:List (κ×V)}{vs:List (κ×Value)}(r:KV kvs vs)(k:κ){y:V}{u:Value}(ry:be y u):KV (eX kvs k y) (stored vs k u):=by
 unfold eX stored;rw[r.any k];by_cases e:(vs.any λkv=>decide (kv.1=k))=true
 ·rw[if_pos e,if_pos e];exact r.repl k ry
 ·rw[if_neg e,if_neg e];exact Paired.snoc r ⟨rfl,ry⟩
theorem KV.length{kvs:List (κ×V)}{vs:List (κ×Value)}(r:KV kvs vs):kvs.length=vs.length:=Paired.length r
theorem zq(kvs:List (κ×V))(k:κ):(kD kvs k).length<=kvs.length:=List.length_filter_le _ _
end
theorem qd{P:Program}{w:World}{k:bG}{u:Value}(r:be (kV k) u):(bz P w).is k u=true:=by
 cases k with
 |inl i=>obtain⟨t,e⟩:=(show∃t,u=Value.int i t from r);subst e;exact su P w i t
 |inr x=>obtain⟨t,e⟩:=(show∃t,u=Value.str x t from r);subst e;exact sv P w x t
theorem qe{P:Program}{w:World}:∀{ks:List bG} {us:List Value},aW (ks.map kV) us->ItemsAre (bz P w) ks us
 |[],_,r=>by rw[List.map_nil]at r;cases r;exact .nil
 |k::ks,_,r=>by
  rw[List.map_cons]at r;cases r with
  |cons h t=>exact .cons (qd h) (qe t)
abbrev KT(H:Hp):List (List bG×V)->List (List bG×Addr×Value)->Prop:=Paired λp q=>p.1=q.1/\H q.2.1=some (.tup (p.1.map kV))/\be p.2 q.2.2
theorem KT.val{H:Hp}{kvs:List (List bG×V)}{xs:List (List bG×Addr×Value)}(r:KT H kvs xs)(k:List bG):gD (cB kvs k) ((atKey xs k).map (·.2)):=by
 induction r with
 |nil=>exact True.intro
 | @cons p q ps qs h t ih=>
  obtain⟨h1,_,h2⟩:=h;by_cases e:p.1=k
  ·have e':q.1=k:=h1.symm.trans e;have b:atKey (q::qs) k=some q.2:=by simp[atKey,List.find?_cons,e']
   rw[iG e,b];exact h2
  ·have e':¬q.1=k:=λz=>e (h1.trans z)
   have b:atKey (q::qs) k=atKey qs k:=by simp[atKey,List.find?_cons,e']
   rw[iH e,b];exact ih
theorem KT.repl{H:Hp}{kvs:List (List bG×V)}{xs:List (List bG×Addr×Value)}(r:KT H kvs xs)(k:List bG){y:V}{u:Value}(ry:be y u):
  KT H (kvs.map λkv=>if kv.1=k then(kv.1,y)else kv) (xs.map (putAt k u)):=by
 induction r with
 |nil=>exact .nil
 | @cons p q ps qs h t ih=>
  rw[List.map_cons,List.map_cons];refine .cons ?_ ih;obtain⟨h1,h2,h3⟩:=h;unfold putAt;by_cases e:p.1=k
  ·rw[if_pos e,if_pos (h1.symm.trans e)];exact⟨h1,h2,ry⟩
  ·rw[if_neg e,if_neg (λz=>e (h1.trans z))];exact⟨h1,h2,h3⟩
theorem KT.put{H:Hp}{kvs:List (List bG×V)}{xs:List (List bG×Addr×Value)}(r:KT H kvs xs)(k:List bG){b:Addr}{y:V}{u:Value}(hb:H b=some (.tup (k.map kV)))(ry:be y u):
  KT H (eX kvs k y) (storedH xs k b u):=by
 have e:(kvs.any λkv=>decide (kv.1=k))=(atKey xs k).isSome:=by
  rw[sQ,(r.val k).isSome_eq,Option.isSome_map]
 unfold eX storedH;rw[e];by_cases q:(atKey xs k).isSome=true
 ·rw[if_pos q,if_pos q];exact r.repl k ry
 ·rw[if_neg q,if_neg q];exact Paired.snoc r ⟨rfl,hb,ry⟩
theorem KT.keeps{H H':Hp}{kvs:List (List bG×V)}{xs:List (List bG×Addr×Value)}(r:KT H kvs xs)(ht:∀b ys,H b=some (.tup ys)->H' b=some (.tup ys)):KT H' kvs xs:=
 Paired.mapP r λ_ _ z=>⟨z.1,ht _ _ z.2.1,z.2.2⟩
section
variable{P:Program}{w:World}{H:Hp}{h:Heap}{a:Addr}
theorem C0{u:HO}(ok:ir P w H h)(e:Rd H a u):bK P w H h a u:=e.ok ok
theorem nY{kvs:List (bG×V)}(ok:ir P w H h)(e:Rd H a (.dK kvs)):kvs.length<=sizeLine/\(a==sysModules)=false/\∃vs,KV kvs vs/\h.DictOf (bz P w) a vs:=
 show bK P w H h a (.dK kvs)from C0 ok e
theorem Fu{kvs:List (bG×V)}(ok:ir P w H h)(e:H a=some (.dK kvs)):kvs.length<=sizeLine/\(a==sysModules)=false/\∃vs,KV kvs vs/\h.DictOf (bz P w) a vs:=nY ok (.inl e)
theorem iI{ks:List bG}(ok:ir P w H h)(e:H a=some (.tup (ks.map kV))):(tupleKind (bz P w)).is h ks a:=by
 obtain⟨_,its,r,o,h1,h2,n,h3⟩:=(show bK P w H h a (.tup (ks.map kV))from ok a _ e);exact⟨o,its.toArray,n,h1,h2,h3,by simpa using qe r⟩
theorem nZ{kvs:List (List bG×V)}(ok:ir P w H h)(e:Rd H a (.dT kvs)):kvs.length<=sizeLine/\(a==sysModules)=false/\
  ∃xs,KT H kvs xs/\h.DictOfH (tupleKind (bz P w)) a xs:=by
 obtain⟨z,y,xs,r,o,es,ep,h1,h2,h3,h4,h5⟩:=(show bK P w H h a (.dT kvs)from C0 ok e);refine⟨z,y,xs,r,o,es,ep,h1,h2,h3,h4,λx hx=> ?_,h5⟩
 have all:∀{l:List (List bG×V)} {m:List (List bG×Addr×Value)},KT H l m->∀x∈m,(tupleKind (bz P w)).is h x.1 x.2.1:=by
  intro l m q;induction q with
  |nil=>intro x hx;exact nomatch hx
  | @cons p q ps qs hq t ih=>
   intro x hx;rcases List.mem_cons.mp hx with e|hx
   ·subst e;exact iI ok (by rw[<-hq.1];exact hq.2.1)
   ·exact ih x hx
 exact all r x hx
theorem wF{kvs:List (List bG×V)}(ok:ir P w H h)(e:H a=some (.dT kvs)):kvs.length<=sizeLine/\(a==sysModules)=false/\
  ∃xs,KT H kvs xs/\h.DictOfH (tupleKind (bz P w)) a xs:=nZ ok (.inl e)
end
def dj(H:Hp)(a:Addr)(y:V)(r:Option V):Prop:=
 (∃kvs k,Rd H a (.dK kvs)/\y=kV k/\r=cB kvs k)\/∃kvs k b,Rd H a (.dT kvs)/\y= .ref b/\H b=some (.tup (k.map kV))/\r=cB kvs k
def rD(H:Hp)(a:Addr)(y v:V)(H':Hp):Prop:=
 (∃kvs k,H a=some (.dK kvs)/\y=kV k/\kvs.length<sizeLine/\H'=aJ H a (.dK (eX kvs k v)))\/
 ∃kvs k b,H a=some (.dT kvs)/\y= .ref b/\H b=some (.tup (k.map kV))/\kvs.length<sizeLine/\H'=aJ H a (.dT (eX kvs k v))
theorem dj.t{H:Hp}{a b:Addr}{kvs:List (List bG×V)}{k:List bG}(e:H a=some (.dT kvs))(eb:H b=some (.tup (k.map kV))):dj H a (.ref b) (cB kvs k):= .inr ⟨kvs,k,b,.inl e,rfl,eb,rfl⟩
theorem rD.t{H:Hp}{a b:Addr}{kvs:List (List bG×V)}{k:List bG}{v:V}(e:H a=some (.dT kvs))(eb:H b=some (.tup (k.map kV)))(hl:kvs.length<sizeLine):
  rD H a (.ref b) v (aJ H a (.dT (eX kvs k v))):= .inr ⟨kvs,k,b,e,rfl,eb,hl,rfl⟩
section
variable{X:Cx}{pins:List (Addr×Obj)}{σ:St}{H:Hp}{s:Shared}{a:Addr}{y v:V}{u r:Value}{o:Option V}{A:Around}{E:Value->Shared->Prop}
theorem aO.big(I:aO X pins σ H s):sysModules<s.heap.objs.size:=by
 have h:mainGlobals<s.heap.objs.size:=(I.mod.glob.keeps I.bk).lt;exact Nat.lt_trans (by decide) h
theorem xL{Q:Value->Shared->Prop}(hu:A.units+1<cLine)(I:aO X pins σ H s)(g:dj H a y (some v))(ry:be y u)(h:∀w' s',aO X pins σ H s'->be v w'->Q w' s'):
  wpAny (model X.prog X.w) A (getItem (.ref a) u) Q E s:=by
 rcases g with⟨kvs,k,e,ey,l⟩|⟨kvs,k,b,e,ey,eb,l⟩
 ·subst ey;obtain⟨z,hd,vs,rel,dd⟩:=nY I.hok e;obtain⟨w',hw,rw'⟩:=gD.some_of (v:=v) (o:=valueAt vs k) (by rw[l];exact rel.val k);exact wpAny_getItem_of (qd ry) dd.mapOf hw (h w' _ (I.tok _) rw')
 ·subst ey;cases(show u=Value.ref b from ry);obtain⟨z,hd,xs,rel,dd⟩:=nZ I.hok e;obtain⟨w',hw,rw'⟩:=gD.some_of (v:=v) (o:=(atKey xs k).map (·.2)) (by rw[l];exact rel.val k);obtain⟨p,hp,hp2⟩:=Option.map_eq_some_iff.mp hw;refine wpAny_getItem_heap (tupleKind_room_in1 hu) (iI I.hok eb) dd hp ?_;rw[hp2];exact h w' _ (I.tok _) rw'
theorem HB{Q:Value->Shared->Prop}(hu:A.units+1<cLine)(I:aO X pins σ H s)(g:dj H a y o)(ry:be y u)(h:∀s',aO X pins σ H s'->Q (.bool o.isSome) s'):
  wpAny (model X.prog X.w) A (compareOp .In u (.ref a)) Q E s:=by
 rcases g with⟨kvs,k,e,ey,l⟩|⟨kvs,k,b,e,ey,eb,l⟩
 ·subst ey;obtain⟨z,hd,vs,rel,dd⟩:=nY I.hok e;refine wpAny_in_of (qd ry) hd dd.mapOf ?_;rw[<-(rel.val k).isSome_eq,<-l];exact h _ (I.tok _)
 ·subst ey;cases(show u=Value.ref b from ry);obtain⟨z,hd,xs,rel,dd⟩:=nZ I.hok e;refine wpAny_in_heap (tupleKind_room_in1 hu) (iI I.hok eb) hd dd ?_;have q:=(rel.val k).isSome_eq;rw[Option.isSome_map]at q;rw[<-q,<-l];exact h _ (I.tok _)
theorem Bv{Q:Value->Shared->Prop}(hu:A.units+1<cLine)(I:aO X pins σ H s)(g:dj H a y o)(ry:be y u)(h:∀s',aO X pins σ H s'->Q (.bool (!o.isSome)) s'):
  wpAny (model X.prog X.w) A (compareOp .NotIn u (.ref a)) Q E s:=by
 rcases g with⟨kvs,k,e,ey,l⟩|⟨kvs,k,b,e,ey,eb,l⟩
 ·subst ey;obtain⟨z,hd,vs,rel,dd⟩:=nY I.hok e;refine wpAny_notIn_of (qd ry) hd dd.mapOf ?_;rw[<-(rel.val k).isSome_eq,<-l];exact h _ (I.tok _)
 ·subst ey;cases(show u=Value.ref b from ry);obtain⟨z,hd,xs,rel,dd⟩:=nZ I.hok e;refine wpAny_notIn_heap (tupleKind_room_in1 hu) (iI I.hok eb) hd dd ?_;have q:=(rel.val k).isSome_eq;rw[Option.isSome_map]at q;rw[<-q,<-l];exact h _ (I.tok _)
theorem rE{h':Heap}{t':Nat}{ob:HO}(I:aO X pins σ H s)(mu:Bd (H a))(hs:Heap.SameBut a s.heap h')(he:∃q,h'.get? a=some q)(new:bK X.prog X.w (aJ H a ob) h' a ob):
  aO X pins σ (aJ H a ob) {s with heap:=h',toks:=t'}:=
 I.write (x:=a) (e:=a) mu (.inl rfl) (λb q hb z=>(hs.2 b hb).trans z) he new
theorem DK{P:Program}{w:World}{H':Hp}{h':Heap}{kvs:List (bG×V)}{vs:List (bG×Value)}(z:kvs.length<=sizeLine)(hd:(a==sysModules)=false)(rel:KV kvs vs)(dd:h'.DictOf (bz P w) a vs):
  bK P w H' h' a (.dK kvs):=⟨z,hd,vs,rel,dd⟩
theorem xM{H':Hp}{Q:Unit->Shared->Prop}(hu:A.units+1<cLine)(I:aO X pins σ H s)(g:rD H a y v H')(ry:be y u)(rv:be v r)(h:∀s',aO X pins σ H' s'->Q () s'):
  wpAny (model X.prog X.w) A (setItem (.ref a) u r) Q E s:=by
 rcases g with⟨kvs,k,e,ey,l,eH⟩|⟨kvs,k,b,e,ey,eb,l,eH⟩
 ·subst ey eH;obtain⟨z,hd,vs,rel,dd⟩:=Fu I.hok e;have hz:vs.length<=sizeLine:=by rw[<-rel.length];exact z
  have hl:(eX kvs k v).length<=sizeLine:=by have :=mr kvs k v;omega
  refine wpAny_setItem_pairs (hsz:=hz) (qd ry) dd λh' dd' hs=>h _ ?_
  have he:∃q,h'.get? a=some q:=let⟨q,_,_,hq,_⟩:=dd';⟨q,hq⟩;exact rE I (by rw[e];exact True.intro) hs he (DK hl hd (rel.put k rv) dd')
 ·subst ey eH;cases(show u=Value.ref b from ry);obtain⟨z,hd,xs,rel,dd⟩:=wF I.hok e;have hz:xs.length<=sizeLine:=by rw[<-Paired.length rel];exact z
  have hl:(eX kvs k v).length<=sizeLine:=by have :=mr kvs k v;omega
  refine wpAny_setItem_heap (hsz:=hz) (tupleKind_room_in1 hu) (iI I.hok eb) dd λh' dd' hs=>h _ ?_
  obtain⟨q,es,ep,hq,h2,h3,h4,_,h5⟩:=dd';refine rE I (by rw[e];exact True.intro) hs ⟨q,hq⟩ ⟨hl,hd,_,(rel.put k eb rv).keeps λc ys ec=> ?_,q,es,ep,hq,h2,h3,h4,h5⟩;rw[aj (CS ec e (λz=>nomatch z))];exact ec
end
def Fv(i:Expr):Prop:=∀ov iv,subscripted i false ov iv=operate [ov,iv] (getItem ov iv)
theorem Bw{prog:Program}{w:World}{A:Around}{E:Value->Shared->Prop}{s:Shared}{env:Env}{value slice:Expr}{pos:Pos}{T id:String}{Q:Value->Shared->Prop}
  (hl:typeLookup (.type T) "__getitem__"=pure (some (.builtin id)))(hs:Fv slice)
  (h:wpAny (model prog w) A (eval value env) (λo s₁=>wpAny (model prog w) A (eval slice env) (λi s₂=>s₂.TypeIs o T/\wpAny (model prog w) A (getItem o i) Q E s₂) E s₁) E s):
  wpAny (model prog w) A (eval (.Subscript value slice pos) env) Q E s:=by
 refine Subscript_ (wpAny_mono h (λo s₁ h₁=>wpAny_mono h₁ (λi s₂ h₂=> ?_) λ_ _ x=>x) λ_ _ x=>x);obtain⟨hT,h₂⟩:=h₂;unfold subscriptTail;refine wpAny_bind ?_;rw[getitemInPython_of_ne hT.not_modules];refine wpAny_bind (wpAny_specialOf hT hl ?_)
 have fin:wpAny (model prog w) A (subscripted slice false o i) (λr s₃=>wpAny (model prog w) A (letTemporaryGo value o r>>= λ_=>pure r) Q E s₃) E s₂:=by
  rw[hs o i];exact wpAny_operating (wpAny_mono h₂ (λr s₃ h₃=>wpAny_bind (wpAny_letTemporaryGo (wpAny_pure h₃))) λ_ _ x=>x)
 first
  |exact wpAny_pure (wpAny_bind fin)
  |exact wpAny_bind (wpAny_pure (wpAny_bind fin))
  |exact wpAny_bind fin
theorem sS{X:Cx}{pins:List (Addr×Obj)}{σ:St}{H:Hp}{s:Shared}{a:Addr}{y:V}{o:Option V}(I:aO X pins σ H s)(g:dj H a y o):s.TypeIs (.ref a) "dict":=by
 rcases g with⟨kvs,k,e,_,_⟩|⟨kvs,k,b,e,_,_,_⟩
 ·obtain⟨_,_,vs,_,dd⟩:=nY I.hok e;exact dd.typeIs
 ·obtain⟨_,_,xs,_,dd⟩:=nZ I.hok e;exact dd.typeIs
def Fw(td ty:TE):TE:=λσ H Q=>td σ H λx H1=>ty σ H1 λy H2=>∃a v,x= .ref a/\dj H2 a y (some v)/\Q v H2
def HC(ty td:TE):TE:=λσ H Q=>ty σ H λy H1=>td σ H1 λx H2=>∃a o,x= .ref a/\dj H2 a y o/\Q (.bl o.isSome) H2
def Bx(ty td:TE):TE:=λσ H Q=>ty σ H λy H1=>td σ H1 λx H2=>∃a o,x= .ref a/\dj H2 a y o/\Q (.bl (!o.isSome)) H2
def C1(td ty tv:TE):TS:=λD σ H=>tv σ H λv H1=>td σ H1 λx H2=>ty σ H2 λy H3=>∃a H4,x= .ref a/\rD H3 a y v H4/\D.nx σ H4
section
variable{X:Cx}{o i e value:Expr}{pos pos' tpos:Pos}{td ty tv:TE}
theorem cv(hu:X.A.units+1<cLine)(ho:PE X o td)(hi:PE X i ty)(hs:Fv i):PE X (.Subscript o i pos) (Fw td ty):=by
 intro pins s σ H Q I h;refine Bw PySem.F.slot_dict_getitem.lookup hs (bC (ho pins s σ H _ I h) λu s1 ⟨x,H1,I1,rx,q1⟩=>bC (hi pins s1 σ H1 _ I1 q1) λiv s2 ⟨y,H2,I2,ry,a,v,ex,g,q2⟩=> ?_);subst ex;obtain rfl:u=Value.ref a:=rx;exact⟨sS I2 g,xL hu I2 g ry λw' s3 I3 rw'=>⟨v,H2,I3,rw',q2⟩⟩
theorem uZ(hu:X.A.units+1<cLine)(hi:PE X i ty)(ho:PE X o td):PC X .In i o (HC ty td):=by
 intro pins s σ H Q I h;refine bC (hi pins s σ H _ I h) λiv s1 ⟨y,H1,I1,ry,q1⟩=>bC (ho pins s1 σ H1 _ I1 q1) λu s2 ⟨x,H2,I2,rx,a,ov,ex,g,q2⟩=> ?_
 subst ex;obtain rfl:u=Value.ref a:=rx;exact HB hu I2 g ry λs3 I3=>⟨.bl ov.isSome,H2,I3,rfl,q2⟩
theorem jj(hu:X.A.units+1<cLine)(hi:PE X i ty)(ho:PE X o td):PC X .NotIn i o (Bx ty td):=by
 intro pins s σ H Q I h;refine bC (hi pins s σ H _ I h) λiv s1 ⟨y,H1,I1,ry,q1⟩=>bC (ho pins s1 σ H1 _ I1 q1) λu s2 ⟨x,H2,I2,rx,a,ov,ex,g,q2⟩=> ?_
 subst ex;obtain rfl:u=Value.ref a:=rx;exact Bv hu I2 g ry λs3 I3=>⟨.bl (!ov.isSome),H2,I3,rfl,q2⟩
theorem kE(hu:X.A.units+1<cLine)(ho:PE X o td)(hi:PE X i ty)(hv:PE X value tv)(hs:swapsWith value (some (.Subscript o i pos')) pos.line X.env=pure false):
  PS X (.Assign [.Subscript o i pos'] value pos) (C1 td ty tv):=by
 intro pins s σ H D I h;refine wpAny_Assign_Subscript (bC (hv pins s σ H _ I h) λr s1 ⟨v,H1,I1,rv,q1⟩=>bC (ho pins s1 σ H1 _ I1 q1) λu s2 ⟨x,H2,I2,rx,q2⟩=>bC (hi pins s2 σ H2 _ I2 q2) λiv s3 ⟨y,H3,I3,ry,a,H4,ex,g,q3⟩=> ?_) hs;subst ex;obtain rfl:u=Value.ref a:=rx;exact xM hu I3 g ry rv λs4 I4=>⟨σ,H4,I4,q3⟩
end
theorem zr{P:Program}{w:World}{H:Hp}(h:Heap)(hb:sysModules<h.objs.size):bK P w H (h.push {cls:= .type "dict",data:= .dict #[]}) h.objs.size (.dT []):=
 ⟨Nat.zero_le _,beq_eq_false_iff_ne.mpr (Ne.symm (Nat.ne_of_lt hb)),[],.nil,_,#[],0,Heap.get?_push_size _ rfl,⟨rfl,rfl,rfl⟩,rfl,rfl,List.nodup_nil⟩
def DL:TE:=λ_ H Q=>∀p,H p=none->Q (.ref p) (aJ H p (.dT []))
section
variable{X:Cx}{pos:Pos}
theorem kF:PE X (.Dict [] [] pos) DL:=λpins s σ H Q I h=>
 wpAny_Dict_empty ⟨.ref s.heap.objs.size,_,I.laid (a:=s.heap.objs.size) (o:= .dT []) (t':=s.toks) (λ_ _ q=>Heap.get?_push_of_some _ q) (Nat.le_refl _) (zr s.heap I.big),rfl,h _ (I.hok.fresh (Nat.le_refl _))⟩
end
structure M1(X:Cx)(o:Expr)(m:Str)(apos:Pos)(e:Expr)(cpos:Pos):Prop where
 base:attributeBase o m X.env (eval o X.env)=eval o X.env
 few:((backTo cpos (starEach [e] X.env)).all (λx=> !x.1)&&(backToKw cpos (keywordEach [] X.env)).all (λx=>x.1.isSome)
  &&decide (([e]:List Expr).length+([]:List Keyword).length+(if([]:List Keyword).isEmpty then 0 else 1)<30))=true
 line:(apos.endLine==cpos.line)=true
 trees:backTo cpos (starEach [e] X.env)=[(false,eval e X.env)]
structure M2(X:Cx)(o:Expr)(m:Str)(apos:Pos)(e f:Expr)(cpos:Pos):Prop where
 base:attributeBase o m X.env (eval o X.env)=eval o X.env
 few:((backTo cpos (starEach [e,f] X.env)).all (λx=> !x.1)&&(backToKw cpos (keywordEach [] X.env)).all (λx=>x.1.isSome)
  &&decide (([e,f]:List Expr).length+([]:List Keyword).length+(if([]:List Keyword).isEmpty then 0 else 1)<30))=true
 line:(apos.endLine==cpos.line)=true
 trees:backTo cpos (starEach [e,f] X.env)=[(false,eval e X.env),(false,eval f X.env)]
def HD(H:Hp)(a:Addr):Prop:=(∃kvs,Rd H a (.dK kvs))\/∃kvs,Rd H a (.dT kvs)
theorem zt{X:Cx}{pins:List (Addr×Obj)}{σ:St}{H:Hp}{s:Shared}{a:Addr}(I:aO X pins σ H s)(d:HD H a):
  s.TypeIs (.ref a) "dict"/\(∀b,Value.ref a= .ref b->∃ob,s.heap.get? b=some ob/\ob.dict=none)/\(a==sysModules)=false:=by
 rcases d with⟨kvs,e⟩|⟨kvs,e⟩
 ·obtain⟨_,hd,vs,_,dd⟩:=nY I.hok e;refine⟨dd.typeIs,λb q=> ?_,hd⟩;cases q;obtain⟨ob,_,_,h1,h2,_⟩:=dd;exact⟨ob,h1,h2.2.1⟩
 ·obtain⟨_,hd,xs,_,dd⟩:=nZ I.hok e;refine⟨dd.typeIs,λb q=> ?_,hd⟩;cases q;obtain⟨ob,_,_,h1,h2,_⟩:=dd;exact⟨ob,h1,h2.2.1⟩
section
variable{X:Cx}{pins:List (Addr×Obj)}{σ:St}{H:Hp}{s:Shared}{a:Addr}{y d:V}{u r:Value}{o:Option V}{A:Around}{E:Value->Shared->Prop}
theorem DM{Q:Value->Shared->Prop}(hu:A.units+1<cLine)(I:aO X pins σ H s)(g:dj H a y o)(ry:be y u)(rd:be d r)(h:∀w' s',aO X pins σ H s'->be (o.getD d) w'->Q w' s'):
  wpAny (model X.prog X.w) A (call (.builtin "dict.get") [.ref a,u,r]) Q E s:=by
 rcases g with⟨kvs,k,e,ey,l⟩|⟨kvs,k,b,e,ey,eb,l⟩
 ·subst ey;obtain⟨z,hd,vs,rel,dd⟩:=nY I.hok e;refine call_meetsIn PySem.F.slot_dict_get dd.typeIs PySem.F.entry_dict_get (PySem.F.args_dict_get_3 _ _ _) (meets_dict_get_default (bz X.prog X.w) a (qd ry) hd r) ⟨_,dd.mapOf,h _ _ (I.tok _) ?_⟩;rw[l];exact(rel.val k).getD rd
 ·subst ey;cases(show u=Value.ref b from ry);obtain⟨z,hd,xs,rel,dd⟩:=nZ I.hok e;refine call_meetsIn PySem.F.slot_dict_get dd.typeIs PySem.F.entry_dict_get (PySem.F.args_dict_get_3 _ _ _) (meetsH_dict_get_default (tupleKind (bz X.prog X.w)) a b hd r) ⟨tupleKind_room_in1 hu,k,xs,iI I.hok eb,dd,h _ _ (I.tok _) ?_⟩;rw[l];exact(rel.val k).getD rd
end
def DN(td ty tx:TE):TE:=λσ H Q=>td σ H λx H1=>∃a,x= .ref a/\HD H1 a/\ty σ H1 λy H2=>tx σ H2 λz H3=>∃o,dj H3 a y o/\Q (o.getD z) H3
section
variable{X:Cx}{o e f:Expr}{apos cpos:Pos}{td ty tx:TE}
theorem zu(hu:X.A.units+1<cLine)(ho:PE X o td)(he:PE X e ty)(hf:PE X f tx)(m:M2 X o "get" apos e f cpos):PE X (.Call (.Attribute o "get" apos) [e,f] [] cpos) (DN td ty tx):=by
 intro pins s σ H Q I h;refine wpAny_Call_method m.base m.few m.line PySem.F.plainAttrs_dict PySem.F.slot_dict_get PySem.F.type_dict_get (bC (ho pins s σ H _ I h) λu s1 ⟨x,H1,I1,rx,a,ex,d,q1⟩=> ?_);subst ex;obtain rfl:u=Value.ref a:=rx;obtain⟨t1,t2,_⟩:=zt I1 d;refine⟨t1,t2,?_⟩;rw[m.trees]
 refine Calls.callWith_builtin rfl (Calls.evalArgs_plain (Calls.spliced_cons (bC (he pins s1 σ H1 _ I1 q1) λiv s2 ⟨y,H2,I2,ry,q2⟩=>
  Calls.spliced_cons (bC (hf pins s2 σ H2 _ I2 q2) λfv s3 ⟨z,H3,I3,rz,ov,g,q3⟩=>Calls.spliced_nil ?_))))
 exact DM hu I3 g ry rz λw' s4 I4 rw'=>⟨_,H3,I4,rw',q3⟩
end
end L2
namespace L2
open PySem PySem.Spec PyProof.Rows
end L2
namespace L2
open PySem PySem.Spec PyProof.Rows
section
variable{X:Cx}{pins:List (Addr×Obj)}{σ:St}{H:Hp}{s:Shared}{h':Heap}
theorem aO.turnedL{t':Nat}{ch:List Addr}(I:aO X pins σ H s)(k:∀b o,b∉ch->s.heap.get? b=some o->h'.get? b=some o)(hf:∀b∈ch,mU X pins H b):aO X pins σ H {s with heap:=h',toks:=t'}:=by
 have nit:∀b u,H b=some u->b∉ch:=λb u e z=>by
  have q:=(hf b z).1;rw[q]at e;cases e
 refine I.step (g':=s.gens) (d':=s.drawn) (ch:=ch) (λb hb=>⟨(hf b hb).4,(hf b hb).2,(hf b hb).5,(hf b hb).6⟩) (λb o _ _ hc e _=>k b o hc e) (λb o _ _ hc e _=>⟨o.slots,k b o hc e⟩)
  (λ_ _ _ _ n=>n) (λb o hc e=>⟨o,k b o hc e⟩) (λ_ _ e=>e) (λ_ _ _ e=>e) (λb ps e=>⟨#[],by rw[e];simp⟩) (λm hm=> ?_) (λb u e=> ?_) I.bare
 ·obtain⟨o,es,ep,ho,r⟩:=hm;exact⟨o,es,ep,k _ o (λz=>(hf _ z).2 rfl) ho,r⟩
 ·refine(I.hok b u e).stay (λc v hc q=>k c v ?_ q) (λ_ q=>q) λ_ _ q=>q
  rcases hc with z|z
  ·rw[z];exact nit b u e
  ·exact nit c _ z
theorem aO.turnedNew{t':Nat}{ch:List Addr}{T:Addr}{ob:HO}(I:aO X pins σ H s)(k:∀b o,b∉ch->s.heap.get? b=some o->h'.get? b=some o)(hf:∀b∈ch,mU X pins H b)(hT:s.heap.objs.size<=T)
  (new:bK X.prog X.w (aJ H T ob) h' T ob):aO X pins σ (aJ H T ob) {s with heap:=h',toks:=t'}:=by
 have hn:H T=none:=I.hok.fresh hT
 have nit:∀b u,H b=some u->b∉ch:=λb u e z=>by
  have q:=(hf b z).1;rw[q]at e;cases e
 refine I.step (g':=s.gens) (d':=s.drawn) (ch:=ch) (λb hb=>⟨(hf b hb).4,(hf b hb).2,(hf b hb).5,(hf b hb).6⟩) (λb o _ _ hc e _=>k b o hc e) (λb o _ _ hc e _=>⟨o.slots,k b o hc e⟩)
  (λb o _ e n=> ?_) (λb o hc e=>⟨o,k b o hc e⟩) (λb xs e=> ?_) (λb o u e=> ?_) (λb ps e=>⟨#[],?_⟩) (λm hm=> ?_) (λb u e=> ?_) I.bare
 ·rw[aj (Nat.ne_of_lt (Nat.lt_of_lt_of_le (Heap.lt_size e) hT))];exact n
 ·rw[aj (az e hn)];exact e
 ·rw[aj (az e hn)];exact e
 ·rw[aj (az e hn),e];simp
 ·obtain⟨o,es,ep,ho,r⟩:=hm;exact⟨o,es,ep,k _ o (λz=>(hf _ z).2 rfl) ho,r⟩
 ·by_cases hb:b=T
  ·subst hb;rw[aa]at e;cases e;exact new
  ·rw[aj hb]at e;refine(I.hok b u e).stay (λc v hc q=>k c v ?_ q) (λc q=>by rw[aj (az q hn)];exact q) λc xs q=>by rw[aj (az q hn)];exact q
   rcases hc with z|z
   ·rw[z];exact nit b u e
   ·exact nit c _ z
theorem aO.lock{d:Addr}{u:HO}(I:aO X pins σ H s)(h:H d=some u)(mu:Bd (some u)):∃od,aO X pins σ (aJ H d (.frz od u)) s:=by
 have x:=I.hok d u h
 have ex:∃od,s.heap.get? d=some od:=by
  cases u with
  |lst xs=>obtain⟨_,_,_,_,e⟩:=x;exact⟨_,e⟩
  |dK kvs=>obtain⟨_,_,_,_,o,_,_,e,_⟩:=x;exact⟨o,e⟩
  |dT kvs=>obtain⟨_,_,_,_,o,_,_,e,_⟩:=x;exact⟨o,e⟩
  |set S n=>obtain⟨o,_,_,_,e,_⟩:=x;exact⟨o,e⟩
  |ins C dx fs=>obtain⟨_,_,_,e,_⟩:=x;exact⟨_,e⟩
  |ext φ=>obtain⟨_,⟨_,e⟩,_⟩:=x;exact⟨_,e⟩
  |_=>exact False.elim mu
 obtain⟨od,e⟩:=ex
 have new:bK X.prog X.w (aJ H d (.frz od u)) s.heap d (.frz od u):=by
  refine⟨e,x.stay (λb v _ q=>q) (λb q=> ?_) λb xs q=> ?_⟩
  ·rw[aj (λz=>by rw[z,h]at q;cases q;exact mu)];exact q
  ·rw[aj (λz=>by rw[z,h]at q;cases q;exact mu)];exact q
 exact⟨od,I.write (x:=d) (e:=d) (t':=s.toks) (h':=s.heap) (by rw[h];exact mu) (.inl rfl) (λb v _ q=>q) ⟨od,e⟩ new⟩
theorem aO.nofrz{d:Addr}{u:HO}(I:aO X pins σ H s)(h:H d=some u)(mu:Bd (some u)):∀o' u',X.H_0 d≠some (.frz o' u'):=λo' u' e=>by
 have q:=I.base.frzs d o' u' e;rw[h]at q;cases q;exact mu
theorem aO.unlock{d:Addr}{od:Obj}{u:HO}(I:aO X pins σ H s)(h:H d=some (.frz od u))(hn:∀o' u',X.H_0 d≠some (.frz o' u')):aO X pins σ (aJ H d u) s:=by
 have neH:∀b o,H b=some o->(∀o' u',o≠ .frz o' u')->b≠d:=λb o e hne z=>by
  rw[z,h]at e;cases e;exact hne _ _ rfl
 have neN:∀b,H b=none->b≠d:=λb e z=>by rw[z,h]at e;cases e
 refine⟨I.ok,I.os,I.bare,⟨I.base.keep,I.base.slot,λb o e n hx=> ?_,I.base.there,λb xs e=> ?_,λb o x e=> ?_,λb ps e=> ?_⟩,I.loc,I.cell,?_,λx c e=> ?_,λp hp=> ?_,λb o e=> ?_,I.len⟩
 ·rw[aj (neN b (I.base.free b o e n hx))];exact I.base.free b o e n hx
 ·have q:=I.base.tups b xs e;rw[aj (neH b _ q (λ_ _ z=>nomatch z))];exact q
 ·have q:=I.base.frzs b o x e;rw[aj (λz=>by rw[z]at e;exact hn _ _ e)];exact q
 ·obtain⟨m,q⟩:=I.base.tbls b ps e;exact⟨m,by rw[aj (neH b _ q (λ_ _ z=>nomatch z))];exact q⟩
 ·rw[aj (neN _ I.free)];exact I.free
 ·rw[aj (neN c (I.freeC x c e))];exact I.freeC x c e
 ·obtain⟨e,n,r,r2,r3⟩:=I.pin p hp;exact⟨e,by rw[aj (neN _ n)];exact n,r,r2,r3⟩
 ·by_cases hb:b=d
  ·rw[hb,aa]at e;cases e;rw[hb];obtain⟨_,x⟩:=I.hok d _ h;exact x.stay (λc v _ q=>q) (λc q=>by rw[aj (neH c _ q (λ_ _ z=>nomatch z))];exact q) λc xs q=>by rw[aj (neH c _ q (λ_ _ z=>nomatch z))];exact q
  ·rw[aj hb]at e;exact(I.hok b o e).stay (λc v _ q=>q) (λc q=>by rw[aj (neH c _ q (λ_ _ z=>nomatch z))];exact q) λc xs q=>by rw[aj (neH c _ q (λ_ _ z=>nomatch z))];exact q
end
def Fx(t:TS):TS:=λD σ H=>∃d u,H d=some u/\Bd (some u)/\∀od,t ⟨λσ' H'=>H' d=some (.frz od u)/\D.nx σ' (aJ H' d u),λv H'=>H' d=some (.frz od u)/\D.rt v (aJ H' d u),λσ' H'=>H' d=some (.frz od u)/\D.bk σ' (aJ H' d u),λσ' H'=>H' d=some (.frz od u)/\D.ct σ' (aJ H' d u)⟩ σ (aJ H d (.frz od u))
def DO(t:TE):TE:=λσ H Q=>∃d u,H d=some u/\Bd (some u)/\∀od,t σ (aJ H d (.frz od u)) λv H'=>H' d=some (.frz od u)/\Q v (aJ H' d u)
section
variable{X:Cx}
theorem By{st:Stmt}{t:TS}(h:PS X st t):PS X st (Fx t):=by
 intro pins s σ H D I hw;obtain⟨d,u,hd,mu,hw⟩:=hw;obtain⟨od,I1⟩:=I.lock hd mu;refine bC (h pins s σ _ _ I1 (hw od)) λf s1 q=> ?_
 cases f with
 |next=>obtain⟨σ',H',I2,e,q⟩:=q;exact⟨σ',_,I2.unlock e (I.nofrz hd mu),q⟩
 |brk=>obtain⟨σ',H',I2,e,q⟩:=q;exact⟨σ',_,I2.unlock e (I.nofrz hd mu),q⟩
 |cont=>obtain⟨σ',H',I2,e,q⟩:=q;exact⟨σ',_,I2.unlock e (I.nofrz hd mu),q⟩
 |ret v=>obtain⟨x,σ',H',I2,r,e,q⟩:=q;exact⟨x,σ',_,I2.unlock e (I.nofrz hd mu),r,q⟩
theorem Bz{e:Expr}{t:TE}(h:PE X e t):PE X e (DO t):=by
 intro pins s σ H Q I hw;obtain⟨d,u,hd,mu,hw⟩:=hw;obtain⟨od,I1⟩:=I.lock hd mu;refine bC (h pins s σ _ _ I1 (hw od)) λv s1 ⟨x,H1,I2,r,e2,q⟩=> ?_
 exact⟨x,_,I2.unlock e2 (I.nofrz hd mu),r,q⟩
theorem n4{tg:Expr}{pins:List (Addr×Obj)}{σ:St}{H:Hp}{s:Shared}{R:It->Hp->Prop}{J:It}{tn:Nat->Heap->Prop}{tk:Nat}(I:aO X pins σ H s)(o:Obj)
  (T:pE X.prog X.w X.K tg J [s.heap.objs.size] s.heap.objs.size tn)(st:tn 0 (s.heap.push o))(q:R J H):GZ X pins σ tg R (.ref s.heap.objs.size) {s with heap:=s.heap.push o,toks:=tk}:=by
 refine⟨s.heap.objs.size,[s.heap.objs.size],tn,J,H,rfl,I.kept λb ob e=>Heap.get?_push_of_some _ e,T,st,λb hb=> ?_,q⟩;have e:b=s.heap.objs.size:=by simpa using hb
 subst e;exact I.fpOk (Nat.le_refl _) (I.hok.fresh (Nat.le_refl _))
end
def Fy(x:Str):It:=⟨λi _=>i<x.cps.size,λi H v H'=>H'=H/\∃c,x.cps[i]? =some c/\v= .str ⟨#[c]⟩,λi _=>x.cps.size<=i⟩
theorem sU{P:Program}{w:World}{K:PySem.W.Frag}{tg:Expr}(it:Addr)(x:Str)(t:Tok)(ty:String)(hty:ty="str_ascii_iterator"\/ty="str_iterator"):
  pE P w K tg (Fy x) [it] it (λi h=>h.IsStrIter it ty x t i) where
 mem:=by simp
 obj:=λi h st b hb=>by
  have e:b=it:=by simpa using hb
  subst e;obtain⟨o,e,c,d⟩:=st;exact⟨o,e,λv z=>by rw[d]at z;cases z⟩
 keep:=λi h h' st k=>let⟨o,ho,r⟩:=st;⟨o,k it (by simp) o ho,r⟩
 item:=by
  intro X hP hw hK hc i pins s σ H E I hf st hg;subst hP hw hK;obtain⟨f0,f1,f2,f3,f4,f5⟩:=hf it (by simp)
  have W:Walks X.prog X.w X.A it [it] [it] x.cps.size (SignAt x) (λi h=>h.IsStrIter it ty x t i):=by
   rcases hty with e|e
   ·rw[e];exact Walks.strAscii (I.ok.hd hc) it x t
   ·rw[e];exact Walks.strWide (I.ok.hd hc) it x t
  have hno:["enumerate","zip","dict_itemiterator","dict_reverseitemiterator","odict_iterator","itertools.zip_longest","itertools.pairwise"].contains ty=false:=by
   rcases hty with e|e
   ·rw[e];decide
   ·rw[e];decide
  refine W.item i s _ _ hg st λv h' tk hv st' kk=> ?_
  obtain⟨c,u,hcx,rfl⟩:=hv;have I1:aO X pins σ H {s with heap:=h',toks:=tk}:=I.turned (λb o hb e=>kk b o (by simpa using hb) e) f0 f1 f3 f4 f5;obtain⟨oi,e,cc,dd⟩:=id st';exact⟨_,rfl,pQ (s:={s with heap:=h',toks:=tk}) e cc dd hno ⟨.str ⟨#[c]⟩,H,I1,⟨u,rfl⟩,⟨rfl,c,hcx,rfl⟩,st',λb hb=>(hf b hb).1⟩⟩
 done:=by
  intro X hP hw hK hc i pins s σ H E I hf st hg;subst hP hw hK;obtain⟨f0,f1,f2,f3,f4,f5⟩:=hf it (by simp);have hx:x.cps[i]? =none:=Array.getElem?_eq_none hg;rcases hty with e|e
  ·rw[e]at st;exact wpAny_pyNext_ascii_end (I.ok.hd hc) st hx λh' eb=>⟨rfl,I.turned (t':=s.toks) (λb o hb e=>eb b o hb e) f0 f1 f3 f4 f5⟩
  ·rw[e]at st;exact wpAny_pyNext_wide_end (I.ok.hd hc) st hx λh' eb=>⟨rfl,I.turned (t':=s.toks) (λb o hb e=>eb b o hb e) f0 f1 f3 f4 f5⟩
 self:=λA i s Q E st h=>by
  rcases hty with e|e
  ·rw[e]at st;exact wpAny_pyIter_striter_ascii st h
  ·rw[e]at st;exact wpAny_pyIter_striter_wide st h
def HE(te:TE):TI:=λσ H R=>te σ H λv H1=>∃x,v= .str x/\R (Fy x) H1
theorem DP{X:Cx}{tg e:Expr}{te:TE}(he:PE X e te):PI X tg e (HE te):=by
 intro pins s σ H R I h;refine bC (he pins s σ H _ I h) λv s1 ⟨y,H1,I1,r1,x,ex,q⟩=> ?_
 subst ex;obtain⟨t,rfl⟩:=r1;cases ha:x.cps.all (· <128)
 ·exact wpAny_pyIter_wide ha (n4 (tk:=s1.toks) I1 _ (sU _ x t "str_iterator" (.inr rfl)) ⟨_,Heap.get?_push_size _ rfl,rfl,rfl⟩ q)
 ·exact wpAny_pyIter_ascii ha (n4 (tk:=s1.toks) I1 _ (sU _ x t "str_ascii_iterator" (.inl rfl)) ⟨_,Heap.get?_push_size _ rfl,rfl,rfl⟩ q)
section
variable{prog:Program}{w:World}{A:Around}{E:Value->Shared->Prop}{s:Shared}
theorem lL{d:Addr}{o:Obj}{es:Array DictEntry}{ep:Nat}{Q:Value->Shared->Prop}(hd:(d==sysModules)=false)(ho:s.heap.get? d=some o)(hc:o.ExactDict)(hdat:o.data= .dict es ep)
  (hQ:Q (.ref s.heap.objs.size) {s with heap:=s.heap.push {cls:= .type "dict_keyiterator",data:= .fields #[.ref d,.int 0 0,.int es.size 0,.int ep 0]}}):
  wpAny (model prog w) A (pyIter (.ref d)) Q E s:=by
 have hT:s.TypeIs (.ref d) "dict":=⟨o,ho,hc.1⟩;refine wpAny_pyIter_slot hT F.slot_dict_iter (wpAny_call_entry F.slot_dict_iter hT F.entry_dict_iter ?_ (F.args_dict_iter_1 _));unfold Builtin.«dict.__iter__»;refine wpAny_bind ?_;unfold Builtin.Dict.dictSlotNone;refine wpAny_bind (wpAny_notOrdered_dict hT ?_);show wpAny _ _ (pure (Value.ref d)) _ _ s;refine wpAny_pure ?_;show wpAny _ _ (Builtin.Dict.showsAll d>>= _) _ _ s;unfold Builtin.Dict.showsAll;rw[if_neg (by rw[hd];exact Bool.false_ne_true)];refine wpAny_bind (wpAny_pure ?_);refine wpAny_bind (wpAny_dictEntries ho hdat ?_);refine wpAny_bind (wpAny_dictEpoch ho hdat ?_);refine wpAny_bind (wpAny_newObj_type (wpAny_pure ⟨_,rfl,"dict_keyiterator",_,⟨_,Heap.get?_push_size _ rfl,rfl⟩,F.slot_dict_keyiterator_next.lookup,?_⟩));simpa [rawInt]using hQ
theorem jz{it d:Addr}{i n ep:Nat}{od:Obj}{es:Array DictEntry}{en:DictEntry}{Q:Option Value->Shared->Prop}(hit:s.heap.IsKeyIter it d i n ep)(hod:s.heap.get? d=some od)(hdd:od.data= .dict es ep)
  (hsz:es.size=n)(hx:es[i]? =some en)(hQ:∀h',h'.IsKeyIter it d (i+1) n ep->Heap.SameBut it s.heap h'->Q (some en.key) {s with heap:=h'}):wpAny (model prog w) A (pyNext (.ref it)) Q E s:=by
 obtain⟨o,ho,hc,hd⟩:=id hit;unfold pyNext
 refine wpAny_bind (wpAny_attempt (wpAny_callSpecial?_slot (name:=Str.ofString "__next__") hit.typeIs F.slot_dict_keyiterator_next
  (wpAny_call_entry F.slot_dict_keyiterator_next hit.typeIs F.entry_dict_keyiterator_next ?_ (F.args_dict_keyiterator_next_1 _))))
 refine wpAny_bind (wpAny_pure ?_);refine wpAny_bind ?_;refine wpAny_bind ?_;first|refine wpAny_bind (wpAny_typeNameOfWhole_keyiter hit.typeIs (wpAny_pure ?_))|refine wpAny_bind (wpAny_typeNameOf_keyiter hit.typeIs (wpAny_pure ?_))
 refine wpAny_bind (wpAny_fieldsOf ho hd ?_);have hown:Builtin.Dict_items.ownsTuple "dict_keyiterator"=false:=by decide
 simp only[hown,Bool.false_eq_true,if_false];show wpAny _ _ (if(Value.ref d==Value.none)=true then _ else _) _ _ s;rw[if_neg (show¬((Value.ref d==Value.none)=true)from Bool.false_ne_true)];refine wpAny_bind (wpAny_pure ?_);refine wpAny_bind (wpAny_dictEntries hod hdd ?_);rw[if_neg (by rw[hsz];simp)];refine wpAny_bind (wpAny_pure ?_);refine wpAny_bind (wpAny_dictEpoch hod hdd ?_);rw[if_neg (by simp)];refine wpAny_pure ?_;obtain⟨hlt',hen⟩:=Array.getElem?_eq_some_iff.mp hx;simp only[show¬((i:Int)<0)from by omega,if_false,Int.toNat_natCast,Array.getElem?_eq_getElem hlt'];refine wpAny_bind ?_;first|refine wpAny_bind (wpAny_typeNameOfWhole_keyiter hit.typeIs (wpAny_pure ?_))|refine wpAny_bind (wpAny_typeNameOf_keyiter hit.typeIs (wpAny_pure ?_))
 refine wpAny_bind (wpAny_isOneOf_keyiter hit.typeIs ?_);show wpAny _ _ (setField (.ref it) 1 (rawInt ((i:Int)+1))>>= _) _ _ s;refine wpAny_bind (wpAny_setField ho hd (by simp) ?_)
 have hit':(s.heap.update it (Obj.mapFields (·.setIfInBounds 1 (rawInt ((i:Int)+1))))).IsKeyIter it d (i+1) n ep:=
  ⟨_,Heap.get?_update_self _ ho (Obj.isFreed_of_fields (Obj.data_mapFields hd _)),(Obj.cls_mapFields ..).trans hc,by rw[Obj.data_mapFields hd];simp[rawInt]⟩
 refine wpAny_bind (wpAny_holding ?_);refine wpAny_bind (wpAny_isOneOf_keyiter (s:={s with heap:=s.heap.update it (Obj.mapFields (·.setIfInBounds 1 (rawInt ((i:Int)+1))))}) hit'.typeIs ?_);show wpAny _ _ (pure es[i].key) _ _ _;rw[hen];exact wpAny_pure (wpAny_pure ⟨_,rfl,wpAny_pure (hQ _ hit' (Heap.SameBut.update ..))⟩)
theorem gG{it d:Addr}{i n ep:Nat}{od:Obj}{es:Array DictEntry}{Q:Option Value->Shared->Prop}(hh:A.handled=none)(hit:s.heap.IsKeyIter it d i n ep)(hod:s.heap.get? d=some od)(hdd:od.data= .dict es ep)
  (hsz:es.size=n)(hge:n<=i)(hQ:∀h',Heap.ExtBut it s.heap h'->Q none {s with heap:=h'}):wpAny (model prog w) A (pyNext (.ref it)) Q E s:=by
 obtain⟨o,ho,hc,hd⟩:=id hit;unfold pyNext
 refine wpAny_bind (wpAny_attempt (wpAny_callSpecial?_slot (name:=Str.ofString "__next__") hit.typeIs F.slot_dict_keyiterator_next
  (wpAny_call_entry F.slot_dict_keyiterator_next hit.typeIs F.entry_dict_keyiterator_next ?_ (F.args_dict_keyiterator_next_1 _))))
 refine wpAny_bind (wpAny_pure ?_);refine wpAny_bind ?_;refine wpAny_bind ?_;first|refine wpAny_bind (wpAny_typeNameOfWhole_keyiter hit.typeIs (wpAny_pure ?_))|refine wpAny_bind (wpAny_typeNameOf_keyiter hit.typeIs (wpAny_pure ?_))
 refine wpAny_bind (wpAny_fieldsOf ho hd ?_);have hown:Builtin.Dict_items.ownsTuple "dict_keyiterator"=false:=by decide
 simp only[hown,Bool.false_eq_true,if_false];show wpAny _ _ (if(Value.ref d==Value.none)=true then _ else _) _ _ s;rw[if_neg (show¬((Value.ref d==Value.none)=true)from Bool.false_ne_true)];refine wpAny_bind (wpAny_pure ?_);refine wpAny_bind (wpAny_dictEntries hod hdd ?_);rw[if_neg (by rw[hsz];simp)];refine wpAny_bind (wpAny_pure ?_);refine wpAny_bind (wpAny_dictEpoch hod hdd ?_);rw[if_neg (by simp)];refine wpAny_pure ?_;have hge':es.size<=i:=by rw[hsz];exact hge
 simp only[show¬((i:Int)<0)from by omega,if_false,Int.toNat_natCast,Array.getElem?_eq_none hge'];refine wpAny_bind ?_;first|refine wpAny_bind (wpAny_typeNameOfWhole_keyiter hit.typeIs (wpAny_pure ?_))|refine wpAny_bind (wpAny_typeNameOf_keyiter hit.typeIs (wpAny_pure ?_))
 show wpAny _ _ (setField (.ref it) 0 .none>>= _) _ _ s;refine wpAny_bind (wpAny_setField ho hd (by simp) ?_);show wpAny _ _ (newExc (.type "StopIteration") []>>= _) _ _ _;refine wpAny_bind ?_;simp only[newExc,newTuple];refine wpAny_bind (wpAny_newObj_type ?_ (by size_fits));refine wpAny_bind (m:=firstArgMember _ _) (wpAny_of_eq (a:=Value.none) (by first|rfl|(simp only[firstArgMember];rfl)) ?_);refine wpAny_newObj_type ?_ (by size_fits);simp only[raiseNew];refine wpAny_bind (wpAny_handled ?_);rw[show A.in1.handled=none from hh];refine wpAny_bind (wpAny_pure (wpAny_throw ?_));refine wpAny_bind (wpAny_isInstance (T:="StopIteration") (b:=true) ⟨_,Heap.get?_push_size _ rfl,rfl⟩ isSubtype_stop ?_);exact wpAny_pure (hQ _ (((Heap.SameBut.update ..).extBut.push _).push _))
end
theorem DQ{κ:Type}{kvs:List (κ×V)}{vs:List (κ×Value)}(h:KV kvs vs):∀{i:Nat} {k:κ} {v:V},kvs[i]? =some (k,v)->∃u,vs[i]? =some (k,u)/\be v u:=by
 unfold KV at h;induction h with
 |nil=>intro i k v e;simp at e
 | @cons a b l₁ l₂ r t ih=>
  intro i k v e;cases i with
  |zero=>
   simp only[List.getElem?_cons_zero,Option.some.injEq]at e;subst e;refine⟨b.2,?_,r.2⟩;simp only[List.getElem?_cons_zero];exact congrArg some (Prod.ext r.1.symm rfl)
  |succ j=>
   simp only[List.getElem?_cons_succ]at e⊢;exact ih e
theorem bS{α β:Type}{G:α->β->Prop}{l₁:List α}{l₂:List β}(h:Paired G l₁ l₂):∀{i:Nat} {a:α},l₁[i]? =some a->∃b,l₂[i]? =some b/\G a b:=by
 induction h with
 |nil=>intro i a e;simp at e
 | @cons a b l₁ l₂ r t ih=>
  intro i a' e;cases i with
  |zero=>
   simp only[List.getElem?_cons_zero,Option.some.injEq]at e;subst e;exact⟨b,rfl,r⟩
  |succ j=>
   simp only[List.getElem?_cons_succ]at e⊢;exact ih e
theorem zw{k:bG}{u:Value}(h:mj k u=true):be (kV k) u:=by
 rcases bE h with⟨i,t,rfl,rfl⟩|⟨x,t,rfl,rfl⟩
 ·exact⟨t,rfl⟩
 ·exact⟨t,rfl⟩
section
variable{X:Cx}{pins:List (Addr×Obj)}{σ:St}{H:Hp}{s:Shared}{d:Addr}{o:Obj}
theorem aO.frzK{kvs:List (bG×V)}(I:aO X pins σ H s)(h:H d=some (.frz o (.dK kvs))):
  (d==sysModules)=false/\s.heap.get? d=some o/\o.ExactDict/\∃(es:Array DictEntry) (ep:Nat) (vs:List (bG×Value)),o.data= .dict es ep/\es.size=kvs.length/\KV kvs vs/\s.heap.DictAt (bz X.prog X.w) d vs ep:=by
 obtain⟨hd,z,hs,vs,kv,o',es,ep,ho,hx,hdt,r⟩:=I.hok d _ h;rw[hd]at ho;cases ho;refine⟨hs,hd,hx,es,ep,vs,hdt,?_,kv,o,es,hd,hx,hdt,r⟩;have l1:=r.2.1.length;have l2:kvs.length=vs.length:=Paired.length kv;rw[Array.length_toList]at l1;omega
theorem aO.frzT{kvs:List (List bG×V)}(I:aO X pins σ H s)(h:H d=some (.frz o (.dT kvs))):
  (d==sysModules)=false/\s.heap.get? d=some o/\o.ExactDict/\∃(es:Array DictEntry) (ep:Nat),o.data= .dict es ep/\es.size=kvs.length/\
   ∀(i:Nat) (k:List bG) (v:V),kvs[i]? =some (k,v)->∃(en:DictEntry) (q:Addr),es[i]? =some en/\en.key= .ref q/\H q=some (.tup (k.map kV)):=by
 obtain⟨hd,z,hs,xs,pr,o',es,ep,ho,hx,hdt,he,_⟩:=I.hok d _ h;rw[hd]at ho;cases ho;refine⟨hs,hd,hx,es,ep,hdt,?_,λi k v e=> ?_⟩
 ·have l1:es.size=xs.length:=size_of_entries he;have l2:kvs.length=xs.length:=Paired.length pr;omega
 ·obtain⟨b,hb,e1,e2,_⟩:=bS pr e;have q:=entry_at he i;rw[hb]at q;exact⟨_,b.2.1,q,rfl,e2⟩
end
def Ir(d:Addr)(o:Obj)(kvs:List (bG×V)):It:=
 ⟨λi H=>H d=some (.frz o (.dK kvs))/\i<kvs.length,λi H x H'=>H'=H/\∃k v,kvs[i]? =some (k,v)/\x=kV k,λi H=>H d=some (.frz o (.dK kvs))/\kvs.length<=i⟩
def zy(d:Addr)(o:Obj)(kvs:List (List bG×V)):It:=
 ⟨λi H=>H d=some (.frz o (.dT kvs))/\i<kvs.length,λi H x H'=>H'=H/\∃(k:List bG) (v:V) (q:Addr),kvs[i]? =some (k,v)/\x= .ref q/\H q=some (.tup (k.map kV)),λi H=>H d=some (.frz o (.dT kvs))/\kvs.length<=i⟩
theorem jk{o:Obj}{es es':Array DictEntry}{ep ep':Nat}(h:o.data= .dict es ep)(h':o.data= .dict es' ep'):es'=es/\ep'=ep:=by
 rw[h]at h';cases h';exact⟨rfl,rfl⟩
section
variable{P:Program}{w:World}{K:PySem.W.Frag}{tg:Expr}{d:Addr}{o:Obj}{es:Array DictEntry}{ep:Nat}
theorem xN{kvs:List (bG×V)}(it:Addr)(hod:o.data= .dict es ep):pE P w K tg (Ir d o kvs) [it] it (λi h=>h.IsKeyIter it d i kvs.length ep) where
 mem:=by simp
 obj:=λi h st b hb=>by
  have e:b=it:=by simpa using hb
  subst e;obtain⟨oi,e,c,dd⟩:=st;exact⟨oi,e,λv z=>by rw[dd]at z;cases z⟩
 keep:=λi h h' st k=>st.at λoi e=>k it (by simp) oi e
 item:=by
  intro X hP hw hK hc i pins s σ H E I hf st hg;subst hP hw hK;obtain⟨hd,hi⟩:=hg;obtain⟨f0,f1,f2,f3,f4,f5⟩:=hf it (by simp);obtain⟨hs,hgd,hx,es',ep',vs,hdt,hsz,kv,hm⟩:=I.frzK hd;obtain⟨rfl,rfl⟩:=jk hod hdt;obtain⟨⟨k,v⟩,hkv⟩:∃p,kvs[i]? =some p:=⟨kvs[i],List.getElem?_eq_getElem hi⟩;obtain⟨u,hu,ru⟩:=DQ kv hkv;have hl:kvs.length=vs.length:=Paired.length kv;rw[hl]at st;refine wpAny_pyNext_dict_item st hm hu λkey h' hkey st' sb=> ?_
  have I1:aO X pins σ H {s with heap:=h'}:=I.turned (t':=s.toks) (λb ob hb e=>(sb.2 b hb).trans e) f0 f1 f3 f4 f5;obtain⟨oi,e,c,dd⟩:=id st';refine⟨key,rfl,pQ (s:={s with heap:=h'}) e c dd (by decide) ⟨kV k,H,I1,zw (show mj k key=true from hkey),⟨rfl,k,v,hkv,rfl⟩,?_,λb hb=>(hf b hb).1⟩⟩;show h'.IsKeyIter it d (i+1) kvs.length _;rw[hl];exact st'
 done:=by
  intro X hP hw hK hc i pins s σ H E I hf st hg;subst hP hw hK;obtain⟨hd,hi⟩:=hg;obtain⟨f0,f1,f2,f3,f4,f5⟩:=hf it (by simp);obtain⟨hs,hgd,hx,es',ep',vs,hdt,hsz,kv,hm⟩:=I.frzK hd;obtain⟨rfl,rfl⟩:=jk hod hdt;exact gG (I.ok.hd hc) st hgd hdt hsz hi λh' eb=>⟨rfl,I.turned (t':=s.toks) (λb ob hb e=>eb b ob hb e) f0 f1 f3 f4 f5⟩
 self:=λA i s Q E st h=>wpAny_pyIter_keyiter st h
theorem u0{kvs:List (List bG×V)}(it:Addr)(hod:o.data= .dict es ep):pE P w K tg (zy d o kvs) [it] it (λi h=>h.IsKeyIter it d i kvs.length ep) where
 mem:=by simp
 obj:=λi h st b hb=>by
  have e:b=it:=by simpa using hb
  subst e;obtain⟨oi,e,c,dd⟩:=st;exact⟨oi,e,λv z=>by rw[dd]at z;cases z⟩
 keep:=λi h h' st k=>st.at λoi e=>k it (by simp) oi e
 item:=by
  intro X hP hw hK hc i pins s σ H E I hf st hg;subst hP hw hK;obtain⟨hd,hi⟩:=hg;obtain⟨f0,f1,f2,f3,f4,f5⟩:=hf it (by simp);obtain⟨hs,hgd,hx,es',ep',hdt,hsz,ent⟩:=I.frzT hd;obtain⟨rfl,rfl⟩:=jk hod hdt;obtain⟨⟨k,v⟩,hkv⟩:∃p,kvs[i]? =some p:=⟨kvs[i],List.getElem?_eq_getElem hi⟩;obtain⟨en,q,hen,hkey,hq⟩:=ent i k v hkv;refine jz st hgd hdt hsz hen λh' st' sb=> ?_
  have I1:aO X pins σ H {s with heap:=h'}:=I.turned (t':=s.toks) (λb ob hb e=>(sb.2 b hb).trans e) f0 f1 f3 f4 f5;obtain⟨oi,e,c,dd⟩:=id st';exact⟨en.key,rfl,pQ (s:={s with heap:=h'}) e c dd (by decide) ⟨.ref q,H,I1,hkey,⟨rfl,k,v,q,hkv,rfl,hq⟩,st',λb hb=>(hf b hb).1⟩⟩
 done:=by
  intro X hP hw hK hc i pins s σ H E I hf st hg;subst hP hw hK;obtain⟨hd,hi⟩:=hg;obtain⟨f0,f1,f2,f3,f4,f5⟩:=hf it (by simp);obtain⟨hs,hgd,hx,es',ep',hdt,hsz,ent⟩:=I.frzT hd;obtain⟨rfl,rfl⟩:=jk hod hdt;exact gG (I.ok.hd hc) st hgd hdt hsz hi λh' eb=>⟨rfl,I.turned (t':=s.toks) (λb ob hb e=>eb b ob hb e) f0 f1 f3 f4 f5⟩
 self:=λA i s Q E st h=>by
  refine wpAny_pyIter_slot st.typeIs F.slot_dict_keyiterator_iter (wpAny_call_entry F.slot_dict_keyiterator_iter st.typeIs F.entry_dict_keyiterator_iter ?_ (F.args_dict_keyiterator_iter_1 _));show wpAny _ _ (ret (.ref it)) _ _ s;exact wpAny_pure ⟨_,rfl,"dict_keyiterator",_,st.typeIs,F.slot_dict_keyiterator_next.lookup,h⟩
end
def Fz(td:TE):TI:=λσ H R=>td σ H λx H1=>∃d o,x= .ref d/\((∃kvs,H1 d=some (.frz o (.dK kvs))/\R (Ir d o kvs) H1)\/∃kvs,H1 d=some (.frz o (.dT kvs))/\R (zy d o kvs) H1)
section
variable{X:Cx}{tg e:Expr}{td:TE}{apos cpos:Pos}
theorem BA(he:PE X e td):PI X tg e (Fz td):=by
 intro pins s σ H R I h;refine bC (he pins s σ H _ I h) λu s1 ⟨x,H1,I1,rx,d,o,ex,q⟩=> ?_
 subst ex;obtain rfl:u=Value.ref d:=rx;rcases q with⟨kvs,hd,q⟩|⟨kvs,hd,q⟩
 ·obtain⟨hs,hgd,hx,es,ep,vs,hdt,hsz,kv,hm⟩:=I1.frzK hd;refine lL hs hgd hx hdt (n4 (tk:=s1.toks) I1 _ (xN _ hdt) ⟨_,Heap.get?_push_size _ rfl,rfl,?_⟩ q);rw[hsz]<;>rfl
 ·obtain⟨hs,hgd,hx,es,ep,hdt,hsz,ent⟩:=I1.frzT hd;refine lL hs hgd hx hdt (n4 (tk:=s1.toks) I1 _ (u0 _ hdt) ⟨_,Heap.get?_push_size _ rfl,rfl,?_⟩ q);rw[hsz]<;>rfl
end
def FA(K:PySem.W.Frag)(a:Addr):It:=
 ⟨λi H=>∃(xs:List V) (x:V),aZ K H a xs/\xs[i]? =some x,λi H v H'=>∃T x,v= .ref T/\H T=none/\H'=aJ H T (.tup [.int (i:Nat),x])/\∀xs,aZ K H a xs->xs[i]? =some x,λi H=>∃xs:List V,aZ K H a xs/\xs.length<=i⟩
theorem xO{P:Program}{w:World}{K:PySem.W.Frag}{elts:List Expr}{kk:Nat}{tpos:Pos}(a e it:Addr):
  pE P w K (.Tuple elts kk tpos) (FA K a) [e,it] e (λi h=>(∃old,IsEnum h e it ((i:Nat):Int) old)/\h.IsListIter it a i/\e≠it) where
 mem:=by simp
 obj:=λi h st b hb=>by
  obtain⟨⟨old,he⟩,⟨o,ho,hc,hd⟩,_⟩:=st;have e':b=e\/b=it:=by simpa using hb
  rcases e' with z|z
  ·rw[z];exact⟨_,he,λv q=>nomatch q⟩
  ·rw[z];exact⟨o,ho,λv q=>by rw[hd]at q;cases q⟩
 keep:=λi h h' st k=>let⟨⟨old,he⟩,hi,hne⟩:=st;⟨⟨old,k e (by simp) _ he⟩,hi.at λo q=>k it (by simp) o q,hne⟩
 item:=by
  intro X hP hw hK hc i pins s σ H E I hf st hg;subst hP hw hK;obtain⟨⟨old,he⟩,hit,hne⟩:=st;obtain⟨xs,x,hq,hx⟩:=hg;obtain⟨its,rv,p,hz⟩:=I.list hq;obtain⟨u,hu,ru⟩:=rv.get hx;have hel:e<s.heap.objs.size:=Heap.lt_size he;have hil:it<s.heap.objs.size:=by obtain⟨_,q,_⟩:=hit;exact Heap.lt_size q
  refine wpAny_pyNext_enum_item he hit p.isList (x:=u) (by simpa using hu) hne λh' ho hit' hT hsz hk=> ?_
  refine⟨_,rfl,wpAny_letOwnedTupleGo_enum (s:={s with heap:=h',toks:=s.toks+1}) ho λh'' he' sb=> ?_⟩;have hT2:h''.get? s.heap.objs.size=some {cls:= .type "tuple",data:= .seq #[.int i s.toks,u]}:=(sb.2 _ (Nat.ne_of_gt hel)).trans hT
  have new:bK X.prog X.w (aJ H s.heap.objs.size (.tup [.int (i:Nat),x])) h'' s.heap.objs.size (.tup [.int (i:Nat),x]):=
   ⟨by show 2<=sizeLine;decide,[.int i s.toks,u],.cons ⟨_,rfl⟩ (.cons ru .nil),⟨_,hT2,rfl,_,rfl⟩⟩
  have I1:aO X pins σ (aJ H s.heap.objs.size (.tup [.int (i:Nat),x])) {s with heap:=h'',toks:=s.toks+1}:=
   I.turnedNew (ch:=[e,it]) (λb ob hb q=>(sb.2 b (λz=>hb (by simp[z]))).trans (hk b ob (λz=>hb (by simp[z])) (λz=>hb (by simp[z])) q)) hf (Nat.le_refl _) new
  refine⟨.ref s.heap.objs.size,_,I1,rfl,⟨_,x,rfl,I.hok.fresh (Nat.le_refl _),rfl,λys hy=>by rw[I.list_inj hy hq];exact hx⟩,⟨⟨u,?_⟩,hit'.at λo q=>(sb.2 it (Ne.symm hne)).trans q,hne⟩,λb hb=> ?_⟩
  ·have e1:((i+1:Nat):Int)=(i:Int)+1:=by omega
   rw[e1];exact he'
  ·have hb':b<s.heap.objs.size:=by
    have e':b=e\/b=it:=by simpa using hb
    rcases e' with z|z
    ·rw[z];exact hel
    ·rw[z];exact hil
   rw[aj (Nat.ne_of_lt hb')];exact(hf b hb).1
 done:=by
  intro X hP hw hK hc i pins s σ H E I hf st hg;subst hP hw hK;obtain⟨⟨old,he⟩,hit,hne⟩:=st;obtain⟨xs,hq,hx⟩:=hg;obtain⟨its,rv,p,hz⟩:=I.list hq;obtain⟨f0,f1,f2,f3,f4,f5⟩:=hf it (by simp);have hl:=rv.length;exact wpAny_pyNext_enum_end (I.ok.hd hc) he hit p.isList (by simp;omega) λh' eb=>⟨rfl,I.turned (t':=s.toks) (λb o hb q=>eb b o hb q) f0 f1 f3 f4 f5⟩
 self:=λA i s Q E st h=>let⟨⟨_,he⟩,_⟩:=st;wpAny_pyIter_enum he h
def FB(K:PySem.W.Frag)(ta:TA):TI:=λσ H R=>ta σ H λvs H1=>∃a xs,vs=[.ref a]/\aZ K H1 a xs/\R (FA K a) H1
theorem BB{X:Cx}{e:Expr}{ta:TA}{p pos tpos:Pos}{elts:List Expr}{kk:Nat}(hg:Gl X "enumerate")(hm:X.mg "enumerate"=none)(ha:PA X [e] ta)(hs:starEach [e] X.env=[(false,eval e X.env)]:=by rfl):
  PI X (.Tuple elts kk tpos) (.Call (.Name "enumerate" p) [e] [] pos) (FB X.K ta):=by
 intro pins s σ H R I h;refine Call_ (nM I hg hm boot_enumerate (PyProof.Rows.callWith_type1 (bC (ha pos pins s σ H _ I h) λus s1 ⟨vs,H1,I1,r1,q1⟩=> ?_) hs rfl));obtain⟨a,xs,ex,hq,q⟩:=q1;subst ex;cases r1 with
 |cons r rr=>
  cases rr;cases r
  obtain⟨its,rv,p',hz⟩:=I1.list hq;refine call_enumerate_list p'.isList λh' he hit hsz hk=>wpAny_pyIter_enum he ?_
  have I2:aO X pins σ H1 {s1 with heap:=h'}:=I1.kept (t':=s1.toks) hk;refine⟨s1.heap.objs.size+1,[s1.heap.objs.size+1,s1.heap.objs.size],_,_,H1,rfl,I2,xO a (s1.heap.objs.size+1) s1.heap.objs.size,⟨⟨.none,he⟩,hit,Nat.succ_ne_self _⟩,λb hb=> ?_,q⟩;have e':b=s1.heap.objs.size+1\/b=s1.heap.objs.size:=by simpa using hb
  have hle:s1.heap.objs.size<=b:=by
   rcases e' with z|z
   ·rw[z];exact Nat.le_add_right _ _
   ·rw[z];exact Nat.le_refl _
  exact I1.fpOk hle (I1.hok.fresh hle)
theorem xP:bootBuiltins "zip"=some (.type "zip"):=by decide+kernel
def FC(K:PySem.W.Frag)(a b:Addr):It:=
 ⟨λi H=>∃(xs ys:List V) (x y:V),aZ K H a xs/\aZ K H b ys/\xs[i]? =some x/\ys[i]? =some y,
  λi H v H'=>∃T x y,v= .ref T/\H T=none/\H'=aJ H T (.tup [x,y])/\(∀xs,aZ K H a xs->xs[i]? =some x)/\∀ys,aZ K H b ys->ys[i]? =some y,
  λi H=>∃xs ys:List V,aZ K H a xs/\aZ K H b ys/\(xs.length<=i\/ys.length<=i)⟩
theorem zA{P:Program}{w:World}{K:PySem.W.Frag}{elts:List Expr}{kk:Nat}{tpos:Pos}{a b z TI TO i1 i2:Addr}(D:ZipApart z TI TO i1 i2 a b):
  pE P w K (.Tuple elts kk tpos) (FC K a b) [z,TI,TO,i1,i2] z (λi h=>IsZip h z TI TO .none/\IsPair h TI (.ref i1) (.ref i2)/\(∃x y,IsPair h TO x y)/\h.IsListIter i1 a i/\h.IsListIter i2 b i) where
 mem:=by simp
 obj:=λi h st c hc=>by
  obtain⟨hz,hTI,⟨x,y,hTO⟩,⟨o1,e1,_,d1⟩,⟨o2,e2,_,d2⟩⟩:=st;have e':c=z\/c=TI\/c=TO\/c=i1\/c=i2:=by simpa using hc
  rcases e' with q|q|q|q|q
  ·rw[q];exact⟨_,hz,λv q=>nomatch q⟩
  ·rw[q];exact⟨_,hTI,λv q=>nomatch q⟩
  ·rw[q];exact⟨_,hTO,λv q=>nomatch q⟩
  ·rw[q];exact⟨o1,e1,λv q=>by rw[d1]at q;cases q⟩
  ·rw[q];exact⟨o2,e2,λv q=>by rw[d2]at q;cases q⟩
 keep:=λi h h' st k=>by
  obtain⟨hz,hTI,⟨x,y,hTO⟩,h1,h2⟩:=st;exact⟨k z (by simp) _ hz,k TI (by simp) _ hTI,⟨x,y,k TO (by simp) _ hTO⟩,h1.at λo q=>k i1 (by simp) o q,h2.at λo q=>k i2 (by simp) o q⟩
 item:=by
  intro X hP hw hK hc i pins s σ H E I hf st hg;subst hP hw hK;obtain⟨hz,hTI,⟨x0,y0,hTO⟩,h1,h2⟩:=st;obtain⟨xs,ys,x,y,hqx,hqy,hx,hy⟩:=hg;obtain⟨its,rv,p,_⟩:=I.list hqx;obtain⟨its2,rv2,p2,_⟩:=I.list hqy;obtain⟨u,hu,ru⟩:=rv.get hx;obtain⟨u2,hu2,ru2⟩:=rv2.get hy;have hzl:z<s.heap.objs.size:=Heap.lt_size hz;refine wpAny_pyNext_zip_item D hz hTI hTO h1 h2 p.isList p2.isList (x:=u) (y:=u2) (by simpa using hu) (by simpa using hu2) λh' z' TO' h1' h2' hT hsz hk=> ?_
  refine⟨_,rfl,wpAny_letOwnedTupleGo_zip (s:={s with heap:=h'}) z' λh'' z'' sb=> ?_⟩;have hT2:h''.get? s.heap.objs.size=some {cls:= .type "tuple",data:= .seq #[u,u2]}:=(sb.2 _ (Nat.ne_of_gt hzl)).trans hT
  have new:bK X.prog X.w (aJ H s.heap.objs.size (.tup [x,y])) h'' s.heap.objs.size (.tup [x,y]):=
   ⟨by show 2<=sizeLine;decide,[u,u2],.cons ru (.cons ru2 .nil),⟨_,hT2,rfl,_,rfl⟩⟩
  have I1:aO X pins σ (aJ H s.heap.objs.size (.tup [x,y])) {s with heap:=h''}:=
   I.turnedNew (t':=s.toks) (ch:=[z,TI,TO,i1,i2]) (λc o hb q=>(sb.2 c (λq'=>hb (by simp[q']))).trans (hk c o (λq'=>hb (by simp[q'])) (λq'=>hb (by simp[q'])) (λq'=>hb (by simp[q'])) (λq'=>hb (by simp[q'])) q)) hf (Nat.le_refl _) new
  refine⟨.ref s.heap.objs.size,_,I1,rfl,⟨_,x,y,rfl,I.hok.fresh (Nat.le_refl _),rfl,λl hl=>by rw[I.list_inj hl hqx];exact hx,λl hl=>by rw[I.list_inj hl hqy];exact hy⟩,⟨z'',?_,⟨u,u2,?_⟩,?_,?_⟩,λc hcm=> ?_⟩
  ·exact(sb.2 _ D.TIz).trans (hk _ _ D.TIz D.TITO D.TIi1 D.TIi2 hTI)
  ·exact(sb.2 _ D.TOz).trans TO'
  ·exact h1'.at λo q=>(sb.2 _ D.i1z).trans q
  ·exact h2'.at λo q=>(sb.2 _ D.i2z).trans q
  ·have hlt:c<s.heap.objs.size:=by
    have e':c=z\/c=TI\/c=TO\/c=i1\/c=i2:=by simpa using hcm
    rcases e' with q|q|q|q|q
    ·rw[q];exact hzl
    ·rw[q];exact Heap.lt_size hTI
    ·rw[q];exact Heap.lt_size hTO
    ·rw[q];obtain⟨_,e1,_⟩:=h1;exact Heap.lt_size e1
    ·rw[q];obtain⟨_,e2,_⟩:=h2;exact Heap.lt_size e2
   rw[aj (Nat.ne_of_lt hlt)];exact(hf c hcm).1
 done:=by
  intro X hP hw hK hc i pins s σ H E I hf st hg;subst hP hw hK;obtain⟨hz,hTI,⟨x0,y0,hTO⟩,h1,h2⟩:=st;obtain⟨xs,ys,hqx,hqy,hend⟩:=hg;obtain⟨its,rv,p,_⟩:=I.list hqx;obtain⟨its2,rv2,p2,_⟩:=I.list hqy;have l1:=rv.length;have l2:=rv2.length
  have he:its.toArray[i]? =none\/its2.toArray[i]? =none:=by
   rcases hend with q|q
   ·exact .inl (by simp;omega)
   ·exact .inr (by simp;omega)
  exact wpAny_pyNext_zip_end (I.ok.hd hc) D hz hTI hTO h1 h2 p.isList p2.isList he λh' hk=>⟨rfl,I.turnedL (t':=s.toks) (ch:=[z,TI,TO,i1,i2]) (λc o hb q=>
   hk c o (λq'=>hb (by simp[q'])) (λq'=>hb (by simp[q'])) (λq'=>hb (by simp[q'])) (λq'=>hb (by simp[q'])) q) hf⟩
 self:=λA i s Q E st h=>wpAny_pyIter_zip st.1 h
def HF(K:PySem.W.Frag)(ta:TA):TI:=λσ H R=>ta σ H λvs H1=>∃a b xs ys,vs=[.ref a,.ref b]/\aZ K H1 a xs/\aZ K H1 b ys/\R (FC K a b) H1
theorem u4{X:Cx}{e e2:Expr}{ta:TA}{p pos tpos:Pos}{elts:List Expr}{kk:Nat}(hg:Gl X "zip")(hm:X.mg "zip"=none)(ha:PA X [e,e2] ta)
  (hs:starEach [e,e2] X.env=(false,eval e X.env)::starEach [e2] X.env:=by rfl)(hpl:(backTo pos (starEach [e2] X.env)).any (·.1)=false:=by rfl):
  PI X (.Tuple elts kk tpos) (.Call (.Name "zip" p) [e,e2] [] pos) (HF X.K ta):=by
 intro pins s σ H R I h;refine Call_ (nM I hg hm xP (PyProof.Rows.callWith_type1 (bC (ha pos pins s σ H _ I h) λus s1 ⟨vs,H1,I1,r1,q1⟩=> ?_) hs hpl));obtain⟨a,b,xs,ys,ex,hqx,hqy,q⟩:=q1;subst ex;cases r1 with
 |cons r rr=>
  cases rr with
  |cons r' rr=>
   cases rr;cases r
   cases r';obtain⟨its,rv,p1,_⟩:=I1.list hqx
   obtain⟨its2,rv2,p2,_⟩:=I1.list hqy;have la:a<s1.heap.objs.size:=p1.lt;have lb:b<s1.heap.objs.size:=p2.lt;refine call_zip_2 p1.isList p2.isList λh' hz hTI hTO h1 h2 hsz hk=>wpAny_pyIter_zip hz ?_
   have I2:aO X pins σ H1 {s1 with heap:=h'}:=I1.kept (t':=s1.toks) hk;refine⟨s1.heap.objs.size+4,[s1.heap.objs.size+4,s1.heap.objs.size+2,s1.heap.objs.size+3,s1.heap.objs.size,s1.heap.objs.size+1],_,_,H1,rfl,I2,zA (PySem.W.ktu_apart s1.heap.objs.size a b la lb),⟨hz,hTI,⟨_,_,hTO⟩,h1,h2⟩,λc hcm=> ?_,q⟩;have e':c=s1.heap.objs.size+4\/c=s1.heap.objs.size+2\/c=s1.heap.objs.size+3\/c=s1.heap.objs.size\/c=s1.heap.objs.size+1:=by simpa using hcm
   have hle:s1.heap.objs.size<=c:=by
    rcases e' with z|z|z|z|z
    ·rw[z];exact Nat.le_add_right _ _
    ·rw[z];exact Nat.le_add_right _ _
    ·rw[z];exact Nat.le_add_right _ _
    ·rw[z];exact Nat.le_refl _
    ·rw[z];exact Nat.le_add_right _ _
   exact I1.fpOk hle (I1.hok.fresh hle)
end L2
section
namespace Bits
open PySem PyProof.Rows
end Bits
end
section
namespace TL
open PySem PySem.Builtin PySem.Builtin.Str PySem.StrLaws
abbrev tl(x:Str):List Nat:=x.cps.toList
theorem len_tl(x:Str):x.length=(tl x).length:=by simp[tl,Str.length]
def numL(n:Nat):List Nat:=(Nat.toDigits 10 n).map Char.toNat
theorem tl_num(n:Nat):tl (Str.ofString (toString ((n:Nat):Int)))=numL n:=PySem.W.KIN.signs_num n
theorem digitChar_nat:∀d:Nat,d<10->(Nat.digitChar d).toNat=48+d:=by decide
theorem numL_lt{n:Nat}(h:n<10):numL n=[48+n]:=by
 unfold numL;rw[Nat.toDigits_of_lt_base h];show[(Nat.digitChar n).toNat]=_;rw[digitChar_nat n h]
theorem numL_step{n:Nat}(h:10<=n):numL n=numL (n / 10)++[48+n % 10]:=by
 have hm:n % 10<10:=Nat.mod_lt n (by decide);have t:Nat.toDigits 10 (n / 10)++Nat.toDigits 10 (n % 10)=Nat.toDigits 10 (10*(n / 10)+n % 10):=Nat.toDigits_append_toDigits (by decide) (by omega) hm;rw[Nat.div_add_mod]at t;show(Nat.toDigits 10 n).map Char.toNat=_;rw[<-t,List.map_append,Nat.toDigits_of_lt_base hm];show(Nat.toDigits 10 (n / 10)).map Char.toNat++[(Nat.digitChar (n % 10)).toNat]=_;rw[digitChar_nat _ hm]<;>rfl
theorem numL_len{n k:Nat}(hk:0<k)(h:n<10 ^ k):(numL n).length<=k:=by
 have z:=PyProof.Rows.toString_length_le (v:=(n:Int)) (by omega) hk (by
  have e:((10:Int) ^ k)=((10 ^ k:Nat):Int):=by
   first
    |exact(Int.natCast_pow 10 k).symm
    |simp
  rw[e]
  first|exact Int.ofNat_lt.mpr h|omega)
 rw[len_tl,tl_num]at z;exact z
end TL
end
namespace L2
open PySem PySem.Spec PyProof.Rows
end L2
namespace L2
open PySem PySem.Spec PyProof.Rows
end L2
namespace Att
open PySem PySem.W PySem.Calls PyProof.Rows
end Att
namespace L2
open PySem PySem.Spec PyProof.Rows
end L2
namespace L2
open PySem PySem.Spec PyProof.Rows
abbrev gC{K:PySem.W.Frag}{h:Heap}(_:K.In h):PySem.W.Frag:=K
end L2
namespace L2
open PySem PySem.Spec PyProof.Rows
def fk(s:Stmt)(j:Nat):Stmt:=match s with
 | .ClassDef _ _ _ body _ _ _ _ _ _ _=>body.getD j (.Pass ⟨0,0,0,0⟩)
 |_=> .Pass ⟨0,0,0,0⟩
def cU(s:Stmt):Arguments:=match s with
 | .FunctionDef _ a _ _ _ _ _ _ _ _=>a
 |_=>{posonlyargs:=[],args:=[],vararg:=none,kwonlyargs:=[],kw_defaults:=[],kwarg:=none,defaults:=[]}
def cw(s:Stmt):List Stmt:=match s with
 | .FunctionDef _ _ b _ _ _ _ _ _ _=>b
 |_=>[]
def ao(s:Stmt):Scope:=match s with
 | .FunctionDef _ _ _ _ _ _ sc _ _ _=>sc
 |_=>{kind:= .function,names:=[],isGenerator:=false,isCoroutine:=false}
abbrev Bb:ze:=λ_ _ _ _ _ _=>False
abbrev E0:XK:=λ_ _ _=>False
theorem sV{X:Cx}:jU Bb X E0:=λ_ _ _ _ _ _ _ h=>h.elim
structure BC(K:PySem.W.Frag)(x qual:Str)(st:Stmt)(f:Addr)(fd:FuncData):Prop where
 ex:∃(oc:Value) (od:Option Addr) (kV doc pm:Value) (an:Option Addr) (cdv ct:Value) (osl:Array (Option Value)),
  fd=PySem.W.fnOf x qual (cU st) (cw st) (ao st) .none kV doc pm an cdv ct/\K.lookup f=some ⟨oc,od,.func fd,osl⟩/\PySem.W.codeIn K cdv qual=true
 kp:PySem.W.keepIn K (.ref f)=true
section
variable{P:Program}{w:World}{K:PySem.W.Frag}{mg:Str->Option Value}{base:Heap}
theorem BC.ok{x qual:Str}{st:Stmt}{f:Addr}{fd:FuncData}{N ps:List Str}{k:Nat}{sp:Sp}(F:BC K x qual st f fd)(S:aC N ps (ao st))(len:∀vs H Q E,sp vs H Q E->vs.length=ps.length)
  (hbody:∀(cdv:Value) (A:Around) (outer:List Env) (s:Shared) (H:Hp) (vs:List V) (Q:VK) (E:XK),Room k (A.deeper (envOfC qual (ao st) s.heap.objs.size f cdv))->sp vs H Q E->
   ∃t,uK (uV Bb P w K mg base N qual (ao st) f cdv A outer s H E).nox (cw st) t/\t {nx:=λ_ H'=>Q .non H',rt:=Q} (start N vs) H):jv P w K mg base Bb (k+1) f fd ps sp:=by
 obtain⟨oc,od,kV,doc,pm,an,cdv,ct,osl,rfl,lk,hcd⟩:=F.ex;refine Fl lk hcd S len λA outer s H vs Q E hr hsp=> ?_
 obtain⟨t,h,q⟩:=hbody cdv A outer s H vs Q E hr hsp;exact⟨t,h.nox,q⟩
theorem BC.binds{x qual:Str}{st:Stmt}{f:Addr}{fd:FuncData}{ps:List Str}(F:BC K x qual st f fd)
  (h:∀(kV doc pm:Value) (an:Option Addr) (cdv ct:Value) (us:List Value),us.length=ps.length->bindArgs (PySem.W.fnOf x qual (cU st) (cw st) (ao st) .none kV doc pm an cdv ct) ⟨us,[]⟩=pure (ps.zip us)):d7 K fd ps []:=by
 obtain⟨oc,od,kV,doc,pm,an,cdv,ct,osl,rfl,lk,hcd⟩:=F.ex;exact .all (h kV doc pm an cdv ct)
theorem jX{x qual:Str}{st:Stmt}{f:Addr}{oc:Value}{od an:Option Addr}{osl:Array (Option Value)}{kV doc pm cdv ct:Value}(l:K.lookup f=some ⟨oc,od,.func (PySem.W.fnOf x qual (cU st) (cw st) (ao st) .none kV doc pm an cdv ct),osl⟩)
  (c:PySem.W.codeIn K cdv qual=true)(k:PySem.W.keepIn K (.ref f)=true):BC K x qual st f (PySem.W.fnOf x qual (cU st) (cw st) (ao st) .none kV doc pm an cdv ct):=⟨⟨oc,od,kV,doc,pm,an,cdv,ct,osl,rfl,l,c⟩,k⟩
end
theorem bT{A:Around}{k:Nat}(hr:Room k A):A.units+1<cLine:=Nat.lt_of_le_of_lt (Nat.add_le_add_left (by decide:1<=64) _) hr.units
section
variable{X:Cx}
theorem pv(i:Nat){x:Str}{pos:Pos}(hN:X.N[i]? =some x:=by rfl)(hv:Dl X.env.scope x:=by first|exact Or.inl rfl|exact Or.inr (Or.inl rfl)|exact Or.inr (Or.inr rfl))(hd:(x==("__debug__":Str))=false:=by decide)
  (hcd:(x==("__classdict__":Str))=false:=by decide):PE X (.Name x pos) (nJ i):=yQ hN hv hd hcd
end
theorem jw{A B:Prop}(h:B):if false=true then A else B:=by
 rw[if_neg Bool.false_ne_true];exact h
theorem iq{A B:Prop}(h:A):if true=true then A else B:=by
 rw[if_pos rfl];exact h
def aH(H H':Hp):Prop:=∀b o,H b=some o->H' b=some o
theorem aH.refl(H:Hp):aH H H:=λ_ _ h=>h
theorem aH.trans{H H1 H2:Hp}(a:aH H H1)(b:aH H1 H2):aH H H2:=λc o h=>b c o (a c o h)
theorem aH.free{H H':Hp}(e:aH H H'){l:Addr}(h:H' l=Option.none):H l=Option.none:=by
 cases q:H l with
 |none=>rfl
 |some o=>
  rw[e l o q]at h;cases h
theorem aH.seq{K:PySem.W.Frag}{H H':Hp}{a:Addr}{xs:List V}(e:aH H H')(h:aZ K H a xs):aZ K H' a xs:=by
 rcases h with(h|⟨o,h⟩)|h
 ·exact .inl (.inl (e _ _ h))
 ·exact .inl (.inr ⟨o,e _ _ h⟩)
 ·exact .inr h
theorem C2{α:Type}{l:List α}(hN:l.Nodup){i j:Nat}{x:α}(a:l[i]? =some x)(b:l[j]? =some x):i=j:=by
 obtain⟨h1,e1⟩:=List.getElem?_eq_some_iff.mp a;obtain⟨h2,e2⟩:=List.getElem?_eq_some_iff.mp b;exact(List.getElem_inj hN).mp (e1.trans e2.symm)
end L2
section
namespace L2
open PySem PySem.Spec PyProof.Rows
open PySem.W (WData Codec OpenSpec Well WellAll ReadsW ReadsAllW)
mutual
inductive Dw(K:PySem.W.Frag)(H:Hp):V->WData->Prop
 |non:Dw K H .non .none
 |bl (b:Bool):Dw K H (.bl b) (.bool b)
 |int (i:Int):Dw K H (.int i) (.int i)
 |str (x:Str):Dw K H (.str x) (.str x)
 |byt (b:Array UInt8):Dw K H (.byt b) (.bytes b.toList)
 |lst {a:Addr} {xs:List V} {ds:List WData}:aZ K H a xs->hZ K H xs ds->Dw K H (.ref a) (.list ds)
 |tup {a:Addr} {xs:List V} {ds:List WData}:jN K H a xs->hZ K H xs ds->Dw K H (.ref a) (.tuple ds)
inductive hZ(K:PySem.W.Frag)(H:Hp):List V->List WData->Prop
 |nil:hZ K H [] []
 |cons {v:V} {vs:List V} {d:WData} {ds:List WData}:Dw K H v d->hZ K H vs ds->hZ K H (v::vs) (d::ds)
end
theorem wG{K:PySem.W.Frag}{H:Hp}:∀ns:List Int,hZ K H (ns.map V.int) (ns.map WData.int)
 |[]=> .nil
 |n::r=> .cons (.int n) (wG r)
theorem wH{K:PySem.W.Frag}{H:Hp}:∀(ns:List Int) (xs:List V),hZ K H xs (ns.map WData.int)->xs=ns.map V.int
 |[],xs,h=>by
  cases h;rfl
 |n::r,xs,h=>by
  cases h with
  |cons h1 h2=>
   cases h1;rw[wH r _ h2]<;>rfl
section
variable{P:Program}{w:World}{K:PySem.W.Frag}{H:Hp}{h:Heap}{R:PySem.W.WRecords}{cl:Str->Option Addr}
theorem DR{a:Addr}{xs:List V}(hok:ir P w H h)(KX:K.In h)(q:aZ K H a xs):∃(its:List Value) (o:Obj) (n:Nat),aW xs its/\h.get? a=some o/\o.cls= .type "list"/\o.data= .seq its.toArray n:=by
 rcases q with q|⟨o,its,n,e,hc,_,hd,_,hv⟩
 ·obtain⟨_,its,n,hv,e⟩:=(show bK P w H h a (.lst xs)from q.ok hok);exact⟨its,_,n,hv,e,rfl,rfl⟩
 ·exact⟨its.toList,o,n,hv,KX _ _ e,hc,by simp[hd]⟩
theorem DS{a:Addr}{xs:List V}(hok:ir P w H h)(KX:K.In h)(q:jN K H a xs):∃(its:List Value) (o:Obj) (n:Nat),aW xs its/\h.get? a=some o/\o.cls= .type "tuple"/\o.data= .seq its.toArray n:=by
 rcases q with q|⟨o,its,n,e,hc,hd,_,hv⟩
 ·obtain⟨_,its,hv,o,e,hc,n,hd⟩:=(show bK P w H h a (.tup xs)from q.ok hok);exact⟨its,o,n,hv,e,hc,hd⟩
 ·exact⟨its.toList,o,n,hv,KX _ _ e,hc,by simp[hd]⟩
mutual
theorem Dw.reads(hok:ir P w H h)(KX:K.In h):∀(d:WData) (v:V) (u:Value),Dw K H v d->be v u->∃as,ReadsW R cl h u d as
 | .none,_,_,x,r=>by
  cases x;cases r
  exact⟨_,ReadsW.none⟩
 | .bool b,_,_,x,r=>by
  cases x;cases r
  exact⟨_,ReadsW.bool b⟩
 | .int i,_,_,x,r=>by
  cases x;obtain⟨t,rfl⟩:=r;exact⟨_,ReadsW.int i t⟩
 | .str s,_,_,x,r=>by
  cases x;obtain⟨t,rfl⟩:=r;exact⟨_,ReadsW.str s t⟩
 | .bytes b,_,_,x,r=>by
  cases x;obtain⟨t,rfl⟩:=r;exact⟨_,ReadsW.bytes _ t⟩
 | .list ds,_,_,x,r=>by
  cases x with
  |lst hs ha=>
   cases r;obtain⟨its,o,n,rv,ho,hc,hd⟩:=DR hok KX hs
   obtain⟨as,hr⟩:=Dw.readsAll hok KX ds _ its ha rv;exact⟨_,ReadsW.list ho hc hd hr⟩
 | .tuple ds,_,_,x,r=>by
  cases x with
  |tup hs ha=>
   cases r;obtain⟨its,o,n,rv,ho,hc,hd⟩:=DS hok KX hs
   obtain⟨as,hr⟩:=Dw.readsAll hok KX ds _ its ha rv;exact⟨_,ReadsW.tuple ho hc hd hr⟩
 | .float _,_,_,x,_=>by cases x
 | .dict _,_,_,x,_=>by cases x
 | .bytearray _,_,_,x,_=>by cases x
 | .set _,_,_,x,_=>by cases x
 | .frozenset _,_,_,x,_=>by cases x
 | .obj _ _,_,_,x,_=>by cases x
theorem Dw.readsAll(hok:ir P w H h)(KX:K.In h):∀(ds:List WData) (vs:List V) (us:List Value),hZ K H vs ds->aW vs us->∃as,ReadsAllW R cl h us ds as
 |[],_,_,x,r=>by
  cases x;cases r
  exact⟨_,ReadsAllW.nil⟩
 |d::ds,_,_,x,r=>by
  cases x with
  |cons h1 h2=>
   cases r with
   |cons r1 r2=>
    obtain⟨as,q1⟩:=Dw.reads hok KX d _ _ h1 r1;obtain⟨bs,q2⟩:=Dw.readsAll hok KX ds _ _ h2 r2;exact⟨_,ReadsAllW.cons q1 q2⟩
end
end
mutual
def wI:WData->Bool
 | .none=>true
 | .bool _=>true
 | .int _=>true
 | .str _=>true
 | .bytes _=>true
 | .list xs=>mV xs
 | .tuple xs=>mV xs
 |_=>false
def mV:List WData->Bool
 |[]=>true
 |x::r=>wI x&&mV r
end
theorem sW{α:Type}{f:α->WData}(h:∀a,wI (f a)=true):∀l:List α,mV (l.map f)=true
 |[]=>rfl
 |x::r=>by
  show(wI (f x)&&mV (r.map f))=true
  rw[h x,sW h r]<;>rfl
theorem iJ:∀(c:Codec) (a:c.denote),wI (c.enc a)=true
 | .unit,_=>rfl
 | .bool,_=>rfl
 | .int _ _,_=>rfl
 | .nat _ _,_=>rfl
 | .u8,_=>rfl
 | .bytes _ _,_=>rfl
 | .text _ _ _ _,_=>rfl
 | .list _ _ c,a=>sW (λx=>iJ c x) a
 | .pair c d,a=>by
  show(wI (c.enc a.1)&&(wI (d.enc a.2)&&true))=true
  rw[iJ c a.1,iJ d a.2]<;>rfl
 | .triple c d e,a=>by
  show(wI (c.enc a.1)&&(wI (d.enc a.2.1)&&(wI (e.enc a.2.2)&&true)))=true
  rw[iJ c a.1,iJ d a.2.1,iJ e a.2.2]<;>rfl
 | .option c,none=>rfl
 | .option c,some x=>iJ c x
theorem qf:∀(cs:List Codec) (a:Codec.denoteAll cs),mV (Codec.encAll cs a)=true
 |[],_=>rfl
 |c::cs,a=>by
  show(wI (c.enc a.1)&&mV (Codec.encAll cs a.2))=true
  rw[iJ c a.1,qf cs a.2]<;>rfl
theorem jY:∀{xs:List WData} {d:WData},d∈xs->d.weight<=WData.weightAll xs
 |[],d,h=>absurd h (by simp)
 |x::r,d,h=>by
  show d.weight<=x.weight+1+WData.weightAll r;rcases List.mem_cons.mp h with e|m
  ·rw[e];omega
  ·have z:=jY m;omega
def sX:Value->V
 | .none=> .non
 | .bool b=> .bl b
 | .int i _=> .int i
 | .str x _=> .str x
 | .bytes b _=> .byt b
 | .ref a=> .ref a
 |_=> .non
def xQ(A:List Addr):Value->Prop
 | .none=>True
 | .bool _=>True
 | .int _ _=>True
 | .str _ _=>True
 | .bytes _ _=>True
 | .ref a=>a∈A
 |_=>False
theorem xQ.mono{A B:List Addr}(h:∀a∈A,a∈B):∀{u:Value},xQ A u->xQ B u:=λ{u} x=>by
 cases u with
 |ref a=>exact h a x
 |none=>trivial
 |bool b=>trivial
 |int i t=>trivial
 |str s t=>trivial
 |bytes b t=>trivial
 |_=>exact False.elim x
theorem zB{A:List Addr}{u:Value}(x:xQ A u):be (sX u) u:=by
 cases u with
 |ref a=>rfl
 |none=>rfl
 |bool b=>rfl
 |int i t=>exact⟨t,rfl⟩
 |str s t=>exact⟨t,rfl⟩
 |bytes b t=>exact⟨t,rfl⟩
 |_=>exact False.elim x
theorem fX{A:List Addr}:∀{vs:List Value},(∀u∈vs,xQ A u)->aW (vs.map sX) vs
 |[],_=> .nil
 |u::r,h=> .cons (zB (h u (List.mem_cons_self ..))) (fX λx hx=>h x (List.mem_cons_of_mem _ hx))
def ib(h:Heap)(A:List Addr)(a:Addr):Prop:=∃vs:List Value,vs.length<=sizeLine/\(∀u∈vs,xQ A u)/\
 (h.get? a=some {cls:= .type "list",data:= .seq vs.toArray}\/h.get? a=some {cls:= .type "tuple",data:= .seq vs.toArray})
theorem ib.mono{h:Heap}{A B:List Addr}{a:Addr}(k:∀a∈A,a∈B)(x:ib h A a):ib h B a:=by
 obtain⟨vs,h1,h2,h3⟩:=x;exact⟨vs,h1,λu hu=>(h2 u hu).mono k,h3⟩
theorem fm{P:Params}{h:Heap}:∀{vs:List Value} {ds:List WData},WellAll P h vs ds->vs.length=ds.length
 |_,_,.nil=>rfl
 |_,_,.cons _ b=>by
  show _+1=_+1;rw[fm b]
theorem qg{P:Params}{h:Heap}{v:Value}{ds:List WData}(x:Well P h v (.list ds)):∃(a:Addr) (vs:List Value),v= .ref a/\h.get? a=some {cls:= .type "list",data:= .seq vs.toArray}/\WellAll P h vs ds:=by
 cases x with
 |list ho hall=>exact⟨_,_,rfl,ho,hall⟩
theorem n6{P:Params}{h:Heap}{v:Value}{ds:List WData}(x:Well P h v (.tuple ds)):∃(a:Addr) (vs:List Value),v= .ref a/\h.get? a=some {cls:= .type "tuple",data:= .seq vs.toArray}/\WellAll P h vs ds:=by
 cases x with
 |tuple ho hall=>exact⟨_,_,rfl,ho,hall⟩
theorem qh{P:Params}{h:Heap}{us:List Value}{d:WData}{ds:List WData}(x:WellAll P h us (d::ds)):∃(v:Value) (vs:List Value),us=v::vs/\Well P h v d/\WellAll P h vs ds:=by
 cases x with
 |cons a b=>exact⟨_,_,rfl,a,b⟩
theorem wJ{n:Nat}(h:n<=1048576):n<=sizeLine:=Nat.le_trans h (by decide)
section
variable{P:Params}{h:Heap}
mutual
theorem zC:∀(d:WData) (v:Value),Well P h v d->wI d=true->d.weight<=1048576->∃A:List Addr,xQ A v/\∀a∈A,ib h A a
 | .none,_,x,_,_=>by
  cases x;exact⟨[],trivial,λa m=>absurd m (by simp)⟩
 | .bool b,_,x,_,_=>by
  cases x;exact⟨[],trivial,λa m=>absurd m (by simp)⟩
 | .int i,_,x,_,_=>by
  cases x;exact⟨[],trivial,λa m=>absurd m (by simp)⟩
 | .str s,_,x,_,_=>by
  cases x;exact⟨[],trivial,λa m=>absurd m (by simp)⟩
 | .bytes b,_,x,_,_=>by
  cases x;exact⟨[],trivial,λa m=>absurd m (by simp)⟩
 | .list ds,_,x,p,z=>by
  obtain⟨a,vs,rfl,ho,hall⟩:=qg x;have z2:WData.weightAll ds<=1048576:=z;obtain⟨A,h1,h2⟩:=kG ds _ hall p λd hd=>Nat.le_trans (jY hd) z2
  have k:∀b∈A,b∈a::A:=λb hb=>List.mem_cons_of_mem _ hb
  refine⟨a::A,List.mem_cons_self ..,λb hb=> ?_⟩;rcases List.mem_cons.mp hb with e|m
  ·rw[e];exact⟨vs,wJ (by rw[fm hall];exact Nat.le_trans (PySem.W.length_le_weightAllW ds) z2),λu hu=>(h1 u hu).mono k,.inl ho⟩
  ·exact(h2 b m).mono k
 | .tuple ds,_,x,p,z=>by
  obtain⟨a,vs,rfl,ho,hall⟩:=n6 x;have z2:WData.weightAll ds<=1048576:=z;obtain⟨A,h1,h2⟩:=kG ds _ hall p λd hd=>Nat.le_trans (jY hd) z2
  have k:∀b∈A,b∈a::A:=λb hb=>List.mem_cons_of_mem _ hb
  refine⟨a::A,List.mem_cons_self ..,λb hb=> ?_⟩;rcases List.mem_cons.mp hb with e|m
  ·rw[e];exact⟨vs,wJ (by rw[fm hall];exact Nat.le_trans (PySem.W.length_le_weightAllW ds) z2),λu hu=>(h1 u hu).mono k,.inr ho⟩
  ·exact(h2 b m).mono k
 | .float _,_,_,p,_=>Bool.noConfusion (show false=true from p)
 | .dict _,_,_,p,_=>Bool.noConfusion (show false=true from p)
 | .bytearray _,_,_,p,_=>Bool.noConfusion (show false=true from p)
 | .set _,_,_,p,_=>Bool.noConfusion (show false=true from p)
 | .frozenset _,_,_,p,_=>Bool.noConfusion (show false=true from p)
 | .obj _ _,_,_,p,_=>Bool.noConfusion (show false=true from p)
theorem kG:∀(ds:List WData) (vs:List Value),WellAll P h vs ds->mV ds=true->(∀d∈ds,d.weight<=1048576)->∃A:List Addr,(∀u∈vs,xQ A u)/\∀a∈A,ib h A a
 |[],_,x,_,_=>by
  cases x;exact⟨[],λu m=>absurd m (by simp),λa m=>absurd m (by simp)⟩
 |d::ds,_,x,p,z=>by
  obtain⟨v,vs,rfl,x1,x2⟩:=qh x;have q:wI d=true/\mV ds=true:=Bool.and_eq_true_iff.mp p;obtain⟨A,a1,a2⟩:=zC d v x1 q.1 (z d (List.mem_cons_self ..));obtain⟨B,b1,b2⟩:=kG ds vs x2 q.2 λe he=>z e (List.mem_cons_of_mem _ he)
  have kA:∀b∈A,b∈A++B:=λb hb=>List.mem_append.mpr (.inl hb)
  have kB:∀b∈B,b∈A++B:=λb hb=>List.mem_append.mpr (.inr hb)
  refine⟨A++B,λu hu=> ?_,λb hb=> ?_⟩
  ·rcases List.mem_cons.mp hu with e|m
   ·rw[e];exact a1.mono kA
   ·exact(b1 u m).mono kB
  ·rcases List.mem_append.mp hb with m|m
   ·exact(a2 b m).mono kA
   ·exact(b2 b m).mono kB
end
end
def BD(o:Obj):Option HO:=match o.data with
 | .seq vs _=>if(o.cls==Value.type "list")=true then some (.frz o (.lst (vs.toList.map sX)))else some (.frz o (.tup (vs.toList.map sX)))
 |_=>none
def gH(K:PySem.W.Frag)(h:Heap)(A:List Addr):Hp:=λb=>if b∈A then(if(K.lookup b).isNone=true then(h.get? b).bind BD else none)else none
def sY(H:Hp):Prop:=∀b,H b=none\/∃o u,H b=some (.frz o u)
theorem sZ(vs:List Value):BD {cls:= .type "list",data:= .seq vs.toArray}=some (.frz {cls:= .type "list",data:= .seq vs.toArray} (.lst (vs.map sX))):=by
 show(if(Value.type "list"==Value.type "list")=true then some (HO.frz {cls:= .type "list",data:= .seq vs.toArray} (.lst (vs.toArray.toList.map sX)))else some (HO.frz {cls:= .type "list",data:= .seq vs.toArray} (.tup (vs.toArray.toList.map sX))))=_
 rw[if_pos (beq_self_eq_true _)]
theorem tf(vs:List Value):BD {cls:= .type "tuple",data:= .seq vs.toArray}=some (.frz {cls:= .type "tuple",data:= .seq vs.toArray} (.tup (vs.map sX))):=by
 show(if(Value.type "tuple"==Value.type "list")=true then some (HO.frz {cls:= .type "tuple",data:= .seq vs.toArray} (.lst (vs.toArray.toList.map sX)))else some (HO.frz {cls:= .type "tuple",data:= .seq vs.toArray} (.tup (vs.toArray.toList.map sX))))=_
 rw[if_neg (by decide)]
section
variable{P:Program}{w:World}{K:PySem.W.Frag}{h:Heap}{A:List Addr}
theorem m8{b:Addr}{o:Obj}(hb:b∈A)(hk:K.lookup b=none)(e:h.get? b=some o):gH K h A b=BD o:=by
 unfold gH;rw[if_pos hb,hk,if_pos (show(none:Option Obj).isNone=true from rfl),e]<;>rfl
theorem BE{b:Addr}{u:HO}(q:gH K h A b=some u):b∈A/\K.lookup b=none:=by
 unfold gH at q;by_cases hb:b∈A
 ·rw[if_pos hb]at q;cases hk:K.lookup b with
  |none=>exact⟨hb,rfl⟩
  |some o=>
   rw[hk,if_neg (by simp)]at q;cases q
 ·rw[if_neg hb]at q;cases q
theorem m9(ar:∀a∈A,ib h A a){b:Addr}{u:HO}(q:gH K h A b=some u):K.lookup b=none/\∃vs:List Value,vs.length<=sizeLine/\(∀u∈vs,xQ A u)/\
  ((h.get? b=some {cls:= .type "list",data:= .seq vs.toArray}/\u= .frz {cls:= .type "list",data:= .seq vs.toArray} (.lst (vs.map sX)))\/
   (h.get? b=some {cls:= .type "tuple",data:= .seq vs.toArray}/\u= .frz {cls:= .type "tuple",data:= .seq vs.toArray} (.tup (vs.map sX)))):=by
 obtain⟨hb,hk⟩:=BE q;obtain⟨vs,h1,h2,h3⟩:=ar b hb;refine⟨hk,vs,h1,h2,?_⟩;rcases h3 with e|e
 ·rw[m8 hb hk e,sZ]at q;exact .inl ⟨e,(Option.some.inj q).symm⟩
 ·rw[m8 hb hk e,tf]at q;exact .inr ⟨e,(Option.some.inj q).symm⟩
theorem xR(ar:∀a∈A,ib h A a):sY (gH K h A):=λb=>by
 cases q:gH K h A b with
 |none=>exact .inl rfl
 |some u=>
  obtain⟨_,vs,_,_,⟨_,e⟩|⟨_,e⟩⟩:=m9 ar q
  ·exact .inr ⟨_,_,by rw[e]⟩
  ·exact .inr ⟨_,_,by rw[e]⟩
theorem BF(ar:∀a∈A,ib h A a):ir P w (gH K h A) h:=λb u q=>by
 obtain⟨_,vs,h1,h2,⟨e,rfl⟩|⟨e,rfl⟩⟩:=m9 ar q
 ·exact⟨e,by rw[List.length_map];exact h1,vs,_,fX h2,e⟩
 ·exact⟨e,by rw[List.length_map];exact h1,vs,fX h2,_,e,rfl,_,rfl⟩
theorem ng{c c':Value}{vs us:List Value}(e:(some {cls:=c,data:= .seq vs.toArray}:Option Obj)=some {cls:=c',data:= .seq us.toArray}):c=c'/\vs=us:=by
 have e1:=Option.some.inj e;have e2:c=c':=congrArg Obj.cls e1;have e3:Data.seq vs.toArray=Data.seq us.toArray:=congrArg Obj.data e1;injection e3 with e4
 refine⟨e2,?_⟩;have e5:=congrArg Array.toList e4;simpa using e5
theorem HG(KX:K.In h)(ar:∀a∈A,ib h A a){a:Addr}{vs:List Value}(ha:a∈A)(e:h.get? a=some {cls:= .type "list",data:= .seq vs.toArray}):(∀u∈vs,xQ A u)/\aZ K (gH K h A) a (vs.map sX):=by
 obtain⟨us,h1,h2,h3⟩:=ar a ha
 have hu:us=vs:=by
  rcases h3 with q|q
  ·rw[e]at q;exact(ng q).2.symm
  ·rw[e]at q;exact absurd (Value.type.inj (ng q).1) (by decide)
 subst hu;refine⟨h2,?_⟩;cases hk:K.lookup a with
 |none=>exact .inl (.inr ⟨_,by rw[m8 ha hk e,sZ]⟩)
 |some o=>
  have e2:=KX a o hk;rw[e]at e2;obtain rfl:=Option.some.inj e2;exact .inr ⟨_,us.toArray,_,hk,rfl,rfl,rfl,by rw[List.size_toArray];exact h1,by simpa using fX h2⟩
theorem HH(KX:K.In h)(ar:∀a∈A,ib h A a){a:Addr}{vs:List Value}(ha:a∈A)(e:h.get? a=some {cls:= .type "tuple",data:= .seq vs.toArray}):(∀u∈vs,xQ A u)/\jN K (gH K h A) a (vs.map sX):=by
 obtain⟨us,h1,h2,h3⟩:=ar a ha
 have hu:us=vs:=by
  rcases h3 with q|q
  ·rw[e]at q;exact absurd (Value.type.inj (ng q).1) (by decide)
  ·rw[e]at q;exact(ng q).2.symm
 subst hu;refine⟨h2,?_⟩;cases hk:K.lookup a with
 |none=>exact .inl (.inr ⟨_,by rw[m8 ha hk e,tf]⟩)
 |some o=>
  have e2:=KX a o hk;rw[e]at e2;obtain rfl:=Option.some.inj e2;exact .inr ⟨_,us.toArray,_,hk,rfl,rfl,by rw[List.size_toArray];exact h1,by simpa using fX h2⟩
mutual
theorem DT{Pm:Params}(KX:K.In h)(ar:∀a∈A,ib h A a):∀(d:WData) (v:Value),Well Pm h v d->wI d=true->xQ A v->Dw K (gH K h A) (sX v) d
 | .none,_,x,_,_=>by
  cases x;exact .non
 | .bool b,_,x,_,_=>by
  cases x;exact .bl b
 | .int i,_,x,_,_=>by
  cases x;exact .int i
 | .str s,_,x,_,_=>by
  cases x;exact .str s
 | .bytes b,_,x,_,_=>by
  cases x;have z:=Dw.byt (K:=K) (H:=gH K h A) b.toArray
  exact z
 | .list ds,_,x,p,hu=>by
  obtain⟨a,vs,rfl,ho,hall⟩:=qg x;obtain⟨h2,hs⟩:=HG KX ar hu ho;exact .lst hs (rF KX ar ds _ hall p h2)
 | .tuple ds,_,x,p,hu=>by
  obtain⟨a,vs,rfl,ho,hall⟩:=n6 x;obtain⟨h2,hs⟩:=HH KX ar hu ho;exact .tup hs (rF KX ar ds _ hall p h2)
 | .float _,_,_,p,_=>Bool.noConfusion (show false=true from p)
 | .dict _,_,_,p,_=>Bool.noConfusion (show false=true from p)
 | .bytearray _,_,_,p,_=>Bool.noConfusion (show false=true from p)
 | .set _,_,_,p,_=>Bool.noConfusion (show false=true from p)
 | .frozenset _,_,_,p,_=>Bool.noConfusion (show false=true from p)
 | .obj _ _,_,_,p,_=>Bool.noConfusion (show false=true from p)
theorem rF{Pm:Params}(KX:K.In h)(ar:∀a∈A,ib h A a):∀(ds:List WData) (vs:List Value),WellAll Pm h vs ds->mV ds=true->(∀u∈vs,xQ A u)->hZ K (gH K h A) (vs.map sX) ds
 |[],_,x,_,_=>by
  cases x;exact .nil
 |d::ds,_,x,p,hu=>by
  obtain⟨v,vs,rfl,x1,x2⟩:=qh x;have q:wI d=true/\mV ds=true:=Bool.and_eq_true_iff.mp p;exact .cons (DT KX ar d v x1 q.1 (hu _ (List.mem_cons_self ..))) (rF KX ar ds vs x2 q.2 λu m=>hu u (List.mem_cons_of_mem _ m))
end
end
theorem xS{P:Program}{w:World}{K:PySem.W.Frag}{mg mb:Str->Option Value}{CX:ze}{k:Nat}{fa:Addr}{fd:FuncData}{ps:List Str}{sp:Sp}{s₁:Shared}{vals:List Value}{ds:List WData}{R:PySem.W.WRecords}{cl:Str->Option Addr}{d0:WData}
  (KX:K.In s₁.heap)(hns:s₁.heap.Ns mainGlobals mg)(hb:s₁.heap.Ns builtinsNs mb)(hbb:∀x:Str,x≠"__name__"->mb x=bootBuiltins x)(hlim:s₁.heap.NoLimit)(hg:s₁.gens=#[])
  (hwl:WellAll w.params s₁.heap vals ds)(hpl:mV ds=true)(hwt:∀d∈ds,d.weight<=1048576)(hr:Room k callerA)
  (F:∀base:Heap,K.In base->base.Ns mainGlobals mg->jv P w K mg base CX k fa fd ps sp)(hbind:∀(s:Shared) (us:List Value),us.length=ps.length->BindsTo s fd ⟨us,[]⟩ (ps.zip us))(hlen:ds.length=ps.length)
  (hsp:∀(H:Hp) (xs:List V),sY H->hZ K H xs ds->sp xs H (λv H'=>Dw K H' v d0) λ_ _ _=>False)
  (hCX:∀H e s',CX [] H s₁ (λ_ _ _=>False) e s'->False):
  codeAny (model P w) callerA (.call (.ref fa) ⟨vals,[]⟩) (λr s'=>∃u as,r= .ok (.ret u)/\ReadsW R cl s'.heap u d0 as/\OldK s₁.heap s'.heap/\s'.os=s₁.os/\AllBare s'.gens) s₁:=by
 obtain⟨A,ho,ar⟩:=kG ds vals hwl hpl hwt;have hO:sY (gH K s₁.heap A):=xR ar;have hok:ir P w (gH K s₁.heap A) s₁.heap:=BF ar;have hS:=rF KX ar ds vals hwl hpl ho;have hV:=fX ho;have hK:∀b u,gH K s₁.heap A b=some u->K.lookup b=none:=λb u q=>(m9 ar q).1
 have noA:∀{b:Addr} {o:Obj} {es:Array DictEntry} {ep:Nat},s₁.heap.get? b=some o->o.data= .dict es ep->gH K s₁.heap A b=none:=λ{b o es ep} e d=>by
  cases q:gH K s₁.heap A b with
  |none=>rfl
  |some u=>
   obtain⟨_,vs,_,_,⟨e2,_⟩|⟨e2,_⟩⟩:=m9 ar q
   ·rw[e2]at e;cases e;have d':Data.seq vs.toArray _=Data.dict es ep:=d;cases d'
   ·rw[e2]at e;cases e;have d':Data.seq vs.toArray _=Data.dict es ep:=d;cases d'
 generalize gH K s₁.heap A=H at hO hok hS hK noA
 have base_of:∀{b:Addr} {o:Obj},s₁.heap.get? b=some o->H b=none->(qV s₁.heap H).get? b=some o:=λe n=>yO e n
 have nsK:∀{b:Addr} {m:Str->Option Value},s₁.heap.Ns b m->(qV s₁.heap H).Ns b m:=λ{b m} ⟨o,es,ep,e,d,r⟩=>⟨o,es,ep,base_of e (noA e d),d,r⟩
 have nK:∀b o,K.lookup b=some o->H b=none:=λb o e=>by
  cases q:H b with
  |none=>rfl
  |some u=>
   rw[hK b u q]at e;cases e
 have hKb:K.In (qV s₁.heap H):=λb o e=>base_of (KX b o e) (nK b o e)
 have hM:GX K mg (qV s₁.heap H):=⟨hKb,nsK hns,⟨mb,nsK hb,hbb⟩,let⟨mc,h1,h2⟩:=hlim;⟨mc,nsK h1,h2⟩⟩;have e0:uT P w K mg (qV s₁.heap H) callerA [] s₁ H:=⟨rfl,hM,λb o e=>Be e,Nat.le_of_eq (xy _ _),trivial,λb hb=>absurd (show b∈([]:List Addr)from hb) (by simp),hok,.of_eq hg⟩;have hl:vals.length=ps.length:=by rw[fm hwl];exact hlen
 refine codeAny_mono ((F _ hKb (nsK hns)).run callerA [] s₁ H ⟨vals,[]⟩ vals (vals.map sX) _ _ hr e0 (hbind s₁ vals hl) hV (hsp H _ hO hS)) λr s' x=> ?_
 cases r with
 |error e=>exact(hCX H e s' x).elim
 |ok fl=>
  cases fl with
  |next=>exact False.elim x
  |brk=>exact False.elim x
  |cont=>exact False.elim x
  |ret u=>
   obtain⟨v,H',os,bare,un,hok',r',q⟩:=x
   have kept:∀b o,s₁.heap.get? b=some o->s'.heap.get? b=some o:=λb o e=>by
    cases q2:H b with
    |none=>exact un.keep b o e q2 (by intro z;exact absurd (show b∈([]:List Addr)from z) (by simp)) (by simp)
    |some u2=>
     rcases hO b with z|⟨ob,u3,z⟩
     ·rw[q2]at z;cases z
     ·have z2:=un.frzs b ob _ z;obtain⟨e1,_⟩:=hok b _ z;obtain⟨e2,_⟩:=hok' b _ z2;rw[e]at e1;cases e1;exact e2
   have KX':K.In s'.heap:=λb o e=>kept b o (KX b o e)
   obtain⟨as,hrd⟩:=Dw.reads (R:=R) (cl:=cl) hok' KX' d0 v u q r';exact⟨u,as,rfl,hrd,OldK.of_keep kept,os,bare⟩
theorem n8{ds:List WData}(h:WData.layableAll ds=true):∀d∈ds,d.weight<=1048576:=λd hd=>
 (PySem.W.layableW_iff.mp (List.all_eq_true.mp h d hd)).2.2
theorem oe:∀(cs:List Codec) (a:Codec.denoteAll cs),(Codec.encAll cs a).length=cs.length
 |[],_=>rfl
 |c::cs,a=>by
  show(Codec.encAll cs a.2).length+1=cs.length+1
  rw[oe cs a.2]
theorem xT{r:OpenSpec}{k:Nat}{q:Program}{loose:List Str}{XP:(Str->Option Value)->Heap->Prop}{YP:World->Heap->Prop}{d:DefRec}{K:Params->PySem.W.Frag}{CX:World->ze}{ps:List Str}{sp:World->Sp}
  (hwell:r.wellSaid=true)(hdf:d.params.defaults=[])(hlen:r.args.length=ps.length)(hr:Room k callerA)
  (hY:∀(w:World) (h:Heap),YP w h->(K w.params).In h)
  (F:∀(w:World) (mg:Str->Option Value) (fa:Addr) (h:Heap),YP w h->(K w.params).In h->h.Ns mainGlobals mg->mg d.name=some (.ref fa)->
   ∃fd:FuncData,(∀(s:Shared) (us:List Value),us.length=ps.length->BindsTo s fd ⟨us,[]⟩ (ps.zip us))/\
    ∀base:Heap,(K w.params).In base->base.Ns mainGlobals mg->jv r.prog w (K w.params) mg base (CX w) k fa fd ps (sp w))
  (hsp:∀(w:World) (H:Hp) (xs:List V) (a:Codec.denoteAll r.args),sY H->Codec.withinAll r.args a=true->Codec.app r.args r.asked a=true->hZ (K w.params) H xs (Codec.encAll r.args a)->
   sp w xs H (λv H'=>Dw (K w.params) H' v (r.ret.enc (Codec.app r.args r.f a))) λ_ _ _=>False)
  (hCX:∀(w:World) (H:Hp) (s:Shared) (e:Value) (s':Shared),CX w [] H s (λ_ _ _=>False) e s'->False):
  PySem.W.WalkOS q loose XP YP r d [] (λf vs=>PySem.call f vs):=by
 intro w s_0 s₁ mg mb G Y fa o pm cd doc dV kV ho hd hcd hD hmg hg args vals as hpre hlay hrd hwl hlo;obtain⟨a,e1,e2⟩:=PySem.W.os_pre_some hpre;obtain⟨e3,hwi⟩:=Codec.encAll_of_decAll r.args args a e1;subst e3;have KX:=hY w _ Y;obtain⟨fd,hb,hF⟩:=F w mg fa _ Y KX G.T.g hmg
 refine PySem.W.enter_call (codeAny_mono (xS (R:=[]) (cl:=classAt s_0.heap) (d0:=r.ret.enc (Codec.app r.args r.f a)) KX G.T.g G.T.b G.T.builtins G.T.nolimit hg hwl (qf _ _) (n8 hlay) hr hF hb (by rw[oe];exact hlen)
  (λH xs hO hS=>hsp w H xs a hO hwi e2 hS) λH e s'=>hCX w H s₁ e s') λr' s' hq=> ?_)
 obtain⟨u,as',rfl,h1,h2,h3,h4⟩:=hq;exact⟨.inl ⟨u,_,as',rfl,λ_=>rfl,h1,(OpenSpec.post_iff hwell hwi _ _).mpr rfl,λz=>Bool.noConfusion (show false=true from z)⟩,h2,h3,h4⟩
theorem u5{r:OpenSpec}{k:Nat}{q:Program}{loose:List Str}{XP:(Str->Option Value)->Heap->Prop}{YP:World->Heap->Prop}{d:DefRec}{K:Params->PySem.W.Frag}{CX:ze}{ps:List Str}{sp:PySem.W.Frag->Sp}
  (hwell:r.wellSaid=true)(hdf:d.params.defaults=[])(hlen:r.args.length=ps.length)(hr:Room k callerA)
  (hY:∀(w:World) (h:Heap),YP w h->(K w.params).In h)
  (F:∀(w:World) (mg:Str->Option Value) (fa:Addr) (h:Heap),YP w h->(K w.params).In h->h.Ns mainGlobals mg->mg d.name=some (.ref fa)->
   ∃fd:FuncData,(∀(s:Shared) (us:List Value),us.length=ps.length->BindsTo s fd ⟨us,[]⟩ (ps.zip us))/\
    ∀base:Heap,(K w.params).In base->base.Ns mainGlobals mg->jv r.prog w (K w.params) mg base CX k fa fd ps (sp (K w.params)))
  (hsp:∀(K:PySem.W.Frag) (H:Hp) (xs:List V) (a:Codec.denoteAll r.args),sY H->Codec.withinAll r.args a=true->Codec.app r.args r.asked a=true->hZ K H xs (Codec.encAll r.args a)->
   sp K xs H (λv H'=>Dw K H' v (r.ret.enc (Codec.app r.args r.f a))) λ_ _ _=>False)
  (hCX:∀(H:Hp) (s:Shared) (e:Value) (s':Shared),CX [] H s (λ_ _ _=>False) e s'->False):
  PySem.W.WalkOS q loose XP YP r d [] (λf vs=>PySem.call f vs):=
 xT (K:=K) (CX:=λ_=>CX) (sp:=λw=>sp (K w.params)) hwell hdf hlen hr hY F (λw H xs a h1 h2 h3 h4=>hsp (K w.params) H xs a h1 h2 h3 h4) λ_ H s e s'=>hCX H s e s'
end L2
end
namespace Cr
open PySem PySem.Spec PyProof.Rows L2
structure bo(F H F1 H1:Hp):Prop where
 f0:aH F H
 ff:aH F F1
 fh:aH F1 H1
 hh:aH H H1
 sp:∀a o,H a=some o->F a=none->F1 a=none
section
variable{F H F1 H1 F2 H2:Hp}{l:Addr}{o:HO}
theorem aH.updn(e:aH F H)(h:F l=none):aH F (aJ H l o):=λb u q=>by
 rw[aj (az q h)];exact e b u q
theorem bo.refl(h:aH F H):bo F H F H:=⟨h,aH.refl _,h,aH.refl _,λ_ _ _ q=>q⟩
theorem bo.trans(a:bo F H F1 H1)(b:bo F1 H1 F2 H2):bo F H F2 H2:=
 ⟨a.f0,a.ff.trans b.ff,b.fh,a.hh.trans b.hh,λc u q n=>b.sp c u (a.hh c u q) (a.sp c u q n)⟩
theorem bo.new(x:bo F H F1 H1)(n:H1 l=none):bo F H F1 (aJ H1 l o):=
 ⟨x.f0,x.ff,aH.updn x.fh (x.fh.free n),aH.updn x.hh (x.hh.free n),x.sp⟩
theorem bo.wr(x:bo F H F1 H1)(n:H l=none)(f:F1 l=none):bo F H F1 (aJ H1 l o):=
 ⟨x.f0,x.ff,aH.updn x.fh f,aH.updn x.hh n,x.sp⟩
theorem bo.frz(x:bo F H F1 H1)(n:H l=none)(e:H1 l=some o)(f:F1 l=none):bo F H (aJ F1 l o) H1:=by
 refine⟨x.f0,aH.updn x.ff (x.f0.free n),λb u q=> ?_,x.hh,λa u q z=> ?_⟩
 ·by_cases hb:b=l
  ·subst hb;rw[aa]at q;cases q;exact e
  ·rw[aj hb]at q;exact x.fh b u q
 ·rw[aj (az q n)];exact x.sp a u q z
theorem bo.newF(x:bo F H F1 H1)(n:H1 l=none):bo F H (aJ F1 l o) (aJ H1 l o):=
 (x.new n).frz (x.hh.free n) aa (x.fh.free n)
end
abbrev ai:=List Nat
abbrev St:=L2.St
def zs(t:ai):List Int:=t.map λ(n:Nat)=>(n:Int)
def dk(H:Hp)(v:V)(t:ai):Prop:=∃a,v= .ref a/\H a=some (.lst ((zs t).map V.int))
def gI(H:Hp)(v:V)(t:ai):Prop:=∃a,v= .ref a/\H a=some (.tup ((zs t).map V.int))
def pH{α:Type}(H:Hp)(R:V->α->Prop)(v:V)(ds:List α):Prop:=∃a xs,v= .ref a/\H a=some (.lst xs)/\Paired R xs ds
abbrev cW(H:Hp)(v:V)(ts:List ai):Prop:=pH H (dk H) v ts
abbrev jZ(H:Hp)(v:V)(ts:List ai):Prop:=pH H (gI H) v ts
section
variable{H H':Hp}{a:Addr}{v:V}{t:ai}{ts:List ai}
theorem dk.mono(h:dk H v t)(e:aH H H'):dk H' v t:=by
 obtain⟨a,q,h⟩:=h;exact⟨a,q,e _ _ h⟩
theorem gI.mono(h:gI H v t)(e:aH H H'):gI H' v t:=by
 obtain⟨a,q,h⟩:=h;exact⟨a,q,e _ _ h⟩
theorem pH.mono{α:Type}{R R':V->α->Prop}{ds:List α}(h:pH H R v ds)(e:aH H H')(r:∀x d,R x d->R' x d):pH H' R' v ds:=by
 obtain⟨a,xs,q,h,p⟩:=h;exact⟨a,xs,q,e _ _ h,Paired.mapP p r⟩
theorem bW(h:cW H v ts)(e:aH H H'):cW H' v ts:=pH.mono h e λ_ _ q=>q.mono e
theorem bH(h:jZ H v ts)(e:aH H H'):jZ H' v ts:=pH.mono h e λ_ _ q=>q.mono e
theorem DU(h:H a=some (.lst ((zs t).map V.int))):dk H (.ref a) t:=⟨a,rfl,h⟩
theorem aM(t:ai):((zs t).map V.int).length=t.length:=by simp[zs]
theorem zD{i:Nat}{x:V}(h:((zs t).map V.int)[i]? =some x):∃n:Nat,t[i]? =some n/\x= .int n:=by
 unfold zs at h;rw[List.map_map,List.getElem?_map]at h;cases e:t[i]? with
 |none=>rw[e]at h;cases h
 |some n=>rw[e]at h;exact⟨n,rfl,(Option.some.inj h).symm⟩
theorem b5(a b:ai):(zs (a++b)).map V.int=(zs a).map V.int++(zs b).map V.int:=by simp[zs]
end
def Gv(mg:Str->Option Value)(x:Str)(v:V):Prop:=∃u,mg x=some u/\be v u
def Dn(K:PySem.W.Frag)(mg:Str->Option Value)(x:Str)(st:Stmt)(ps:List Str):Prop:=∃f fd,BC K x x st f fd/\mg x=some (.ref f)/\d7 K fd ps []
def xU(K:PySem.W.Frag)(a:Addr)(xs:List V):Prop:=∃(o:Obj) (its:Array Value) (n:Nat),K.lookup a=some o/\o.cls= .type "tuple"/\o.data= .seq its n/\its.size<=sizeLine/\aW xs its.toList
theorem xU.sq{K:PySem.W.Frag}{a:Addr}{xs:List V}(h:xU K a xs)(H:Hp):jN K H a xs:= .inr h
theorem bU{K:PySem.W.Frag}{a:Addr}{xs:List V}{its:List Value}{n:Nat}{od:Option Addr}{sl:Array (Option Value)}(l:K.lookup a=some ⟨.type "tuple",od,.seq ⟨its⟩ n,sl⟩)(v:aW xs its)(h:xs.length<=sizeLine):xU K a xs:=
 ⟨_,_,_,l,rfl,rfl,by rw[show(Array.mk its).size=its.length from rfl,<-v.length];exact h,v⟩
def C3(K:PySem.W.Frag)(mg:Str->Option Value)(x:Str)(rows:List (List Int)):Prop:=∃a rs,mg x=some (.ref a)/\xU K a (rs.map V.ref)/\Paired (λr (row:List Int)=>xU K r (row.map V.int)) rs rows
def FD(K:PySem.W.Frag)(mg:Str->Option Value)(x:Str)(fns:List Str):Prop:=∃a fs,mg x=some (.ref a)/\xU K a (fs.map V.ref)/\Paired (λf (y:Str)=>mg y=some (.ref f)) fs fns
structure Cl(K:PySem.W.Frag)(mg:Str->Option Value)(x:Str)(C:Addr):Prop where
 gl:mg x=some (.ref C)
 cl:zb K C
def In(K:PySem.W.Frag)(qual:Str)(st:Stmt)(C:Addr)(ps:List Str):Prop:=∃f fd,BC K "__init__" qual st f fd/\d7 K fd ps []/\Mk K C f
def Mn(K:PySem.W.Frag)(m qual:Str)(st:Stmt)(C:Addr)(ps:List Str):Prop:=∃f fd,BC K m qual st f fd/\d7 K fd ps []/\Bj K C m f
def Ok(P:Program)(w:World)(K:PySem.W.Frag)(mg:Str->Option Value)(base:Heap)(x:Str)(ps:List Str)(k:Nat)(sp:Sp):Prop:=
 ∃f fd,mg x=some (.ref f)/\PySem.W.keepIn K (.ref f)=true/\d7 K fd ps []/\jv P w K mg base Bb k f fd ps sp
def C4(P:Program)(w:World)(K:PySem.W.Frag)(mg:Str->Option Value)(base:Heap)(C:Addr)(ps:List Str)(k:Nat)(sp:Sp):Prop:=
 ∃f fd,Mk K C f/\d7 K fd ps []/\jv P w K mg base Bb k f fd ps sp
def FE(P:Program)(w:World)(K:PySem.W.Frag)(mg:Str->Option Value)(base:Heap)(C:Addr)(m:Str)(ps:List Str)(k:Nat)(sp:Sp):Prop:=
 ∃f fd,Bj K C m f/\d7 K fd ps []/\jv P w K mg base Bb k f fd ps sp
abbrev DV(P:Program)(w:World)(K:PySem.W.Frag)(mg:Str->Option Value)(base:Heap)(qual:Str)(st:Stmt)(N:List Str)(f:Addr)(cdv:Value)(A:Around)(outer:List Env)(s:Shared)(H:Hp)(vs:List V)(Q:VK)(E:XK):Prop:=∃t,uK (uV Bb P w K mg base N qual (ao st) f cdv A outer s H E).nox (cw st) t/\t {nx:=λ_ H'=>Q .non H',rt:=Q} (L2.start N vs) H
def BG(P:Program)(w:World)(K:PySem.W.Frag)(mg:Str->Option Value)(base:Heap)(qual:Str)(st:Stmt)(N:List Str)(k:Nat)(sp:Sp):Prop:=
 ∀(f:Addr) (cdv:Value) (A:Around) (outer:List Env) (s:Shared) (H:Hp) (vs:List V) (Q:VK) (E:XK),Room k (A.deeper (envOfC qual (ao st) s.heap.objs.size f cdv))->sp vs H Q E->DV P w K mg base qual st N f cdv A outer s H vs Q E
section
variable{P:Program}{w:World}{K:PySem.W.Frag}{mg:Str->Option Value}{base:Heap}{x qual:Str}{st:Stmt}{N ps:List Str}{k:Nat}{sp:Sp}{C:Addr}
theorem Dn.ok(D:Dn K mg x st ps)(S:aC N ps (ao st))(len:∀vs H Q E,sp vs H Q E->vs.length=ps.length)(hb:BG P w K mg base x st N k sp):Ok P w K mg base x ps (k+1) sp:=by
 obtain⟨f,fd,F,gl,bi⟩:=D;exact⟨f,fd,gl,F.kp,bi,F.ok S len (hb f)⟩
theorem In.ok(D:In K qual st C ps)(S:aC N ps (ao st))(len:∀vs H Q E,sp vs H Q E->vs.length=ps.length)(hb:BG P w K mg base qual st N k sp):C4 P w K mg base C ps (k+1) sp:=by
 obtain⟨f,fd,F,bi,M⟩:=D;exact⟨f,fd,M,bi,F.ok S len (hb f)⟩
theorem Mn.ok(D:Mn K x qual st C ps)(S:aC N ps (ao st))(len:∀vs H Q E,sp vs H Q E->vs.length=ps.length)(hb:BG P w K mg base qual st N k sp):FE P w K mg base C x ps (k+1) sp:=by
 obtain⟨f,fd,F,bi,M⟩:=D;exact⟨f,fd,M,bi,F.ok S len (hb f)⟩
theorem FF{h:Heap}{u:Value}{v:V}(X:K.In h)(G:h.Ns mainGlobals mg)(a:PySem.W.nsIn K mainGlobals x=some (some u))(r:be v u):Gv mg x v:=⟨u,PySem.W.mg_of X G a,r⟩
theorem FG{h:Heap}{f:Addr}{oc:Value}{od an:Option Addr}{osl:Array (Option Value)}{kV doc pm cdv ct:Value}(X:K.In h)(G:h.Ns mainGlobals mg)(a:PySem.W.nsIn K mainGlobals x=some (some (.ref f)))
  (l:K.lookup f=some ⟨oc,od,.func (PySem.W.fnOf x x (cU st) (cw st) (ao st) .none kV doc pm an cdv ct),osl⟩)(c:PySem.W.codeIn K cdv x=true)(k:PySem.W.keepIn K (.ref f)=true)
  (hb:∀(kV doc pm:Value) (an:Option Addr) (cdv ct:Value) (us:List Value),us.length=ps.length->bindArgs (PySem.W.fnOf x x (cU st) (cw st) (ao st) .none kV doc pm an cdv ct) ⟨us,[]⟩=pure (ps.zip us)):Dn K mg x st ps:=
 ⟨f,_,jX l c k,PySem.W.mg_of X G a,(jX l c k).binds hb⟩
theorem tj{h:Heap}(X:K.In h)(G:h.Ns mainGlobals mg)(a:PySem.W.nsIn K mainGlobals x=some (some (.ref C)))(pg:PySem.W.plainGet K C Str.empty=true)(hd:PySem.W.hasDictIn K C=true)(po:PySem.W.plainOver K C=true)(sa:PySem.W.findIn K (.ref C) "__setattr__"=some (some (.builtin "object.__setattr__"))):Cl K mg x C:=
 ⟨PySem.W.mg_of X G a,⟨pg,hd,po,sa⟩⟩
theorem tu{f:Addr}{oc:Value}{od an:Option Addr}{osl:Array (Option Value)}{kV doc pm cdv ct:Value}(a:PySem.W.findIn K (.ref C) "__init__"=some (some (.ref f)))(i:PySem.W.isFn K (.ref f)=true)
  (l:K.lookup f=some ⟨oc,od,.func (PySem.W.fnOf "__init__" qual (cU st) (cw st) (ao st) .none kV doc pm an cdv ct),osl⟩)(c:PySem.W.codeIn K cdv qual=true)(k:PySem.W.keepIn K (.ref f)=true)(mk:PySem.W.makesIn K C=true)(kc:PySem.W.keepIn K (.ref C)=true)
  (hb:∀(kV doc pm:Value) (an:Option Addr) (cdv ct:Value) (us:List Value),us.length=ps.length->bindArgs (PySem.W.fnOf "__init__" qual (cU st) (cw st) (ao st) .none kV doc pm an cdv ct) ⟨us,[]⟩=pure (ps.zip us)):In K qual st C ps:=
 ⟨f,_,jX l c k,(jX l c k).binds hb,⟨mk,a,i,kc⟩⟩
theorem zE{f:Addr}{oc:Value}{od an:Option Addr}{osl:Array (Option Value)}{kV doc pm cdv ct:Value}(a:PySem.W.findIn K (.ref C) x=some (some (.ref f)))(i:PySem.W.isFn K (.ref f)=true)
  (l:K.lookup f=some ⟨oc,od,.func (PySem.W.fnOf x qual (cU st) (cw st) (ao st) .none kV doc pm an cdv ct),osl⟩)(c:PySem.W.codeIn K cdv qual=true)(k:PySem.W.keepIn K (.ref f)=true)
  (hb:∀(kV doc pm:Value) (an:Option Addr) (cdv ct:Value) (us:List Value),us.length=ps.length->bindArgs (PySem.W.fnOf x qual (cU st) (cw st) (ao st) .none kV doc pm an cdv ct) ⟨us,[]⟩=pure (ps.zip us)):Mn K x qual st C ps:=
 ⟨f,_,jX l c k,(jX l c k).binds hb,⟨a,i,k⟩⟩
end
section
variable{X:Cx}{x m:Str}{p pos apos:Pos}{o e:Expr}{es:List Expr}{t:TA}{ta:TE}{v:V}{ps:List Str}{C:Addr}{k j:Nat}{sp:Sp}
theorem aV(h:Gv X.mg x v)(hg:Gl X x:=by rfl)(hd:(x==("__debug__":Str))=false:=by decide):PE X (.Name x pos) (tC v):=by
 obtain⟨u,a,b⟩:=h;exact mZ hg a b hd
theorem aB(O:Ok X.prog X.w X.K X.mg X.base x ps k sp)(hr:Room j X.A)(ha:PA X (e::es) t)(hj:k<=j:=by decide)(hg:Gl X x:=by rfl)
  (hdb:(x==("__debug__":Str))=false:=by decide)(he:starEach (e::es) X.env=(false,eval e X.env)::starEach es X.env:=by rfl)(hpl:(backTo pos (starEach es X.env)).any (·.1)=false:=by rfl):
  PE X (.Call (.Name x p) (e::es) [] pos) (CV sp [] E0 t):=by
 obtain⟨f,fd,gl,kp,bi,G⟩:=O;exact Bm G (hr.mono hj) hg gl kp bi .nil sV ha hdb he hpl
theorem og(D:Cl X.K X.mg x C)(O:C4 X.prog X.w X.K X.mg X.base C ps k sp)(hr:Room j X.A)(ha:PA X (e::es) t)(hj:k+1<=j:=by decide)(hg:Gl X x:=by rfl)
  (hdb:(x==("__debug__":Str))=false:=by decide)(he:starEach (e::es) X.env=(false,eval e X.env)::starEach es X.env:=by rfl)(hpl:(backTo pos (starEach es X.env)).any (·.1)=false:=by rfl):
  PE X (.Call (.Name x p) (e::es) [] pos) (sI C sp [] E0 t):=by
 obtain⟨f,fd,M,bi,G⟩:=O;exact Bn M G (hr.mono hj) hg D.gl bi .nil sV ha hdb he hpl
theorem DW(D:Cl X.K X.mg x C)(O:C4 X.prog X.w X.K X.mg X.base C ps k sp)(hr:Room j X.A)(hj:k+1<=j:=by decide)(hg:Gl X x:=by rfl)
  (hdb:(x==("__debug__":Str))=false:=by decide):PE X (.Call (.Name x p) [] [] pos) (sI C sp [] E0 sG):=by
 obtain⟨f,fd,M,bi,G⟩:=O;exact zg M G (hr.mono hj) hg D.gl bi .nil sV hdb
end
def Rt(F H:Hp)(Q:VK)(R:Hp->V->Prop):Prop:=∀u F1 H1,bo F H F1 H1->R F1 u->Q u H1
theorem bg{α β:Type}{R:α->β->Prop}:∀{xs:List α} {ds:List β} {i:Nat} {x:α},Paired R xs ds->xs[i]? =some x->∃d,ds[i]? =some d/\R x d
 |_,_,_,_,.nil,h=>by simp at h
 |_,_,0,_,.cons r _,h=>by simp at h;subst h;exact⟨_,rfl,r⟩
 |_,_,i+1,x,.cons _ t,h=>by
  obtain⟨d,h1,h2⟩:=bg (i:=i) (x:=x) t (by simpa using h);exact⟨d,by simpa using h1,h2⟩
theorem bh{α β:Type}{R:α->β->Prop}{x:α}{d:β}(r:R x d):∀{xs:List α} {ds:List β},Paired R xs ds->Paired R (xs++[x]) (ds++[d])
 |_,_,.nil=> .cons r .nil
 |_,_,.cons q t=> .cons q (bh r t)
theorem j3{α β:Type}{R:α->β->Prop}:∀{xs ys:List α} {ds es:List β},Paired R xs ds->Paired R ys es->Paired R (xs++ys) (ds++es)
 |_,_,_,_,.nil,s=>s
 |_,_,_,_,.cons r t,s=> .cons r (j3 t s)
theorem aA{α β:Type}{R:α->β->Prop}:∀{xs:List α} {ds:List β},Paired R xs ds->xs.length=ds.length
 |_,_,.nil=>rfl
 |_,_,.cons _ t=>by simp[aA t]
theorem lM:∀t:ai,Paired (λ(v:V) (n:Nat)=>v=V.int n) ((zs t).map V.int) t
 |[]=> .nil
 |n::t=> .cons rfl (lM t)
theorem qi:∀t:List Int,Paired (λ(v:V) (n:Int)=>v=V.int n) (t.map V.int) t
 |[]=> .nil
 |n::t=> .cons rfl (qi t)
theorem cQ{α β:Type}{mk:β->V}{g:α->β}:∀{ys:List V} {t:List α},Paired (λv b=>v=mk b) ys (t.filterMap λn=>some (g n))->ys=(t.map g).map mk
 |_,[],h=>by cases h;rfl
 |_,n::t,h=>by
  simp only[List.filterMap_cons]at h;cases h with
  |cons h1 h2=>rw[h1,cQ h2];rfl
theorem aT{α:Type}{l:List α}{i:Nat}{x:α}(h:l[i]? =some x):l.take (i+1)=l.take i++[x]:=by
 rw[List.take_add_one,h];rfl
theorem ck{α:Type}{l:List α}{i:Nat}{x:α}(h:l[i]? =some x):i<l.length:=(List.getElem?_eq_some_iff.mp h).1
theorem fY{K:PySem.W.Frag}{a:Addr}{xs:List V}{g:TG}{tb:TS}{D:ip}{σ:St}{F0 H0 F H:Hp}(I:Nat->St->Hp->Hp->Prop)(x0:bo F0 H0 F H)(hS:aZ K F a xs)(h0:I 0 σ F H)
  (hs:∀i x σ1 F1 H1,xs[i]? =some x->bo F0 H0 F1 H1->aH F F1->I i σ1 F1 H1->g x σ1 H1 λσ2 H2=>tb {D with nx:=λσ' H'=>∃F',bo F0 H0 F' H'/\aH F F'/\I (i+1) σ' F' H',ct:=λσ' H'=>∃F',bo F0 H0 F' H'/\aH F F'/\I (i+1) σ' F' H',bk:=D.nx} σ2 H2)
  (hd:∀σ1 F1 H1,bo F0 H0 F1 H1->aH F F1->I xs.length σ1 F1 H1->D.nx σ1 H1):
  ∃W:Nat->Nat->St->Hp->Prop,(∃m,W 0 m σ H)/\∀i m σ H,W i m σ H->
   ((wy K a).stop i H/\D.nx σ H)\/((wy K a).go i H/\∃N:St->Hp->Prop,(∀σ' H',N σ' H'->∃m',m'<m/\W (i+1) m' σ' H')/\∀x H',(wy K a).yld i H x H'->g x σ H' λσ2 H2=>tb {D with nx:=N,ct:=N,bk:=D.nx} σ2 H2):=
 yT (xs:=xs) (λi σ1 H1=>∃F1,bo F0 H0 F1 H1/\aH F F1/\I i σ1 F1 H1) ⟨F,x0,aH.refl _,h0⟩ (λi σ1 H1 _ ⟨F1,e,s,_⟩=>(s.trans e.fh).seq hS)
  (λi x σ1 H1 hx ⟨F1,e,s,p⟩=>hs i x σ1 F1 H1 hx e s p) (λσ1 H1 ⟨F1,e,s,p⟩=>hd σ1 F1 H1 e s p)
theorem rG{c:TT}{tb:TS}{D:ip}{σ:St}{F0 H0 F H:Hp}(I:Nat->St->Hp->Hp->Prop)(x0:bo F0 H0 F H)(h0:∃m,I m σ F H)
  (hs:∀m σ1 F1 H1,bo F0 H0 F1 H1->aH F F1->I m σ1 F1 H1->c σ1 H1 λb H2=>if b=true then∃N:St->Hp->Prop,(∀σ' H',N σ' H'->∃m',m'<m/\∃F',bo F0 H0 F' H'/\aH F F'/\I m' σ' F' H')/\tb {D with nx:=N,ct:=N,bk:=D.nx} σ1 H2 else D.nx σ1 H2):uM c tb D σ H:=by
 obtain⟨m,h0⟩:=h0;exact⟨λm σ1 H1=>∃F1,bo F0 H0 F1 H1/\aH F F1/\I m σ1 F1 H1,⟨m,F,x0,aH.refl _,h0⟩,λm σ1 H1 ⟨F1,e1,s1,h1⟩=>hs m σ1 F1 H1 e1 s1 h1⟩
theorem bV{α β:Type}{K:PySem.W.Frag}{a:Addr}{xs:List V}{gt:TG}{tt:TT}{te:TE}{vs:List Nat}{σ:St}{F0 H0 F H:Hp}{D:Addr}{Qd:Hp->Prop}{ds:List α}(R0:V->α->Prop)(Rl:Hp->V->β->Prop)(g:α->Option β)
  (mono:∀F F' v b,aH F F'->Rl F v b->Rl F' v b)(x0:bo F0 H0 F H)(hD:H D=none)(hS:aZ K F a xs)(hP:Paired R0 xs ds)(hz:ds.length<=8388608)
  (el:∀x d F1 H1 (Y:V->Hp->Prop) (N:Hp->Prop),R0 x d->d∈ds->bo F0 H0 F1 H1->aH F F1->(∀y F4 H4 c,g d=some c->bo F1 H1 F4 H4->Rl F4 y c->Y y H4)->(∀F3 H3,g d=none->bo F1 H1 F3 H3->N H3)->
   gt x (cr σ vs) H1 λσ2 H2=>cr σ2 vs=cr σ vs/\tt σ2 H2 λb H3=>if b=true then te σ2 H3 Y else N H3)
  (hd:∀F1 H1 ys,bo F0 H0 F1 H1->aH F F1->H1 D=some (.lst ys)->F1 D=none->Paired (Rl F1) ys (ds.filterMap g)->Qd H1):
  ∃W:Nat->Nat->Hp->Prop,(∃m,W 0 m (aJ H D (.lst [])))/\∀i m H,W i m H->
   ((wy K a).stop i H/\Qd H)\/((wy K a).go i H/\∃Nx:Hp->Prop,(∀H',Nx H'->∃m',m'<m/\W (i+1) m' H')/\∀x H',(wy K a).yld i H x H'->gt x (cr σ vs) H' λσ2 H2=>cr σ2 vs=cr σ vs/\tt σ2 H2 λb H3=>
    if b=true then te σ2 H3 λy H4=>∃acc,H4 D=some (.lst acc)/\acc.length<sizeLine/\Nx (aJ H4 D (.lst (acc++[y])))else Nx H3):=by
 have n0:H0 D=none:=x0.hh.free hD;refine Bu (xs:=xs) (λi H1=>∃F1 acc,bo F0 H0 F1 H1/\aH F F1/\H1 D=some (.lst acc)/\F1 D=none/\Paired (Rl F1) acc ((ds.take i).filterMap g)) ?_ ?_ ?_ ?_
 ·exact⟨F,[],x0.new hD,aH.refl _,aa,x0.fh.free hD,by simp;exact .nil⟩
 ·rintro i H1 _ ⟨F1,acc,e,s,_⟩
  exact(s.trans e.fh).seq hS
 ·rintro i x H1 hx ⟨F1,acc,e,s,hA,fD,p⟩
  obtain⟨d,hd',r⟩:=bg hP hx;refine el x d F1 H1 _ _ r (List.mem_of_getElem? hd') e s (λy F4 H4 c gc e4 ry=> ?_) (λF3 H3 gn e3=> ?_)
  ·refine⟨acc,e4.hh _ _ hA,?_,F4,acc++[y],(e.trans e4).wr n0 (e4.sp _ _ hA fD),s.trans e4.ff,aa,e4.sp _ _ hA fD,?_⟩
   ·have h1:=aA p;have h2:((ds.take i).filterMap g).length<=(ds.take i).length:=List.length_filterMap_le _ _;have h3:(ds.take i).length<=ds.length:=by rw[List.length_take];exact Nat.min_le_right _ _
    have :(8388608:Nat)<sizeLine:=by decide
    omega
   ·rw[aT hd',List.filterMap_append];refine j3 (Paired.mapP p λv b q=>mono _ _ _ _ e4.ff q) ?_;simp only[List.filterMap_cons,gc,List.filterMap_nil];exact .cons ry .nil
  ·refine⟨F3,acc,e.trans e3,s.trans e3.ff,e3.hh _ _ hA,e3.sp _ _ hA fD,?_⟩;rw[aT hd',List.filterMap_append];have :[d].filterMap g=[]:=by simp[gn]
   rw[this,List.append_nil];exact Paired.mapP p λv b q=>mono _ _ _ _ e3.ff q
 ·rintro H1 ⟨F1,acc,e,s,hA,fD,p⟩
  refine hd F1 H1 acc e s hA fD ?_;rw[aA hP,List.take_length]at p;exact p
theorem blk{X:Cx}{scope:Scope}{own:List (Str×Nat)}(N:List Str)(sc:Scope)(hN:X.N=N)(hs:X.env.scope=sc)(h:DJ N sc scope own=true):qc X.N X.env.scope scope own:=by
 rw[hN,hs];exact zo h
theorem DX{x:Str}{g:TG}{tt:TT}{te:TE}{vs:List Nat}{σ:St}{H1:Hp}{D:Addr}{Qd:Hp->Prop}(Pv:Nat->Hp->Prop)(h0:Pv 0 (aJ H1 D (.lst [])))
  (hs:∀i c H,x.cps[i]? =some c->Pv i H->g (.str ⟨#[c]⟩) (cr σ vs) H λσ2 H2=>cr σ2 vs=cr σ vs/\tt σ2 H2 λb H3=>
   if b=true then te σ2 H3 λy H4=>∃acc,H4 D=some (.lst acc)/\acc.length<sizeLine/\Pv (i+1) (aJ H4 D (.lst (acc++[y])))else Pv (i+1) H3)(hd:∀H,Pv x.cps.size H->Qd H):
  ∃W:Nat->Nat->Hp->Prop,(∃m,W 0 m (aJ H1 D (.lst [])))/\∀i m H,W i m H->
   ((Fy x).stop i H/\Qd H)\/((Fy x).go i H/\∃Nx:Hp->Prop,(∀H',Nx H'->∃m',m'<m/\W (i+1) m' H')/\∀v H',(Fy x).yld i H v H'->g v (cr σ vs) H' λσ2 H2=>cr σ2 vs=cr σ vs/\tt σ2 H2 λb H3=>
    if b=true then te σ2 H3 λy H4=>∃acc,H4 D=some (.lst acc)/\acc.length<sizeLine/\Nx (aJ H4 D (.lst (acc++[y])))else Nx H3):=by
 refine⟨λi m H=>m=x.cps.size-i/\i<=x.cps.size/\Pv i H,⟨x.cps.size,by simp,Nat.zero_le _,h0⟩,?_⟩;rintro i m H ⟨rfl,hi,p⟩;by_cases hlt:i<x.cps.size
 ·refine .inr ⟨hlt,Pv (i+1),λH' p'=>⟨x.cps.size-(i+1),by omega,rfl,hlt,p'⟩,λv H' y=> ?_⟩;obtain⟨e,c,hc,rfl⟩:=y;subst e;exact hs i c _ hc p
 ·have e:i=x.cps.size:=by omega
  subst e;exact .inl ⟨Nat.le_refl _,hd H p⟩
theorem bY{b:Bool}{A B:Prop}(h1:b=true->A)(h2:b=false->B):if b=true then A else B:=by
 cases b with
 |true=>exact iq (h1 rfl)
 |false=>exact jw (h2 rfl)
section
variable{X:Cx}{a b c e:Expr}{ta tb tc te:TE}{pos:Pos}
def tM(t:TE):TE:=λσ H Q=>∃Q0:VK,t σ H Q0/\∀v H',Q0 v H'->Q v H'
theorem zF(h:PE X e te):PE X e (tM te):=λpins s σ H Q I ⟨Q0,h0,q⟩=>
 bC (h pins s σ H Q0 I h0) λu s1 ⟨v,H',I',r,q0⟩=>⟨v,H',I',r,q v H' q0⟩
def FH(p q:Int->Int->Bool)(ta tb tc:TE):TE:=λσ H Q=>ta σ H λx H1=>tb σ H1 λy H2=>∃i n j,x= .int i/\y= .int n/\(∀Q':VK,Q' (.int j) H2->tc σ H2 Q')/\Q (.bl (p i n&&q n j)) H2
theorem lN{op op':CmpOp}{p q:Int->Int->Bool}(ho:jS X (compareOp op) (yM λi j=> .bl (p i j)))(ho':jS X (compareOp op') (yM λi j=> .bl (q i j)))(ha:PE X a ta)(hb:PE X b tb)(hc:PE X c tc)
  (hm:lastMarks [op,op'] [b,c]=false:=by with_unfolding_all rfl):PE X (.Compare a [op,op'] [b,c] pos) (FH p q ta tb tc):=by
 intro pins s σ H Q I h;refine yX ho ho' (zF ha) (zF hb) hc hm pins s σ H Q I ⟨_,h,λx H1 h1=>⟨_,h1,λy H2 h2=> ?_⟩⟩;obtain⟨i,n,j,rfl,rfl,h3,h4⟩:=h2;refine⟨i,n,rfl,rfl,_,rfl,?_⟩;cases e:p i n with
 |true=>rw[e]at h4;exact iq (h3 _ ⟨n,j,rfl,rfl,h4⟩)
 |false=>rw[e]at h4;exact jw h4
theorem oh{op op':CmpOp}{p q:Int->Int->Bool}(ho:jS X (compareOp op) (yM λi j=> .bl (p i j)))(ho':jS X (compareOp op') (yM λi j=> .bl (q i j)))(ha:PE X a ta)(hb:PE X b tb)(hc:PE X c tc)
  (hm:lastMarks [op,op'] [b,c]=false:=by with_unfolding_all rfl):PT X (.Compare a [op,op'] [b,c] pos) (tB (FH p q ta tb tc)):=by
 intro pins s σ H Q I h;refine yY ho ho' (zF ha) (zF hb) hc hm pins s σ H Q I ⟨_,h,λx H1 h1=>⟨_,h1,λy H2 h2=> ?_⟩⟩;obtain⟨i,n,j,rfl,rfl,h3,k,h4,h5⟩:=h2;refine⟨i,n,rfl,rfl,_,rfl,?_⟩;cases h4;cases e:p i n with
 |true=>rw[e]at h5;exact iq (h3 _ ⟨n,j,rfl,rfl,_,rfl,h5⟩)
 |false=>rw[e]at h5;exact jw ⟨_,rfl,h5⟩
theorem gJ{x:Str}{j p p2}(hm:X.mg "ord"=none)(h1:x.length=1:=by decide)(hg:Gl X "ord":=by rfl):PE X (.Call (.Name "ord" p) [.Constant (.str x) j p2] [] pos) (tC (.int (x.cps.getD 0 0:Nat))):=by
 intro pins s σ H Q I h;exact(ku sF hg hm boot_ord (ab gE af)) pins s σ H Q I ⟨x,rfl,h1,h⟩
def HI(te:TE):TE:=λσ H Q=>te σ H λx H1=>∃p ys,x= .ref p/\H1 p=some (.lst ys)/\Q (.int ys.length) H1
theorem bp{p}(hm:X.mg "len"=none)(he:PE X e te)(hg:Gl X "len":=by rfl)(hs:starEach [e] X.env=(false,eval e X.env)::starEach [] X.env:=by rfl)(hpl:(backTo pos (starEach [] X.env)).any (·.1)=false:=by rfl):PE X (.Call (.Name "len" p) [e] [] pos) (HI te):=by
 intro pins s σ H Q I h;refine(ku d9 hg hm PySem.boot_len (ab (zF he) af hs) (by decide) (by decide) hs hpl) pins s σ H Q I ⟨_,h,λx H1 h1=> ?_⟩;obtain⟨q,ys,rfl,h2,h3⟩:=h1;exact⟨q,ys,rfl,.inl (aZ.of h2),h3⟩
theorem DY:bootBuiltins "all"=some (.builtin "all"):=by decide+kernel
theorem DZ:bootBuiltins "any"=some (.builtin "any"):=by decide+kernel
theorem D0:bootBuiltins "sum"=some (.builtin "sum"):=by decide+kernel
theorem zG:bootBuiltins "tuple"=some (.type "tuple"):=by decide+kernel
theorem BH:bootBuiltins "list"=some (.type "list"):=by decide+kernel
theorem D3:bootBuiltins "str"=some (.type "str"):=by decide+kernel
def uJ(r:V->Hp->VK->Prop)(te:TE):TE:=λσ H Q=>te σ H λx H1=>r x H1 Q
theorem iK{x:Str}{id:String}{r:List V->Hp->VK->Prop}{q:V->Hp->VK->Prop}{p}(hc:dB X (.builtin id) r)(hq:∀v H Q,q v H Q->r [v] H Q)(hm:X.mg x=none)(hv:bootBuiltins x=some (.builtin id))(he:PE X e te)(hg:Gl X x:=by rfl)
  (hn:x≠"__name__":=by decide)(hdb:(x==("__debug__":Str))=false:=by decide)(hs:starEach [e] X.env=(false,eval e X.env)::starEach [] X.env:=by rfl)(hpl:(backTo pos (starEach [] X.env)).any (·.1)=false:=by rfl):
  PE X (.Call (.Name x p) [e] [] pos) (uJ q te):=by
 intro pins s σ H Q I h;exact(ku hc hg hm hv (ab (zF he) af hs) hn hdb hs hpl) pins s σ H Q I ⟨_,h,λx H1 h1=>hq _ _ _ h1⟩
theorem zH{x:Str}{T:String}{r:List V->Hp->VK->Prop}{q:V->Hp->VK->Prop}{p}(hc:dB X (.type T) r)(hq:∀v H Q,q v H Q->r [v] H Q)(hm:X.mg x=none)(hv:bootBuiltins x=some (.type T))(he:PE X e te)(hg:Gl X x:=by rfl)
  (hn:x≠"__name__":=by decide)(hdb:(x==("__debug__":Str))=false:=by decide)(hs:starEach [e] X.env=(false,eval e X.env)::starEach [] X.env:=by rfl)(hpl:(backTo pos (starEach [] X.env)).any (·.1)=false:=by rfl):
  PE X (.Call (.Name x p) [e] [] pos) (uJ q te):=by
 intro pins s σ H Q I h;exact(pY hc hg hm hv (ab (zF he) af hs) hn hdb hs hpl) pins s σ H Q I ⟨_,h,λx H1 h1=>hq _ _ _ h1⟩
def FI:V->Hp->VK->Prop:=λx H Q=>∃(a:Addr) (bs:List Bool),x= .ref a/\H a=some (.lst (bs.map V.bl))/\Q (.bl (bs.all id)) H
def FJ:V->Hp->VK->Prop:=λx H Q=>∃(a:Addr) (bs:List Bool),x= .ref a/\H a=some (.lst (bs.map V.bl))/\Q (.bl (bs.any id)) H
def FK:V->Hp->VK->Prop:=λx H Q=>∃(a:Addr) (ns:List Int),x= .ref a/\H a=some (.lst (ns.map V.int))/\Q (.int ns.sum) H
theorem BI{K:PySem.W.Frag}(v:V)(H:Hp)(Q:VK)(h:FI v H Q):Fs K [v] H Q:=by
 obtain⟨a,bs,rfl,h1,h2⟩:=h;exact⟨a,bs,rfl,aZ.of h1,h2⟩
theorem BJ{K:PySem.W.Frag}(v:V)(H:Hp)(Q:VK)(h:FJ v H Q):Fq K [v] H Q:=by
 obtain⟨a,bs,rfl,h1,h2⟩:=h;exact⟨a,bs,rfl,aZ.of h1,h2⟩
theorem BK{K:PySem.W.Frag}(v:V)(H:Hp)(Q:VK)(h:FK v H Q):Fp K [v] H Q:=by
 obtain⟨a,bs,rfl,h1,h2⟩:=h;exact⟨a,bs,rfl,aZ.of h1,h2⟩
def HJ:V->Hp->VK->Prop:=λx H Q=>∃a ys,x= .ref a/\H a=some (.lst ys)/\∀l,H l=none->Q (.ref l) (aJ H l (.tup ys))
def HK:V->Hp->VK->Prop:=λx H Q=>∃a ys,x= .ref a/\(H a=some (.lst ys)\/H a=some (.tup ys))/\∀l,H l=none->Q (.ref l) (aJ H l (.lst ys))
theorem bB{p}(hm:X.mg "tuple"=none)(he:PE X e te)(hg:Gl X "tuple":=by rfl)(hs:starEach [e] X.env=(false,eval e X.env)::starEach [] X.env:=by rfl)(hpl:(backTo pos (starEach [] X.env)).any (·.1)=false:=by rfl):
  PE X (.Call (.Name "tuple" p) [e] [] pos) (uJ HJ te):=
 zH pG (λv H Q ⟨a,ys,e,h1,h2⟩=>by subst e;exact⟨a,ys,rfl,.inl ⟨aZ.of h1,h2⟩⟩) hm zG he hg (by decide) (by decide) hs hpl
theorem nh{p}(hm:X.mg "list"=none)(he:PE X e te)(hg:Gl X "list":=by rfl)(hs:starEach [e] X.env=(false,eval e X.env)::starEach [] X.env:=by rfl)(hpl:(backTo pos (starEach [] X.env)).any (·.1)=false:=by rfl):
  PE X (.Call (.Name "list" p) [e] [] pos) (uJ HK te):=
 zH rA (λv H Q ⟨a,ys,e,h1,h2⟩=>by
  subst e;rcases h1 with h1|h1
  ·exact⟨a,ys,rfl,.inl (aZ.of h1),h2⟩
  ·exact⟨a,ys,rfl,.inr (jN.of h1),h2⟩) hm BH he hg (by decide) (by decide) hs hpl
theorem rH{p}(hc:X.calm=true)(hm:X.mg "all"=none)(he:PE X e te)(hg:Gl X "all":=by rfl)(hs:starEach [e] X.env=(false,eval e X.env)::starEach [] X.env:=by rfl)(hpl:(backTo pos (starEach [] X.env)).any (·.1)=false:=by rfl):
  PE X (.Call (.Name "all" p) [e] [] pos) (uJ FI te):=iK (DF hc) BI hm DY he hg (by decide) (by decide) hs hpl
theorem u6{p}(hc:X.calm=true)(hm:X.mg "any"=none)(he:PE X e te)(hg:Gl X "any":=by rfl)(hs:starEach [e] X.env=(false,eval e X.env)::starEach [] X.env:=by rfl)(hpl:(backTo pos (starEach [] X.env)).any (·.1)=false:=by rfl):
  PE X (.Call (.Name "any" p) [e] [] pos) (uJ FJ te):=iK (DE hc) BJ hm DZ he hg (by decide) (by decide) hs hpl
theorem D4{p}(hc:X.calm=true)(hm:X.mg "sum"=none)(he:PE X e te)(hg:Gl X "sum":=by rfl)(hs:starEach [e] X.env=(false,eval e X.env)::starEach [] X.env:=by rfl)(hpl:(backTo pos (starEach [] X.env)).any (·.1)=false:=by rfl):
  PE X (.Call (.Name "sum" p) [e] [] pos) (uJ FK te):=iK (DD hc) BK hm D0 he hg (by decide) (by decide) hs hpl
def HM(to te:TE):TS:=λD σ H=>to σ H λx H1=>∃l xs,x= .ref l/\H1 l=some (.lst xs)/\te σ H1 λy H2=>∃ys,H2 l=some (.lst ys)/\ys.length<sizeLine/\D.nx σ (aJ H2 l (.lst (ys++[y])))
def HN(to te:TE):TS:=λD σ H=>to σ H λx H1=>∃l xs,x= .ref l/\H1 l=some (.lst xs)/\te σ H1 λy H2=>∃b ys ws,y= .ref b/\H2 l=some (.lst ys)/\(H2 b=some (.lst ws)\/H2 b=some (.tup ws))/\ys.length+ws.length<=sizeLine/\D.nx σ (aJ H2 l (.lst (ys++ws)))
def C5:V->List V->Hp->VK->Prop:=λx vs H Q=>∃l b xs zs,x= .ref l/\vs=[.ref b]/\H l=some (.lst xs)/\H b=some (.tup zs)/\xs.length+zs.length<=sizeLine/\Q .non (aJ H l (.lst (xs++zs)))
end
end Cr
namespace PySem.AutoSeq1
open PySem PyProof.Rows
open PySem.SeqAt
open PySem.AutoSeq1 (wpAny_loadPart')
open PySem.MeetsSeq PySem.MeetsSeq2 PySem.MeetsSeq3
set_option maxRecDepth 8000 in
theorem ext_tup(l:Addr)(items:Array Value)(n:Nat)(b:Addr)(items2:Array Value)(n2:Nat)(dd:Option Addr)(sl:Array (Option Value))(hs0:¬(!items.isEmpty&&Builtin.List.listTooLong (items.size+items2.size))=true)(hs1:items.size<=sizeLine)(hs2:items.size+items2.size<=sizeLine+1):
  Meets (Builtin.«list.extend» ⟨[.ref l,.ref b],[]⟩) (λ_ R s=>s.heap.get? l=some {cls:= .type "list",dict:=none,data:= .seq items n,slots:=#[]}/\s.heap.get? b=some {cls:= .type "tuple",dict:=dd,data:= .seq items2 n2,slots:=sl}/\R (.ok (.ret Value.none)) {s with heap:=s.heap.update l (Obj.mapSeq λx=>x++items2),toks:=s.toks}):=
 .of_wp λprog w A R s h=>by
  obtain⟨hp,g,d,tk,os⟩:=s;obtain⟨hl,hb,h⟩:=h;have f1:=idx_int;have f2:=sub_tuple_tuple;have f3:=sub_list_list;have f4:=sub_tuple_list;have f5:=sub_list_tuple;have hz':(items++items2).size<=sizeLine+1:=by rw[Array.size_append];exact hs2
  wp_walk using (wpAny_updateSeq hl rfl (hz:=hs1) (_hz':=hz')),wpAny_loadPart' hl,wpAny_loadPart' hb;exact⟨_,rfl,h⟩
end PySem.AutoSeq1
namespace Cr
open PySem PySem.Spec PyProof.Rows L2
section
variable{X:Cx}{a b c e o:Expr}{ta tb tc te to:TE}{pos apos cpos:Pos}
theorem u7:G1 X "list.extend" C5:=by
 intro pins s σ H x vs v us Q I rx rv h;obtain⟨l,b,xs,zs,rfl,rfl,hH,hB,hz,q⟩:=h;cases rx;obtain⟨u,rfl,ru⟩:=rv.one;cases ru;obtain⟨z,its,n,r,hl,e⟩:=I.lstM hH;obtain⟨its2,r2,⟨ob,eb,cb,n2,db⟩,z2⟩:=I.tuple (jN.of (K:=X.K) hB);obtain⟨oc,od,oda,osl⟩:=ob;cases cb;cases db;have hl2:=r2.length;have hsz:its.toArray.size+its2.toArray.size<=sizeLine:=by rw[List.size_toArray,List.size_toArray];omega
 have hlong:¬(!its.toArray.isEmpty&&Builtin.List.listTooLong (its.toArray.size+its2.toArray.size))=true:=by
  rw[sM hsz,Bool.and_false];exact Bool.false_ne_true
 refine call_meets F.slot_list_extend ⟨_,e,rfl⟩ F.entry_list_extend (F.args_list_extend_2 _ _)
  (AutoSeq1.ext_tup l its.toArray n b its2.toArray n2 od osl hlong (by rw[List.size_toArray];omega) (by omega)) ⟨e,eb,?_⟩
 refine⟨.non,_,I.lset (its':=its++its2) hH e (by simp) (r.append r2) ?_,rfl,q⟩;rw[List.length_append];omega
theorem cD(ho:PE X o to)(he:PE X e te)(hbase:attributeBase o "append" X.env (eval o X.env)=eval o X.env:=by rfl)
  (hfew:((backTo cpos (starEach [e] X.env)).all (λx=> !x.1)&&(backToKw cpos (keywordEach [] X.env)).all (λx=>x.1.isSome)
   &&decide (([e]:List Expr).length+([]:List Keyword).length+(if([]:List Keyword).isEmpty then 0 else 1)<30))=true:=by rfl)
  (hline:(apos.endLine==cpos.line)=true:=by rfl)(hs:starEach [e] X.env=(false,eval e X.env)::starEach [] X.env:=by rfl)(hplain:(backTo cpos (starEach [] X.env)).any (·.1)=false:=by rfl)
  (hsw:swapsWith (.Call (.Attribute o "append" apos) [e] [] cpos) none pos.line X.env=pure false:=by rfl):PS X (.Expr (.Call (.Attribute o "append" apos) [e] [] cpos) pos) (HM to te):=by
 intro pins s σ H D I h;refine ko (CZ PySem.F.plainAttrs_list PySem.F.slot_list_append PySem.F.type_list_append xI (zF ho) (ab (zF he) af hs) hbase hfew hline hs hplain) hsw pins s σ H D I ⟨_,h,λx H1 h1=> ?_⟩;obtain⟨l,xs,rfl,h2,h3⟩:=h1;refine⟨.inl ⟨rfl,_,aZ.of h2⟩,_,h3,λy H2 h4=> ?_⟩;obtain⟨ys,h5,h6,h7⟩:=h4;exact⟨l,ys,y,rfl,rfl,h5,h6,h7⟩
theorem eC(ho:PE X o to)(he:PE X e te)(hbase:attributeBase o "extend" X.env (eval o X.env)=eval o X.env:=by rfl)
  (hfew:((backTo cpos (starEach [e] X.env)).all (λx=> !x.1)&&(backToKw cpos (keywordEach [] X.env)).all (λx=>x.1.isSome)
   &&decide (([e]:List Expr).length+([]:List Keyword).length+(if([]:List Keyword).isEmpty then 0 else 1)<30))=true:=by rfl)
  (hline:(apos.endLine==cpos.line)=true:=by rfl)(hs:starEach [e] X.env=(false,eval e X.env)::starEach [] X.env:=by rfl)(hplain:(backTo cpos (starEach [] X.env)).any (·.1)=false:=by rfl)
  (hsw:swapsWith (.Call (.Attribute o "extend" apos) [e] [] cpos) none pos.line X.env=pure false:=by rfl):PS X (.Expr (.Call (.Attribute o "extend" apos) [e] [] cpos) pos) (HN to te):=by
 intro pins s σ H D I h;have hm:CY X "list.extend" (λx xs H Q=>wD x xs H Q\/C5 x xs H Q):=CY.or xJ u7;refine ko (CZ PySem.F.plainAttrs_list PySem.F.slot_list_extend PySem.F.type_list_extend hm (zF ho) (ab (zF he) af hs) hbase hfew hline hs hplain) hsw pins s σ H D I ⟨_,h,λx H1 h1=> ?_⟩;obtain⟨l,xs,rfl,h2,h3⟩:=h1;refine⟨.inl ⟨rfl,_,aZ.of h2⟩,_,h3,λy H2 h4=> ?_⟩;obtain⟨b,ys,ws,rfl,h5,h6,h7,h8⟩:=h4;rcases h6 with h6|h6
 ·exact .inl ⟨l,b,ys,ws,rfl,rfl,h5,h6,h7,h8⟩
 ·exact .inr ⟨l,b,ys,ws,rfl,rfl,h5,h6,h7,h8⟩
end
theorem dq{K:PySem.W.Frag}{H:Hp}:∀ns:List Int,nX K H (ns.map V.int) (ns.map PyData.int)
 |[]=> .nil
 |n::r=> .cons (.int n) (dq r)
theorem oj:∀ns:List Int,PyData.canLayAll0 (ns.map PyData.int)=true
 |[]=>rfl
 |n::r=>by
  show(PyData.canLay0 (.int n)&&PyData.canLayAll0 (r.map PyData.int))=true
  rw[oj r];rfl
theorem j4:∀ns:List Int,PyData.depthAll (ns.map PyData.int)=0
 |[]=>rfl
 |n::r=>by
  show max (PyData.depth (.int n)) (PyData.depthAll (r.map PyData.int))=0;rw[j4 r];rfl
theorem kH(ns:List Int):SeqAt.shaped (.list (ns.map PyData.int))=true:=by
 show(PyData.canLayAll0 (ns.map PyData.int)&&decide (PyData.depthAll (ns.map PyData.int)+1<=64))=true
 rw[oj,j4];rfl
theorem eD(ns:List Int):SeqAt.shaped (.tuple (ns.map PyData.int))=true:=by
 show(PyData.canLayAll0 (ns.map PyData.int)&&decide (PyData.depthAll (ns.map PyData.int)+1<=64))=true
 rw[oj,j4];rfl
theorem fZ:∀ns ms:List Int,PyData.eqvAll (ns.map PyData.int) (ms.map PyData.int)=decide (ns=ms)
 |[],[]=>rfl
 |[],m::ms=>rfl
 |n::ns,[]=>rfl
 |n::ns,m::ms=>by
  show((n==m)&&PyData.eqvAll (ns.map PyData.int) (ms.map PyData.int))=decide (n::ns=m::ms)
  rw[fZ ns ms,Bool.eq_iff_iff];simp
def HP:R2:=λx y H Q=>∃(a b:Addr) (ns ms:List Int),x= .ref a/\y= .ref b/\((H a=some (.lst (ns.map V.int))/\H b=some (.lst (ms.map V.int)))\/(H a=some (.tup (ns.map V.int))/\H b=some (.tup (ms.map V.int))))/\Q (.bl (decide (ns=ms))) H
def HQ:R2:=λx y H Q=>∃(a b:Addr) (ns ms:List Int),x= .ref a/\y= .ref b/\((H a=some (.lst (ns.map V.int))/\H b=some (.lst (ms.map V.int)))\/(H a=some (.tup (ns.map V.int))/\H b=some (.tup (ms.map V.int))))/\Q (.bl (!decide (ns=ms))) H
theorem j5{X:Cx}{k:Nat}(hr:Room k X.A):jS X (compareOp .Eq) HP:=by
 intro pins s σ H x y v u Q I rx ry h;obtain⟨a,b,ns,ms,rfl,rfl,h1,q⟩:=h;refine DG hr.units pins s σ H _ _ v u Q I rx ry ?_;rcases h1 with⟨h1,h2⟩|⟨h1,h2⟩
 ·refine⟨_,_,.lst (aZ.of h1) (dq ns),.lst (aZ.of h2) (dq ms),kH ns,kH ms,?_⟩;show Q (.bl (PyData.eqvAll _ _)) H;rw[fZ];exact q
 ·refine⟨_,_,.tup (jN.of h1) (dq ns),.tup (jN.of h2) (dq ms),eD ns,eD ms,?_⟩;show Q (.bl (PyData.eqvAll _ _)) H;rw[fZ];exact q
theorem u8{X:Cx}{k:Nat}(hr:Room k X.A):jS X (compareOp .NotEq) HQ:=by
 intro pins s σ H x y v u Q I rx ry h;obtain⟨a,b,ns,ms,rfl,rfl,h1,q⟩:=h;refine DH hr.units pins s σ H _ _ v u Q I rx ry ?_;rcases h1 with⟨h1,h2⟩|⟨h1,h2⟩
 ·refine⟨_,_,.lst (aZ.of h1) (dq ns),.lst (aZ.of h2) (dq ms),kH ns,kH ms,?_⟩;show Q (.bl (!PyData.eqvAll _ _)) H;rw[fZ];exact q
 ·refine⟨_,_,.tup (jN.of h1) (dq ns),.tup (jN.of h2) (dq ms),eD ns,eD ms,?_⟩;show Q (.bl (!PyData.eqvAll _ _)) H;rw[fZ];exact q
theorem kI(xs:List V)(i j:Nat):iA xs (some (i:Int)) (some (j:Int))=(xs.drop i).take (j-i):=by
 unfold iA;rw[HT.sIx_nat,HT.sIx_nat];by_cases h:i<=xs.length
 ·rw[Nat.min_eq_left h];by_cases h2:j<=xs.length
  ·rw[Nat.min_eq_left h2]
  ·rw[Nat.min_eq_right (by omega),List.take_of_length_le (by rw[List.length_drop];omega),List.take_of_length_le (by rw[List.length_drop];omega)]
 ·rw[Nat.min_eq_right (show xs.length<=i by omega)];rw[List.drop_of_length_le (Nat.le_refl _),List.drop_of_length_le (show xs.length<=i by omega)];simp
theorem u9(xs:List V)(j:Nat):iA xs none (some (j:Int))=xs.take j:=by
 have :=kI xs 0 j;simpa [iA,HT.sIx]using this
theorem zI(xs:List V)(i:Nat):iA xs (some (i:Int)) none=xs.drop i:=by
 unfold iA;rw[HT.sIx_nat,HT.sIx_none];by_cases h:i<=xs.length
 ·rw[Nat.min_eq_left h,List.take_of_length_le (by rw[List.length_drop];omega)]
 ·rw[Nat.min_eq_right (by omega),List.drop_of_length_le (Nat.le_refl _),List.drop_of_length_le (by omega)];simp
theorem rJ(t:ai)(n:Nat):((zs t).map V.int).take n=(zs (t.take n)).map V.int:=by simp[zs,List.map_take]
theorem rK(t:ai)(n:Nat):((zs t).map V.int).drop n=(zs (t.drop n)).map V.int:=by simp[zs,List.map_drop]
theorem vb{a b:ai}(h:zs a=zs b):a=b:=by
 induction a generalizing b with
 |nil=>cases b with
  |nil=>rfl
  |cons x y=>simp[zs]at h
 |cons x r ih=>cases b with
  |nil=>simp[zs]at h
  |cons y s=>
   simp only[zs,List.map_cons,List.cons.injEq]at h;rw[ih (b:=s) h.2,show x=y by omega]
theorem ie(a b:ai):decide (zs a=zs b)=decide (a=b):=by
 by_cases h:a=b
 ·subst h;simp
 ·rw[decide_eq_false h,decide_eq_false (λq=>h (vb q))]
def b6(i:Nat):Stmt:=PySem.Challenge.pw_closedroom_s01_answers.main.body.getD i (.Pass ⟨0,0,0,0⟩)
abbrev kJ:Stmt:=b6 14
abbrev mt:Stmt:=b6 15
abbrev lO:Stmt:=b6 20
abbrev qj:Stmt:=b6 21
abbrev om:Stmt:=b6 22
abbrev fq:Stmt:=b6 23
abbrev ft:Stmt:=b6 24
abbrev qk:Stmt:=b6 25
abbrev iL:Stmt:=b6 26
abbrev mw:Stmt:=b6 27
abbrev dZ:Stmt:=b6 28
abbrev oo:Stmt:=b6 29
abbrev mx:Stmt:=b6 30
abbrev my:Stmt:=b6 31
abbrev oq:Stmt:=b6 32
abbrev iM:Stmt:=b6 33
abbrev ot:Stmt:=b6 34
abbrev zJ:Stmt:=b6 46
abbrev tw:Stmt:=b6 47
abbrev d8:Stmt:=b6 48
abbrev ou:Stmt:=b6 53
abbrev ig:Stmt:=b6 54
abbrev kK:Stmt:=b6 55
abbrev kL:Stmt:=b6 56
abbrev ox:Stmt:=b6 57
abbrev jA:Stmt:=b6 62
abbrev jB:Stmt:=b6 63
abbrev jC:Stmt:=b6 64
abbrev mz:Stmt:=b6 65
abbrev kM:Stmt:=b6 66
abbrev kN:Stmt:=b6 67
abbrev gK:Stmt:=b6 68
abbrev f6:Stmt:=b6 69
abbrev ij:Stmt:=b6 70
abbrev eE:Stmt:=b6 71
abbrev f8:Stmt:=b6 72
abbrev jD:Stmt:=b6 73
abbrev jE:Stmt:=b6 74
abbrev kO:Stmt:=b6 75
abbrev mB:Stmt:=b6 76
abbrev kP:Stmt:=b6 79
abbrev gM:Stmt:=b6 80
abbrev fM:Stmt:=b6 88
abbrev b7:Stmt:=b6 89
abbrev eF:Stmt:=b6 90
abbrev ed:Stmt:=b6 91
abbrev fw:Stmt:=b6 92
abbrev eG:Stmt:=b6 93
abbrev oy:Stmt:=b6 96
abbrev fz:Stmt:=b6 97
abbrev oz:Stmt:=b6 98
abbrev oA:Stmt:=b6 99
abbrev jF:Stmt:=b6 100
abbrev kQ:Stmt:=b6 101
abbrev dC:Stmt:=b6 103
abbrev gN:Stmt:=b6 104
abbrev gg:Stmt:=b6 105
abbrev bO:Stmt:=b6 106
abbrev iN:Stmt:=b6 107
abbrev kR:Stmt:=b6 108
abbrev kS:Stmt:=b6 109
abbrev kT:Stmt:=b6 110
abbrev iO:Stmt:=b6 111
abbrev iQ:Stmt:=b6 112
abbrev jG:Stmt:=b6 113
abbrev oB:Stmt:=b6 114
abbrev tz:Stmt:=b6 115
abbrev kU:Stmt:=b6 131
abbrev im:Stmt:=b6 132
abbrev jH:Stmt:=b6 133
abbrev gh:Stmt:=b6 134
abbrev iS:Stmt:=fk (b6 11) 0
abbrev fN:Stmt:=fk (b6 12) 0
abbrev iU:Stmt:=fk (b6 13) 0
abbrev eI:Stmt:=fk (b6 45) 0
abbrev fO:Stmt:=fk (b6 130) 0
abbrev d5:Stmt:=fk (b6 130) 1
abbrev cE:Stmt:=fk (b6 130) 2
abbrev dt:Stmt:=fk (b6 130) 3
structure Cs where
 File:Addr
 Action:Addr
 Room:Addr
 Outcome:Addr
 Reader:Addr
structure Tx(K:PySem.W.Frag)(mg:Str->Option Value)(C:Cs):Prop where
 g_NAME:Gv mg "NAME" (.int (-1))
 g_LONG_refusals:Gv mg "LONG_refusals" (.int (-2))
 g_FULL:Gv mg "FULL" (.int (-3))
 g_LIST:Gv mg "LIST" (.int (-4))
 g_TOOL:Gv mg "TOOL" (.int (-5))
 g_LIMIT:Gv mg "LIMIT" (.int (-6))
 g_TWICE:Gv mg "TWICE" (.int (-7))
 g_ABSENT:Gv mg "ABSENT" (.int (-8))
 g_LACKS:Gv mg "LACKS" (.int (-9))
 g_TAKEN:Gv mg "TAKEN" (.int (-10))
 g_LINE_END:Gv mg "LINE_END" (.int (10))
 g_MOST_NAME_BYTES:Gv mg "MOST_NAME_BYTES" (.int (32))
 g_OTHER_NAME_SIGNS:Gv mg "OTHER_NAME_SIGNS" (.str "._-/")
 g_COUNT:Gv mg "COUNT" (.int (1))
 g_ARGUMENT:Gv mg "ARGUMENT" (.int (2))
 g_UNDECLARED:Gv mg "UNDECLARED" (.int (3))
 g_CIRCLE:Gv mg "CIRCLE" (.int (4))
 g_DEEP:Gv mg "DEEP" (.int (5))
 g_NOTHING:Gv mg "NOTHING" (.int (6))
 g_FAILED:Gv mg "FAILED" (.int (7))
 g_LONG_outcomes:Gv mg "LONG_outcomes" (.int (8))
 g_NUMBER:Gv mg "NUMBER" (.int (9))
 g_START:Gv mg "START" (.str "include ")
 g_MOST_DEEP:Gv mg "MOST_DEEP" (.int (6))
 g_MOST_FOLLOWED:Gv mg "MOST_FOLLOWED" (.int (64))
 g_MOST_FILE_BYTES:Gv mg "MOST_FILE_BYTES" (.int (4096))
 g_MOST_TAKE_DIGITS:Gv mg "MOST_TAKE_DIGITS" (.int (4))
 g_MOST_SUM_DIGITS:Gv mg "MOST_SUM_DIGITS" (.int (9))
 g_MOST_ACTIONS:Gv mg "MOST_ACTIONS" (.int (32))
 g_MOST_ARGUMENTS:Gv mg "MOST_ARGUMENTS" (.int (4))
 g_MOST_ARGUMENT_BYTES:Gv mg "MOST_ARGUMENT_BYTES" (.int (64))
 g_MOST_INPUTS:Gv mg "MOST_INPUTS" (.int (8))
 g_MOST_OUTPUTS:Gv mg "MOST_OUTPUTS" (.int (8))
 g_MOST_CLASHES_NAMED:Gv mg "MOST_CLASHES_NAMED" (.int (16))
 g_MOST_FILES:Gv mg "MOST_FILES" (.int (64))
 g_PUT:Gv mg "PUT" (.int (0))
 g_ACTION:Gv mg "ACTION" (.int (1))
 g_RUN:Gv mg "RUN" (.int (2))
 g_WOULD:Gv mg "WOULD" (.int (3))
 g_GET:Gv mg "GET" (.int (4))
 g_MAKER:Gv mg "MAKER" (.int (5))
 g_READS:Gv mg "READS" (.int (6))
 g_VAIN:Gv mg "VAIN" (.int (7))
 g_FORGET:Gv mg "FORGET" (.int (8))
 g_CLASHES:Gv mg "CLASHES" (.int (9))
 g_KEY:Gv mg "KEY" (.int (10))
 g_FILES:Gv mg "FILES" (.int (11))
 t_TOOLS:FD K mg "TOOLS" ["join_inputs","copy_inputs","upper_input","sort_lines","take_lines","find_lines","replace_places","include_lines","split_pieces","compare_inputs","count_input","name_inputs","pick_input","sum_lines"]
 t_ASKED:C3 K mg "ASKED" [[1,0,8,1,1],[0,0,8,1,8],[0,1,1,1,1],[1,1,1,1,1],[1,1,1,1,1],[1,1,1,1,1],[2,1,1,1,1],[0,1,8,1,1],[0,1,1,1,8],[0,2,2,1,1],[0,1,1,1,1],[0,0,8,1,1],[1,0,8,1,1],[0,0,8,1,1]]
 b_all:mg "all"=none
 b_any:mg "any"=none
 b_enumerate:mg "enumerate"=none
 b_len:mg "len"=none
 b_list:mg "list"=none
 b_ord:mg "ord"=none
 b_range:mg "range"=none
 b_set:mg "set"=none
 b_sorted:mg "sorted"=none
 b_str:mg "str"=none
 b_sum:mg "sum"=none
 b_tuple:mg "tuple"=none
 b_zip:mg "zip"=none
 d_new_or_not:Dn K mg "new_or_not" kJ ["name","held"]
 d_is_source:Dn K mg "is_source" mt ["room","name"]
 d_text_of:Dn K mg "text_of" lO ["words"]
 d_decimal:Dn K mg "decimal" qj ["number"]
 d_is_digit:Dn K mg "is_digit" om ["byte"]
 d_is_small_letter:Dn K mg "is_small_letter" fq ["byte"]
 d_is_great_letter:Dn K mg "is_great_letter" ft ["byte"]
 d_is_name:Dn K mg "is_name" qk ["text"]
 d_is_number:Dn K mg "is_number" iL ["text","most_digits"]
 d_number_of:Dn K mg "number_of" mw ["digits"]
 d_upper_letters:Dn K mg "upper_letters" dZ ["text"]
 d_lines_of:Dn K mg "lines_of" oo ["text"]
 d_put_lines:Dn K mg "put_lines" mx ["lines"]
 d_stands_in:Dn K mg "stands_in" my ["piece","text"]
 d_replaced:Dn K mg "replaced" oq ["text","old","new"]
 d_are_bytes:Dn K mg "are_bytes" iM ["numbers"]
 d_texts_in:Dn K mg "texts_in" ot ["numbers"]
 d_made:Dn K mg "made" zJ ["outputs","read"]
 d_failed:Dn K mg "failed" tw ["code","read"]
 d_failed_undeclared:Dn K mg "failed_undeclared" d8 ["name","read"]
 d_parts_of:Dn K mg "parts_of" ou ["text"]
 d_parts_by_name:Dn K mg "parts_by_name" ig ["names","data"]
 d_trouble_of:Dn K mg "trouble_of" kK ["name","parts","within","followed"]
 d_failure_of:Dn K mg "failure_of" kL ["trouble","name","read"]
 d_included:Dn K mg "included" ox ["names","data"]
 d_join_inputs:Dn K mg "join_inputs" jA ["action","data"]
 d_copy_inputs:Dn K mg "copy_inputs" jB ["action","data"]
 d_upper_input:Dn K mg "upper_input" jC ["action","data"]
 d_each_once:Dn K mg "each_once" mz ["lines"]
 d_sort_lines:Dn K mg "sort_lines" kM ["action","data"]
 d_take_lines:Dn K mg "take_lines" kN ["action","data"]
 d_find_lines:Dn K mg "find_lines" gK ["action","data"]
 d_replace_places:Dn K mg "replace_places" f6 ["action","data"]
 d_include_lines:Dn K mg "include_lines" ij ["action","data"]
 d_split_pieces:Dn K mg "split_pieces" eE ["action","data"]
 d_compare_inputs:Dn K mg "compare_inputs" f8 ["action","data"]
 d_count_input:Dn K mg "count_input" jD ["action","data"]
 d_name_inputs:Dn K mg "name_inputs" jE ["action","data"]
 d_pick_input:Dn K mg "pick_input" kO ["action","data"]
 d_sum_lines:Dn K mg "sum_lines" mB ["action","data"]
 d_counts_fit:Dn K mg "counts_fit" kP ["action"]
 d_outcome_of:Dn K mg "outcome_of" gM ["action","data"]
 d_past_limits:Dn K mg "past_limits" fM ["arguments","inputs","outputs"]
 d_refusal_of_names:Dn K mg "refusal_of_names" b7 ["inputs","outputs"]
 d_refusal_of_lists:Dn K mg "refusal_of_lists" eF ["arguments","inputs","outputs"]
 d_set_action:Dn K mg "set_action" ed ["room","tool","name","argument_numbers","input_numbers","output_numbers"]
 d_times_an_output:Dn K mg "times_an_output" fw ["room"]
 d_list_clashes:Dn K mg "list_clashes" eG ["room"]
 d_put_file:Dn K mg "put_file" oy ["room","name","data"]
 d_refusal_of_file:Dn K mg "refusal_of_file" fz ["room","name"]
 d_get_file:Dn K mg "get_file" oz ["room","name"]
 d_maker_of:Dn K mg "maker_of" oA ["room","name"]
 d_forget_file:Dn K mg "forget_file" jF ["room","name"]
 d_list_files:Dn K mg "list_files" kQ ["room"]
 d_refusal_of_run:Dn K mg "refusal_of_run" dC ["room","name"]
 d_outcome_in:Dn K mg "outcome_in" gN ["room","action"]
 d_failure_answer:Dn K mg "failure_answer" gg ["outcome"]
 d_refusal_of_outputs:Dn K mg "refusal_of_outputs" bO ["room","names"]
 d_keep_outputs:Dn K mg "keep_outputs" iN ["room","key","names","outputs"]
 d_run_action:Dn K mg "run_action" kR ["room","name"]
 d_would_make:Dn K mg "would_make" kS ["room","name"]
 d_list_reads:Dn K mg "list_reads" kT ["room","name"]
 d_list_vain:Dn K mg "list_vain" iO ["room","name"]
 d_before_colon:Dn K mg "before_colon" iQ ["number"]
 d_with_length:Dn K mg "with_length" jG ["text"]
 d_key_text:Dn K mg "key_text" oB ["room","action"]
 d_key_of:Dn K mg "key_of" tz ["room","name"]
 d_answer_put:Dn K mg "answer_put" kU ["room","reader"]
 d_answer_action:Dn K mg "answer_action" im ["room","reader"]
 d_answer_call:Dn K mg "answer_call" jH ["room","reader"]
 d_answers:Dn K mg "answers" gh ["calls"]
 k_File:Cl K mg "File" C.File
 n_File_data:bf K C.File "data"
 n_File_made_by:bf K C.File "made_by"
 i_File:In K "File.__init__" iS C.File ["self","data","made_by"]
 k_Action:Cl K mg "Action" C.Action
 n_Action_tool:bf K C.Action "tool"
 n_Action_arguments:bf K C.Action "arguments"
 n_Action_inputs:bf K C.Action "inputs"
 n_Action_outputs:bf K C.Action "outputs"
 i_Action:In K "Action.__init__" fN C.Action ["self","tool","arguments","inputs","outputs"]
 k_Room:Cl K mg "Room" C.Room
 n_Room_files:bf K C.Room "files"
 n_Room_actions:bf K C.Room "actions"
 i_Room:In K "Room.__init__" iU C.Room ["self"]
 k_Outcome:Cl K mg "Outcome" C.Outcome
 n_Outcome_code:bf K C.Outcome "code"
 n_Outcome_undeclared:bf K C.Outcome "undeclared"
 n_Outcome_outputs:bf K C.Outcome "outputs"
 n_Outcome_read:bf K C.Outcome "read"
 i_Outcome:In K "Outcome.__init__" eI C.Outcome ["self","code","undeclared","outputs","read"]
 k_Reader:Cl K mg "Reader" C.Reader
 n_Reader_numbers:bf K C.Reader "numbers"
 n_Reader_place:bf K C.Reader "place"
 i_Reader:In K "Reader.__init__" fO C.Reader ["self","numbers"]
 m_Reader_at_end:Mn K "at_end" "Reader.at_end" d5 C.Reader ["self"]
 m_Reader_take_number:Mn K "take_number" "Reader.take_number" cE C.Reader ["self"]
 m_Reader_take_row:Mn K "take_row" "Reader.take_row" dt C.Reader ["self"]
section
variable{P:Program}{w:World}{K:PySem.W.Frag}{mg:Str->Option Value}{base:Heap}{C:Cs}
theorem j6:aC ["words","sign"] ["words"] (ao lO):=⟨rfl,rfl,rfl,by decide+kernel,rfl,by decide+kernel,by decide+kernel⟩
def vc:Sp:=λvs H Q _=>∃(F:Hp) (x:Str),vs=[.str x]/\x.length<=1000000/\aH F H/\Rt F H Q λF1 u=>dk F1 u x.cps.toList
theorem bJ(T:Tx K mg C):Ok P w K mg base "text_of" ["words"] 1 vc:=by
 refine T.d_text_of.ok j6 (λvs H Q E h=>by obtain⟨_,_,e,_⟩:=h;rw[e];rfl) (λf cdv A outer s H vs Q E hr h=> ?_);obtain⟨F,x,rfl,hx,f0,k⟩:=h
 refine⟨_,ah (aq (fj rfl j6.nd (DP (pv 0)) (blk (own:=[("sign",1)]) ["words","sign"] (ao lO) rfl rfl (by decide+kernel)) (λ_ _ _ _ _=>aS (i:=1) j6.nd rfl (Or.inl rfl)) (λ_ _ _ _ _=>b4)
  (λ_ _ _ _ _=>ku sF rfl T.b_ord boot_ord (ab (pv 1) af)))),?_⟩
 refine⟨_,rfl,x,rfl,λD hD=> ?_⟩;refine DX (x:=x) (λi H1=>H1=aJ H D (.lst ((zs (x.cps.toList.take i)).map V.int))) ?_ ?_ ?_
 ·rfl
 ·rintro i c H1 hc rfl
  refine⟨rfl,_,rfl,⟨#[c]⟩,rfl,rfl,_,aa,?_,?_⟩
  ·have :i<x.cps.size:=(Array.getElem?_eq_some_iff.mp hc).1;have h1:x.cps.size<=1000000:=hx;rw[aM,List.length_take];have :(1000000:Nat)<sizeLine:=by decide
   omega
  ·rw[bN,aT (x:=c) (by rw[Array.getElem?_toList];exact hc),b5];rfl
 ·rintro H1 rfl
  rw[show x.cps.toList.take x.cps.size=x.cps.toList from List.take_of_length_le (by simp)];exact k _ _ _ (bo.newF (bo.refl f0) hD) (DU aa)
theorem tD:aC ["byte"] ["byte"] (ao om):=⟨rfl,rfl,rfl,by decide+kernel,rfl,by decide+kernel,by decide+kernel⟩
theorem j7:aC ["byte"] ["byte"] (ao fq):=⟨rfl,rfl,rfl,by decide+kernel,rfl,by decide+kernel,by decide+kernel⟩
theorem j8:aC ["byte"] ["byte"] (ao ft):=⟨rfl,rfl,rfl,by decide+kernel,rfl,by decide+kernel,by decide+kernel⟩
def tE(lo hi n:Int):Bool:=decide (lo<=n)&&decide (n<=hi)
def ve(lo hi:Int):Sp:=λvs H Q _=>∃n:Int,vs=[.int n]/\Q (.bl (tE lo hi n)) H
theorem mC(T:Tx K mg C):Ok P w K mg base "is_digit" ["byte"] 1 (ve 48 57):=by
 refine T.d_is_digit.ok tD (λvs H Q E h=>by obtain⟨_,e,_⟩:=h;rw[e];rfl) (λf cdv A outer s H vs Q E hr h=> ?_);obtain⟨n,rfl,k⟩:=h;refine⟨_,ah (aq (lN cP cP (gJ T.b_ord) (pv 0) (gJ T.b_ord))),?_⟩;exact⟨_,rfl,_,_,_,rfl,rfl,λQ' q=>q,k⟩
theorem eJ(T:Tx K mg C):Ok P w K mg base "is_small_letter" ["byte"] 1 (ve 97 122):=by
 refine T.d_is_small_letter.ok j7 (λvs H Q E h=>by obtain⟨_,e,_⟩:=h;rw[e];rfl) (λf cdv A outer s H vs Q E hr h=> ?_);obtain⟨n,rfl,k⟩:=h;refine⟨_,ah (aq (lN cP cP (gJ T.b_ord) (pv 0) (gJ T.b_ord))),?_⟩;exact⟨_,rfl,_,_,_,rfl,rfl,λQ' q=>q,k⟩
theorem j9(T:Tx K mg C):Ok P w K mg base "is_great_letter" ["byte"] 1 (ve 65 90):=by
 refine T.d_is_great_letter.ok j8 (λvs H Q E h=>by obtain⟨_,e,_⟩:=h;rw[e];rfl) (λf cdv A outer s H vs Q E hr h=> ?_);obtain⟨n,rfl,k⟩:=h;refine⟨_,ah (aq (lN cP cP (gJ T.b_ord) (pv 0) (gJ T.b_ord))),?_⟩;exact⟨_,rfl,_,_,_,rfl,rfl,λQ' q=>q,k⟩
theorem BL{t:ai}(h:(!((λi j:Int=>decide (i<=j)) 1 (t.length:Int)&&(λi j:Int=>decide (i<=j)) (t.length:Int) 32))=true):Vabldi.isName t=false:=by
 unfold Vabldi.isName;simp only[Bool.not_eq_true',Bool.and_eq_false_iff,decide_eq_false_iff_not]at h⊢;omega
theorem vf{t:ai}(h:(!((λi j:Int=>decide (i<=j)) 1 (t.length:Int)&&(λi j:Int=>decide (i<=j)) (t.length:Int) 32))=false)(q:t.all Vabldi.nameByte=true):Vabldi.isName t=true:=by
 unfold Vabldi.isName;simp only[Bool.not_eq_false',Bool.and_eq_true,decide_eq_true_eq]at h⊢;exact⟨by omega,by omega,q⟩
theorem xV{t:ai}{n:Nat}(m:n∈t)(h:Vabldi.nameByte n=false):Vabldi.isName t=false:=by
 unfold Vabldi.isName
 have :t.all Vabldi.nameByte=false:=by
  rw[List.all_eq_false];exact⟨n,m,by simp[h]⟩
 rw[this];simp
abbrev FL:List V:=(zs (Str.ofString "._-/").cps.toList).map V.int
theorem BM(n:Nat):DC (.int n) FL=(n==46||(n==95||(n==45||n==47))):=by
 have :FL=[.int 46,.int 95,.int 45,.int 47]:=by decide+kernel
 rw[this];simp only[DC,List.any_cons,List.any_nil,Bq,Bool.or_false]
 have e:∀m:Nat,((m:Int)==(n:Int))=(n==m):=λm=>by
  rw[Bool.eq_iff_iff];simp;omega
 have e1:((46:Int)==(n:Int))=(n==46):=e 46;have e2:((95:Int)==(n:Int))=(n==95):=e 95;have e3:((45:Int)==(n:Int))=(n==45):=e 45;have e4:((47:Int)==(n:Int))=(n==47):=e 47;rw[e1,e2,e3,e4]
theorem kW(n:Nat):Vabldi.nameByte n=(tE 97 122 n||(tE 65 90 n||(tE 48 57 n||DC (.int n) FL))):=by
 rw[BM];unfold Vabldi.nameByte Vabldi.digit tE
 have e:∀a b:Nat,(decide ((a:Int)<=(n:Int))&&decide ((n:Int)<=(b:Int)))=(decide (a<=n)&&decide (n<=b)):=λa b=>by
  rw[Bool.eq_iff_iff];simp
 have e1:(decide ((97:Int)<=(n:Int))&&decide ((n:Int)<=122))=_:=e 97 122;have e2:(decide ((65:Int)<=(n:Int))&&decide ((n:Int)<=90))=_:=e 65 90;have e3:(decide ((48:Int)<=(n:Int))&&decide ((n:Int)<=57))=_:=e 48 57;rw[e1,e2,e3]
theorem fA{n:Nat}(h:tE 97 122 n=true\/tE 65 90 n=true\/tE 48 57 n=true\/DC (.int n) FL=true):Vabldi.nameByte n=true:=by
 rw[kW];rcases h with h|h|h|h<;>simp[h]
theorem tF{n:Nat}(h1:tE 97 122 n=false)(h2:tE 65 90 n=false)(h3:tE 48 57 n=false)(h4:DC (.int n) FL=false):Vabldi.nameByte n=false:=by
 rw[kW,h1,h2,h3,h4];rfl
abbrev xW:List Str:=["text","others","byte"]
theorem kb:aC xW ["text"] (ao qk):=⟨rfl,rfl,rfl,by decide+kernel,rfl,by decide+kernel,by decide+kernel⟩
def vg:Sp:=λvs H Q _=>∃(F:Hp) (v:V) (t:ai),vs=[v]/\dk F v t/\aH F H/\Rt F H Q λ_ u=>u= .bl (Vabldi.isName t)
theorem cX(T:Tx K mg C):Ok P w K mg base "is_name" ["text"] 2 vg:=by
 refine T.d_is_name.ok kb (λvs H Q E h=>by obtain⟨_,_,_,e,_⟩:=h;rw[e];rfl) (λf cdv A outer s H vs Q E hr h=> ?_);obtain⟨F,v,t,rfl,⟨a,rfl,ha⟩,f0,k⟩:=h
 refine⟨_,ae (aN (bR (oh cP cP aG (bp T.b_len (pv 0)) (aV T.g_MOST_NAME_BYTES))) (ah (aq jy)) aE)
  (ae (aF (i:=1) kb.nd rfl (Or.inl rfl) (aB (bJ T) hr (ab (aV T.g_OTHER_NAME_SIGNS) af)))
  (ae (b0 PassesOwn.never rfl (bj (pv 0)) (aS (i:=2) kb.nd rfl (Or.inl rfl))
   (ah (aN (bR (PW.pt (km (bI (aB (eJ T) hr (ab (pv 2) af))) (km (bI (aB (j9 T) hr (ab (pv 2) af))) (km (bI (aB (mC T) hr (ab (pv 2) af)))
    (lF (aK xH (pv 2) (pv 1) (by with_unfolding_all rfl)))))))) (ah (aq jy)) aE)))
  (ah (aq jy)))),?_⟩
 refine⟨_,rfl,a,_,rfl,f0 _ _ ha,_,_,_,rfl,rfl,λQ' q=>q,_,rfl,?_⟩;refine bY (λhb=> ?_) (λhb=> ?_)
 ·refine k _ F H (bo.refl f0) ?_;rw[aM]at hb;rw[BL hb]
 ·refine⟨F,_,rfl,by decide,f0,λu F1 H1 e1 ⟨oa,eu,ho⟩=> ?_⟩;subst eu;refine⟨_,rfl,a,rfl,⟨_,aZ.of (e1.hh _ _ (f0 _ _ ha))⟩,fY (λi σ1 F2 H2=>∃b,σ1=[some (.ref a),some (.ref oa),b]/\(t.take i).all Vabldi.nameByte=true) e1 (aZ.of (e1.ff _ _ ha)) ⟨none,rfl,rfl⟩ ?_ ?_⟩
  ·rintro i x σ1 F2 H2 hx e2 s2 ⟨b,rfl,hp⟩
   obtain⟨n,hn,rfl⟩:=zD hx
   have go:Vabldi.nameByte n=true->∃F',bo F H F' H2/\aH F1 F'/\∃b,[some (V.ref a),some (V.ref oa),some (V.int n)]=[some (V.ref a),some (V.ref oa),b]/\(List.take (i+1) t).all Vabldi.nameByte=true:=λq=>
    ⟨F2,e2,s2,_,rfl,by rw[aT hn,List.all_append,hp];simp[q]⟩
   refine⟨_,rfl,_,rfl,_,rfl,bY (λh1=>jw (go ?_)) (λh1=> ?_)⟩
   ·exact fA (.inl h1)
   refine⟨_,rfl,_,rfl,_,rfl,bY (λh2=>jw (go ?_)) (λh2=> ?_)⟩
   ·exact fA (.inr (.inl h2))
   refine⟨_,rfl,_,rfl,_,rfl,bY (λh3=>jw (go ?_)) (λh3=> ?_)⟩
   ·exact fA (.inr (.inr (.inl h3)))
   refine⟨_,rfl,_,rfl,oa,_,rfl,.inl (aZ.of (e2.fh _ _ (s2 _ _ ho))),rfl,by decide+kernel,_,rfl,?_⟩;refine bY (λh4=> ?_) (λh4=> ?_)
   ·refine k _ F2 H2 e2 ?_;rw[xV (List.mem_of_getElem? hn) (tF h1 h2 h3 (by simpa using h4))]
   ·exact go (fA (.inr (.inr (.inr (by simpa using h4)))))
  ·rintro σ1 F2 H2 e2 s2 ⟨b,rfl,hp⟩
   refine k _ F2 H2 e2 ?_;rw[aM,List.take_length]at hp;rw[aM]at hb;rw[vf hb hp]
end
section
variable{P:Program}{w:World}{K:PySem.W.Frag}{mg:Str->Option Value}{base:Heap}{C:Cs}
abbrev mD:List Str:=["text","most_digits","byte"]
theorem gO:aC mD ["text","most_digits"] (ao iL):=⟨rfl,rfl,rfl,by decide+kernel,rfl,by decide+kernel,by decide+kernel⟩
theorem xX(n:Nat):tE 48 57 n=Vabldi.digit n:=by
 unfold tE Vabldi.digit;rw[Bool.eq_iff_iff];simp;omega
def rL:Sp:=λvs H Q _=>∃(F:Hp) (v:V) (t:ai) (m:Nat),vs=[v,.int m]/\dk F v t/\t.length<=8388608/\aH F H/\Rt F H Q λ_ u=>u= .bl (Vabldi.isNumber m t)
theorem kX(T:Tx K mg C):Ok P w K mg base "is_number" ["text","most_digits"] 2 rL:=by
 refine T.d_is_number.ok gO (λvs H Q E h=>by obtain⟨_,_,_,_,e,_⟩:=h;rw[e];rfl) (λf cdv A outer s H vs Q E hr h=> ?_);obtain⟨F,v,t,m,rfl,⟨a,rfl,ha⟩,hl,f0,k⟩:=h
 refine⟨_,ae (aN (bR (oh cP cP aG (bp T.b_len (pv 0)) (pv 1))) (ah (aq jy)) aE)
  (ah (aq (rH rfl T.b_all (fj rfl gO.nd (bj (pv 0)) (blk (own:=[("byte",2)]) mD (ao iL) rfl rfl (by decide+kernel)) (λ_ _ _ _ _=>aS (i:=2) gO.nd rfl (Or.inl rfl)) (λ_ _ _ _ _=>b4)
   (λ_ _ _ _ _=>aB (mC T) hr (ab (pv 2) af)))))),?_⟩
 refine⟨_,rfl,a,_,rfl,f0 _ _ ha,_,_,(m:Int),rfl,rfl,λQ' q=>⟨_,rfl,q⟩,_,rfl,?_⟩;refine bY (λhb=> ?_) (λhb=> ?_)
 ·refine k _ F H (bo.refl f0) ?_;rw[aM]at hb
  have :Vabldi.isNumber m t=false:=by
   unfold Vabldi.isNumber;simp only[Bool.not_eq_true',Bool.and_eq_false_iff,decide_eq_false_iff_not]at hb⊢;omega
  rw[this]
 ·refine⟨_,rfl,a,rfl,⟨_,aZ.of (f0 _ _ ha)⟩,λD hD=> ?_⟩;refine bV (ds:=t) (λv n=>v=V.int (n:Nat)) (λ_ v b=>v=V.bl b) (λn=>some (tE 48 57 n)) (λ_ _ _ _ _ h=>h) (bo.refl f0) hD (aZ.of ha) ?_ hl ?_ ?_
  ·exact lM t
  ·rintro x n F1 H1 Y N rfl hn e1 s1 hY hN
   exact⟨rfl,_,rfl,n,rfl,hY _ F1 H1 _ rfl (bo.refl e1.fh) rfl⟩
  ·rintro F1 H1 ys e1 s1 hA fD p
   rw[cQ p]at hA;refine⟨D,_,rfl,hA,k _ F1 H1 e1 ?_⟩;rw[aM]at hb
   have e:Vabldi.isNumber m t=(t.map λn:Nat=>tE 48 57 n).all id:=by
    unfold Vabldi.isNumber;simp only[Bool.not_eq_false',Bool.and_eq_true,decide_eq_true_eq]at hb;rw[decide_eq_true (show 1<=t.length by omega),decide_eq_true (show t.length<=m by omega),List.all_map];simp only[Bool.true_and];congr 1;funext n;exact(xX n).symm
   rw[e]
abbrev tG:List Str:=["digits","number","byte"]
theorem ee:aC tG ["digits"] (ao mw):=⟨rfl,rfl,rfl,by decide+kernel,rfl,by decide+kernel,by decide+kernel⟩
theorem rM(t:ai)(n:Nat):Vabldi.valueOf (t++[n])=10*Vabldi.valueOf t+(n-48):=by
 unfold Vabldi.valueOf;rw[List.foldl_append];rfl
def rN:Sp:=λvs H Q _=>∃(F:Hp) (v:V) (t:ai),vs=[v]/\dk F v t/\t.all Vabldi.digit=true/\aH F H/\Rt F H Q λ_ u=>u= .int (Vabldi.valueOf t)
theorem kY(T:Tx K mg C):Ok P w K mg base "number_of" ["digits"] 1 rN:=by
 refine T.d_number_of.ok ee (λvs H Q E h=>by obtain⟨_,_,_,e,_⟩:=h;rw[e];rfl) (λf cdv A outer s H vs Q E hr h=> ?_);obtain⟨F,v,t,rfl,⟨a,rfl,ha⟩,hd,f0,k⟩:=h
 refine⟨_,ae (aF (i:=1) ee.nd rfl (Or.inl rfl) aG)
  (ae (b0 PassesOwn.never rfl (bj (pv 0)) (aS (i:=2) ee.nd rfl (Or.inl rfl))
   (ah (aF (i:=1) ee.nd rfl (Or.inl rfl) (bD nO (bD fK (bD Dz (pv 1) aG) (pv 2)) (gJ T.b_ord)))))
  (ah (aq (pv 1)))),?_⟩
 refine⟨_,rfl,a,rfl,⟨_,aZ.of (f0 _ _ ha)⟩,fY (λi σ1 F2 H2=>∃b,σ1=[some (.ref a),some (.int (Vabldi.valueOf (t.take i))),b]) (bo.refl f0) (aZ.of ha) ⟨none,rfl⟩ ?_ ?_⟩
 ·rintro i x σ1 F2 H2 hx e2 s2 ⟨b,rfl⟩
  obtain⟨n,hn,rfl⟩:=zD hx;refine⟨_,rfl,_,_,rfl,rfl,.inr ⟨by decide,by decide⟩,_,rfl,_,_,rfl,rfl,_,_,rfl,rfl,F2,e2,s2,some (.int n),?_⟩;have dn:Vabldi.digit n=true:=List.all_eq_true.mp hd n (List.mem_of_getElem? hn)
  have e:((Vabldi.valueOf (t.take (i+1)):Nat):Int)=(Vabldi.valueOf (t.take i):Nat)*10+(n:Int)-48:=by
   rw[aT hn,rM];unfold Vabldi.digit at dn;simp at dn;omega
  rw[e];rfl
 ·rintro σ1 F2 H2 e2 s2 ⟨b,rfl⟩
  refine⟨_,rfl,k _ F2 H2 e2 ?_⟩;rw[aM,List.take_length]
abbrev io:List Str:=["text","shift","byte"]
theorem cN:aC io ["text"] (ao dZ):=⟨rfl,rfl,rfl,by decide+kernel,rfl,by decide+kernel,by decide+kernel⟩
def lQ:Sp:=λvs H Q _=>∃(F:Hp) (v:V) (t:ai),vs=[v]/\dk F v t/\t.length<=8388608/\aH F H/\Rt F H Q λF1 u=>dk F1 u (t.map Vabldi.upper)
theorem lS(T:Tx K mg C):Ok P w K mg base "upper_letters" ["text"] 2 lQ:=by
 refine T.d_upper_letters.ok cN (λvs H Q E h=>by obtain⟨_,_,_,e,_⟩:=h;rw[e];rfl) (λf cdv A outer s H vs Q E hr h=> ?_);obtain⟨F,v,t,rfl,⟨a,rfl,ha⟩,hl,f0,k⟩:=h
 refine⟨_,ae (aF (i:=1) cN.nd rfl (Or.inr rfl) (bD nO (gJ T.b_ord) (gJ T.b_ord)))
  (ah (aq (fj rfl cN.nd (bj (pv 0)) (blk (own:=[("byte",2)]) io (ao dZ) rfl rfl (by decide+kernel)) (λ_ _ _ _ _=>aS (i:=2) cN.nd rfl (Or.inl rfl)) (λ_ _ _ _ _=>b4)
   (λ_ _ _ _ _=>sy (bI (aB (eJ T) hr (ab (pv 2) af))) (bD nO (pv 2) (pv 1)) (pv 2))))),?_⟩
 refine⟨_,_,rfl,rfl,_,rfl,a,rfl,⟨_,aZ.of (f0 _ _ ha)⟩,λD hD=> ?_⟩;refine bV (ds:=t) (λv n=>v=V.int (n:Nat)) (λ_ v (b:Nat)=>v=V.int b) (λn=>some (Vabldi.upper n)) (λ_ _ _ _ _ h=>h) (bo.refl f0) hD (aZ.of ha) (lM t) hl ?_ ?_
 ·rintro x n F1 H1 Y N rfl hn e1 s1 hY hN
  refine⟨rfl,_,rfl,n,rfl,_,rfl,bY (λhb=> ?_) (λhb=> ?_)⟩
  ·refine⟨_,rfl,_,rfl,_,_,rfl,rfl,hY _ F1 H1 _ rfl (bo.refl e1.fh) ?_⟩;unfold tE at hb;simp at hb;unfold Vabldi.upper;rw[if_pos (by omega)];show V.int ((n:Int)-(97-65))=V.int ((n-32:Nat):Int);congr 1;omega
  ·refine⟨_,rfl,hY _ F1 H1 _ rfl (bo.refl e1.fh) ?_⟩;unfold tE at hb;simp at hb;unfold Vabldi.upper;rw[if_neg (by omega)]
 ·rintro F1 H1 ys e1 s1 hA fD p
  rw[cQ p]at hA;refine k _ _ _ (e1.frz (l:=D) (f0.free hD|>λ_=>hD) hA fD) ⟨D,rfl,?_⟩;rw[aa];congr 2;simp[zs]
end
theorem iV(t:ai):Vabldi.split t≠[]:=by
 cases t with
 |nil=>simp[Vabldi.split]
 |cons c r=>
  rw[Vabldi.split];split
  ·simp
  ·split<;>simp
theorem eK(c:Nat):∀(p:ai) (done:List ai) (cur:ai),Vabldi.split p=done++[cur]->Vabldi.split (p++[c])=if c=10 then done++[cur]++[[]]else done++[cur++[c]]
 |[],done,cur,h=>by
  have h':([[]]:List ai)=done++[cur]:=h;cases done with
  |nil=>
   simp at h'
   subst h';by_cases e:c=10
   ·subst e;rfl
   ·rw[if_neg e];show Vabldi.split [c]=_;simp[Vabldi.split,e]
  |cons d ds=>simp at h'
 |b::r,done,cur,h=>by
  rw[Vabldi.split]at h;show Vabldi.split (b::(r++[c]))=_;rw[Vabldi.split];by_cases eb:b=10
  ·rw[if_pos eb]at h⊢;cases done with
   |nil=>
    simp at h
    exact absurd h.2 (iV r)
   |cons d ds=>
    simp only[List.cons_append,List.cons.injEq]at h;rw[eK c r ds cur h.2,<-h.1];split<;>simp
  ·rw[if_neg eb]at h⊢;cases e:Vabldi.split r with
   |nil=>exact absurd e (iV r)
   |cons y q=>
    rw[e]at h;dsimp only at h;cases done with
    |nil=>
     simp only[List.nil_append,List.cons.injEq]at h;have ih:=eK c r [] y (by rw[e,h.2];rfl);rw[ih];by_cases ec:c=10
     ·simp only[if_pos ec,<-h.1];rfl
     ·simp only[if_neg ec,<-h.1];rfl
    |cons d ds=>
     simp only[List.cons_append,List.cons.injEq]at h;have ih:=eK c r (y::ds) cur (by rw[e,h.2];rfl);rw[ih];by_cases ec:c=10
     ·simp only[if_pos ec,<-h.1];rfl
     ·simp only[if_neg ec,<-h.1];rfl
theorem kd{t:ai}{done:List ai}{cur:ai}(h:Vabldi.split t=done++[cur]):Vabldi.linesOf t=if cur=[]then done else done++[cur]:=by
 unfold Vabldi.linesOf;simp only[h,List.getLast?_append,List.getLast?_singleton,Option.some_or,Option.some.injEq,List.dropLast_concat]
section
variable{P:Program}{w:World}{K:PySem.W.Frag}{mg:Str->Option Value}{base:Heap}{C:Cs}
abbrev vh:List Str:=["text","lines","line","byte"]
theorem dL:aC vh ["text"] (ao oo):=⟨rfl,rfl,rfl,by decide+kernel,rfl,by decide+kernel,by decide+kernel⟩
def tH:Sp:=λvs H Q _=>∃(F:Hp) (v:V) (t:ai),vs=[v]/\dk F v t/\t.length<=8388608/\aH F H/\Rt F H Q λF1 u=>cW F1 u (Vabldi.linesOf t)
theorem cF(T:Tx K mg C):Ok P w K mg base "lines_of" ["text"] 1 tH:=by
 refine T.d_lines_of.ok dL (λvs H Q E h=>by obtain⟨_,_,_,e,_⟩:=h;rw[e];rfl) (λf cdv A outer s H vs Q E hr h=> ?_);obtain⟨F,v,t,rfl,⟨a,rfl,ha⟩,hl,f0,k⟩:=h
 refine⟨_,ae (aF (i:=1) dL.nd rfl (Or.inl rfl) (aL af))
  (ae (aF (i:=2) dL.nd rfl (Or.inl rfl) (aL af))
  (ae (b0 PassesOwn.never rfl (bj (pv 0)) (aS (i:=3) dL.nd rfl (Or.inl rfl))
   (ah (aN (aK eZ (pv 3) (aV T.g_LINE_END) (aP _))
    (ae (cD (pv 1) (pv 2)) (ah (aF (i:=2) dL.nd rfl (Or.inl rfl) (aL af))))
    (ah (cD (pv 2) (pv 3))))))
  (ae (aN (iy (pv 2) (λ_=>rfl)) (ah (cD (pv 1) (pv 2))) aE)
  (ah (aq (pv 1)))))),?_⟩
 refine⟨Nat.zero_le _,λL hL=>⟨Nat.zero_le _,λl hl0=> ?_⟩⟩;have nL:H L=none:=hL;have neLl:L≠l:=az aa hl0;have nl:H l=none:=by rw[aj neLl.symm]at hl0;exact hl0
 have x0:bo F H F (aJ (aJ H L (.lst [])) l (.lst [])):=((bo.refl f0).new hL).new hl0
 refine⟨_,rfl,a,rfl,⟨_,aZ.of (x0.fh _ _ ha)⟩,fY (λi σ1 F1 H1=>∃(l:Addr) (b:Option V) (refs:List V) (done:List ai) (cur:ai),σ1=[some (.ref a),some (.ref L),some (.ref l),b]/\
  Vabldi.split (t.take i)=done++[cur]/\done.length<=i/\cur.length<=i/\H1 L=some (.lst refs)/\Paired (dk F1) refs done/\H1 l=some (.lst ((zs cur).map V.int))/\F1 L=none/\F1 l=none/\H l=none/\L≠l) x0 (aZ.of ha) ?_ ?_ ?_⟩
 ·exact⟨l,none,[],[],[],rfl,rfl,Nat.zero_le _,Nat.zero_le _,by rw[aj neLl,aa],.nil,aa,f0.free nL,f0.free nl,nl,neLl⟩
 ·rintro i x σ1 F1 H1 hx e1 s1 ⟨l,b,refs,done,cur,rfl,hsp,hd,hc,hHL,hp,hHl,fL,fl,nl,ne⟩
  obtain⟨n,hn,rfl⟩:=zD hx;have hi:i<8388608:=Nat.lt_of_lt_of_le (ck hn) hl;have sz:(8388608:Nat)<sizeLine:=by decide
  refine⟨_,rfl,rfl,_,rfl,?_⟩;refine bY (λhb=> ?_) (λhb=> ?_)
  ·have e10:n=10:=by simp at hb;omega
   refine⟨_,rfl,L,refs,rfl,hHL,_,rfl,refs,hHL,?_,?_⟩
   ·rw[aA hp];omega
   have hH2l:aJ H1 L (.lst (refs++[.ref l])) l=some (.lst ((zs cur).map V.int)):=by rw[aj ne.symm];exact hHl
   refine⟨Nat.zero_le _,λl2 hl2=> ?_⟩;have y2:bo F H (aJ F1 l (.lst ((zs cur).map V.int))) (aJ H1 L (.lst (refs++[.ref l]))):=(e1.wr nL fL).frz nl hH2l fl;have ne2:L≠l2:=az aa hl2;refine⟨_,y2.new hl2,aH.updn s1 (f0.free nl),l2,some (.int n),refs++[.ref l],done++[cur],[],rfl,?_,?_,Nat.zero_le _,?_,?_,aa,?_,y2.fh.free hl2,y2.hh.free hl2,ne2⟩
   ·rw[aT hn,eK n _ _ _ hsp,if_pos e10]
   ·simp;omega
   ·rw[aj ne2,aa]
   ·exact bh ⟨l,rfl,aa⟩ (Paired.mapP hp λv d q=>q.mono (aH.updn (aH.refl _) fl))
   ·rw[aj ne];exact fL
  ·have e10:n≠10:=by
    intro e;subst e;simp at hb
   refine⟨_,rfl,l,_,rfl,hHl,_,rfl,_,hHl,?_,?_⟩
   ·rw[aM];omega
   refine⟨F1,e1.wr nl fl,s1,l,some (.int n),refs,done,cur++[n],rfl,?_,by omega,?_,?_,hp,?_,fL,fl,nl,ne⟩
   ·rw[aT hn,eK n _ _ _ hsp,if_neg e10]
   ·simp;omega
   ·rw[aj ne];exact hHL
   ·rw[aa,b5];rfl
 ·rintro σ1 F1 H1 e1 s1 ⟨l,b,refs,done,cur,rfl,hsp,hd,hc,hHL,hp,hHl,fL,fl,nl,ne⟩
  rw[aM]at hsp hd;rw[List.take_length]at hsp;have sz:(8388608:Nat)<sizeLine:=by decide
  refine⟨_,rfl,_,.inl ⟨_,aZ.of hHl,rfl⟩,bY (λhb=> ?_) (λhb=> ?_)⟩
  ·refine⟨_,rfl,L,refs,rfl,hHL,_,rfl,refs,hHL,?_,_,rfl,?_⟩
   ·rw[aA hp];omega
   have hH2l:aJ H1 L (.lst (refs++[.ref l])) l=some (.lst ((zs cur).map V.int)):=by rw[aj ne.symm];exact hHl
   have y2:bo F H (aJ F1 l (.lst ((zs cur).map V.int))) (aJ H1 L (.lst (refs++[.ref l]))):=(e1.wr nL fL).frz nl hH2l fl;refine k _ _ _ (y2.frz nL aa (by rw[aj ne];exact fL)) ⟨L,_,rfl,aa,?_⟩;rw[kd hsp,if_neg (by rintro rfl;simp[zs]at hb)];refine bh ⟨l,rfl,?_⟩ (Paired.mapP hp λv d q=>q.mono (aH.updn (aH.updn (aH.refl _) fl) fL));rw[aj ne.symm,aa]
  ·refine⟨_,rfl,k _ _ _ (e1.frz nL hHL fL) ⟨L,_,rfl,aa,?_⟩⟩
   have ec:cur=[]:=by
    cases cur with
    |nil=>rfl
    |cons x r=>simp[zs]at hb
   rw[kd hsp,if_pos ec];exact Paired.mapP hp λv d q=>q.mono (aH.updn (aH.refl _) fL)
end
def G3(H:Hp)(v:V)(t:ai):Prop:=∃a,v= .ref a/\(H a=some (.lst ((zs t).map V.int))\/H a=some (.tup ((zs t).map V.int)))
theorem dk.any{H:Hp}{v:V}{t:ai}(h:dk H v t):G3 H v t:=by obtain⟨a,e,q⟩:=h;exact⟨a,e,.inl q⟩
theorem gI.any{H:Hp}{v:V}{t:ai}(h:gI H v t):G3 H v t:=by obtain⟨a,e,q⟩:=h;exact⟨a,e,.inr q⟩
theorem dF(ts:List ai)(t:ai):Vabldi.putLines (ts++[t])=Vabldi.putLines ts++t++[10]:=by
 unfold Vabldi.putLines;simp
theorem jI(ts:List ai)(i:Nat):(Vabldi.putLines (ts.take i)).length<=(Vabldi.putLines ts).length:=by
 conv=>rhs;rw[<-List.take_append_drop i ts]
 unfold Vabldi.putLines;rw[List.flatMap_append,List.length_append];omega
section
variable{P:Program}{w:World}{K:PySem.W.Frag}{mg:Str->Option Value}{base:Heap}{C:Cs}
abbrev tI:List Str:=["lines","text","line"]
theorem gQ:aC tI ["lines"] (ao mx):=⟨rfl,rfl,rfl,by decide+kernel,rfl,by decide+kernel,by decide+kernel⟩
def kZ:Sp:=λvs H Q _=>∃(F:Hp) (v:V) (ts:List ai),vs=[v]/\pH F (G3 F) v ts/\(Vabldi.putLines ts).length<=8388608/\aH F H/\Rt F H Q λF1 u=>dk F1 u (Vabldi.putLines ts)
theorem bt(T:Tx K mg C):Ok P w K mg base "put_lines" ["lines"] 1 kZ:=by
 refine T.d_put_lines.ok gQ (λvs H Q E h=>by obtain⟨_,_,_,e,_⟩:=h;rw[e];rfl) (λf cdv A outer s H vs Q E hr h=> ?_);obtain⟨F,v,ts,rfl,⟨a,xs,rfl,ha,hp⟩,hl,f0,k⟩:=h
 refine⟨_,ae (aF (i:=1) gQ.nd rfl (Or.inl rfl) (aL af))
  (ae (b0 PassesOwn.never rfl (bj (pv 0)) (aS (i:=2) gQ.nd rfl (Or.inl rfl))
   (ae (eC (pv 1) (pv 2)) (ah (cD (pv 1) (aV T.g_LINE_END)))))
  (ah (aq (pv 1)))),?_⟩
 refine⟨Nat.zero_le _,λL hL=> ?_⟩;refine⟨_,rfl,a,rfl,⟨_,aZ.of (((bo.refl f0).new hL).fh _ _ ha)⟩,fY (λi σ1 F1 H1=>∃(b:Option V),σ1=[some (.ref a),some (.ref L),b]/\H1 L=some (.lst ((zs (Vabldi.putLines (ts.take i))).map V.int))/\F1 L=none) ((bo.refl f0).new hL) (aZ.of ha) ?_ ?_ ?_⟩
 ·exact⟨none,rfl,aa,f0.free hL⟩
 ·rintro i x σ1 F1 H1 hx e1 s1 ⟨b,rfl,hHL,fL⟩
  obtain⟨t,ht,a2,rfl,q⟩:=bg hp hx;have sz:(8388608:Nat)<sizeLine:=by decide
  have e:Vabldi.putLines (ts.take (i+1))=Vabldi.putLines (ts.take i)++t++[10]:=by rw[aT ht,dF]
  have l1:=jI ts (i+1);rw[e]at l1;simp only[List.length_append,List.length_singleton]at l1;refine⟨_,rfl,L,_,rfl,hHL,_,rfl,a2,_,(zs t).map V.int,rfl,hHL,q.imp (λz=>e1.fh _ _ (s1 _ _ z)) (λz=>e1.fh _ _ (s1 _ _ z)),?_,?_⟩
  ·rw[aM,aM];omega
  ·refine⟨_,rfl,L,_,rfl,aa,_,aa,?_,?_⟩
   ·rw[List.length_append,aM,aM];omega
   ·refine⟨F1,(e1.wr hL fL).wr hL fL,s1,some (.ref a2),rfl,?_,fL⟩;rw[aa,e,b5,b5];rfl
 ·rintro σ1 F1 H1 e1 s1 ⟨b,rfl,hHL,fL⟩
  rw[aA hp,List.take_length]at hHL;exact⟨_,rfl,k _ _ _ (e1.frz hL hHL fL) ⟨L,rfl,aa⟩⟩
abbrev tJ:List Str:=["piece","text","width","place"]
theorem gS:aC tJ ["piece","text"] (ao my):=⟨rfl,rfl,rfl,by decide+kernel,rfl,by decide+kernel,by decide+kernel⟩
theorem gU(u:ai):∀t:ai,Vabldi.standsIn u t=true↔ ∃i,i+u.length<=t.length/\(t.drop i).take u.length=u
 |[]=>by
  unfold Vabldi.standsIn;constructor
  ·intro h;have :u=[]:=by simpa using h
   subst this;exact⟨0,by simp,by simp⟩
  ·rintro ⟨i,h1,h2⟩
   have :u.length=0:=by rw[List.length_nil]at h1;omega
   simpa using List.eq_nil_of_length_eq_zero this
 |c::r=>by
  unfold Vabldi.standsIn;rw[Bool.or_eq_true,gU u r];unfold Vabldi.startsWith;constructor
  ·rintro (h|⟨i,h1,h2⟩)
   ·have h:=eq_of_beq h;refine⟨0,?_,by simpa using h⟩;have :=congrArg List.length h;simp at this⊢;omega
   ·exact⟨i+1,by simp;omega,by simpa using h2⟩
  ·rintro ⟨i,h1,h2⟩
   cases i with
   |zero=>left;rw[beq_iff_eq];simpa using h2
   |succ i=>right;exact⟨i,by simp at h1;omega,by simpa using h2⟩
def rO:Sp:=λvs H Q _=>∃(F:Hp) (v v2:V) (u t:ai),vs=[v,v2]/\dk F v u/\dk F v2 t/\t.length<=8388608/\u.length<=8388608/\aH F H/\Rt F H Q λ_ x=>x= .bl (Vabldi.standsIn u t)
theorem rP(T:Tx K mg C):Ok P w K mg base "stands_in" ["piece","text"] 1 rO:=by
 refine T.d_stands_in.ok gS (λvs H Q E h=>by obtain⟨_,_,_,_,_,e,_⟩:=h;rw[e];rfl) (λf cdv A outer s H vs Q E hr h=> ?_);obtain⟨F,v,v2,u,t,rfl,⟨a,rfl,ha⟩,⟨a2,rfl,ha2⟩,hl,hl2,f0,k⟩:=h
 refine⟨_,ae (aF (i:=2) gS.nd rfl (Or.inl rfl) (bp T.b_len (pv 0)))
  (ae (b0 PassesOwn.never rfl (xB rfl T.b_range (ab (bD fK (bD nO (bp T.b_len (pv 1)) (pv 2)) aG) af)) (aS (i:=3) gS.nd rfl (Or.inl rfl))
   (ah (aN (aK (j5 hr) (dJ fb (pv 1) (cT (pv 3)) (cT (bD fK (pv 3) (pv 2)))) (pv 0) (aP _)) (ah (aq jy)) aE)))
  (ah (aq jy))),?_⟩
 have sz:(8388608:Nat)<sizeLine:=by decide
 have hu:((zs u).map V.int).length=u.length:=aM u;have ht:((zs t).map V.int).length=t.length:=aM t;refine⟨_,rfl,a,_,rfl,f0 _ _ ha,_,rfl,a2,_,rfl,f0 _ _ ha2,_,rfl,_,_,rfl,rfl,_,_,rfl,rfl,_,rfl,?_,?_,?_⟩
 ·rw[hu,ht];omega
 ·rw[hu,ht];omega
 refine xD (lo:=0) (λi σ1 H1=>∃F1 b,bo F H F1 H1/\σ1=[some (.ref a),some (.ref a2),some (.int ((zs u).map V.int).length),b]/\∀j,j<i->(t.drop j).take u.length≠u) ⟨F,none,bo.refl f0,rfl,λj hj=>absurd hj (Nat.not_lt_zero _)⟩ ?_ ?_
 ·rintro i σ1 H1 hi ⟨F1,b,e1,rfl,hno⟩
  have hi':i+u.length<=t.length:=by rw[hu,ht]at hi;omega
  refine⟨_,rfl,_,rfl,_,rfl,_,rfl,_,rfl,_,_,rfl,rfl,_,rfl,a2,_,rfl,aZ.of (e1.fh _ _ (e1.ff _ _ ha2)),λp hp=> ?_⟩
  have hcut:iA ((zs t).map V.int) (some (0+(i:Int))) (some (0+(i:Int)+(((zs u).map V.int).length:Int)))=(zs ((t.drop i).take u.length)).map V.int:=by
   have :=kI ((zs t).map V.int) i (i+u.length);rw[show(0+(i:Int))=(i:Int) by omega,hu,show(i:Int)+(u.length:Int)=((i+u.length:Nat):Int) by omega,this,rK,rJ];congr 2;congr 1;omega
  rw[hcut];have y:=e1.new (o:= .lst ((zs ((t.drop i).take u.length)).map V.int)) hp;refine⟨_,rfl,p,a,_,_,rfl,rfl,.inl ⟨aa,y.fh _ _ (e1.ff _ _ ha)⟩,_,rfl,bY (λhb=> ?_) (λhb=> ?_)⟩
  ·rw[ie]at hb;refine k _ F1 _ y ?_;rw[(gU u t).mpr ⟨i,hi',of_decide_eq_true hb⟩]
  ·rw[ie]at hb;refine⟨F1,_,y,rfl,λj hj=> ?_⟩;by_cases e:j=i
   ·subst e;exact of_decide_eq_false hb
   ·exact hno j (by omega)
 ·rintro σ1 H1 ⟨F1,b,e1,rfl,hno⟩
  refine k _ F1 _ e1 ?_
  have :Vabldi.standsIn u t=false:=by
   rw[Bool.eq_false_iff];intro h;obtain⟨i,h1,h2⟩:=(gU u t).mp h;refine hno i ?_ h2;rw[hu,ht];omega
  rw[this]
end
theorem oC{a b:ai}(ha:a≠[]):∀(n m:Nat) (t:ai),t.length<n->t.length<m->Vabldi.replaceIn a b n t=Vabldi.replaceIn a b m t
 |0,_,_,h,_=>absurd h (Nat.not_lt_zero _)
 |_,0,_,_,h=>absurd h (Nat.not_lt_zero _)
 |n+1,m+1,[],_,_=>by simp[Vabldi.replaceIn]
 |n+1,m+1,c::r,h1,h2=>by
  simp only[List.length_cons]at h1 h2;rw[Vabldi.replaceIn,Vabldi.replaceIn]
  have :1<=a.length:=by
   cases a with
   |nil=>exact absurd rfl ha
   |cons x y=>simp
  split
  ·rw[oC ha n m _ (by rw[List.length_drop,List.length_cons];omega) (by rw[List.length_drop,List.length_cons];omega)]
  ·rw[oC ha n m r (by omega) (by omega)]
def rep(a b t:ai):ai:=Vabldi.replaceIn a b (t.length+1) t
theorem BN(a b:ai):rep a b []=[]:=by simp[rep,Vabldi.replaceIn]
theorem BO{a b:ai}{t:ai}{i:Nat}(ha:a≠[])(hi:i<t.length)(h:(t.drop i).take a.length=a):rep a b (t.drop i)=b++rep a b (t.drop (i+a.length)):=by
 unfold rep;cases e:t.drop i with
 |nil=>have :=congrArg List.length e;simp at this;omega
 |cons c r=>
  rw[e]at h;rw[Vabldi.replaceIn,if_pos (by unfold Vabldi.startsWith;rw[beq_iff_eq];exact h),<-e,List.drop_drop];congr 1
  have :1<=a.length:=by
   cases a with
   |nil=>exact absurd rfl ha
   |cons x y=>simp
  refine oC ha _ _ _ ?_ (Nat.lt_succ_self _);rw[List.length_drop,List.length_drop];omega
theorem D5{a b:ai}{t:ai}{i c:Nat}(ha:a≠[])(hc:t[i]? =some c)(h:(t.drop i).take a.length≠a):rep a b (t.drop i)=c::rep a b (t.drop (i+1)):=by
 have hi:=ck hc;unfold rep
 have e:t.drop i=c::t.drop (i+1):=by
  rw[List.drop_eq_getElem_cons hi];congr 1;rw[List.getElem?_eq_getElem hi]at hc;exact Option.some.inj hc
 rw[e]at h⊢;rw[Vabldi.replaceIn,if_neg (by unfold Vabldi.startsWith;rw[beq_iff_eq];exact h)];congr 1
theorem D6(t:ai)(i n:Nat):iA ((zs t).map V.int) (some (i:Int)) (some ((i:Int)+(n:Int)))=(zs ((t.drop i).take n)).map V.int:=by
 rw[show(i:Int)+(n:Int)=((i+n:Nat):Int) by omega,kI,rK,rJ];congr 2;congr 1;omega
theorem FM{t:ai}{i n:Nat}(h:t[i]? =some n):yN ((zs t).map V.int) (i:Int)=some (.int n):=by
 refine bd ?_;unfold zs;rw[List.map_map,List.getElem?_map,h];rfl
section
variable{P:Program}{w:World}{K:PySem.W.Frag}{mg:Str->Option Value}{base:Heap}{C:Cs}
abbrev vj:List Str:=["text","old","new","width","result","place"]
theorem dc:aC vj ["text","old","new"] (ao oq):=⟨rfl,rfl,rfl,by decide+kernel,rfl,by decide+kernel,by decide+kernel⟩
def tK:Sp:=λvs H Q _=>∃(F:Hp) (v v2 v3:V) (t a b:ai),vs=[v,v2,v3]/\dk F v t/\dk F v2 a/\dk F v3 b/\a≠[]/\a.length<=1000000/\t.length<=1000000/\t.length*(b.length+1)<=8388608/\aH F H/\Rt F H Q λF1 u=>dk F1 u (rep a b t)
theorem tL(T:Tx K mg C):Ok P w K mg base "replaced" ["text","old","new"] 1 tK:=by
 refine T.d_replaced.ok dc (λvs H Q E h=>by obtain⟨_,_,_,_,_,_,_,e,_⟩:=h;rw[e];rfl) (λf cdv A outer s H vs Q E hr h=> ?_);obtain⟨F,v,v2,v3,t,old,new,rfl,⟨a,rfl,ha⟩,⟨b,rfl,hb⟩,⟨c,rfl,hc⟩,ho,hl1,hl2,hl3,f0,k⟩:=h
 refine⟨_,ae (aF (i:=3) dc.nd rfl (Or.inl rfl) (bp T.b_len (pv 1)))
  (ae (aF (i:=4) dc.nd rfl (Or.inl rfl) (aL af))
  (ae (aF (i:=5) dc.nd rfl (Or.inl rfl) aG)
  (ae (kr PassesOwn.never (aK yV (pv 5) (bp T.b_len (pv 0)) (aP _))
   (ah (aN (aK (j5 hr) (dJ fb (pv 0) (cT (pv 5)) (cT (bD fK (pv 5) (pv 3)))) (pv 1) (aP _))
    (ae (eC (pv 4) (pv 2)) (ah (jO (i:=5) dc.nd rfl (Or.inl rfl) (pv 3) iu)))
    (ae (cD (pv 4) (bx bn (pv 0) (pv 5) (λ_ _=>rfl))) (ah (jO (i:=5) dc.nd rfl (Or.inl rfl) aG iu))))))
  (ah (aq (pv 4)))))),?_⟩
 have sz:(8388608:Nat)<sizeLine:=by decide
 have lt:((zs t).map V.int).length=t.length:=aM t;have lo:((zs old).map V.int).length=old.length:=aM old;refine⟨_,rfl,b,_,rfl,f0 _ _ hb,Nat.zero_le _,λL hL=> ?_⟩
 refine rG (λm σ1 F1 H1=>∃(p:Nat) (res:ai),σ1=[some (.ref a),some (.ref b),some (.ref c),some (.int ((zs old).map V.int).length),some (.ref L),some (.int p)]/\m=t.length-p/\p<=t.length/\
  H1 L=some (.lst ((zs res).map V.int))/\F1 L=none/\res++rep old new (t.drop p)=rep old new t/\res.length<=p*(new.length+1)) ((bo.refl f0).new hL) ⟨_,0,[],rfl,rfl,Nat.zero_le _,aa,f0.free hL,rfl,Nat.zero_le _⟩ ?_
 rintro m σ1 F1 H1 e1 s1 ⟨p,res,rfl,rfl,hp,hHL,fL,hrep,hlen⟩
 refine⟨_,rfl,_,rfl,a,_,rfl,e1.fh _ _ (e1.ff _ _ ha),_,_,rfl,rfl,_,rfl,bY (λhlt=> ?_) (λhge=> ?_)⟩
 ·have hlt:p<t.length:=by rw[lt]at hlt;simpa using hlt
  refine⟨_,λ_ _ h=>h,?_⟩;refine⟨_,rfl,_,rfl,_,rfl,_,rfl,_,rfl,_,_,rfl,rfl,_,rfl,a,_,rfl,aZ.of (e1.fh _ _ (e1.ff _ _ ha)),λq hq=> ?_⟩;rw[show(((zs old).map V.int).length:Int)=(old.length:Int) by rw[lo],D6];have y:=e1.new (o:= .lst ((zs ((t.drop p).take old.length)).map V.int)) hq;have neLq:L≠q:=az hHL hq;have hHL':aJ H1 q (.lst ((zs ((t.drop p).take old.length)).map V.int)) L=some (.lst ((zs res).map V.int)):=by rw[aj neLq];exact hHL
  have hmul:(p+1)*(new.length+1)<=8388608:=Nat.le_trans (Nat.mul_le_mul_right _ hlt) hl3;have hmul2:(p+1)*(new.length+1)=p*(new.length+1)+(new.length+1):=by rw[Nat.add_mul,Nat.one_mul]
  refine⟨_,rfl,q,b,_,_,rfl,rfl,.inl ⟨aa,y.fh _ _ (e1.ff _ _ hb)⟩,_,rfl,bY (λhy=> ?_) (λhn=> ?_)⟩
  ·rw[ie]at hy;have hy:=of_decide_eq_true hy
   have hfit:p+old.length<=t.length:=by
    have :=congrArg List.length hy;rw[List.length_take,List.length_drop]at this;omega
   have h1:1<=old.length:=by
    cases old with
    |nil=>exact absurd rfl ho
    |cons x y=>simp
   refine⟨_,rfl,L,_,rfl,hHL',_,rfl,c,_,(zs new).map V.int,rfl,hHL',.inl (y.fh _ _ (e1.ff _ _ hc)),?_,?_⟩
   ·rw[aM,aM];omega
   refine⟨_,rfl,_,rfl,_,_,rfl,rfl,t.length-(p+old.length),by omega,F1,y.wr hL fL,s1,p+old.length,res++new,?_,rfl,hfit,?_,fL,?_,?_⟩
   ·rfl
   ·rw[aa,b5]
   ·rw[List.append_assoc,<-BO ho hlt hy,hrep]
   ·rw[List.length_append];have :(p+1)*(new.length+1)<=(p+old.length)*(new.length+1):=Nat.mul_le_mul_right _ (by omega);omega
  ·rw[ie]at hn;have hn:=of_decide_eq_false hn;obtain⟨n,hn1⟩:∃n,t[p]? =some n:=⟨_,List.getElem?_eq_getElem hlt⟩;refine⟨_,rfl,L,_,rfl,hHL',_,rfl,_,rfl,a,_,_,_,rfl,rfl,aZ.of (y.fh _ _ (e1.ff _ _ ha)),FM hn1,_,hHL',?_,?_⟩
   ·rw[aM];omega
   refine⟨_,rfl,_,_,rfl,rfl,t.length-(p+1),by omega,F1,y.wr hL fL,s1,p+1,res++[n],rfl,rfl,hlt,?_,fL,?_,?_⟩
   ·rw[aa,b5];rfl
   ·rw[List.append_assoc,List.singleton_append,<-D5 ho hn1 hn,hrep]
   ·rw[List.length_append,List.length_singleton];omega
 ·have hge:p=t.length:=by rw[lt]at hge;simp at hge;omega
  refine⟨_,rfl,k _ _ _ (e1.frz hL hHL fL) ⟨L,rfl,?_⟩⟩;rw[aa,<-hrep,hge,List.drop_length,BN,List.append_nil]
end
def ZL(H:Hp)(v:V)(ns:List Int):Prop:=∃a,v= .ref a/\H a=some (.lst (ns.map V.int))
theorem ZL.mono{H H':Hp}{v:V}{t:List Int}(h:ZL H v t)(e:aH H H'):ZL H' v t:=by
 obtain⟨a,q,h⟩:=h;exact⟨a,q,e _ _ h⟩
def fB(ns:List Int):Bool:=ns.all λb=>decide (0<=b)&&decide (b<=255)
theorem mE:∀{ns:List Int},fB ns=true->zs (ns.map λb=>b.toNat)=ns
 |[],_=>rfl
 |n::r,h=>by
  unfold fB at h;simp only[List.all_cons,Bool.and_eq_true,decide_eq_true_eq]at h;show((n.toNat:Nat):Int)::zs (r.map λb=>b.toNat)=n::r;rw[mE (ns:=r) (by unfold fB;exact h.2)];congr 1;omega
section
variable{P:Program}{w:World}{K:PySem.W.Frag}{mg:Str->Option Value}{base:Heap}{C:Cs}
abbrev mF:List Str:=["numbers","number"]
theorem gV:aC mF ["numbers"] (ao iM):=⟨rfl,rfl,rfl,by decide+kernel,rfl,by decide+kernel,by decide+kernel⟩
def rQ:Sp:=λvs H Q _=>∃(F:Hp) (v:V) (t:List Int),vs=[v]/\ZL F v t/\t.length<=8388608/\aH F H/\Rt F H Q λ_ u=>u= .bl (fB t)
theorem rR(T:Tx K mg C):Ok P w K mg base "are_bytes" ["numbers"] 1 rQ:=by
 refine T.d_are_bytes.ok gV (λvs H Q E h=>by obtain⟨_,_,_,e,_⟩:=h;rw[e];rfl) (λf cdv A outer s H vs Q E hr h=> ?_);obtain⟨F,v,t,rfl,⟨a,rfl,ha⟩,hl,f0,k⟩:=h
 refine⟨_,ah (aq (rH rfl T.b_all (fj rfl gV.nd (bj (pv 0)) (blk (own:=[("number",1)]) mF (ao iM) rfl rfl (by decide+kernel)) (λ_ _ _ _ _=>aS (i:=1) gV.nd rfl (Or.inl rfl)) (λ_ _ _ _ _=>b4)
   (λ_ _ _ _ _=>lN cP cP aG (pv 1) aG)))),?_⟩
 refine⟨_,rfl,a,rfl,⟨_,aZ.of (f0 _ _ ha)⟩,λD hD=> ?_⟩;refine bV (ds:=t) (λv (n:Int)=>v=V.int n) (λ_ v b=>v=V.bl b) (λn=>some (decide (0<=n)&&decide (n<=255))) (λ_ _ _ _ _ h=>h) (bo.refl f0) hD (aZ.of ha) (qi t) hl ?_ ?_
 ·rintro x n F1 H1 Y N rfl hn e1 s1 hY hN
  exact⟨rfl,_,rfl,_,_,_,rfl,rfl,λQ' q=>q,hY _ F1 H1 _ rfl (bo.refl e1.fh) rfl⟩
 ·rintro F1 H1 ys e1 s1 hA fD p
  rw[cQ p]at hA;refine⟨D,_,rfl,hA,k _ F1 H1 e1 ?_⟩;unfold fB;rw[List.all_map];rfl
abbrev vq:List Str:=["numbers","texts","place","length","text"]
theorem cG:aC vq ["numbers"] (ao ot):=⟨rfl,rfl,rfl,by decide+kernel,rfl,by decide+kernel,by decide+kernel⟩
def lU(F:Hp)(u:V)(o:Option (List ai)):Prop:=match o with
 |none=>u= .non
 |some ts=>cW F u ts
theorem tN:∀(n m:Nat) (l:List Int),l.length<n->l.length<m->Vabldi.textsIn n l=Vabldi.textsIn m l
 |0,_,_,h,_=>absurd h (Nat.not_lt_zero _)
 |_,0,_,_,h=>absurd h (Nat.not_lt_zero _)
 |n+1,m+1,[],_,_=>by simp[Vabldi.textsIn]
 |n+1,m+1,c::r,h1,h2=>by
  simp only[List.length_cons]at h1 h2;rw[Vabldi.textsIn,Vabldi.textsIn];split
  ·rw[tN n m _ (by rw[List.length_drop];omega) (by rw[List.length_drop];omega)]
  ·rfl
theorem BP:Vabldi.textsOf []=some []:=by simp[Vabldi.textsOf,Vabldi.textsIn]
theorem zK(n:Int)(r:List Int):Vabldi.textsOf (n::r)=if 0<=n/\n<=(r.length:Int)/\fB (r.take n.toNat)=true then(Vabldi.textsOf (r.drop n.toNat)).map λl=>(r.take n.toNat).map (λb=>b.toNat)::l else none:=by
 unfold Vabldi.textsOf;rw[Vabldi.textsIn];unfold fB;split
 ·rw[tN _ ((r.drop n.toNat).length+1) _ (by simp[List.length_drop];omega) (Nat.lt_succ_self _)]
 ·rfl
def tO:Sp:=λvs H Q _=>∃(F:Hp) (v:V) (t:List Int),vs=[v]/\ZL F v t/\t.length<=1000000/\aH F H/\Rt F H Q λF1 u=>lU F1 u (Vabldi.textsOf t)
theorem iX(T:Tx K mg C):Ok P w K mg base "texts_in" ["numbers"] 2 tO:=by
 refine T.d_texts_in.ok cG (λvs H Q E h=>by obtain⟨_,_,_,e,_⟩:=h;rw[e];rfl) (λf cdv A outer s H vs Q E hr h=> ?_);obtain⟨F,v,t,rfl,⟨a,rfl,ha⟩,hl,f0,k⟩:=h
 refine⟨_,ae (aF (i:=1) cG.nd rfl (Or.inl rfl) (aL af))
  (ae (aF (i:=2) cG.nd rfl (Or.inl rfl) aG)
  (ae (kr PassesOwn.never (aK yV (pv 2) (bp T.b_len (pv 0)) (aP _))
   (ae (aF (i:=3) cG.nd rfl (Or.inl rfl) (bx bn (pv 0) (pv 2) (λ_ _=>rfl)))
   (ae (jO (i:=2) cG.nd rfl (Or.inl rfl) aG iu)
   (ae (aN (bR (oh cP cP aG (pv 3) (bD nO (bp T.b_len (pv 0)) (pv 2)))) (ah (aq qW)) aE)
   (ae (aF (i:=4) cG.nd rfl (Or.inl rfl) (dJ fb (pv 0) (cT (pv 2)) (cT (bD fK (pv 2) (pv 3)))))
   (ae (aN (bR (bI (aB (rR T) hr (ab (pv 4) af)))) (ah (aq qW)) aE)
   (ae (cD (pv 1) (pv 4))
   (ah (jO (i:=2) cG.nd rfl (Or.inl rfl) (pv 3) iu)))))))))
  (ah (aq (pv 1))))),?_⟩
 have sz:(8388608:Nat)<sizeLine:=by decide
 refine⟨Nat.zero_le _,λL hL=> ?_⟩
 refine rG (λm σ1 F1 H1=>∃(p:Nat) (b1 b2:Option V) (refs:List V) (ts:List ai),σ1=[some (.ref a),some (.ref L),some (.int p),b1,b2]/\m=t.length-p/\p<=t.length/\
  H1 L=some (.lst refs)/\F1 L=none/\Paired (dk F1) refs ts/\ts.length<=p/\Vabldi.textsOf t=(Vabldi.textsOf (t.drop p)).map λl=>ts++l) ((bo.refl f0).new hL) ⟨_,0,none,none,[],[],rfl,rfl,Nat.zero_le _,aa,f0.free hL,.nil,Nat.zero_le _,by simp⟩ ?_
 rintro m σ1 F1 H1 e1 s1 ⟨p,b1,b2,refs,ts,rfl,rfl,hp,hHL,fL,hpr,hlen,htx⟩
 have haH:=e1.fh _ _ (e1.ff _ _ ha);refine⟨_,rfl,_,rfl,a,_,rfl,haH,_,_,rfl,rfl,_,rfl,bY (λhlt=> ?_) (λhge=> ?_)⟩
 ·have hlt:p<t.length:=by simpa using hlt
  obtain⟨n,hn⟩:∃n,t[p]? =some n:=⟨_,List.getElem?_eq_getElem hlt⟩
  have hd:t.drop p=n::t.drop (p+1):=by
   rw[List.drop_eq_getElem_cons hlt];congr 1;rw[List.getElem?_eq_getElem hlt]at hn;exact Option.some.inj hn
  have hat:yN (t.map V.int) (p:Int)=some (.int n):=bd (by rw[List.getElem?_map,hn];rfl);rw[hd,zK]at htx;refine⟨_,λ_ _ h=>h,?_⟩;refine⟨_,rfl,_,rfl,a,_,_,_,rfl,rfl,aZ.of haH,hat,_,rfl,_,_,rfl,rfl,_,rfl,_,_,((t.map V.int).length:Int)-((p:Int)+1),rfl,rfl,λQ' q=>⟨_,rfl,a,_,rfl,haH,_,rfl,_,_,rfl,rfl,q⟩,_,rfl,?_⟩;refine bY (λhb=> ?_) (λhb=> ?_)
  ·refine k _ F1 H1 e1 ?_;rw[htx,if_neg]
   ·rfl
   ·rw[List.length_drop];rw[List.length_map]at hb;simp only[Bool.not_eq_true',Bool.and_eq_false_iff,decide_eq_false_iff_not]at hb;omega
  ·rw[List.length_map]at hb;simp only[Bool.not_eq_false',Bool.and_eq_true,decide_eq_true_eq]at hb;obtain⟨j,rfl⟩:∃j:Nat,n=(j:Int):=⟨n.toNat,by omega⟩;have hj:p+1+j<=t.length:=by omega
   rw[Int.toNat_natCast]at htx;refine⟨_,rfl,_,rfl,_,rfl,_,rfl,_,rfl,_,_,rfl,rfl,_,rfl,a,_,rfl,aZ.of haH,λq hq=> ?_⟩
   have hcut:iA (t.map V.int) (some ((p:Int)+1)) (some ((p:Int)+1+(j:Int)))=((t.drop (p+1)).take j).map V.int:=by
    rw[show(p:Int)+1=((p+1:Nat):Int) by omega,show((p+1:Nat):Int)+(j:Int)=((p+1+j:Nat):Int) by omega,kI,List.map_take,List.map_drop];congr 1;omega
   have hcut':iA (t.map V.int) (some ((λi j:Int=>i+j) (p:Int) 1)) (some ((λi j:Int=>i+j) (p:Int) 1+(j:Int)))=((t.drop (p+1)).take j).map V.int:=hcut;rw[hcut'];have y:=e1.newF (o:= .lst (((t.drop (p+1)).take j).map V.int)) hq;have neLq:L≠q:=az hHL hq;refine⟨_,rfl,_,_,_,rfl,⟨q,rfl,aa⟩,?_,y.fh,λu F2 H2 e2 eu=> ?_⟩
   ·rw[List.length_take,List.length_drop];omega
   subst eu;have z:=y.trans e2;have hHL2:H2 L=some (.lst refs):=e2.hh _ _ (by rw[aj neLq];exact hHL);have fL2:F2 L=none:=e2.sp L (.lst refs) (by rw[aj neLq];exact hHL) (by rw[aj neLq];exact fL);refine⟨_,rfl,bY (λhb2=> ?_) (λhb2=> ?_)⟩
   ·refine k _ F2 H2 z ?_;rw[htx,if_neg]
    ·rfl
    ·rintro ⟨_,_,h3⟩
     rw[h3]at hb2;cases hb2
   ·have hby:fB ((t.drop (p+1)).take j)=true:=by simpa using hb2
    rw[if_pos ⟨by omega,by rw[List.length_drop];omega,hby⟩]at htx;refine⟨_,rfl,L,refs,rfl,hHL2,_,rfl,refs,hHL2,?_,?_⟩
    ·rw[aA hpr];omega
    refine⟨_,rfl,_,rfl,_,_,rfl,rfl,t.length-(p+1+j),by omega,F2,z.wr hL fL2,s1.trans ((aH.updn (aH.refl _) (e1.fh.free hq)).trans e2.ff),p+1+j,some (.int j),some (.ref q),refs++[.ref q],ts++[((t.drop (p+1)).take j).map λb=>b.toNat],?_,rfl,hj,aa,fL2,?_,?_,?_⟩
    ·rfl
    ·refine bh ⟨q,rfl,?_⟩ (Paired.mapP hpr λv d r=>r.mono ((aH.updn (aH.refl _) (e1.fh.free hq)).trans e2.ff));rw[mE hby];exact e2.ff _ _ aa
    ·rw[List.length_append,List.length_singleton];omega
    ·rw[htx,List.drop_drop];cases Vabldi.textsOf (t.drop (p+1+j))with
     |none=>rfl
     |some l=>simp
 ·have hge:p=t.length:=by simp at hge;omega
  refine⟨_,rfl,k _ _ _ (e1.frz hL hHL fL) ?_⟩;rw[htx,hge,List.drop_length,BP];show cW _ _ (ts++[]);rw[List.append_nil];exact⟨L,refs,rfl,aa,Paired.mapP hpr λv d r=>r.mono (aH.updn (aH.refl _) fL)⟩
end
theorem jJ:∀(k n:Nat),n<10 ^ (k+1)->Vabldi.decimalIn (k+1) n=TL.numL n
 |0,n,h=>by
  rw[Vabldi.decimalIn,if_pos (by omega),TL.numL_lt (by omega)]
 |k+1,n,h=>by
  rw[Vabldi.decimalIn];by_cases e:n<10
  ·rw[if_pos e,TL.numL_lt e]
  ·rw[if_neg e,TL.numL_step (by omega),jJ k (n / 10) (by rw[Nat.pow_succ]at h;omega)]
theorem mG{n:Nat}(h:n<10 ^ 30):Vabldi.decimal n=TL.numL n:=jJ 29 n h
theorem bF{n:Nat}(h:n<10 ^ 30):(Vabldi.decimal n).length<=30:=by
 rw[mG h];exact TL.numL_len (by decide) h
section
variable{P:Program}{w:World}{K:PySem.W.Frag}{mg:Str->Option Value}{base:Heap}{C:Cs}
abbrev xY:List Str:=["number"]
theorem vt:aC xY ["number"] (ao qj):=⟨rfl,rfl,rfl,by decide+kernel,rfl,by decide+kernel,by decide+kernel⟩
def vv:Sp:=λvs H Q _=>∃(F:Hp) (n:Nat),vs=[.int n]/\n<10 ^ 30/\aH F H/\Rt F H Q λF1 u=>dk F1 u (Vabldi.decimal n)
theorem vx{n:Nat}(h:n<10 ^ 30):n.log2<1920:=by
 by_cases e:n=0
 ·subst e;decide
 ·rw[Nat.log2_lt e];exact Nat.lt_trans h (by decide+kernel)
theorem eM(T:Tx K mg C):Ok P w K mg base "decimal" ["number"] 2 vv:=by
 refine T.d_decimal.ok vt (λvs H Q E h=>by obtain⟨_,_,e,_⟩:=h;rw[e];rfl) (λf cdv A outer s H vs Q E hr h=> ?_);obtain⟨F,n,rfl,hn,f0,k⟩:=h;refine⟨_,ah (aq (aB (bJ T) hr (ab (pY qY rfl T.b_str D3 (ab (pv 0) af)) af))),?_⟩;have e:(Str.ofString (toString ((n:Nat):Int))).cps.toList=TL.numL n:=TL.tl_num n;refine⟨_,rfl,(n:Int),rfl,vx hn,F,_,rfl,?_,f0,λu F1 H1 e1 hu=>k u F1 H1 e1 ?_⟩
 ·have :=TL.numL_len (n:=n) (k:=30) (by decide) hn;rw[<-e]at this;show(Str.ofString (toString ((n:Nat):Int))).cps.size<=1000000;rw[<-Array.length_toList];omega
 ·rw[mG hn,<-e];exact hu
end
theorem le:∀{a b:List Int},a.map V.int=b.map V.int->a=b
 |[],[],_=>rfl
 |[],_::_,h=>by simp at h
 |_::_,[],h=>by simp at h
 |x::r,y::t,h=>by
  simp only[List.map_cons,List.cons.injEq,V.int.injEq]at h;rw[h.1,le h.2]
section
variable{X:Cx}{pins:List (Addr×Obj)}{σ:St}{H:Hp}{s:Shared}
theorem xZ(I:aO X pins σ H s){A:Around}(hu:A.units+64<cLine){a b:Addr}{ns ms:List Int}(ha:H a=some (.tup (ns.map V.int)))(hb:H b=some (.tup (ms.map V.int))):SeqAt.EqAt A s (.ref a) (.ref b) (decide (ns=ms)):=by
 by_cases e:a=b
 ·subst e;rw[ha]at hb;have :ns=ms:=le (by injection hb with q;injection q);rw[decide_eq_true this];exact SeqAt.EqAt.same _
 ·obtain⟨as,r1⟩:=Dp.reads I _ (.ref a) (.ref a) (.tup (jN.of (K:=X.K) ha) (dq ns)) rfl;obtain⟨bs,r2⟩:=Dp.reads I _ (.ref b) (.ref b) (.tup (jN.of (K:=X.K) hb) (dq ms)) rfl;have :=SeqAt.rcAt_reads r1 r2 (SeqAt.canLay_of_shaped (eD ns)) (SeqAt.canLay_of_shaped (eD ms)) (SeqAt.room_of_shaped (A:=A) (eD ns) hu);rw[show PyData.eqv (.tuple (ns.map PyData.int)) (.tuple (ms.map PyData.int))=decide (ns=ms)from fZ ns ms]at this;exact SeqAt.EqAt.of_refs e this
def ZT(H:Hp)(v:V)(ns:List Int):Prop:=∃a,v= .ref a/\H a=some (.tup (ns.map V.int))
def FN(neg:Bool):R2:=λx y H Q=>∃(p:Addr) (xs:List V) (n:List Int) (ms:List (List Int)),y= .ref p/\H p=some (.lst xs)/\ZT H x n/\Paired (ZT H) xs ms/\Q (.bl (if neg then !decide (n∈ms)else decide (n∈ms))) H
def jK(H:Hp)(n:List Int)(u:Value):Bool:=match u with
 | .ref a=>(match H a with
  |some (.tup ys)=>decide (ys=n.map V.int)
  |_=>false)
 |_=>false
theorem tP{n m:List Int}{a:Addr}(h:H a=some (.tup (m.map V.int))):jK H n (.ref a)=decide (m=n):=by
 have e0:jK H n (.ref a)=(match H a with
  |some (.tup ys)=>decide (ys=n.map V.int)
  |_=>false):=rfl
 rw[e0,h];show decide (m.map V.int=n.map V.int)=decide (m=n);by_cases e:m=n
 ·subst e;simp
 ·rw[decide_eq_false e,decide_eq_false λq=>e (le q)]
theorem oE{n:List Int}:∀{xs:List V} {us:List Value} {ms:List (List Int)},aW xs us->Paired (ZT H) xs ms->us.any (jK H n)=decide (n∈ms)
 |_,_,_,.nil,.nil=>by simp
 |_,_,m::ms,.cons r t,.cons ⟨a,e,h⟩ q=>by
  subst e;obtain rfl:=(show _=Value.ref a from r);rw[List.any_cons,oE t q,tP h,Bool.eq_iff_iff,Bool.or_eq_true,decide_eq_true_eq,decide_eq_true_eq,decide_eq_true_eq,List.mem_cons];exact⟨λz=>z.imp Eq.symm id,λz=>z.imp Eq.symm id⟩
theorem oF(I:aO X pins σ H s){A:Around}(hu:A.units+64<cLine){b:Addr}{n:List Int}(hb:H b=some (.tup (n.map V.int))):∀{xs:List V} {us:List Value} {ms:List (List Int)},aW xs us->Paired (ZT H) xs ms->∀u∈us,SeqAt.EqAt A s u (.ref b) (jK H n u)
 |_,_,_,.nil,.nil=>λu hu=>by cases hu
 |_,_,m::ms,.cons r t,.cons ⟨a,e,h⟩ q=>λu hm=>by
  subst e;obtain rfl:=(show _=Value.ref a from r);rcases List.mem_cons.mp hm with rfl|hm
  ·rw[tP h];exact xZ I hu h hb
  ·exact oF I hu hb t q u hm
end
theorem D7{X:Cx}{k:Nat}(hr:Room k X.A):jS X (compareOp .In) (FN false):=by
 intro pins s σ H x y v u Q I rx ry h;obtain⟨p,xs,n,ms,rfl,hp,⟨b,rfl,hb⟩,hm,q⟩:=h;cases ry;cases rx;obtain⟨its,r,pl,hz⟩:=I.list (aZ.of (K:=X.K) hp);refine SeqAt.in_listAt (jK H n) pl.isList (λw hw=>oF I (by have :=hr.un;show X.A.units+1+64<_;omega) hb r hm w (by simpa using hw)) ⟨.bl _,H,I,rfl,?_⟩;rw[show its.toArray.any (jK H n)=its.any (jK H n) by simp,oE r hm];exact q
theorem ql{X:Cx}{k:Nat}(hr:Room k X.A):jS X (compareOp .NotIn) (FN true):=by
 intro pins s σ H x y v u Q I rx ry h;obtain⟨p,xs,n,ms,rfl,hp,⟨b,rfl,hb⟩,hm,q⟩:=h;cases ry;cases rx;obtain⟨its,r,pl,hz⟩:=I.list (aZ.of (K:=X.K) hp);refine SeqAt.notIn_listAt (jK H n) pl.isList (λw hw=>oF I (by have :=hr.un;show X.A.units+1+64<_;omega) hb r hm w (by simpa using hw)) ⟨.bl _,H,I,rfl,?_⟩;rw[show its.toArray.any (jK H n)=its.any (jK H n) by simp,oE r hm];exact q
def HR(P:Program)(w:World)(K:PySem.W.Frag)(mg:Str->Option Value)(base:Heap)(f:Addr)(k:Nat)(sp:Sp):Prop:=
 ∃fd ps,PySem.W.keepIn K (.ref f)=true/\d7 K fd ps []/\jv P w K mg base Bb k f fd ps sp
theorem Ok.at{P:Program}{w:World}{K:PySem.W.Frag}{mg:Str->Option Value}{base:Heap}{x:Str}{ps:List Str}{k:Nat}{sp:Sp}(O:Ok P w K mg base x ps k sp){f:Addr}(h:mg x=some (.ref f)):HR P w K mg base f k sp:=by
 obtain⟨f',fd,gl,kp,bi,G⟩:=O;rw[gl]at h;cases h;exact⟨fd,ps,kp,bi,G⟩
def D8(P:Program)(w:World)(K:PySem.W.Frag)(mg:Str->Option Value)(base:Heap)(j i:Nat)(t:TA):TE:=λσ H Q=>
 ∃f k sp,σ[i]? =some (some (.ref f))/\k<=j/\HR P w K mg base f k sp/\t σ H λvs H1=>sp vs H1 Q E0
theorem FO{X:Cx}{x:Str}{p pos:Pos}{e:Expr}{es:List Expr}{t:TA}{i j:Nat}(hr:Room j X.A)(hN:X.N[i]? =some x)(hv:Dl X.env.scope x)(ha:PA X (e::es) t)(hd:(x==("__debug__":Str))=false:=by decide)(hcd:(x==("__classdict__":Str))=false:=by decide)
  (he:starEach (e::es) X.env=(false,eval e X.env)::starEach es X.env:=by rfl)(hpl:(backTo pos (starEach es X.env)).any (·.1)=false:=by rfl):PE X (.Call (.Name x p) (e::es) [] pos) (D8 X.prog X.w X.K X.mg X.base j i t):=by
 intro pins s σ H Q I h;obtain⟨f,k,sp,hi,hk,⟨fd,ps,kp,bi,G⟩,h⟩:=h;refine wpAny_Call_Name_kw (bC (yQ hN hv hd hcd pins s σ H (λv H'=>v= .ref f/\H'=H) I ⟨_,hi,rfl,rfl⟩) λu s1 ⟨v,H',I1,r,e1,e2⟩=> ?_);subst e1 e2;obtain rfl:u=Value.ref f:=r;refine PySem.W.callWith_K (h₀:=X.base) I1.ok.mod.kin kp (bC (ha pos pins s1 σ _ _ I1 h) λus s2 ⟨vs,H1,I2,r2,q⟩=>⟨I2.kIn,?_⟩) he hpl;exact uU (dvs:=[]) (E:=E0) G (hr.mono hk) bi .nil sV I2 r2 (by rw[List.append_nil];exact q)
theorem qm{κ β:Type}[DecidableEq κ]{k:κ}{p:β}:∀{xs:List (κ×β)} {j:Nat},(xs.map (·.1)).Nodup->xs[j]? =some (k,p)->xs.eraseIdx j=xs.filter λx=>decide (x.1≠k)
 |[],j,_,h=>by simp at h
 |x::r,0,hn,h=>by
  have e:x=(k,p):=Option.some.inj h;subst e;rw[List.map_cons,List.nodup_cons]at hn;rw[List.filter_cons,if_neg (by simp)];show r=_;symm;rw[List.filter_eq_self];intro y hy;refine decide_eq_true λq=>hn.1 ?_
  rw[<-q];exact List.mem_map.mpr ⟨y,hy,rfl⟩
 |x::r,j+1,hn,h=>by
  have h':r[j]? =some (k,p):=h;rw[List.map_cons,List.nodup_cons]at hn;have hne:x.1≠k:=λq=>hn.1 (q▸List.mem_map.mpr ⟨(k,p),List.mem_of_getElem? h',rfl⟩)
  rw[List.filter_cons,if_pos (decide_eq_true hne)];show x::r.eraseIdx j=_;rw[qm hn.2 h']
theorem qo{α β:Type}(f:α->β):∀(l:List α) (i:Nat),(l.map f).eraseIdx i=(l.eraseIdx i).map f
 |[],_=>rfl
 |_::_,0=>rfl
 |a::l,i+1=>by
  show f a::(l.map f).eraseIdx i=f a::(l.eraseIdx i).map f;rw[qo f l i]
section
variable{prog:Program}{w:World}{κ:Type}[DecidableEq κ]{knd:HeapKind prog w κ}{A:Around}{E:Value->Shared->Prop}{s:Shared}
theorem rS{d a:Addr}{xs:List (κ×Addr×Value)}{k:κ}{p:Addr×Value}{Q:Option DictEntry->Shared->Prop}(hu:knd.room A)(hkey:knd.is s.heap k a)(hm:s.heap.DictOfH knd d xs)(hp:atKey xs k=some p)(hsz:xs.length<=sizeLine)
  (hQ:∀h' e,e.val=p.2->h'.DictOfH knd d (xs.filter λx=>decide (x.1≠k))->Heap.SameBut d s.heap h'->Q (some e) {s with heap:=h',toks:=s.toks+knd.draws k}):
  wpAny (model prog w) A (Builtin.Dict.takeOut d (.ref a)) Q E s:=by
 obtain⟨o,es,ep,ho,hc,hd,he,his,hn⟩:=hm;unfold Builtin.Dict.takeOut;try with_reducible refine wpAny_holding ?_
 refine wpAny_bind (knd.pyHash hu hkey (wpAny_bind (wpAny_dictFind_heap (s:={s with toks:=s.toks+knd.draws k}) hu hkey ho hd he his hn ?_ ?_)))
 ·intro hno;rw[atKey_none_of_get hno]at hp;cases hp
 ·intro j p' hj;rw[atKey_of_get hn hj]at hp;cases hp;refine wpAny_bind (wpAny_dictEntries (s:={s with toks:=s.toks+knd.draws k}) ho hd ?_);rw[entry_at he j,hj]
  have hjl:j<es.size:=by
   rw[size_of_entries he];exact(List.getElem?_eq_some_iff.mp hj).1
  refine wpAny_bind (wpAny_updateDictKeys (hz:=by have e:=size_of_entries he;omega) (s:={s with toks:=s.toks+knd.draws k}) ho hd (wpAny_pure (hQ _ _ rfl ⟨_,_,ep+1,Heap.get?_update_self _ ho (Obj.isFreed_of_dict (Obj.data_mapDictKeys hd _)),
   hc.mapDictKeys _,Obj.data_mapDictKeys hd _,?_,?_,?_⟩ (Heap.SameBut.update ..))))
  ·rw[Array.toList_eraseIdxIfInBounds,he,<-qm hn hj,qo]
  ·intro x hx;exact knd.keeps (his x (List.mem_filter.mp hx).1) ho hd (Heap.SameBut.update ..)
  ·exact hn.sublist ((List.filter_sublist).map _)
theorem zL{d a:Addr}:MeetsIn prog w (Builtin.«dict.pop» ⟨[.ref d,.ref a],[]⟩) (λA R s=>knd.room A.in1/\∃k xs p,knd.is s.heap k a/\s.heap.DictOfH knd d xs/\xs.length<=sizeLine/\atKey xs k=some p/\
   ∀h',h'.DictOfH knd d (xs.filter λx=>decide (x.1≠k))->Heap.SameBut d s.heap h'->R (.ok (.ret p.2)) {s with heap:=h',toks:=s.toks+knd.draws k}):=
 .of_wp λA R s ⟨hu,k,xs,p,hkey,hm,hsz,hp,h⟩=>by
  unfold Builtin.«dict.pop»;refine wpAny_bind ?_;unfold Builtin.Dict.keyAndDefault;refine wpAny_bind (wpAny_notOrdered_dict hm.typeIs ?_);show wpAny _ _ (pure (d,Value.ref a,none)) _ _ s;refine wpAny_pure ?_;have hk0:(keyPart (Value.ref a)).isSome=false:=rfl;simp only[hk0,Bool.false_eq_true,if_false];have hm0:=hm;obtain⟨o,es,ep,ho,hc,hd,he,his,hn⟩:=hm0
  have hne:es.isEmpty=false:=by
   have e:=size_of_entries he;cases xs with
   |nil=>simp[atKey]at hp
   |cons x r=>
    rw[Array.isEmpty];rw[e];rfl
  refine wpAny_bind (wpAny_dictEntries ho hd ?_);refine wpAny_bind (wpAny_pure ?_);rw[hne];simp only[Bool.false_eq_true,if_false];refine wpAny_bind (rS hu hkey hm hp hsz λh' e ev hm' hs'=> ?_);simp only[Option.isNone_some,Bool.false_eq_true,if_false];exact wpAny_bind (wpAny_letGo (wpAny_pure ⟨e.val,rfl,by rw[ev];exact h h' hm' hs'⟩))
theorem zM{d:Addr}(hd:(d==sysModules)=false):
  MeetsIn prog w (Builtin.«dict.__len__» ⟨[.ref d],[]⟩) (λ_ R s=>∃xs,s.heap.DictOfH knd d xs/\R (.ok (.ret (.int xs.length s.toks))) {s with toks:=s.toks+1}):=
 .of_wp λA R s ⟨xs,hm,h⟩=>by
  obtain⟨o,es,ep,ho,hc,hdat,he,his,hn⟩:=hm;show wpAny _ _ (dictSize d>>= _) _ _ s;unfold dictSize;refine wpAny_bind (wpAny_bind (wpAny_dictEntries ho hdat (wpAny_pure ?_)));show wpAny _ _ (Builtin.Dict.pendingCount d>>= _) _ _ s;refine wpAny_bind (wpAny_pendingCount_other hd ?_);refine wpAny_ret_mkInt ?_;rw[Nat.add_zero,size_of_entries he];exact h
theorem pI{d:Addr}{xs:List (κ×Addr×Value)}{Q:Value->Shared->Prop}(hd:(d==sysModules)=false)(hm:s.heap.DictOfH knd d xs)(hfit:(xs.length:Int)<2 ^ 63)
  (h:Q (.int xs.length (s.toks+1)) {s with toks:=s.toks+1+1}):wpAny (model prog w) A (call (.builtin "len") [.ref d]) Q E s:=by
 refine Calls.call_function_entry kind_len plain_len entry_len (args_len1 _) ?_;unfold Builtin.«len»;refine wpAny_bind (m:=oneArg "len" _) (wpAny_pure ?_)
 refine wpAny_bind (m:=callSpecial? (.ref d) (Str.ofString "__len__")) (wpAny_callSpecial?_slot (name:=Str.ofString "__len__") hm.typeIs F.slot_dict_len
  (call_meetsIn F.slot_dict_len hm.typeIs F.entry_dict_len (F.args_dict_len_1 _) (zM hd) ⟨xs,hm,?_⟩))
 show wpAny _ _ _ _ _ {s with toks:=s.toks+1};refine wpAny_bind (wpAny_holding (wpAny_pure ?_));refine wpAny_bind (wpAny_letGo ?_);show wpAny _ _ (if((xs.length:Nat):Int)<0 then _ else _) _ _ _;rw[if_neg (by omega)];show wpAny _ _ (if((xs.length:Nat):Int)>=2 ^ 63 then _ else _) _ _ _;rw[if_neg (by omega)];exact wpAny_bind (wpAny_mkInt (wpAny_pure ⟨_,rfl,h⟩))
end
theorem BQ{H:Hp}{kvs:List (List bG×V)}{xs:List (List bG×Addr×Value)}(r:KT H kvs xs)(k:List bG):KT H (kD kvs k) (xs.filter λx=>decide (x.1≠k)):=by
 unfold kD;induction r with
 |nil=>exact .nil
 | @cons p q ps qs h t ih=>
  obtain⟨h1,h2,h3⟩:=h;rw[List.filter_cons,List.filter_cons];by_cases e:p.1=k
  ·have a:¬decide (p.1≠k)=true:=by simp[e]
   have b:¬decide (q.1≠k)=true:=by simp[h1.symm.trans e]
   rw[if_neg a,if_neg b];exact ih
  ·have e':¬q.1=k:=λz=>e (h1.trans z)
   have a:decide (p.1≠k)=true:=by simp[e]
   have b:decide (q.1≠k)=true:=by simp[e']
   rw[if_pos a,if_pos b];exact .cons ⟨h1,h2,h3⟩ ih
section
variable{X:Cx}{o e:Expr}{apos cpos pos:Pos}{td ty te:TE}
def D9(td ty:TE):TE:=λσ H Q=>td σ H λx H1=>∃a,x= .ref a/\HD H1 a/\ty σ H1 λy H2=>∃kvs k b v,H2 a=some (.dT kvs)/\y= .ref b/\H2 b=some (.tup (k.map kV))/\cB kvs k=some v/\Q v (aJ H2 a (.dT (kD kvs k)))
theorem zN(hu:X.A.units+1<cLine)(ho:PE X o td)(he:PE X e ty)(m:M1 X o "pop" apos e cpos):PE X (.Call (.Attribute o "pop" apos) [e] [] cpos) (D9 td ty):=by
 intro pins s σ H Q I h;refine wpAny_Call_method m.base m.few m.line PySem.F.plainAttrs_dict PySem.F.slot_dict_pop PySem.F.type_dict_pop (bC (ho pins s σ H _ I h) λu s1 ⟨x,H1,I1,rx,a,ex,d,q1⟩=> ?_);subst ex;obtain rfl:u=Value.ref a:=rx;obtain⟨t1,t2,_⟩:=zt I1 d;refine⟨t1,t2,?_⟩;rw[m.trees];refine Calls.callWith_builtin rfl (Calls.evalArgs_plain (Calls.spliced_cons (bC (he pins s1 σ H1 _ I1 q1) λiv s2 ⟨y,H2,I2,ry,kvs,k,b,v,ea,ey,eb,l,q2⟩=>Calls.spliced_nil ?_)));subst ey;obtain rfl:iv=Value.ref b:=ry;obtain⟨z,hd,xs,rel,dd⟩:=wF I2.hok ea;obtain⟨w',hw,rw'⟩:=gD.some_of (v:=v) (o:=(atKey xs k).map (·.2)) (by rw[<-l];exact KT.val rel k)
 obtain⟨p,hp,rfl⟩:∃p,atKey xs k=some p/\p.2=w':=by
  cases q:atKey xs k with
  |none=>rw[q]at hw;cases hw
  |some p=>rw[q]at hw;exact⟨p,rfl,Option.some.inj hw⟩
 refine call_meetsIn PySem.F.slot_dict_pop dd.typeIs PySem.F.entry_dict_pop (PySem.F.args_dict_pop_2 _ _) (zL (knd:=tupleKind (bz X.prog X.w)))
  ⟨tupleKind_room_in1 hu,k,xs,p,iI I2.hok eb,dd,by rw[<-Paired.length rel];exact z,hp,λh' dd' hs=> ?_⟩
 obtain⟨q,es,ep,hq,h2,h3,h4,_,h5⟩:=dd';refine⟨v,_,rE (ob:= .dT (kD kvs k)) I2 (by rw[ea];exact True.intro) hs ⟨q,hq⟩ ⟨Nat.le_trans (zq kvs k) z,hd,_,(BQ rel k).keeps λc ys ec=> ?_,q,es,ep,hq,h2,h3,h4,h5⟩,rw',q2⟩;rw[aj (CS ec ea (λz=>nomatch z))];exact ec
def C6:V->Hp->VK->Prop:=λx H Q=>∃a kvs,x= .ref a/\H a=some (.dT kvs)/\Q (.int kvs.length) H
theorem BR:dB X (.builtin "len") (λxs H Q=>∃x,xs=[x]/\C6 x H Q):=by
 intro pins s σ H xs us Q I r h;obtain⟨x,rfl,a,kvs,rfl,ha,q⟩:=h;obtain⟨u,rfl,ru⟩:=iz r;cases ru;obtain⟨z,hd,xs,rel,dd⟩:=wF I.hok ha;refine pI hd dd (by rw[<-Paired.length rel];rw[sizeLine_eq]at z;omega) ⟨.int kvs.length,H,I.tok _,⟨_,by rw[Paired.length rel]⟩,q⟩
theorem ni{p}(hm:X.mg "len"=none)(he:PE X e te)(hg:Gl X "len":=by rfl)(hs:starEach [e] X.env=(false,eval e X.env)::starEach [] X.env:=by rfl)(hpl:(backTo pos (starEach [] X.env)).any (·.1)=false:=by rfl):
  PE X (.Call (.Name "len" p) [e] [] pos) (uJ C6 te):=iK BR (λv H Q h=>⟨v,rfl,h⟩) hm PySem.boot_len he hg (by decide) (by decide) hs hpl
end
end Cr
namespace Cr
open PySem PySem.Sem
def HS(M:Model)(Γ:Ctx)(p:Pos)(t:Sem Fin)(fs:List Frame)(s:Shared)(e:End)(s':Shared):Prop:=match fs with
 |[]=>match t with
  | .pure (.done f)=> .ret (.ok f)=e/\s=s'
  | .raise x=> .ret (.error x)=e/\s=s'
  | .pure (.again c)=>Runs M (Γ.goto c) p (M.den c) [] s e s'
  | .rule _ k=>Runs M Γ p (k ()) [] s e s'
  | .at p' k=>Runs M Γ p' (k ()) [] s e s'
  | .load a _ k=>∃o,s.heap.get? a=some o/\Runs M Γ p (k o) [] s e s'
  | .update a _ f k=>Runs M Γ p (k ()) [] {s with heap:=s.heap.update a f} e s'
  | .loadIfAlive a k=>Runs M Γ p (k (s.heap.get? a)) [] s e s'
  | .point _ k=>Runs M Γ p (k ()) [] s e s'
  | .alloc o k=>Runs M Γ p (k s.heap.objs.size) [] {s with heap:=s.heap.push o} e s'
  | .fresh k=>Runs M Γ p (k s.toks) [] {s with toks:=s.toks+1} e s'
  | .ask k=>Runs M Γ p (k ⟨M.prog,M.w.params⟩) [] s e s'
  | .choose src n k=>Runs M Γ p (k (M.w.draws src (s.drawn.get src) % n)) [] {s with drawn:=s.drawn.bump src} e s'
  | .os q _ k=>Runs M Γ p (k (Os.step s.os q).2) [] {s with os:=(Os.step s.os q).1} e s'
  | .handled own k=>Runs M Γ p (k (if own then Γ.own else Γ.handled)) [] s e s'
  | .genState g k=>∃st,s.gens[g]? =some st/\Runs M Γ p (k st.seen) [] s e s'
  | .stack k=>Runs M Γ p (k ((Γ.code,p)::Γ.below)) [] s e s'
  | .thread k=>Runs M Γ p (k 0) [] s e s'
  | .newGen c k=>Runs M Γ p (k s.gens.size) [] {s with gens:=s.gens.push (.fresh c)} e s'
  | .call c h g l k=>∃e1 s1,Runs M (Γ.enter c h p) p (M.den c) [] s e1 s1/\match e1 with
   | .ret r=>Runs M Γ p (k r) [] s1 e s'
   | .susp v g₀ l₀ k₀ c₀ p₀ f=> .susp v g₀ l₀ k₀ c₀ p₀ (f++[.ret k h g l Γ.code p []])=e/\s1=s'
  | .yield v g l k=> .susp v g l k Γ.code p []=e/\s=s'
  |_=>True
 |F::fs=>∃e1 s1,Runs M (Γ.over (F::fs)) p t [] s e1 s1/\match e1 with
  | .ret r=>(match F with
   | .ret k _ _ _ c₁ p₁ _=>Runs M (Γ.goto c₁) p₁ (k r) fs s1 e s'
   | .gen g k _ c₁ p₁=>Runs M (Γ.goto c₁) p₁ (k (End.ret r).result) fs (s1.setGen g .finished) e s')
  | .susp v g₀ l₀ k₀ c₀ p₀ f=>match splitAtGen (F::fs)with
   |none=> .susp v g₀ l₀ k₀ c₀ p₀ (f++F::fs)=e/\s1=s'
   |some (pre,(g,k,c₁,p₁),br)=>Runs M (Γ.goto c₁) p₁ (k (.yielded v)) br (s1.setGen g (End.susp v g₀ l₀ k₀ c₀ p₀ (f++pre)).genState) e s'
theorem dM{M:Model}{Γ:Ctx}{p:Pos}{t:Sem Fin}{fs:List Frame}{s s':Shared}{e:End}(h:Runs M Γ p t fs s e s'):HS M Γ p t fs s e s':=by
 cases h with
 |done|raise|yield=>exact⟨rfl,rfl⟩
 |load q h|genState q h=>exact⟨_,q,h⟩
 |call h1 h3|segRet h1 h3|segGen h1 h3=>exact⟨_,_,h1,h3⟩
 |callSusp h1=>exact⟨_,_,h1,rfl,rfl⟩
 |segSuspOut q h1=>exact⟨_,_,h1,by rw[q];exact⟨rfl,rfl⟩⟩
 |segSuspGen q h1 _ h3=>exact⟨_,_,h1,by rw[q];exact h3⟩
 |resumeFresh|resumeSuspended|resumeJustStarted|resumeThrowFresh|resumeRunning|resumeFinished=>trivial
 |_=>assumption
theorem zO{M:Model}{Γ:Ctx}{p:Pos}{t:Sem Fin}{fs:List Frame}{s s':Shared}{e:End}(h:Runs M Γ p t fs s e s'):∀{e2:End} {s2:Shared},Runs M Γ p t fs s e2 s2->e=e2/\s'=s2:=by
 induction h with
 |done|raise|yield=>intro _ _ h2;exact dM h2
 |load q h ih|genState q h ih=>intro _ _ h2;obtain⟨_,q2,h3⟩:=dM h2;rw[q]at q2;cases q2;exact ih h3
 |call h1 h3 ih1 ih3|segRet h1 h3 ih1 ih3|segGen h1 h3 ih1 ih3=>intro _ _ h2;obtain⟨_,_,g1,g3⟩:=dM h2;obtain⟨rfl,rfl⟩:=ih1 g1;exact ih3 g3
 |callSusp h1 ih1=>intro _ _ h2;obtain⟨_,_,g1,g3⟩:=dM h2;obtain⟨rfl,rfl⟩:=ih1 g1;exact g3
 |segSuspOut q h1 ih1=>intro _ _ h2;obtain⟨_,_,g1,g3⟩:=dM h2;obtain⟨rfl,rfl⟩:=ih1 g1;dsimp only at g3;rw[q]at g3;exact g3
 |segSuspGen q h1 _ h3 ih1 ih3=>intro _ _ h2;obtain⟨_,_,g1,g3⟩:=dM h2;obtain⟨rfl,rfl⟩:=ih1 g1;dsimp only at g3;rw[q]at g3;exact ih3 g3
 |resumeFresh q h1 _ h3 ih1 ih3|resumeSuspended q h1 _ h3 ih1 ih3=>
  intro _ _ h2;obtain⟨_,_,hw,h4⟩:=(runs_resume_iff ..).1 h2;unfold Wakes at hw;rw[q]at hw;obtain⟨_,_,g1,_,rfl,rfl⟩:=hw;obtain⟨rfl,rfl⟩:=ih1 g1;exact ih3 h4
 |resumeJustStarted q hv h ih=>
  intro _ _ h2;obtain⟨_,_,hw,h4⟩:=(runs_resume_iff ..).1 h2;unfold Wakes at hw;rw[q]at hw;dsimp only at hw;split at hw
  ·next e=>cases e;exact absurd rfl hv
  ·obtain⟨rfl,rfl⟩:=hw;exact ih h4
  ·next e=>cases e
 |resumeThrowFresh q h ih|resumeRunning q h ih|resumeFinished q h ih=>
  intro _ _ h2;obtain⟨_,_,hw,h4⟩:=(runs_resume_iff ..).1 h2;unfold Wakes at hw;rw[q]at hw;obtain⟨rfl,rfl⟩:=hw;exact ih h4
 |again _ _ ih|update _ _ ih|choose _ _ ih=>intro _ _ h2;exact ih (dM h2)
 |_ _ ih=>intro _ _ h2;exact ih (dM h2)
end Cr
namespace Cr
open PySem PyProof.Rows
theorem zP{prog:Program}{w:World}{A:Around}{Γ:Ctx}(hΓ:Γ.In A){f v0:Value}{args:List Value}{s:Shared}(h0:wpAny (model prog w) A (call f args) (λv s'=>v=v0/\s'=s) (λ_ _=>False) s)
  {Q:Value->Pos->Shared->Prop}{E:Value->Pos->Shared->Prop}{p:Pos}(h:Sem.wp (model prog w) Γ (call f args) Q E p s):Q v0 p s:=by
 have h1:=h0 Γ p hΓ;unfold call runValue at h h1;rw[Sem.wp_bind']at h h1;unfold run at h h1;rw[Sem.wp_call]at h h1;obtain⟨r,s1,hr,hw⟩:=h;obtain⟨r0,s0,hr0,hw0⟩:=h1;obtain⟨e1,e2⟩:=zO hr hr0;cases e1;cases e2;cases r with
 |error e=>
  simp only[Sem.wp_raise]at hw0
 |ok fl=>
  simp only[Sem.wp_pure]at hw hw0;cases fl with
  |ret v=>
   simp only[Sem.wp_pure']at hw hw0;obtain⟨e3,e4⟩:=hw0;subst e3 e4;exact hw
  |_=>exact(show False from hw0).elim
theorem vz{prog:Program}{w:World}{A:Around}{Γ:Ctx}(hΓ:Γ.In A){a b:Int}{t u:Tok}{s:Shared}{Q:Bool->Pos->Shared->Prop}{E:Value->Pos->Shared->Prop}{p:Pos}
  (h:Sem.wp (model prog w) Γ (keyLt' oneType' (.int a t) (.int b u)) Q E p s):Q (decide (a<b)) p s:=by
 rw[keyLt'_oneType,oneLt'_eq]at h;simp only[if_true]at h;simp only[callSpecialIfBound?,bindSpecialIfBound?,Sem.wp_bind',Sem.wp_holding]at h;rw[show cRoomFor "comparison" [Value.int a t,Value.int b u]=pure ()from rfl,Sem.wp_pure']at h;unfold specialOf at h;rw[Sem.wp_bind',show typeOf (Value.int a t)=pure (.type "int")from rfl,Sem.wp_pure',show typeLookup (Value.type "int") (Str.ofString "__lt__")=pure (some (.builtin "int.__lt__"))from slot_int_lt.lookup,Sem.wp_pure']at h;have hb:bindSpecial (Value.builtin "int.__lt__") (Value.int a t)=pure (Value.builtin "int.__lt__",[Value.int a t]):=slot_int_lt.bind _;simp only[hb,Sem.wp_bind',Sem.wp_pure',pure_bind]at h;unfold ask at h;simp only[Sem.wp_ask,Sem.wp_pure]at h
 have e1:∀c:Bool,(if c=true then(pure (some (Value.builtin "int.__lt__",[Value.int a t])):Sem _)else(pure (some (Value.builtin "int.__lt__",[Value.int a t])):Sem _).tryCatch λx=>do
      rule "special.get-raises-dropped"
      pure none)=pure (some (Value.builtin "int.__lt__",[Value.int a t])):=λc=>by cases c<;>rfl
 rw[e1,Sem.wp_pure']at h;simp only[Sem.wp_bind',Sem.wp_pure']at h;have h2:=zP hΓ (call_int_lt ⟨rfl,rfl⟩) h;exact h2
end Cr
namespace PySem.CrLt
open PySem PyProof.Rows PySem.SeqAt PySem.MeetsSeq PySem.MeetsSeq2 PySem.MeetsSeq3
open PySem.AutoSeq1 (wpAny_loadPart')
theorem ints_at:∀{l:List Value} {ns:List Int},IntsAre l ns->∀i:Nat,(l[i]? =none/\ns.drop i=[])\/∃a t,l[i]? =some (.int a t)/\ns.drop i=a::ns.drop (i+1)
 |_,_,.nil,i=> .inl ⟨by simp,by simp⟩
 |_,_,.cons a t r,0=> .inr ⟨a,t,rfl,rfl⟩
 |_,_,.cons a t r,i+1=>by
  rcases ints_at r i with⟨h1,h2⟩|⟨b,u,h1,h2⟩
  ·exact .inl ⟨by simpa using h1,by simpa using h2⟩
  ·exact .inr ⟨b,u,by simpa using h1,by simpa using h2⟩
theorem lt_step(l b:Addr)(xs ys:Array Value)(n m:Nat)(ns ms:List Int)(hi:IntsAre xs.toList ns)(hj:IntsAre ys.toList ms):
  ∀k i:Nat,xs.size-i=k->i<=xs.size->i<=ys.size->Meets (Builtin.«list.__eq__.loop» ⟨[.ref l,.ref b,rawInt i,rawInt 0],[]⟩)
   (λ_ R z=>z.heap.get? l=some {cls:= .type "list",data:= .seq xs n}/\z.heap.get? b=some {cls:= .type "list",data:= .seq ys m}/\R (.ok (.ret (.bool (HT.lexLt (ns.drop i) (ms.drop i))))) z):=by
 intro k;induction k with
 |zero=>
  intro i hk b1 b2 prog w A R z hz;obtain⟨q1,q2,q3,q4,q5⟩:=z;obtain⟨ol,ob,hR⟩:=hz;have tn:((i:Nat):Int).toNat=i:=by omega
  have s1:xs.size=ns.length:=by rw[<-hi.length];simp
  have s2:ys.size=ms.length:=by rw[<-hj.length];simp
  have gx:xs[i]? =none:=by simp;omega
  have dx:ns.drop i=[]:=by rw[List.drop_eq_nil_iff];omega
  wp_walk using wpAny_loadPart' ol,wpAny_loadPart' ob
  rw[tn,gx];rw[dx]at hR
  have fin:HT.lexLt [] (ms.drop i)=decide (xs.size<ys.size):=by
   cases e:ms.drop i with
   |nil=>
    rw[List.drop_eq_nil_iff]at e;exact(decide_eq_false (by omega)).symm
   |cons c r=>
    have :(ms.drop i).length=(c::r).length:=by rw[e]
    rw[List.length_drop,List.length_cons]at this;exact(decide_eq_true (by omega)).symm
  rw[fin]at hR;cases ys[i]? <;>(wp_walk using wpAny_loadPart' ol,wpAny_loadPart' ob;exact hR)
 |succ k ih=>
  intro i hk b1 b2 prog w A R z hz;obtain⟨q1,q2,q3,q4,q5⟩:=z;obtain⟨ol,ob,hR⟩:=hz;have tn:((i:Nat):Int).toNat=i:=by omega
  have up:((i:Int)+1)=((i+1:Nat):Int):=by omega
  have s1:xs.size=ns.length:=by rw[<-hi.length];simp
  have s2:ys.size=ms.length:=by rw[<-hj.length];simp
  have gx:xs[i]? =xs.toList[i]? :=by simp
  have gy:ys[i]? =ys.toList[i]? :=by simp
  wp_walk using wpAny_loadPart' ol,wpAny_loadPart' ob
  rw[tn,gx,gy];rcases ints_at hi i with⟨h1,h2⟩|⟨a,t,h1,h2⟩
  ·rw[List.drop_eq_nil_iff]at h2;omega
  ·rcases ints_at hj i with⟨h3,h4⟩|⟨c,u,h3,h4⟩
   ·rw[h1,h3];rw[h2,h4]at hR;rw[List.drop_eq_nil_iff]at h4;have fin:HT.lexLt (a::ns.drop (i+1)) []=decide (xs.size<ys.size):=(decide_eq_false (by omega)).symm;rw[fin]at hR;wp_walk using wpAny_loadPart' ol,wpAny_loadPart' ob
    exact hR
   ·rw[h1,h3];rw[h2,h4,HT.lexLt_cons]at hR
    have l1:i<ys.size:=by
     have :(ms.drop i).length=(c::ms.drop (i+1)).length:=by rw[h4]
     rw[List.length_drop,List.length_cons]at this;omega
    obtain⟨e,he,hiff⟩:=HT.eqAt_int A.in1 ⟨q1,q2,q3,q4,q5⟩ a t c u;refine wpAny_bind (he prog w _ _ ?_);cases e with
    |true=>
     rw[if_pos (hiff.mp rfl)]at hR;wp_walk;rw[up];refine⟨plainId_quiet plain_eq_loop _,codeAny_builtin entry_eq_loop ?_⟩;rw[Around.under_plainId plain_eq_loop _];exact ih (i+1) (by omega) (by omega) (by omega) prog w A R _ ⟨ol,ob,hR⟩
    |false=>
     rw[if_neg λq=>absurd (hiff.mpr q) Bool.false_ne_true]at hR;have rc:=HT.rcLt_int A.in1 ⟨q1,q2,q3,q4,q5⟩ a t c u prog w;wp_walk using wpAny_loadPart' ol,wpAny_loadPart' ob
     rw[gx,gy,h1,h3];wp_walk using rc
     exact hR
end PySem.CrLt
namespace PySem.CrLt
open PySem PyProof.Rows PySem.SeqAt PySem.MeetsSeq PySem.MeetsSeq2 PySem.MeetsSeq3
open PySem.AutoSeq1 (wpAny_loadPart')
theorem lt_lists(l b:Addr)(xs ys:Array Value)(n m:Nat)(ns ms:List Int)(hi:IntsAre xs.toList ns)(hj:IntsAre ys.toList ms):Meets (Builtin.«list.__lt__» ⟨[.ref l,.ref b],[]⟩)
   (λ_ R z=>z.heap.get? l=some {cls:= .type "list",data:= .seq xs n}/\z.heap.get? b=some {cls:= .type "list",data:= .seq ys m}/\R (.ok (.ret (.bool (HT.lexLt ns ms)))) z):=by
 intro prog w A R z hz;obtain⟨q1,q2,q3,q4,q5⟩:=z;obtain⟨ol,ob,hR⟩:=hz;have f3:=AutoSeq1.sub_list_list;wp_walk using wpAny_loadPart' ol,wpAny_loadPart' ob
 refine⟨plainId_quiet plain_eq_loop _,codeAny_builtin entry_eq_loop ?_⟩;rw[Around.under_plainId plain_eq_loop _];exact lt_step l b xs ys n m ns ms hi hj _ 0 rfl (Nat.zero_le _) (Nat.zero_le _) prog w A R _ ⟨ol,ob,hR⟩
end PySem.CrLt
namespace PySem.CrLt
open PySem PyProof.Rows PySem.SeqAt PySem.MeetsSeq PySem.MeetsSeq2 PySem.MeetsSeq3
theorem oneLt_lists{prog:Program}{w:World}{A:Around}{E:Value->Shared->Prop}{s:Shared}{l b:Addr}{xs ys:Array Value}{n m:Nat}{ns ms:List Int}{Q:Bool->Shared->Prop}(hu:A.units<cLine)
  (ol:s.heap.get? l=some {cls:= .type "list",data:= .seq xs n})(ob:s.heap.get? b=some {cls:= .type "list",data:= .seq ys m})(hi:IntsAre xs.toList ns)(hj:IntsAre ys.toList ms)(h:Q (HT.lexLt ns ms) s):
  wpAny (model prog w) A (keyLt' oneType' (.ref l) (.ref b)) Q E s:=by
 rw[keyLt'_oneType,oneLt'_eq];simp only[if_true];refine wpAny_bind (wpAny_cRoomFor hu ?_);refine wpAny_bind (wpAny_callSpecialIfBound?_slot (T:="list") (id:="list.__lt__") ⟨_,ol,rfl⟩ F.slot_list_lt (call_meets F.slot_list_lt ⟨_,ol,rfl⟩ F.entry_list_lt (F.args_list_lt_2 _ _) (lt_lists l b xs ys n m ns ms hi hj) ⟨ol,ob,?_⟩));exact wpAny_truthy_bool h
end PySem.CrLt
namespace Cr
open PySem PyProof.Rows
structure Sc where
 prog:Program
 w:World
 A:Around
 E1:Value->Shared->Prop
 s1:Shared
 G:Ctx
 E2:Value->Pos->Shared->Prop
 p:Pos
 s2:Shared
 e1:Nat->Keyed
 e2:Nat->Keyed
 c:Nat->Nat->Bool
 fwd:∀(i j:Nat) (Q:Bool->Shared->Prop) (E:Value->Shared->Prop),Q (c i j) s1->wpAny (model prog w) A (keyLt' oneType' (e1 i).1 (e1 j).1) Q E s1
 inv:∀(i j:Nat) (Q:Bool->Pos->Shared->Prop) (E:Value->Pos->Shared->Prop),Sem.wp (model prog w) G (keyLt' oneType' (e2 i).1 (e2 j).1) Q E p s2->Q (c i j) p s2
structure HU where
 arr:Array Nat
 pend:Array (Nat×Nat×Nat)
 gal:Nat
 fl:Option Value
def dA(e:Nat->Keyed)(t:HU):SortSt:=SortSt.mk' oneType' (t.arr.map e) t.pend t.gal t.fl
class Rl (X:Sc) (α:Type) where
 r:α->α->Prop
section
variable{X:Sc}
instance:Rl X Nat:=⟨Eq⟩
instance:Rl X Bool:=⟨Eq⟩
instance:Rl X Unit:=⟨Eq⟩
instance:Rl X PUnit:=⟨Eq⟩
instance:Rl X Keyed:=⟨λa b=>∃i,a=X.e1 i/\b=X.e2 i⟩
instance:Rl X (Array Keyed):=⟨λa b=>∃t:Array Nat,a=t.map X.e1/\b=t.map X.e2⟩
instance:Rl X SortSt:=⟨λa b=>∃t:HU,a=dA X.e1 t/\b=dA X.e2 t⟩
instance{α:Type}[Rl X α]:Rl X (Option α):=⟨λa b=>match a,b with
 |none,none=>True
 |some x,some y=>Rl.r X x y
 |_,_=>False⟩
instance{α β:Type}[Rl X α][Rl X β]:Rl X (α×β):=⟨λa b=>Rl.r X a.1 b.1/\Rl.r X a.2 b.2⟩
instance{α:Type}[Rl X α]:Rl X (ForInStep α):=⟨λa b=>match a,b with
 | .done x,.done y=>Rl.r X x y
 | .yield x,.yield y=>Rl.r X x y
 |_,_=>False⟩
end
def fC(X:Sc){α:Type}[Rl X α](m1 m2:StateT SortSt Sem α):Prop:=
 ∀(t:HU) (Q:α->SortSt->Pos->Shared->Prop),Sem.wp (model X.prog X.w) X.G (m2.run (dA X.e2 t)) (λr p' s'=>Q r.1 r.2 p' s') X.E2 X.p X.s2->
  wpS (model X.prog X.w) X.A X.E1 X.s1 m1 (λa st=>∃b u,Rl.r X a b/\st=dA X.e1 u/\Q b (dA X.e2 u) X.p X.s2) (dA X.e1 t)
section
variable{X:Sc}{α β:Type}[Rl X α][Rl X β]
theorem cH{a b:α}(h:Rl.r X a b):fC X (pure a) (pure b):=by
 intro t Q hq;rw[StateT.run_pure,Sem.wp_pure']at hq;exact wpS_pure ⟨b,t,h,rfl,hq⟩
theorem aU{m1 m2:StateT SortSt Sem α}{f1 f2:α->StateT SortSt Sem β}(h:fC X m1 m2)(k:∀a b,Rl.r X a b->fC X (f1 a) (f2 b)):fC X (m1>>= f1) (m2>>= f2):=by
 intro t Q hq;rw[StateT.run_bind,Sem.wp_bind']at hq;refine wpS_bind (wpS_mono (h t (λa st p' s'=>Sem.wp (model X.prog X.w) X.G ((f2 a).run st) (λr p' s'=>Q r.1 r.2 p' s') X.E2 p' s') hq) λa st h'=> ?_);obtain⟨b,u,r,rfl,hw⟩:=h';exact k a b r u Q hw
theorem ef:fC X (get:StateT SortSt Sem SortSt) get:=by
 intro t Q hq;rw[StateT.run_get,Sem.wp_pure']at hq;exact wpS_get ⟨_,t,⟨t,rfl,rfl⟩,rfl,hq⟩
theorem eN{f g:SortSt->SortSt}(h:∀t,∃u,f (dA X.e1 t)=dA X.e1 u/\g (dA X.e2 t)=dA X.e2 u):fC X (modify f:StateT SortSt Sem PUnit) (modify g):=by
 intro t Q hq;rw[StateT.run_modify,Sem.wp_pure']at hq;obtain⟨u,h1,h2⟩:=h t;refine wpS_modify ⟨⟨⟩,u,rfl,h1,?_⟩;rw[<-h2];exact hq
theorem BS{a b:SortSt}(h:Rl.r X a b):fC X (set a:StateT SortSt Sem PUnit) (set b):=by
 intro t Q hq;rw[StateT.run_set,Sem.wp_pure']at hq;obtain⟨u,rfl,rfl⟩:=h;unfold wpS;rw[StateT.run_set];exact wpAny_pure ⟨rfl,⟨⟩,u,rfl,rfl,hq⟩
theorem gj{m1:StateT SortSt Sem α}{x:String}:fC X m1 (StateT.lift (.unsupported x)):=by
 intro t Q hq;have h2:Sem.wp (model X.prog X.w) X.G ((.unsupported x:Sem α)>>= λa=>pure (a,dA X.e2 t)) (λr p' s'=>Q r.1 r.2 p' s') X.E2 X.p X.s2:=hq;rw[Sem.wp_bind',Sem.wp_unsupported]at h2;exact h2.elim
theorem eO{x:String}:fC X (liftM (rule x):StateT SortSt Sem Unit) (liftM (rule x)):=by
 intro t Q hq;have h2:Q () (dA X.e2 t) X.p X.s2:=hq;exact wpS_lift (wpAny_rule ⟨rfl,(),t,rfl,rfl,h2⟩)
theorem tQ{f1 f2:Nat->β->StateT SortSt Sem (ForInStep β)}(h:∀i a b,Rl.r X a b->fC X (f1 i a) (f2 i b)):∀(l:List Nat) (a b:β),Rl.r X a b->fC X (forIn l a f1) (forIn l b f2)
 |[],a,b,r=>by rw[List.forIn_nil,List.forIn_nil];exact cH r
 |i::l,a,b,r=>by
  rw[List.forIn_cons,List.forIn_cons];refine aU (h i a b r) λx y q=> ?_
  match x,y,q with
  | .done x,.done y,q=>exact cH q
  | .yield x,.yield y,q=>exact tQ h l x y q
theorem gX{f1 f2:Nat->β->StateT SortSt Sem (ForInStep β)}{lo hi:Nat}{a b:β}(r:Rl.r X a b)(h:∀i a b,Rl.r X a b->fC X (f1 i a) (f2 i b)):fC X (forIn [lo:hi] a f1) (forIn [lo:hi] b f2):=by
 rw[Std.Legacy.Range.forIn_eq_forIn_range',Std.Legacy.Range.forIn_eq_forIn_range'];exact tQ h _ _ _ r
theorem ba{c:Prop}[Decidable c]{a1 a2 b1 b2:StateT SortSt Sem α}(h1:fC X a1 a2)(h2:fC X b1 b2):fC X (if c then a1 else b1) (if c then a2 else b2):=by
 split
 ·exact h1
 ·exact h2
theorem dN{a b:Array Keyed}(r:Rl.r X a b)(i:Nat):fC X (elem' a i) (elem' b i):=by
 obtain⟨t,rfl,rfl⟩:=r;rw[elem'_eq,elem'_eq,Array.getElem?_map,Array.getElem?_map];cases t[i]? with
 |none=>exact gj
 |some n=>exact cH ⟨n,rfl,rfl⟩
theorem rT{x1 x2 y1 y2:Keyed}(hx:Rl.r X x1 x2)(hy:Rl.r X y1 y2):fC X (lt' x1 y1) (lt' x2 y2):=by
 obtain⟨i,rfl,rfl⟩:=hx;obtain⟨j,rfl,rfl⟩:=hy;intro t Q hq;rw[lt'_eq]at hq⊢;rw[StateT.run_bind,Sem.wp_bind',StateT.run_get,Sem.wp_pure']at hq;refine wpS_bind (wpS_get ?_);rw[StateT.run_bind,Sem.wp_bind']at hq
 have h2:Sem.wp (model X.prog X.w) X.G ((keyLt' oneType' (X.e2 i).1 (X.e2 j).1).attempt>>= λa=>pure (a,dA X.e2 t)) (λa p' s'=>Sem.wp (model X.prog X.w) X.G ((match a.1 with
  | .ok b=>(pure (some b):StateT SortSt Sem (Option Bool))
  | .error e=>do
   modify λs=>SortSt.mk' (kindOf s) (arrOf s) (pendingOf s) (gallopOf s) (some e)
   pure none).run a.2) (λr p' s'=>Q r.1 r.2 p' s') X.E2 p' s') X.E2 X.p X.s2:=hq
 rw[Sem.wp_bind',Sem.wp_attempt]at h2;have h3:=X.inv i j _ _ h2;rw[Sem.wp_pure']at h3;have h4:Q (some (X.c i j)) (dA X.e2 t) X.p X.s2:=h3;refine wpS_bind (wpS_lift (wpAny_attempt (X.fwd i j _ _ ⟨rfl,?_⟩)));exact wpS_pure ⟨some (X.c i j),t,rfl,rfl,h4⟩
theorem gk(i j:Nat):fC X (ltAt' i j) (ltAt' i j):=by
 rw[ltAt'_eq];refine aU ef λs1 s2 h=> ?_
 obtain⟨t,rfl,rfl⟩:=h;have ra:Rl.r X (arrOf (dA X.e1 t)) (arrOf (dA X.e2 t)):=⟨t.arr,rfl,rfl⟩;exact aU (dN ra i) λx1 x2 hx=>aU (dN ra j) λy1 y2 hy=>rT hx hy
theorem zQ{γ δ:Type}(f:γ->δ)(xs:Array γ)(i j:Nat):(xs.map f).swapIfInBounds i j=(xs.swapIfInBounds i j).map f:=by
 unfold Array.swapIfInBounds;by_cases h1:i<xs.size
 ·by_cases h2:j<xs.size
  ·have h1':i<(xs.map f).size:=by simpa using h1
   have h2':j<(xs.map f).size:=by simpa using h2
   rw[dif_pos h1',dif_pos h2',dif_pos h1,dif_pos h2];simp[Array.swap_def,Array.map_set]
  ·have h2':¬j<(xs.map f).size:=by simpa using h2
   by_cases h1':i<(xs.map f).size
   ·rw[dif_pos h1',dif_neg h2',dif_pos h1,dif_neg h2]
   ·exact absurd (by simpa using h1) h1'
 ·have h1':¬i<(xs.map f).size:=by simpa using h1
  rw[dif_neg h1',dif_neg h1]
theorem gm{γ δ:Type}(f:γ->δ)(g h:Nat->Nat):∀(l:List Nat) (xs:Array γ),l.foldl (λa k=>a.swapIfInBounds (g k) (h k)) (xs.map f)=(l.foldl (λa k=>a.swapIfInBounds (g k) (h k)) xs).map f
 |[],xs=>rfl
 |k::l,xs=>by
  rw[List.foldl_cons,List.foldl_cons,zQ,gm f g h l]
theorem fE(i j:Nat):fC X (reverseSlice' i j) (reverseSlice' i j):=by
 rw[reverseSlice'_eq];refine eN λt=>⟨{t with arr:=mirror t.arr i j ((j-i) / 2)},?_,?_⟩
 ·show SortSt.mk' _ (mirror (t.arr.map X.e1) i j ((j-i) / 2)) _ _ _=_;unfold mirror;rw[gm];rfl
 ·show SortSt.mk' _ (mirror (t.arr.map X.e2) i j ((j-i) / 2)) _ _ _=_;unfold mirror;rw[gm];rfl
theorem zR(i j:Nat):fC X (moveDown' i j) (moveDown' i j):=by
 rw[moveDown'_eq];refine eN λt=>⟨{t with arr:=bubble t.arr i (i-j)},?_,?_⟩
 ·show SortSt.mk' _ (bubble (t.arr.map X.e1) i (i-j)) _ _ _=_;unfold bubble;rw[gm];rfl
 ·show SortSt.mk' _ (bubble (t.arr.map X.e2) i (i-j)) _ _ _=_;unfold bubble;rw[gm];rfl
end
end Cr
namespace Cr
open PySem PyProof.Rows
class lD (X:Sc) (α:Type) [Rl X α]:Prop where
 eq:∀a b:α,Rl.r X a b->a=b
 rf:∀a:α,Rl.r X a a
section
variable{X:Sc}
instance:lD X Nat:=⟨λ_ _ h=>h,λ_=>rfl⟩
instance:lD X Bool:=⟨λ_ _ h=>h,λ_=>rfl⟩
instance:lD X Unit:=⟨λ_ _ h=>h,λ_=>rfl⟩
instance{α:Type}[Rl X α][lD X α]:lD X (Option α):=⟨λa b h=>by
 match a,b,h with
 |none,none,_=>rfl
 |some x,some y,h=>rw[lD.eq (X:=X) x y h],λa=>by
 match a with
 |none=>trivial
 |some x=>exact lD.rf (X:=X) x⟩
instance{α β:Type}[Rl X α][Rl X β][lD X α][lD X β]:lD X (α×β):=⟨λa b h=>Prod.ext (lD.eq (X:=X) _ _ h.1) (lD.eq (X:=X) _ _ h.2),λa=>⟨lD.rf (X:=X) _,lD.rf (X:=X) _⟩⟩
instance{α:Type}[Rl X α][lD X α]:lD X (ForInStep α):=⟨λa b h=>by
 match a,b,h with
 | .done x,.done y,h=>rw[lD.eq (X:=X) x y h]
 | .yield x,.yield y,h=>rw[lD.eq (X:=X) x y h],λa=>by
 match a with
 | .done x=>exact lD.rf (X:=X) x
 | .yield x=>exact lD.rf (X:=X) x⟩
variable{α β:Type}[Rl X α][Rl X β]
theorem ax[lD X α](a:α):fC X (pure a) (pure a):=cH (lD.rf a)
theorem aR[lD X α]{m1 m2:StateT SortSt Sem α}{f1 f2:α->StateT SortSt Sem β}(h:fC X m1 m2)(k:∀a,fC X (f1 a) (f2 a)):fC X (m1>>= f1) (m2>>= f2):=
 aU h λa b r=>by obtain rfl:=lD.eq (X:=X) a b r;exact k a
theorem bv[lD X α]{m1 m2:StateT SortSt Sem (Option α)}{f1 f2:Option α->StateT SortSt Sem β}(h:fC X m1 m2)(k0:fC X (f1 none) (f2 none))(k:∀a,fC X (f1 (some a)) (f2 (some a))):fC X (m1>>= f1) (m2>>= f2):=
 aR h λa=>by
  cases a with
  |none=>exact k0
  |some a=>exact k a
theorem cp[lD X β]{f1 f2:Nat->β->StateT SortSt Sem (ForInStep β)}{lo hi:Nat}{a:β}(h:∀i a,fC X (f1 i a) (f2 i a)):fC X (forIn [lo:hi] a f1) (forIn [lo:hi] a f2):=
 gX (lD.rf a) λi a b r=>by obtain rfl:=lD.eq (X:=X) a b r;exact h i a
theorem vA(lo n ok:Nat):fC X (binarySort' lo n ok) (binarySort' lo n ok):=by
 rw[binarySort'_eq];refine aR (cp λk a=> ?_) λa=> ?_
 ·refine aR (cp λi a=> ?_) λa=> ?_
  ·refine ba (ax _) ?_;refine bv (gk _ _) (ax _) λb=> ?_
   exact ba (ax _) (ax _)
  ·rcases a with⟨_|r,l,u⟩
   ·exact aR (zR _ _) λ_=>ax _
   ·exact ax _
 ·rcases a with⟨_|r,u⟩
  ·exact ax _
  ·exact ax _
theorem x6(lo n:Nat):fC X (countRun' lo n) (countRun' lo n):=by
 rw[countRun'_eq];refine aR (cp λk a=> ?_) λa=> ?_
 ·refine bv (gk _ _) (ax _) λb=> ?_
  exact ba (ax _) (ax _)
 ·rcases a with⟨_|r,u⟩
  ·refine ba (ax _) (ba (bv (gk _ _) (ax _) λb=>ba (ax _) (aR (fE _ _) λ_=> ?_)) ?_)
   all_goals
    refine aR eO λ_=>aR (cp λk a=> ?_) λa=> ?_
    ·refine bv (gk _ _) (ax _) λb=>ba (ba (aR (fE _ _) λ_=>ax _) (ax _)) (bv (gk _ _) (ax _) λb=>ba (ax _) (ax _))
    ·rcases a with⟨_|r,u,q⟩
     ·refine ba (aR (fE _ _) λ_=> ?_) ?_
      all_goals
       refine aR (fE _ _) λ_=>aR (cp λk a=> ?_) λa=> ?_
       ·exact bv (gk _ _) (ax _) λb=>ba (ax _) (ax _)
       ·rcases a with⟨_|r,u⟩<;>exact ax _
     ·exact ax _
  ·exact ax _
theorem eP(left:Bool){k1 k2:Keyed}{a1 a2:Array Keyed}(hk:Rl.r X k1 k2)(ha:Rl.r X a1 a2)(base i:Nat):fC X (beyond' left k1 a1 base i) (beyond' left k2 a2 base i):=by
 unfold beyond';refine aU (dN ha _) λx y r=> ?_
 cases left with
 |true=>exact rT r hk
 |false=>exact aR (rT hk r) λo=>ax _
theorem ke(left:Bool){k1 k2:Keyed}{a1 a2:Array Keyed}(hk:Rl.r X k1 k2)(ha:Rl.r X a1 a2)(base n hint:Nat):fC X (gallop' left k1 a1 base n hint) (gallop' left k2 a2 base n hint):=by
 rw[gallop'_eq,gallop'_eq];refine bv (eP left hk ha _ _) (ax _) λb=>ba (aR (cp λk a=> ?_) λa=> ?_) (aR (cp λk a=> ?_) λa=> ?_)
 ·exact ba (ax _) (bv (eP left hk ha _ _) (ax _) λb=>ba (ax _) (ax _))
 ·rcases a with⟨_|r,u,q⟩
  ·refine aR (cp λk a=> ?_) λa=> ?_
   ·exact ba (ax _) (bv (eP left hk ha _ _) (ax _) λb=>ba (ax _) (ax _))
   ·rcases a with⟨_|r,u,q⟩<;>exact ax _
  ·exact ax _
 ·exact ba (ax _) (bv (eP left hk ha _ _) (ax _) λb=>ba (ax _) (ax _))
 ·rcases a with⟨_|r,u,q⟩
  ·refine aR (cp λk a=> ?_) λa=> ?_
   ·exact ba (ax _) (bv (eP left hk ha _ _) (ax _) λb=>ba (ax _) (ax _))
   ·rcases a with⟨_|r,u,q⟩<;>exact ax _
  ·exact ax _
end
end Cr
namespace Cr
open PySem PyProof.Rows
section
variable{X:Sc}
theorem gY{a b c d:Array Keyed}(h:Rl.r X a b)(k:Rl.r X c d):Rl.r X (a++c) (b++d):=by
 obtain⟨t,rfl,rfl⟩:=h;obtain⟨u,rfl,rfl⟩:=k;exact⟨t++u,by rw[Array.map_append],by rw[Array.map_append]⟩
theorem dD{a b:Array Keyed}(h:Rl.r X a b)(i j:Nat):Rl.r X (a.extract i j) (b.extract i j):=by
 obtain⟨t,rfl,rfl⟩:=h;exact⟨t.extract i j,by rw[Array.map_extract],by rw[Array.map_extract]⟩
theorem BT{a b:Array Keyed}{x y:Keyed}(h:Rl.r X a b)(k:Rl.r X x y):Rl.r X (a.push x) (b.push y):=by
 obtain⟨t,rfl,rfl⟩:=h;obtain⟨i,rfl,rfl⟩:=k;exact⟨t.push i,by rw[Array.map_push],by rw[Array.map_push]⟩
theorem vB{a b:Array Keyed}(h:Rl.r X a b):Rl.r X a.reverse b.reverse:=by
 obtain⟨t,rfl,rfl⟩:=h;exact⟨t.reverse,by rw[Array.map_reverse],by rw[Array.map_reverse]⟩
theorem oG{x y:Keyed}(k:Rl.r X x y):Rl.r X #[x] #[y]:=by
 obtain⟨i,rfl,rfl⟩:=k;exact⟨#[i],by simp,by simp⟩
theorem BU{α:Type}[Rl X α]{a b:α}(h:Rl.r X a b):Rl.r X (some a) (some b):=h
theorem vC(g:Nat):fC X (setMinGallop' g) (setMinGallop' g):=by
 rw[setMinGallop'_eq];exact eN λt=>⟨{t with gal:=g},rfl,rfl⟩
theorem BV{α:Type}[Rl X α]:Rl.r X (none:Option α) none:=trivial
theorem Ea(n:Nat):Rl.r X n n:=rfl
theorem BW{α β:Type}[Rl X α][Rl X β]{a b:α}{c d:β}(h:Rl.r X a b)(k:Rl.r X c d):Rl.r X (a,c) (b,d):=⟨h,k⟩
theorem BX{α:Type}[Rl X α]{a b:α}(h:Rl.r X a b):Rl.r X (ForInStep.done a) (ForInStep.done b):=h
theorem zS{α:Type}[Rl X α]{a b:α}(h:Rl.r X a b):Rl.r X (ForInStep.yield a) (ForInStep.yield b):=h
local macro_rules | `(tactic| walk_at "rel") => `(tactic| repeat' with_reducible first | exact Ea _ | assumption | exact BV | refine BW ?_ ?_ | refine gY ?_ ?_ | refine dD ?_ _ _ | refine BT ?_ ?_ | refine BU ?_ | refine BX ?_ | refine zS ?_ | refine vB ?_ | refine oG ?_)
local macro_rules | `(tactic| walk_at "sim") => `(tactic| repeat' with_reducible first
 | (refine cH ?_; walk_at "rel"; done)
 | (refine ba ?_ ?_)
 | (refine aU (dN (by assumption) _) fun _ _ _ => ?_)
 | (refine bv (ke _ (by assumption) (by assumption) _ _ _) ?_ fun _ => ?_)
 | (refine bv (rT (by assumption) (by assumption)) ?_ fun _ => ?_)
 | (refine aR (vC _) fun _ => ?_)
 | (refine aR eO fun _ => ?_))
abbrev AK:=Array Keyed abbrev OA:=Option AK
theorem gal{s1 s2:SortSt}(h:Rl.r X s1 s2):Rl.r X (gallopOf s1) (gallopOf s2):=by obtain⟨t,rfl,rfl⟩:=h;rfl
theorem G4{a b:Array Keyed}(h:Rl.r X a b):a.size=b.size:=by obtain⟨t,rfl,rfl⟩:=h;simp only[Array.size_map]
theorem Is{P:OA×AK×Nat×Nat×Nat->OA×AK×Nat×Nat×Nat->Prop}(h:∀p0 p1 p2 p3 p4 q0 q1,Rl.r X p0 q0->Rl.r X p1 q1->P (p0,p1,p2,p3,p4) (q0,q1,p2,p3,p4))(p q)(r:Rl.r X p q):P p q:=by
 obtain⟨p0,p1,p2,p3,p4⟩:=p;obtain⟨q0,q1,q2,q3,q4⟩:=q;obtain⟨h0,h1,h2,h3,h4⟩:=r;cases h2;cases h3;cases h4;exact h _ _ _ _ _ _ _ h0 h1
theorem Iu{P:OA×AK×Nat×Nat×Nat×Nat->OA×AK×Nat×Nat×Nat×Nat->Prop}(h:∀p0 p1 p2 p3 p4 p5 q0 q1,Rl.r X p0 q0->Rl.r X p1 q1->P (p0,p1,p2,p3,p4,p5) (q0,q1,p2,p3,p4,p5))(p q)(r:Rl.r X p q):P p q:=by
 obtain⟨p0,p1,p2,p3,p4,p5⟩:=p;obtain⟨q0,q1,q2,q3,q4,q5⟩:=q;obtain⟨h0,h1,h2,h3,h4,h5⟩:=r;cases h2;cases h3;cases h4;cases h5;exact h _ _ _ _ _ _ _ _ h0 h1
theorem Iv{P:OA×AK×Nat×Nat×Nat×Nat×Nat->OA×AK×Nat×Nat×Nat×Nat×Nat->Prop}(h:∀p0 p1 p2 p3 p4 p5 p6 q0 q1,Rl.r X p0 q0->Rl.r X p1 q1->P (p0,p1,p2,p3,p4,p5,p6) (q0,q1,p2,p3,p4,p5,p6))(p q)(r:Rl.r X p q):P p q:=by
 obtain⟨p0,p1,p2,p3,p4,p5,p6⟩:=p;obtain⟨q0,q1,q2,q3,q4,q5,q6⟩:=q;obtain⟨h0,h1,h2,h3,h4,h5,h6⟩:=r;cases h2;cases h3;cases h4;cases h5;cases h6;exact h _ _ _ _ _ _ _ _ _ h0 h1
theorem Iw{P:OA×Nat×Nat×AK×Nat->OA×Nat×Nat×AK×Nat->Prop}(h:∀p0 p1 p2 p3 p4 q0 q3,Rl.r X p0 q0->Rl.r X p3 q3->P (p0,p1,p2,p3,p4) (q0,p1,p2,q3,p4))(p q)(r:Rl.r X p q):P p q:=by
 obtain⟨p0,p1,p2,p3,p4⟩:=p;obtain⟨q0,q1,q2,q3,q4⟩:=q;obtain⟨h0,h1,h2,h3,h4⟩:=r;cases h1;cases h2;cases h4;exact h _ _ _ _ _ _ _ h0 h3
theorem Ix{P:OA×Nat×Nat×AK×Nat×Nat->OA×Nat×Nat×AK×Nat×Nat->Prop}(h:∀p0 p1 p2 p3 p4 p5 q0 q3,Rl.r X p0 q0->Rl.r X p3 q3->P (p0,p1,p2,p3,p4,p5) (q0,p1,p2,q3,p4,p5))(p q)(r:Rl.r X p q):P p q:=by
 obtain⟨p0,p1,p2,p3,p4,p5⟩:=p;obtain⟨q0,q1,q2,q3,q4,q5⟩:=q;obtain⟨h0,h1,h2,h3,h4,h5⟩:=r;cases h1;cases h2;cases h4;cases h5;exact h _ _ _ _ _ _ _ _ h0 h3
theorem Iy{P:OA×Nat×Nat×AK×Nat×Nat×Nat->OA×Nat×Nat×AK×Nat×Nat×Nat->Prop}(h:∀p0 p1 p2 p3 p4 p5 p6 q0 q3,Rl.r X p0 q0->Rl.r X p3 q3->P (p0,p1,p2,p3,p4,p5,p6) (q0,p1,p2,q3,p4,p5,p6))(p q)(r:Rl.r X p q):P p q:=by
 obtain⟨p0,p1,p2,p3,p4,p5,p6⟩:=p;obtain⟨q0,q1,q2,q3,q4,q5,q6⟩:=q;obtain⟨h0,h1,h2,h3,h4,h5,h6⟩:=r;cases h1;cases h2;cases h4;cases h5;cases h6;exact h _ _ _ _ _ _ _ _ _ h0 h3
theorem HV{P:OA×AK×Nat×Nat×Nat->OA×AK×Nat×Nat×Nat->Prop}(k:∀x y p1 p2 p3 p4 q,Rl.r X x y->Rl.r X p1 q->P (some x,p1,p2,p3,p4) (some y,q,p2,p3,p4))(z:∀p1 p2 p3 p4 q,Rl.r X p1 q->P (none,p1,p2,p3,p4) (none,q,p2,p3,p4))(p q)(r:Rl.r X p q):P p q:=
 Is (λp0 p1 p2 p3 p4 q0 _ h0 h=>match p0,q0,h0 with |some _,some _,g=>k _ _ _ _ _ _ _ g h|none,none,_=>z _ _ _ _ _ h) p q r
theorem HW{P:OA×AK×Nat×Nat×Nat×Nat->OA×AK×Nat×Nat×Nat×Nat->Prop}(k:∀x y p1 p2 p3 p4 p5 q,Rl.r X x y->Rl.r X p1 q->P (some x,p1,p2,p3,p4,p5) (some y,q,p2,p3,p4,p5))(z:∀p1 p2 p3 p4 p5 q,Rl.r X p1 q->P (none,p1,p2,p3,p4,p5) (none,q,p2,p3,p4,p5))(p q)(r:Rl.r X p q):P p q:=
 Iu (λp0 p1 p2 p3 p4 p5 q0 _ h0 h=>match p0,q0,h0 with |some _,some _,g=>k _ _ _ _ _ _ _ _ g h|none,none,_=>z _ _ _ _ _ _ h) p q r
theorem HX{P:OA×AK×Nat×Nat×Nat×Nat×Nat->OA×AK×Nat×Nat×Nat×Nat×Nat->Prop}(k:∀x y p1 p2 p3 p4 p5 p6 q,Rl.r X x y->Rl.r X p1 q->P (some x,p1,p2,p3,p4,p5,p6) (some y,q,p2,p3,p4,p5,p6))(z:∀p1 p2 p3 p4 p5 p6 q,Rl.r X p1 q->P (none,p1,p2,p3,p4,p5,p6) (none,q,p2,p3,p4,p5,p6))(p q)(r:Rl.r X p q):P p q:=
 Iv (λp0 p1 p2 p3 p4 p5 p6 q0 _ h0 h=>match p0,q0,h0 with |some _,some _,g=>k _ _ _ _ _ _ _ _ _ g h|none,none,_=>z _ _ _ _ _ _ _ h) p q r
theorem HY{P:OA×Nat×Nat×AK×Nat->OA×Nat×Nat×AK×Nat->Prop}(k:∀x y p1 p2 p3 p4 q,Rl.r X x y->Rl.r X p3 q->P (some x,p1,p2,p3,p4) (some y,p1,p2,q,p4))(z:∀p1 p2 p3 p4 q,Rl.r X p3 q->P (none,p1,p2,p3,p4) (none,p1,p2,q,p4))(p q)(r:Rl.r X p q):P p q:=
 Iw (λp0 p1 p2 p3 p4 q0 _ h0 h=>match p0,q0,h0 with |some _,some _,g=>k _ _ _ _ _ _ _ g h|none,none,_=>z _ _ _ _ _ h) p q r
theorem HZ{P:OA×Nat×Nat×AK×Nat×Nat->OA×Nat×Nat×AK×Nat×Nat->Prop}(k:∀x y p1 p2 p3 p4 p5 q,Rl.r X x y->Rl.r X p3 q->P (some x,p1,p2,p3,p4,p5) (some y,p1,p2,q,p4,p5))(z:∀p1 p2 p3 p4 p5 q,Rl.r X p3 q->P (none,p1,p2,p3,p4,p5) (none,p1,p2,q,p4,p5))(p q)(r:Rl.r X p q):P p q:=
 Ix (λp0 p1 p2 p3 p4 p5 q0 _ h0 h=>match p0,q0,h0 with |some _,some _,g=>k _ _ _ _ _ _ _ _ g h|none,none,_=>z _ _ _ _ _ _ h) p q r
theorem Ia{P:OA×Nat×Nat×AK×Nat×Nat×Nat->OA×Nat×Nat×AK×Nat×Nat×Nat->Prop}(k:∀x y p1 p2 p3 p4 p5 p6 q,Rl.r X x y->Rl.r X p3 q->P (some x,p1,p2,p3,p4,p5,p6) (some y,p1,p2,q,p4,p5,p6))(z:∀p1 p2 p3 p4 p5 p6 q,Rl.r X p3 q->P (none,p1,p2,p3,p4,p5,p6) (none,p1,p2,q,p4,p5,p6))(p q)(r:Rl.r X p q):P p q:=
 Iy (λp0 p1 p2 p3 p4 p5 p6 q0 _ h0 h=>match p0,q0,h0 with |some _,some _,g=>k _ _ _ _ _ _ _ _ _ g h|none,none,_=>z _ _ _ _ _ _ _ h) p q r
theorem Eb{a1 a2 b1 b2:Array Keyed}(ha:Rl.r X a1 a2)(hb:Rl.r X b1 b2):fC X (mergeLo' a1 b1) (mergeLo' a2 b2):=by
 rw[mergeLo'_eq,mergeLo'_eq,G4 ha,G4 hb];refine aR eO λ_=>aU (dN hb _) λx1 x2 hx=>ba (cH (gY (gY (oG hx) (dD ha _ _)) (dD hb _ _))) (ba (cH (gY (gY (oG hx) (dD hb _ _)) (dD ha _ _))) (aU ef λs1 s2 hs=>aU (gX ?_ λi=>Is λp0 p1 p2 p3 p4 y0 y1 h0 h1=> ?_) (HV (λx y p1 p2 p3 p4 q h g=>cH h) λp1 p2 p3 p4 q g=>gj)))
 ·walk_at "rel";exact gal hs
 ·dsimp only;refine aU (gX ?_ λi=>Iu λp0 p1 p2 p3 p4 p5 y0 y1 h0 h1=> ?_) (HW (λx y p1 p2 p3 p4 p5 q h g=> ?_) λp1 p2 p3 p4 p5 q g=> ?_)
  ·walk_at "rel"
  ·dsimp only;walk_at "sim"
  ·dsimp only;walk_at "sim"
  ·dsimp only;refine aR eO λ_=>aU (gX ?_ λi=>Iv λp0 p1 p2 p3 p4 p5 p6 y0 y1 h0 h1=> ?_) (HX (λx y p1 p2 p3 p4 p5 p6 q h g=> ?_) λp1 p2 p3 p4 p5 p6 q g=> ?_)
   ·walk_at "rel"
   ·dsimp only;walk_at "sim"
   ·dsimp only;walk_at "sim"
   ·dsimp only;walk_at "sim"
theorem Ec{a1 a2 b1 b2:Array Keyed}(ha:Rl.r X a1 a2)(hb:Rl.r X b1 b2):fC X (mergeHi' a1 b1) (mergeHi' a2 b2):=by
 rw[mergeHi'_eq,mergeHi'_eq,G4 ha,G4 hb];refine aR eO λ_=>aU (dN ha _) λx1 x2 hx=>ba (cH (gY (gY (dD ha _ _) (dD hb _ _)) (vB (oG hx)))) (ba (cH (gY (gY (dD hb _ _) (dD ha _ _)) (vB (oG hx)))) (aU ef λs1 s2 hs=>aU (gX ?_ λi=>Iw λp0 p1 p2 p3 p4 y0 y1 h0 h1=> ?_) (HY (λx y p1 p2 p3 p4 q h g=>cH h) λp1 p2 p3 p4 q g=>gj)))
 ·walk_at "rel";exact gal hs
 ·dsimp only;refine aU (gX ?_ λi=>Ix λp0 p1 p2 p3 p4 p5 y0 y1 h0 h1=> ?_) (HZ (λx y p1 p2 p3 p4 p5 q h g=> ?_) λp1 p2 p3 p4 p5 q g=> ?_)
  ·walk_at "rel"
  ·dsimp only;walk_at "sim"
  ·dsimp only;walk_at "sim"
  ·dsimp only;refine aR eO λ_=>aU (gX ?_ λi=>Iy λp0 p1 p2 p3 p4 p5 p6 y0 y1 h0 h1=> ?_) (Ia (λx y p1 p2 p3 p4 p5 p6 q h g=> ?_) λp1 p2 p3 p4 p5 p6 q g=> ?_)
   ·walk_at "rel"
   ·dsimp only;walk_at "sim"
   ·dsimp only;walk_at "sim"
   ·dsimp only;walk_at "sim"
end
end Cr
namespace Cr
open PySem PyProof.Rows
section
variable{X:Sc}
theorem qZ{γ δ:Type}(f:γ->δ)(xs:Array γ)(i:Nat)(x:γ):(xs.map f).setIfInBounds i (f x)=(xs.setIfInBounds i x).map f:=by
 rw[Array.map_setIfInBounds]
theorem oH{γ δ:Type}(f:γ->δ)(sa:Nat):∀(l:List γ) (k:Nat) (xs:Array γ),((l.map f).zipIdx k).foldl (λa (q:δ×Nat)=>a.setIfInBounds (sa+q.2) q.1) (xs.map f)=((l.zipIdx k).foldl (λa (q:γ×Nat)=>a.setIfInBounds (sa+q.2) q.1) xs).map f
 |[],k,xs=>rfl
 |y::l,k,xs=>by
  rw[List.map_cons,List.zipIdx_cons,List.zipIdx_cons,List.foldl_cons,List.foldl_cons];show List.foldl _ ((xs.map f).setIfInBounds (sa+k) (f y)) _=_;rw[qZ,oH f sa l (k+1)]
theorem zT(i:Nat):fC X (mergeAt' i) (mergeAt' i):=by
 rw[mergeAt'_eq];refine aU ef λs1 s2 h=> ?_
 obtain⟨t,rfl,rfl⟩:=h;have ra:Rl.r X (arrOf (dA X.e1 t)) (arrOf (dA X.e2 t)):=⟨t.arr,rfl,rfl⟩;have p1:pendingOf (dA X.e1 t)=t.pend:=rfl;have p2:pendingOf (dA X.e2 t)=t.pend:=rfl;rw[p1,p2];cases t.pend[i]? with
 |none=>exact gj
 |some x=>
  cases t.pend[i+1]? with
  |none=>exact gj
  |some y=>
   obtain⟨sa,na,pw⟩:=x;obtain⟨sb,nb,pw2⟩:=y;dsimp only;refine aU (BS ⟨{t with pend:=(t.pend.setIfInBounds i (sa,na+nb,pw)).eraseIdxIfInBounds (i+1)},rfl,rfl⟩) λ_ _ _=> ?_
   refine aU (dN ra _) λx1 x2 hx=>bv (ke _ hx ra _ _ _) (ax _) λk=> ?_
   refine ba (ax _) ?_;refine aU (dN ra _) λy1 y2 hy=>bv (ke _ hy ra _ _ _) (ax _) λm=> ?_
   refine ba (ax _) ?_
   have fin:∀(M1 M2:Array Keyed),Rl.r X M1 M2->fC X (do
     modify λs=>setArr s (List.foldl (λa (x:Keyed×Nat)=>a.setIfInBounds (sa+k+x.snd) x.fst) (arrOf s) M1.toList.zipIdx)
     let z<-get
     pure (failedOf z).isNone) (do
     modify λs=>setArr s (List.foldl (λa (x:Keyed×Nat)=>a.setIfInBounds (sa+k+x.snd) x.fst) (arrOf s) M2.toList.zipIdx)
     let z<-get
     pure (failedOf z).isNone):=λM1 M2 hm=>by
    obtain⟨tm,rfl,rfl⟩:=hm;refine aU (eN λu=>⟨{u with arr:=(tm.toList.zipIdx).foldl (λa (q:Nat×Nat)=>a.setIfInBounds (sa+k+q.2) q.1) u.arr},?_,?_⟩) λ_ _ _=>aU ef λz1 z2 hz=> ?_
    ·show SortSt.mk' _ (List.foldl _ (u.arr.map X.e1) (tm.map X.e1).toList.zipIdx) _ _ _=_;rw[Array.toList_map,oH];rfl
    ·show SortSt.mk' _ (List.foldl _ (u.arr.map X.e2) (tm.map X.e2).toList.zipIdx) _ _ _=_;rw[Array.toList_map,oH];rfl
    ·obtain⟨u,rfl,rfl⟩:=hz;exact ax _
   exact ba (aU (Eb (dD ra _ _) (dD ra _ _)) λM1 M2 hm=>fin M1 M2 hm) (aU (Ec (dD ra _ _) (dD ra _ _)) λM1 M2 hm=>fin M1 M2 hm)
theorem tR{f:Array (Nat×Nat×Nat)->Array (Nat×Nat×Nat)}:fC X (modify λs=>setPending s (f (pendingOf s)):StateT SortSt Sem PUnit) (modify λs=>setPending s (f (pendingOf s))):=
 eN λt=>⟨{t with pend:=f t.pend},rfl,rfl⟩
theorem qp(x:Nat×Nat×Nat):fC X (modify λs=>setPending s ((pendingOf s).push x):StateT SortSt Sem PUnit) (modify λs=>setPending s ((pendingOf s).push x)):=tR (f:=λp=>p.push x)
theorem x8(g:Nat×Nat×Nat->Nat×Nat×Nat):fC X (modify λs=>setPending s ((pendingOf s).modify ((pendingOf s).size-1) g):StateT SortSt Sem PUnit) (modify λs=>setPending s ((pendingOf s).modify ((pendingOf s).size-1) g)):=tR (f:=λp=>p.modify (p.size-1) g)
theorem zU:fC X sortRuns' sortRuns':=by
 rw[sortRuns'_eq];refine aU ef λs1 s2 h=> ?_
 obtain⟨t,rfl,rfl⟩:=h;have z1:(arrOf (dA X.e1 t)).size=t.arr.size:=Array.size_map;have z2:(arrOf (dA X.e2 t)).size=t.arr.size:=Array.size_map;rw[z1,z2];have pn1:∀u,pendingOf (dA X.e1 u)=u.pend:=λ_=>rfl
 have pn2:∀u,pendingOf (dA X.e2 u)=u.pend:=λ_=>rfl
 refine aR (cp λk a=> ?_) λa=> ?_
 ·refine ba (ax _) (bv (x6 _ _) (ax _) λn=> ?_);refine ba (aR eO λ_=>aR (vA _ _ _) λb=>ba (ax _) ?_) ?_
  all_goals
   refine aU ef λs1 s2 h=> ?_
   obtain⟨u,rfl,rfl⟩:=h;rw[pn1,pn2];cases u.pend.back? with
   |none=>exact aU (qp _) λ_ _ _=>ax _
   |some x=>
    obtain⟨x1,x2,x3⟩:=x;refine aR (cp λk a=> ?_) λa=> ?_
    ·refine aU ef λs1 s2 h=> ?_
     obtain⟨v,rfl,rfl⟩:=h;rw[pn1,pn2];dsimp only;cases(if v.pend.size>1 then v.pend[v.pend.size-2]? else none)with
     |none=>exact ax _
     |some y=>
      obtain⟨y1,y2,y3⟩:=y;exact ba (ax _) (aR (zT _) λb=>ba (ax _) (ax _))
    ·rcases a with⟨_|r,q⟩
     ·exact aU (x8 _) λ_ _ _=>aU (qp _) λ_ _ _=>ax _
     ·exact ax _
 ·rcases a with⟨_|r,q⟩
  ·refine aR (cp λk a=> ?_) λa=> ?_
   ·refine aU ef λs1 s2 h=> ?_
    obtain⟨v,rfl,rfl⟩:=h;rw[pn1,pn2];exact ba (ax _) (aR (zT _) λb=>ba (ax _) (ax _))
   ·rcases a with⟨_|r,q⟩<;>exact ax _
  ·exact ax _
end
end Cr
namespace Cr
open PySem PyProof.Rows
theorem wK:∀a:List Int,HT.lexLt a a=false
 |[]=>rfl
 |x::r=>by rw[HT.lexLt_cons,if_pos rfl,wK r]
theorem qr:∀{a b c:List Int},HT.lexLt a b=true->HT.lexLt b c=true->HT.lexLt a c=true
 |_,[],[],h,k=>by cases k
 |[],_,_::_,h,k=>rfl
 |_::_,[],_,h,k=>by cases h
 |[],_::_,[],h,k=>by cases k
 |_::_,_::_,[],h,k=>by cases k
 |x::a,y::b,z::c,h,k=>by
  rw[HT.lexLt_cons]at h k⊢;by_cases e:x=y
  ·subst e;rw[if_pos rfl]at h;by_cases f:x=z
   ·subst f;rw[if_pos rfl]at k⊢;exact qr h k
   ·rw[if_neg f]at k⊢;exact k
  ·rw[if_neg e]at h;by_cases f:y=z
   ·subst f;rw[if_neg e];exact h
   ·rw[if_neg f]at k;have h1:=of_decide_eq_true h;have h2:=of_decide_eq_true k;rw[if_neg (by omega)];exact decide_eq_true (by omega)
theorem wL:∀{a b:List Int},HT.lexLt a b=false->HT.lexLt b a=false->a=b
 |[],[],_,_=>rfl
 |[],_::_,h,_=>by cases h
 |_::_,[],_,k=>by cases k
 |x::a,y::b,h,k=>by
  rw[HT.lexLt_cons]at h k;by_cases e:x=y
  ·subst e;rw[if_pos rfl]at h k;rw[wL h k]
  ·rw[if_neg e]at h;rw[if_neg (λq=>e q.symm)]at k;have h1:=of_decide_eq_false h;have h2:=of_decide_eq_false k;omega
theorem qt{α:Type}{p q:α->Bool}{a:α}:∀{l:List α},(∀x,x∈l->p x=true->q x=true)->a∈l->q a=true->p a=false->l.countP p<l.countP q
 |[],_,m,_,_=>by cases m
 |x::l,h,m,hq,hp=>by
  have hle:l.countP p<=l.countP q:=List.countP_mono_left λy hy=>h y (List.mem_cons_of_mem _ hy)
  rcases List.mem_cons.mp m with e|m'
  ·subst e;rw[List.countP_cons,List.countP_cons,hq,hp];simp;omega
  ·have ih:=qt (l:=l) (λy hy=>h y (List.mem_cons_of_mem _ hy)) m' hq hp;rw[List.countP_cons,List.countP_cons];have :=h x List.mem_cons_self;cases e:p x
   ·simp only[Bool.false_eq_true,if_false,Nat.add_zero];omega
   ·rw[this e];simp;omega
def pJ(L:List (List Int))(k:List Int):Nat:=L.countP λx=>HT.lexLt x k
theorem wM{L:List (List Int)}{a b:List Int}(ha:a∈L)(h:HT.lexLt a b=true):pJ L a<pJ L b:=
 qt (λx _ hx=>qr hx h) ha h (wK a)
theorem tS{L:List (List Int)}{a b:List Int}(ha:a∈L)(hb:b∈L):HT.lexLt a b=decide ((pJ L a:Int)<(pJ L b:Int)):=by
 cases e:HT.lexLt a b with
 |true=>have :=wM ha e;exact(decide_eq_true (by omega)).symm
 |false=>
  cases f:HT.lexLt b a with
  |true=>have :=wM hb f;exact(decide_eq_false (by omega)).symm
  |false=>rw[wL e f];simp
def iY(s:Shared)(v:Value)(ns:List Int):Prop:=∃(a:Addr) (xs:Array Value) (n:Nat),v= .ref a/\s.heap.get? a=some {cls:= .type "list",data:= .seq xs n}/\IntsAre xs.toList ns
theorem vD{prog:Program}{w:World}{A:Around}{E:Value->Shared->Prop}{s:Shared}{vs:List Value}{ks:List (List Int)}(hu:A.units<cLine)(hk:Paired (iY s) vs ks)(h2:2<=vs.length){Q:Unit->SortSt->Prop}
  (h:∀st (u:List Nat),failedOf st=none->(arrOf st).map (·.2)=(u.map λi=>vs.getD i .none).toArray->u.Perm (List.range vs.length)->(u.map λi=>ks.getD i []).Pairwise (λa b=>HT.lexLt b a=false)->Q () st):
  wpS (model prog w) A E s sortRuns' Q (SortSt.mk' oneType' (pairsOf vs) #[] 7 none):=by
 intro G p hG;have hlen:vs.length=ks.length:=Paired.length hk;let cl:Nat->Nat:=λi=>if i<vs.length then i else 0
 have hcl:∀i,cl i<vs.length:=λi=>by
  show(if i<vs.length then i else 0)<vs.length
  split<;>omega
 let ky:Nat->List Int:=λi=>ks.getD (cl i) []
 have hky:∀i,ky i∈ks:=λi=>by
  show ks.getD (cl i) []∈ks;have :cl i<ks.length:=by rw[<-hlen];exact hcl i
  rw[List.getD_eq_getElem?_getD,List.getElem?_eq_getElem this];exact List.getElem_mem this
 have hkat:∀i,iY s (vs.getD (cl i) .none) (ky i):=λi=>by
  have h1:=hcl i;have :vs[cl i]? =some (vs.getD (cl i) .none):=by rw[List.getD_eq_getElem?_getD,List.getElem?_eq_getElem h1];rfl
  obtain⟨k,hk1,hk2⟩:=L2.bS hk this
  have e:ky i=k:=by
   show ks.getD (cl i) []=k;rw[List.getD_eq_getElem?_getD,hk1];rfl
  rw[e];exact hk2
 let X:Sc:={
  prog:=prog
  w:=w
  A:=A
  E1:=E
  s1:=s
  G:=G
  E2:=λe _ s'=>E e s'
  p:=p
  s2:=s
  e1:=λi=>(vs.getD (cl i) .none,vs.getD (cl i) .none)
  e2:=λi=>(.int (pJ ks (ky i)) 0,.int i 0)
  c:=λi j=>decide ((pJ ks (ky i):Int)<(pJ ks (ky j):Int))
  fwd:=λi j Q E hq=>by
   obtain⟨a,xs,n,e1,o1,i1⟩:=hkat i;obtain⟨b,ys,m,e2,o2,i2⟩:=hkat j;dsimp only at hq⊢;rw[e1,e2];rw[<-tS (hky i) (hky j)]at hq;exact PySem.CrLt.oneLt_lists hu o1 o2 i1 i2 hq
  inv:=λi j Q E hq=>vz hG hq}
 have init1:dA X.e1 ⟨(List.range vs.length).toArray,#[],7,none⟩=SortSt.mk' oneType' (pairsOf vs) #[] 7 none:=by
  have e:(List.range vs.length).toArray.map X.e1=pairsOf vs:=by
   apply Array.toList_inj.mp
   rw[pairsOf_toList];apply List.ext_getElem?;intro i;by_cases hi:i<vs.length
   ·have c1:cl i=i:=if_pos hi;simp[List.getElem?_zip_eq_some,hi];show(vs.getD (cl i) .none,vs.getD (cl i) .none)=_;rw[c1];simp[hi]
   ·rw[List.getElem?_eq_none (by simp;omega),List.getElem?_eq_none (by simp;omega)]
  show SortSt.mk' oneType' ((List.range vs.length).toArray.map X.e1) #[] 7 none=_;rw[e]
 have run2:wpS (model prog w) A E s sortRuns' (λ_ st=>(arrOf st).Perm ((List.range vs.length).toArray.map X.e2)/\failedOf st=none/\SortedToK intKind (arrOf st) vs.length) (dA X.e2 ⟨(List.range vs.length).toArray,#[],7,none⟩):=by
  have hz:((List.range vs.length).toArray.map X.e2).size=vs.length:=by simp
  refine wpS_sortRunsAny (κ:=intKind) (a₀:=(List.range vs.length).toArray.map X.e2) intKind_oneLt ?_ ⟨Array.Perm.refl _,rfl,rfl⟩ rfl (by rw[hz];exact h2) λst' a1 a2 a3=>⟨a1,a2,by rw[hz]at a3;exact a3⟩
  intro q hq;rw[Array.toList_map]at hq;obtain⟨i,_,rfl⟩:=List.mem_map.mp hq;exact⟨_,rfl⟩
 have sim:=(zU (X:=X)) ⟨(List.range vs.length).toArray,#[],7,none⟩ (λ_ st _ _=>(arrOf st).Perm ((List.range vs.length).toArray.map X.e2)/\failedOf st=none/\SortedToK intKind (arrOf st) vs.length) (Sem.wp_mono _ _ _ (λr _ s' hr=>hr.2) (λ_ _ _ hr=>hr) _ _ (run2 G p hG));rw[<-init1];refine(wpS_mono sim λ_ st hst=> ?_) G p hG;obtain⟨b,u,_,rfl,hp,hf,hs⟩:=hst
 have hp1:(u.arr.toList.map X.e2).Perm ((List.range vs.length).map X.e2):=by
  have z:=Array.perm_iff_toList_perm.mp (show(u.arr.map X.e2).Perm _ from hp);rw[Array.toList_map,Array.toList_map]at z;exact z
 have hp2:u.arr.toList.Perm (List.range vs.length):=by
  have z:=hp1.map (λq:Keyed=>match q.2 with | .int i _=>i.toNat|_=>0);rw[List.map_map,List.map_map]at z
  have idm:∀l:List Nat,l.map ((λq:Keyed=>match q.2 with | .int i _=>i.toNat|_=>0)∘X.e2)=l:=λl=>by
   have :((λq:Keyed=>match q.2 with | .int i _=>i.toNat|_=>0)∘X.e2)=id:=by funext i;show((i:Nat):Int).toNat=i;omega
   rw[this,List.map_id]
  rw[idm,idm]at z;exact z
 have hin:∀i,i∈u.arr.toList->cl i=i:=λi hi=>if_pos (List.mem_range.mp (hp2.mem_iff.mp hi))
 refine h _ u.arr.toList hf ?_ hp2 ?_
 ·show(u.arr.map X.e1).map (·.2)=_
  apply Array.toList_inj.mp
  rw[Array.toList_map,Array.toList_map,List.map_map];refine List.map_congr_left λi hi=> ?_
  show vs.getD (cl i) .none=vs.getD i .none;rw[hin i hi]
 ·have hlen2:u.arr.toList.length=vs.length:=by rw[hp2.length_eq,List.length_range]
  rw[List.pairwise_iff_getElem];intro i j hi hj hij;rw[List.length_map]at hi hj;have hs':=hs i j (by omega) (by omega)
  have kk:∀k (hk:k<u.arr.toList.length),KK intKind (arrOf (dA X.e2 u)) k=(pJ ks (ky u.arr.toList[k]):Int):=λk hk=>by
   have :(arrOf (dA X.e2 u))[k]? =some (X.e2 u.arr.toList[k]):=by
    show(u.arr.map X.e2)[k]? =_
    rw[Array.getElem?_map,<-Array.getElem?_toList,List.getElem?_eq_getElem hk];rfl
   unfold KK;rw[this];rfl
  have hs2:decide ((pJ ks (ky u.arr.toList[j]):Int)<(pJ ks (ky u.arr.toList[i]):Int))=false:=by
   rw[<-kk j hj,<-kk i hi];exact hs'
  rw[<-tS (hky _) (hky _)]at hs2;rw[List.getElem_map,List.getElem_map]
  have ej:ky u.arr.toList[j]=ks.getD u.arr.toList[j] []:=by
   show ks.getD (cl _) []=_;rw[hin _ (List.getElem_mem hj)]
  have ei:ky u.arr.toList[i]=ks.getD u.arr.toList[i] []:=by
   show ks.getD (cl _) []=_;rw[hin _ (List.getElem_mem hi)]
  rw[<-ej,<-ei];exact hs2
end Cr
namespace Cr
open PySem PyProof.Rows PySem.W
section
variable{prog:Program}{w:World}{A:Around}{E:Value->Shared->Prop}{s:Shared}
theorem x9{s s':Shared}(k:∀b o,s.heap.get? b=some o->s'.heap.get? b=some o){v:Value}{ns:List Int}(h:iY s v ns):iY s' v ns:=by
 obtain⟨a,xs,n,e,o,i⟩:=h;exact⟨a,xs,n,e,k _ _ o,i⟩
def vE(vs:List Value)(ks:List (List Int))(out:Array Value):Prop:=
 ∃u:List Nat,out=(u.map λi=>vs.getD i .none).toArray/\u.Perm (List.range vs.length)/\(u.map λi=>ks.getD i []).Pairwise (λa b=>HT.lexLt b a=false)
theorem oI{α:Type}(l:List α)(d:α):((List.range l.length).map λi=>l.getD i d)=l:=by
 apply List.ext_getElem?
 intro i;by_cases hi:i<l.length
 ·simp[hi]
 ·rw[List.getElem?_eq_none (by simp;omega),List.getElem?_eq_none (by omega)]
theorem ya{a:Addr}{vs:List Value}{ks:List (List Int)}{n:Nat}{R:PySem.Fin->Shared->Prop}(hu:A.units<cLine)(oa:s.heap.get? a=some (seqObj "list" vs.toArray n))(hk:Paired (iY s) vs ks)(hne:∀v∈vs,v≠ .ref a)(hL:vs.length<=sizeLine)
  (fin:∀out,vE vs ks out->R (.done (.ret .none)) {s with heap:=sortedHeap s.heap a vs out}):wpAny (model prog w) A (Builtin.«list.sort» ⟨[.ref a],[]⟩) R E s:=by
 have hz:=hL;rw[sizeLine_eq]at hz;have lta:a<s.heap.objs.size:=Heap.lt_size oa;have vsz:vs.toArray.size=vs.length:=by simp
 rw[list_sort_plain];refine wpAny_bind (listItems_at oa rfl (wpAny_bind (listUpdate_at oa rfl ?_)));obtain⟨k1,oa1⟩:∃k1,(s.heap.update a (Obj.mapSeq λ_=>#[])).get? a=some (seqObj "list" #[] k1):=⟨_,get?_update_seq oa λ_=>#[]⟩;refine wpAny_bind (seqEpoch_at oa1 rfl (wpAny_bind (wpAny_newTuple (wpAny_bind (wpAny_newList (wpAny_holding ?_))))));generalize hh:((s.heap.update a (Obj.mapSeq λ_=>#[])).push (seqObj "tuple" vs.toArray 0)).push (seqObj "list" #[] 0)=h6
 have oa6:h6.get? a=some (seqObj "list" #[] k1):=by
  rw[<-hh,Heap.get?_push_ne _ _ _ (by rw[size_push',Heap.size_update];exact Nat.ne_of_lt (Nat.lt_succ_of_lt lta)),Heap.get?_push_ne _ _ _ (by rw[Heap.size_update];exact Nat.ne_of_lt lta)];exact oa1
 have keep:∀b o,b≠a->s.heap.get? b=some o->h6.get? b=some o:=λb o hb ob=>by
  have ltb:=Heap.lt_size ob;rw[<-hh,Heap.get?_push_ne _ _ _ (by rw[size_push',Heap.size_update];exact Nat.ne_of_lt (Nat.lt_succ_of_lt ltb)),Heap.get?_push_ne _ _ _ (by rw[Heap.size_update];exact Nat.ne_of_lt ltb),Heap.get?_update_ne _ _ _ _ hb];exact ob
 show wpAny (model prog w) A _ R E {s with heap:=h6};dsimp only;by_cases c2:vs.toArray.size<2
 ·rw[if_pos c2,if_pos c2];refine wpAny_bind (wpAny_pure ?_);rw[StateT.run_pure];refine wpAny_bind (wpAny_pure ?_);dsimp only;refine wpAny_bind (seqEpoch_at oa6 rfl (wpAny_bind (listUpdate_at oa6 rfl ?_ (hsz2:=by rw[Array.size_map];show(pairsOf vs).size<=_;rw[pairsOf_size,sizeLine_eq];omega))));simp only[bne_self_eq_false,Bool.false_eq_true,if_false];rw[<-hh];refine wpAny_pure (fin _ ⟨List.range vs.length,?_,List.Perm.refl _,?_⟩)
  ·rw[oI];apply Array.toList_inj.mp;rw[Array.toList_map];show(pairsOf vs).toList.map (·.2)=vs;rw[pairsOf_toList,List.map_snd_zip];exact Nat.le_refl _
  ·rw[vsz]at c2;rw[List.pairwise_iff_getElem];intro i j hi hj hij;simp at hi hj;omega
 ·rw[if_neg c2,if_neg c2];rw[vsz]at c2
  have hk6:Paired (iY {s with heap:=h6}) vs ks:=by
   have gen:∀{l:List Value} {m:List (List Int)},Paired (iY s) l m->(∀v∈l,v≠ .ref a)->Paired (iY {s with heap:=h6}) l m:=by
    intro l m q;induction q with
    |nil=>intro _;exact .nil
    |cons hh _ ih=>
     intro hv;obtain⟨b,xs,m',e,o,i⟩:=hh;exact .cons ⟨b,xs,m',e,keep b _ (λq=>hv _ List.mem_cons_self (by rw[e,q])) o,i⟩ (ih λv hm=>hv v (List.mem_cons_of_mem _ hm))
   exact gen hk hne
  have hty:∀v∈vs,Looks (model prog w) h6 (typeOf v) (.type "list"):=λv hv=>by
   obtain⟨i,hi⟩:=List.mem_iff_getElem?.mp hv;obtain⟨k,_,b,xs,m',e,o,_⟩:=L2.bS hk6 hi;rw[e];exact kitAt_ty _ _ ⟨_,o,rfl⟩
  refine wpAny_bind (kas_kind (T:= .type "list") (by omega) hty (by decide) (by decide) ?_);refine wpAny_bind (wpAny_mono (vD (vs:=vs) (ks:=ks) (s:={s with heap:=h6}) (Q:=λ_ st=>failedOf st=none/\vE vs ks ((arrOf st).map (·.2))) hu hk6 (by omega) λst u hf he hp hs=>⟨hf,u,he,hp,hs⟩) ?_ λ_ _ e=>e);rintro ⟨⟨⟩,st⟩ s' ⟨rfl,hf,hs⟩;dsimp only at hf hs⊢
  have hsz:((arrOf st).map (·.2)).size=vs.length:=by
   obtain⟨u,e,hp,_⟩:=hs;rw[e];simp[hp.length_eq]
  refine wpAny_bind (seqEpoch_at oa6 rfl (wpAny_bind (listUpdate_at oa6 rfl ?_ (hsz2:=by show((arrOf st).map (·.2)).size<=_;rw[hsz,sizeLine_eq];omega))));rw[hf];simp only[bne_self_eq_false,Bool.false_eq_true,if_false];rw[<-hh];exact wpAny_pure (fin _ hs)
end
end Cr
namespace Cr
open PySem PyProof.Rows PySem.W
theorem rV{prog:Program}{w:World}{A:Around}{E:Value->Shared->Prop}{s:Shared}{l:Addr}{vs:List Value}{ks:List (List Int)}{Q:Value->Shared->Prop}(hu:A.in1.in1.units<cLine)(hl:s.heap.IsList l vs.toArray)(hk:Paired (iY s) vs ks)(hL:vs.length<=sizeLine)
  (fin:∀out,vE vs ks out->Q (.ref (s.heap.objs.size+1)) {s with heap:=sortedAll s.heap vs out}):wpAny (model prog w) A (call (.builtin "sorted") [.ref l]) Q E s:=by
 refine Calls.call_function_entry kind_sorted plain_sorted entry_sorted (args_sorted1 _) ?_;unfold Builtin.«sorted»;refine wpAny_bind (m:=checkCount "sorted" 1 1 _) (wpAny_pure (wpAny_bind (collect_list hl (wpAny_bind (wpAny_newList ?_)))));generalize g1:(s.heap.push (seqObj "list" #[] 0)).update s.heap.objs.size (Obj.mapSeq (· ++vs.toArray))=h1;have z1:h1.objs.size=s.heap.objs.size+1:=by rw[<-g1,Heap.size_update,size_push']
 have keep1:∀b o,s.heap.get? b=some o->h1.get? b=some o:=λb o ob=>by
  have ltb:=Heap.lt_size ob;rw[<-g1,Heap.get?_update_ne _ _ _ _ (Nat.ne_of_lt ltb),Heap.get?_push_ne _ _ _ (Nat.ne_of_lt ltb)];exact ob
 have oL:(h1.push (seqObj "list" vs.toArray 0)).get? (s.heap.objs.size+1)=some (seqObj "list" vs.toArray 0):=by
  rw[<-z1];exact Heap.get?_push_size _ rfl
 have keep2:∀b o,s.heap.get? b=some o->(h1.push (seqObj "list" vs.toArray 0)).get? b=some o:=λb o ob=>Heap.get?_push_of_some _ (keep1 b o ob)
 show wpAny _ _ _ _ _ {s with heap:=h1.push (seqObj "list" vs.toArray 0)};rw[z1];have hk2:Paired (iY {s with heap:=h1.push (seqObj "list" vs.toArray 0)}) vs ks:=L2.Paired.mapP hk λv ns h=>x9 (s':={s with heap:=h1.push (seqObj "list" vs.toArray 0)}) keep2 h
 refine wpAny_bind (wpAny_holding (wpAny_call_entry slot_list_sort ⟨_,oL,rfl⟩ entry_list_sort (ya hu oL hk2 (λv hv e=> ?_) hL λout so=>⟨_,rfl,?_⟩) (args_list_sort _)))
 ·obtain⟨i,hi⟩:=List.mem_iff_getElem?.mp hv;obtain⟨k,_,b,xs,m',e',o,_⟩:=L2.bS hk hi;rw[e']at e;cases e;exact absurd (Heap.lt_size o) (Nat.not_lt.mpr (Nat.le_succ _))
 ·refine wpAny_pure ⟨_,rfl,?_⟩;have :=fin out so;unfold sortedAll at this;rw[g1]at this;exact this
end Cr
namespace Cr
open PySem PySem.Spec PyProof.Rows L2
def zV:V->Hp->VK->Prop:=λx H Q=>∃(a:Addr) (xs:List V) (ks:List (List Int)) (R:V->List Int->Prop),x= .ref a/\H a=some (.lst xs)/\Paired R xs ks/\(∀v ns,R v ns->∃b,v=V.ref b/\H b=some (.lst (ns.map V.int)))/\
 ∀(p:Addr) (ys:List V) (ms:List (List Int)),H p=none->Paired R ys ms->ms.Perm ks->ms.Pairwise (λa b=>HT.lexLt b a=false)->Q (.ref p) (aJ H p (.lst ys))
theorem iZ{α β:Type}{R:α->β->Prop}{xs:List α}{ks:List β}(h:Paired R xs ks)(d:α)(e:β):∀{u:List Nat},(∀i,i∈u->i<xs.length)->Paired R (u.map λi=>xs.getD i d) (u.map λi=>ks.getD i e)
 |[],_=> .nil
 |i::u,hi=>by
  have h1:xs[i]? =some (xs.getD i d):=by
   have :=hi i List.mem_cons_self;rw[List.getD_eq_getElem?_getD,List.getElem?_eq_getElem this];rfl
  obtain⟨k,hk,r⟩:=bS h h1;have e2:ks.getD i e=k:=by rw[List.getD_eq_getElem?_getD,hk];rfl
  refine .cons (by show R (xs.getD i d) (ks.getD i e);rw[e2];exact r) (iZ h d e λj hj=>hi j (List.mem_cons_of_mem _ hj))
theorem zW{X:Cx}{k:Nat}(hr:Room k X.A):dB X (.builtin "sorted") (λvs H Q=>∃x,vs=[x]/\zV x H Q):=by
 intro pins s σ H xs us Q I r h;obtain⟨x,rfl,a,xs,ks,R,rfl,ha,hp,hR,q⟩:=h;obtain⟨u,rfl,ru⟩:=iz r;cases ru;obtain⟨z,its,n,rv,hlen,oa⟩:=I.lstM ha
 have hk:∀{xs:List V} {its:List Value} {ks:List (List Int)},aW xs its->Paired (λv ns=>∃b,v=V.ref b/\H b=some (.lst (ns.map V.int))) xs ks->Paired (iY s) its ks:=by
  intro xs its ks v;induction v generalizing ks with
  |nil=>intro p;cases p;exact .nil
  |cons rr _ ih=>
   intro p;cases p with
   |cons p1 p2=>
    obtain⟨b,rfl,hb⟩:=p1;obtain rfl:=(show _=Value.ref b from rr);obtain⟨_,jts,m,rj,_,ob⟩:=I.lstM hb;exact .cons ⟨b,jts.toArray,m,rfl,ob,by simpa using rj.ints⟩ (ih p2)
 have hk0:=hk rv (Paired.mapP hp hR);refine rV (by have :=hr.un;show X.A.units+1+1<_;omega) ⟨_,oa,rfl,n,rfl⟩ hk0 (by rw[<-hlen];exact z) λout so=> ?_
 obtain⟨u,rfl,up,us⟩:=so;obtain⟨ep,he'⟩:=PyProof.Rows.sortedAll_at s.heap its (u.map λi=>its.getD i .none).toArray;have ul:u.length=its.length:=by simpa using up.length_eq
 have lt:∀i,i∈u->i<xs.length:=λi hi=>by rw[hlen];exact List.mem_range.mp (up.mem_iff.mp hi)
 have kl:ks.length=its.length:=by rw[<-hlen];exact(Paired.length hp).symm
 refine⟨.ref _,aJ H (s.heap.objs.size+1) (.lst (u.map λi=>xs.getD i .non)),I.laid (t':=s.toks) (λ_ _=>PyProof.Rows.sortedAll_old) (Nat.le_succ _) ⟨by simpa [ul,<-hlen]using z,_,ep,iZ (R:=be) rv .non .none lt,he'⟩,rfl,q _ _ _ (I.hok.fresh (Nat.le_succ _)) (iZ hp .non [] lt) ?_ us⟩;have :=up.map λi=>ks.getD i []
 rw[<-kl,oI]at this;exact this
end Cr
namespace Cr
open PySem PySem.Spec PyProof.Rows L2
structure bc(S:List Addr)(F H F1 H1:Hp):Prop where
 f0:aH F H
 ff:aH F F1
 fh:aH F1 H1
 hx:∀a o,H a=some o->a∉S->H1 a=some o
 hs:∀a o,H a=some o->∃o1,H1 a=some o1
 sp:∀a o,H a=some o->F a=none->F1 a=none
section
variable{S S':List Addr}{F H F1 H1 F2 H2:Hp}{l:Addr}{o:HO}
theorem bo.x(e:bo F H F1 H1):bc S F H F1 H1:=⟨e.f0,e.ff,e.fh,λa o h _=>e.hh a o h,λa o h=>⟨o,e.hh a o h⟩,e.sp⟩
theorem bc.trans(a:bc S F H F1 H1)(b:bc S F1 H1 F2 H2):bc S F H F2 H2:=
 ⟨a.f0,a.ff.trans b.ff,b.fh,λc u q n=>b.hx c u (a.hx c u q n) n,λc u q=>let⟨u1,q1⟩:=a.hs c u q;b.hs c u1 q1,λc u q n=>let⟨u1,q1⟩:=a.hs c u q;b.sp c u1 q1 (a.sp c u q n)⟩
theorem bc.mono(a:bc S F H F1 H1)(h:∀x,x∈S->x∈S'):bc S' F H F1 H1:=⟨a.f0,a.ff,a.fh,λc u q n=>a.hx c u q λz=>n (h c z),a.hs,a.sp⟩
theorem bc.free(a:bc S F H F1 H1)(h:H1 l=none):H l=none:=by
 cases q:H l with
 |none=>rfl
 |some u=>
  obtain⟨u1,q1⟩:=a.hs l u q;rw[h]at q1;cases q1
theorem bc.ext(a:bc [] F H F1 H1):bo F H F1 H1:=⟨a.f0,a.ff,a.fh,λc u q=>a.hx c u q (by simp),a.sp⟩
theorem bc.wr(x:bc S F H F1 H1)(n:l∈S\/H l=none)(f:F1 l=none):bc S F H F1 (aJ H1 l o):=by
 refine⟨x.f0,x.ff,aH.updn x.fh f,λa u q z=> ?_,λa u q=> ?_,x.sp⟩
 ·rw[aj]
  ·exact x.hx a u q z
  ·rintro rfl
   rcases n with n|n
   ·exact z n
   ·rw[n]at q;cases q
 ·by_cases e:a=l
  ·subst e;exact⟨o,aa⟩
  ·rw[aj e];exact x.hs a u q
theorem bc.new(x:bc S F H F1 H1)(n:H1 l=none):bc S F H F1 (aJ H1 l o):=x.wr (.inr (x.free n)) (x.fh.free n)
theorem bc.frz(x:bc S F H F1 H1)(n:H l=none)(e:H1 l=some o)(f:F1 l=none):bc S F H (aJ F1 l o) H1:=by
 refine⟨x.f0,aH.updn x.ff (x.f0.free n),λb u q=> ?_,x.hx,x.hs,λa u q z=> ?_⟩
 ·by_cases hb:b=l
  ·subst hb;rw[aa]at q;cases q;exact e
  ·rw[aj hb]at q;exact x.fh b u q
 ·rw[aj (az q n)];exact x.sp a u q z
theorem bc.newF(x:bc S F H F1 H1)(n:H1 l=none):bc S F H (aJ F1 l o) (aJ H1 l o):=(x.new n).frz (x.free n) aa (x.fh.free n)
theorem bc.refl(h:aH F H):bc S F H F H:=(bo.refl h).x
end
def nk(t:ai):List bG:=t.map λ(n:Nat)=>(Sum.inl (n:Int):bG)
theorem bX(t:ai):(nk t).map kV=(zs t).map V.int:=by simp[nk,zs,kV]
theorem gZ{a b:ai}(h:nk a=nk b):a=b:=by
 have :=congrArg (List.map kV) h;rw[bX,bX]at this;exact vb (le this)
theorem Ed{a b:ai}:nk a=nk b↔a=b:=⟨gZ,λh=>by rw[h]⟩
def lf(C:Cs)(F:Hp)(v:V)(f:Vabldi.File):Prop:=∃a dx vd vm,v= .ref a/\F a=some (.ins C.File dx [("data",vd),("made_by",vm)])/\dk F vd f.bytes/\(match f.maker with
 |none=>vm= .non
 |some m=>gI F vm m)
def lV(C:Cs)(F:Hp)(v:V)(a:Vabldi.Action):Prop:=∃p dx va vi vo,v= .ref p/\F p=some (.ins C.Action dx [("tool",.int a.tool),("arguments",va),("inputs",vi),("outputs",vo)])/\cW F va a.arguments/\jZ F vi a.inputs/\jZ F vo a.outputs
def tT:Vabldi.Outcome->Nat
 | .ok _=>0
 | .error e=>e.code
def wN:Vabldi.Outcome->ai
 | .ok _=>[]
 | .error e=>e.name
def zX:Vabldi.Outcome->List ai
 | .ok r=>r
 | .error _=>[]
def lg(C:Cs)(F:Hp)(v:V)(o:Vabldi.Outcome)(rd:List ai):Prop:=∃p dx vu vo vr,v= .ref p/\F p=some (.ins C.Outcome dx [("code",.int (tT o)),("undeclared",vu),("outputs",vo),("read",vr)])/\gI F vu (wN o)/\cW F vo (zX o)/\jZ F vr rd
section
variable{C:Cs}{F F':Hp}{v:V}
theorem lf.mono{f:Vabldi.File}(h:lf C F v f)(e:aH F F'):lf C F' v f:=by
 obtain⟨a,dx,vd,vm,h1,h2,h3,h4⟩:=h;refine⟨a,dx,vd,vm,h1,e _ _ h2,h3.mono e,?_⟩;revert h4;cases f.maker with
 |none=>exact id
 |some m=>exact λh=>gI.mono h e
theorem lV.mono{a:Vabldi.Action}(h:lV C F v a)(e:aH F F'):lV C F' v a:=by
 obtain⟨p,dx,va,vi,vo,h1,h2,h3,h4,h5⟩:=h;exact⟨p,dx,va,vi,vo,h1,e _ _ h2,bW h3 e,bH h4 e,bH h5 e⟩
theorem lg.mono{o:Vabldi.Outcome}{rd:List ai}(h:lg C F v o rd)(e:aH F F'):lg C F' v o rd:=by
 obtain⟨p,dx,va,vi,vo,h1,h2,h3,h4,h5⟩:=h;exact⟨p,dx,va,vi,vo,h1,e _ _ h2,h3.mono e,bW h4 e,bH h5 e⟩
end
def zY(f:Vabldi.File):Prop:=Vabldi.isName f.name=true/\f.bytes.length<=4096/\∀m,f.maker=some m->Vabldi.isName m=true
structure eQ(a:Vabldi.Action):Prop where
 nm:Vabldi.isName a.name=true
 tl:a.tool<14
 ar:a.arguments.length<=4
 al:∀x∈a.arguments,x.length<=64
 il:a.inputs.length<=8
 ol:a.outputs.length<=8
 o1:1<=a.outputs.length
 nn:∀x∈a.inputs++a.outputs,Vabldi.isName x=true
 nd:(a.inputs++a.outputs).Nodup
def Ee(C:Cs)(F:Hp)(kvs:List (List bG×V))(fs:List Vabldi.File):Prop:=∃l,Paired (λ(kv:List bG×V) (f:Vabldi.File)=>kv.1=nk f.name/\lf C F kv.2 f) kvs l/\l.Perm fs
def FP(C:Cs)(F:Hp)(kvs:List (List bG×V))(as:List Vabldi.Action):Prop:=∃l,Paired (λ(kv:List bG×V) (f:Vabldi.Action)=>kv.1=nk f.name/\lV C F kv.2 f) kvs l/\l.Perm as
structure Ef(s:Vabldi.State):Prop where
 fg:∀f∈s.files,zY f
 fo:(s.files.map (·.name)).Pairwise λa b=>Vabldi.textBefore a b=true
 fl:s.files.length<=64
 ag:∀a∈s.actions,eQ a
 an:(s.actions.map (·.name)).Nodup
 al:s.actions.length<=32
structure aQ(C:Cs)(F H:Hp)(R df da:Addr)(s:Vabldi.State):Prop where
 dx:∃d,F R=some (.ins C.Room d [("files",.ref df),("actions",.ref da)])
 ff:F df=none
 fa:F da=none
 ne:df≠da
 fs:∃kvs,H df=some (.dT kvs)/\Ee C F kvs s.files
 as:∃kvs,H da=some (.dT kvs)/\FP C F kvs s.actions
 gd:Ef s
section
variable{P:Program}{w:World}{K:PySem.W.Frag}{mg:Str->Option Value}{base:Heap}{C:Cs}
def rW(D:Addr)(ns:List Str):Sp:=λvs H Q _=>∃(x dx:Addr) (us:List V),vs= .ref x::us/\us.length=ns.length/\H x=some (.ins D dx [])/\Q .non (aJ H x (.ins D dx (ns.zip us)))
theorem BY:aC ["self","data","made_by"] ["self","data","made_by"] (ao iS):=⟨rfl,rfl,rfl,by decide+kernel,rfl,by decide+kernel,by decide+kernel⟩
theorem wO(T:Tx K mg C):C4 P w K mg base C.File ["self","data","made_by"] 1 (rW C.File ["data","made_by"]):=by
 refine T.i_File.ok BY (λvs H Q E h=>by obtain⟨x,dx,us,e,l,_⟩:=h;rw[e];simpa using l) (λf cdv A outer s H vs Q E hr h=> ?_);obtain⟨x,dx,us,rfl,l,hx,k⟩:=h;obtain⟨a,b,rfl⟩:∃a b,us=[a,b]:=match us,l with |[a,b],_=>⟨a,b,rfl⟩
 refine⟨_,ae (dh (pv 0) (pv 1) rfl) (ah (dh (pv 0) (pv 2) rfl)),?_⟩;refine⟨_,rfl,_,rfl,x,C.File,dx,_,rfl,hx,T.k_File.cl,T.n_File_data,(show(0:Nat)<1000 by decide),?_⟩;refine⟨_,rfl,_,rfl,x,C.File,dx,_,rfl,aa,T.k_File.cl,T.n_File_made_by,(show(1:Nat)<1000 by decide),?_⟩;rw[bN];exact k
theorem yb:aC ["self","tool","arguments","inputs","outputs"] ["self","tool","arguments","inputs","outputs"] (ao fN):=⟨rfl,rfl,rfl,by decide+kernel,rfl,by decide+kernel,by decide+kernel⟩
theorem yc(T:Tx K mg C):C4 P w K mg base C.Action ["self","tool","arguments","inputs","outputs"] 1 (rW C.Action ["tool","arguments","inputs","outputs"]):=by
 refine T.i_Action.ok yb (λvs H Q E h=>by obtain⟨x,dx,us,e,l,_⟩:=h;rw[e];simpa using l) (λf cdv A outer s H vs Q E hr h=> ?_);obtain⟨x,dx,us,rfl,l,hx,k⟩:=h;obtain⟨a,b,c,d,rfl⟩:∃a b c d,us=[a,b,c,d]:=match us,l with |[a,b,c,d],_=>⟨a,b,c,d,rfl⟩
 refine⟨_,ae (dh (pv 0) (pv 1) rfl) (ae (dh (pv 0) (pv 2) rfl) (ae (dh (pv 0) (pv 3) rfl) (ah (dh (pv 0) (pv 4) rfl)))),?_⟩;refine⟨_,rfl,_,rfl,x,C.Action,dx,_,rfl,hx,T.k_Action.cl,T.n_Action_tool,(show(0:Nat)<1000 by decide),?_⟩;refine⟨_,rfl,_,rfl,x,C.Action,dx,_,rfl,aa,T.k_Action.cl,T.n_Action_arguments,(show(1:Nat)<1000 by decide),?_⟩;refine⟨_,rfl,_,rfl,x,C.Action,dx,_,rfl,aa,T.k_Action.cl,T.n_Action_inputs,(show(2:Nat)<1000 by decide),?_⟩;refine⟨_,rfl,_,rfl,x,C.Action,dx,_,rfl,aa,T.k_Action.cl,T.n_Action_outputs,(show(3:Nat)<1000 by decide),?_⟩;rw[bN,bN,bN];exact k
theorem vF:aC ["self","code","undeclared","outputs","read"] ["self","code","undeclared","outputs","read"] (ao eI):=⟨rfl,rfl,rfl,by decide+kernel,rfl,by decide+kernel,by decide+kernel⟩
theorem kg(T:Tx K mg C):C4 P w K mg base C.Outcome ["self","code","undeclared","outputs","read"] 1 (rW C.Outcome ["code","undeclared","outputs","read"]):=by
 refine T.i_Outcome.ok vF (λvs H Q E h=>by obtain⟨x,dx,us,e,l,_⟩:=h;rw[e];simpa using l) (λf cdv A outer s H vs Q E hr h=> ?_);obtain⟨x,dx,us,rfl,l,hx,k⟩:=h;obtain⟨a,b,c,d,rfl⟩:∃a b c d,us=[a,b,c,d]:=match us,l with |[a,b,c,d],_=>⟨a,b,c,d,rfl⟩
 refine⟨_,ae (dh (pv 0) (pv 1) rfl) (ae (dh (pv 0) (pv 2) rfl) (ae (dh (pv 0) (pv 3) rfl) (ah (dh (pv 0) (pv 4) rfl)))),?_⟩;refine⟨_,rfl,_,rfl,x,C.Outcome,dx,_,rfl,hx,T.k_Outcome.cl,T.n_Outcome_code,(show(0:Nat)<1000 by decide),?_⟩;refine⟨_,rfl,_,rfl,x,C.Outcome,dx,_,rfl,aa,T.k_Outcome.cl,T.n_Outcome_undeclared,(show(1:Nat)<1000 by decide),?_⟩;refine⟨_,rfl,_,rfl,x,C.Outcome,dx,_,rfl,aa,T.k_Outcome.cl,T.n_Outcome_outputs,(show(2:Nat)<1000 by decide),?_⟩;refine⟨_,rfl,_,rfl,x,C.Outcome,dx,_,rfl,aa,T.k_Outcome.cl,T.n_Outcome_read,(show(3:Nat)<1000 by decide),?_⟩;rw[bN,bN,bN];exact k
theorem BZ:aC ["self"] ["self"] (ao iU):=⟨rfl,rfl,rfl,by decide+kernel,rfl,by decide+kernel,by decide+kernel⟩
def B0(D:Addr):Sp:=λvs H Q _=>∃(x dx:Addr),vs=[.ref x]/\H x=some (.ins D dx [])/\∀df da,H df=none->H da=none->df≠da->df≠x->da≠x->Q .non (aJ (aJ (aJ H df (.dT [])) da (.dT [])) x (.ins D dx [("files",.ref df),("actions",.ref da)]))
theorem i3{H:Hp}{a b:Addr}{o p:HO}(h:a≠b):aJ (aJ H a o) b p=aJ (aJ H b p) a o:=by
 funext c
 unfold aJ;by_cases e:c=a
 ·subst e;rw[if_neg h,if_pos rfl,if_pos rfl]
 ·rw[if_neg e,if_neg e]
theorem B1(T:Tx K mg C):C4 P w K mg base C.Room ["self"] 1 (B0 C.Room):=by
 refine T.i_Room.ok BZ (λvs H Q E ⟨x,dx,e,_⟩=>by rw[e];rfl) (λf cdv A outer s H vs Q E hr h=> ?_);obtain⟨x,dx,rfl,hx,k⟩:=h;refine⟨_,ae (dh (pv 0) kF rfl) (ah (dh (pv 0) kF rfl)),?_⟩;intro df hdf;have n1:x≠df:=az hx hdf;refine⟨_,rfl,x,C.Room,dx,[],rfl,by rw[aj n1];exact hx,T.k_Room.cl,T.n_Room_files,(show(0:Nat)<1000 by decide),?_⟩;intro da hda;have n2:x≠da:=az aa hda;have n3:df≠da:=az (by rw[aj n1.symm,aa]) hda;refine⟨_,rfl,x,C.Room,dx,[("files",.ref df)],rfl,by rw[aj n2];exact aa,T.k_Room.cl,T.n_Room_actions,(show(1:Nat)<1000 by decide),?_⟩;rw[i3 (a:=x) (b:=da) n2,bN];refine k df da hdf ?_ n3 n1.symm n2.symm;rw[aj n2.symm,aj n3.symm]at hda;exact hda
theorem yd:aC ["self","numbers"] ["self","numbers"] (ao fO):=⟨rfl,rfl,rfl,by decide+kernel,rfl,by decide+kernel,by decide+kernel⟩
def ye(D:Addr):Sp:=λvs H Q _=>∃(x dx:Addr) (v:V),vs=[.ref x,v]/\H x=some (.ins D dx [])/\Q .non (aJ H x (.ins D dx [("numbers",v),("place",.int 0)]))
theorem yf(T:Tx K mg C):C4 P w K mg base C.Reader ["self","numbers"] 1 (ye C.Reader):=by
 refine T.i_Reader.ok yd (λvs H Q E ⟨x,dx,v,e,_⟩=>by rw[e];rfl) (λf cdv A outer s H vs Q E hr h=> ?_);obtain⟨x,dx,v,rfl,hx,k⟩:=h;refine⟨_,ae (dh (pv 0) (pv 1) rfl) (ah (dh (pv 0) aG rfl)),?_⟩;refine⟨_,rfl,_,rfl,x,C.Reader,dx,_,rfl,hx,T.k_Reader.cl,T.n_Reader_numbers,(show(0:Nat)<1000 by decide),?_⟩;refine⟨_,rfl,x,C.Reader,dx,_,rfl,aa,T.k_Reader.cl,T.n_Reader_place,(show(1:Nat)<1000 by decide),?_⟩;rw[bN];exact k
theorem bo.newI{F H F1 H1:Hp}{x dx D:Addr}{fs:List (Str×V)}(e:bo F H F1 H1)(nx:H1 x=none)(nd:H1 dx=none)(ne:dx≠x):bo F H (aJ F1 x (.ins D dx fs)) (aJ (aJ (aJ H1 dx (.own x)) x (.ins D dx [])) x (.ins D dx fs)):=by
 rw[bN];exact(e.new nd).newF (by rw[aj ne.symm];exact nx)
theorem bc.newI{S:List Addr}{F H F1 H1:Hp}{x dx D:Addr}{fs:List (Str×V)}(e:bc S F H F1 H1)(nx:H1 x=none)(nd:H1 dx=none)(ne:dx≠x):bc S F H (aJ F1 x (.ins D dx fs)) (aJ (aJ (aJ H1 dx (.own x)) x (.ins D dx [])) x (.ins D dx fs)):=by
 rw[bN];exact(e.new nd).newF (by rw[aj ne.symm];exact nx)
theorem B2:aC ["outputs","read"] ["outputs","read"] (ao zJ):=⟨rfl,rfl,rfl,by decide+kernel,rfl,by decide+kernel,by decide+kernel⟩
def wP(C:Cs):Sp:=λvs H Q _=>∃(F:Hp) (vo vr:V) (outs rd:List ai),vs=[vo,vr]/\cW F vo outs/\jZ F vr rd/\aH F H/\Rt F H Q λF1 u=>lg C F1 u (.ok outs) rd
theorem aI{F:Hp}{a:Addr}{o:HO}(h:F a=none):aH F (aJ F a o):=aH.updn (aH.refl _) h
theorem ca(T:Tx K mg C):Ok P w K mg base "made" ["outputs","read"] 3 (wP C):=by
 refine T.d_made.ok B2 (λvs H Q E h=>by obtain⟨_,_,_,_,_,e,_⟩:=h;rw[e];rfl) (λf cdv A outer s H vs Q E hr h=> ?_);obtain⟨F,vo,vr,outs,rd,rfl,ho,hrd,f0,k⟩:=h;refine⟨_,ah (aq (og T.k_Outcome (kg T) hr (ab aG (ab (rh af) (ab (pv 0) (ab (pv 1) af)))))),?_⟩;refine⟨by decide,λp hp=>⟨_,rfl,_,rfl,λx dx nx nd ne=>⟨x,dx,_,rfl,rfl,aa,rfl,?_⟩⟩⟩;have e1:bo F H (aJ F p (.tup [])) (aJ H p (.tup [])):=(bo.refl f0).newF hp;have s1:=aI (o:= .tup []) (f0.free hp);have s2:aH (aJ F p (.tup [])) (aJ (aJ F p (.tup [])) x (.ins C.Outcome dx [("code",.int 0),("undeclared",.ref p),("outputs",vo),("read",vr)])):=aI (e1.fh.free nx);exact k _ _ _ (e1.newI nx nd ne) ⟨x,dx,.ref p,vo,vr,rfl,aa,⟨p,rfl,s2 _ _ aa⟩,bW ho (s1.trans s2),bH hrd (s1.trans s2)⟩
theorem yg:aC ["code","read"] ["code","read"] (ao tw):=⟨rfl,rfl,rfl,by decide+kernel,rfl,by decide+kernel,by decide+kernel⟩
def qu(C:Cs):Sp:=λvs H Q _=>∃(F:Hp) (n:Nat) (vr:V) (rd:List ai),vs=[.int n,vr]/\jZ F vr rd/\aH F H/\Rt F H Q λF1 u=>lg C F1 u (.error {code:=n}) rd
theorem bL(T:Tx K mg C):Ok P w K mg base "failed" ["code","read"] 3 (qu C):=by
 refine T.d_failed.ok yg (λvs H Q E h=>by obtain⟨_,_,_,_,e,_⟩:=h;rw[e];rfl) (λf cdv A outer s H vs Q E hr h=> ?_);obtain⟨F,n,vr,rd,rfl,hrd,f0,k⟩:=h;refine⟨_,ah (aq (og T.k_Outcome (kg T) hr (ab (pv 0) (ab (rh af) (ab (aL af) (ab (pv 1) af)))))),?_⟩;refine⟨_,rfl,by decide,λp hp=>⟨by decide,λq hq=>⟨_,rfl,λx dx nx nd ne=>⟨x,dx,_,rfl,rfl,aa,rfl,?_⟩⟩⟩⟩;have e1:bo F H (aJ F p (.tup [])) (aJ H p (.tup [])):=(bo.refl f0).newF hp;have e2:bo F H (aJ (aJ F p (.tup [])) q (.lst [])) (aJ (aJ H p (.tup [])) q (.lst [])):=e1.newF hq;have s1:=aI (o:= .tup []) (f0.free hp);have s2:=aI (o:= .lst []) (e1.fh.free hq);have s3:=aI (o:= .ins C.Outcome dx [("code",.int n),("undeclared",.ref p),("outputs",.ref q),("read",vr)]) (e2.fh.free nx);exact k _ _ _ (e2.newI nx nd ne) ⟨x,dx,.ref p,.ref q,vr,rfl,aa,⟨p,rfl,s3 _ _ (s2 _ _ aa)⟩,⟨q,[],rfl,s3 _ _ aa,.nil⟩,bH hrd ((s1.trans s2).trans s3)⟩
theorem i4:aC ["name","read"] ["name","read"] (ao d8):=⟨rfl,rfl,rfl,by decide+kernel,rfl,by decide+kernel,by decide+kernel⟩
def i5(C:Cs):Sp:=λvs H Q _=>∃(F:Hp) (v:V) (t:ai) (vr:V) (rd:List ai),vs=[v,vr]/\gI F v t/\jZ F vr rd/\aH F H/\Rt F H Q λF1 u=>lg C F1 u (.error {code:=3,name:=t}) rd
theorem dO(T:Tx K mg C):Ok P w K mg base "failed_undeclared" ["name","read"] 3 (i5 C):=by
 refine T.d_failed_undeclared.ok i4 (λvs H Q E h=>by obtain⟨_,_,_,_,_,e,_⟩:=h;rw[e];rfl) (λf cdv A outer s H vs Q E hr h=> ?_);obtain⟨F,v,t,vr,rd,rfl,hv,hrd,f0,k⟩:=h;refine⟨_,ah (aq (og T.k_Outcome (kg T) hr (ab (aV T.g_UNDECLARED) (ab (pv 0) (ab (aL af) (ab (pv 1) af)))))),?_⟩;refine⟨_,rfl,by decide,λq hq=>⟨_,rfl,λx dx nx nd ne=>⟨x,dx,_,rfl,rfl,aa,rfl,?_⟩⟩⟩;have e2:bo F H (aJ F q (.lst [])) (aJ H q (.lst [])):=(bo.refl f0).newF hq;have s2:=aI (o:= .lst []) (f0.free hq);have s3:=aI (o:= .ins C.Outcome dx [("code",.int 3),("undeclared",v),("outputs",.ref q),("read",vr)]) (e2.fh.free nx);exact k _ _ _ (e2.newI nx nd ne) ⟨x,dx,v,.ref q,vr,rfl,aa,hv.mono (s2.trans s3),⟨q,[],rfl,s3 _ _ aa,.nil⟩,bH hrd (s2.trans s3)⟩
end
theorem zZ{c:TT}{tb:TS}{D:ip}{σ:St}{S:List Addr}{F0 H0 F H:Hp}(I:Nat->St->Hp->Hp->Prop)(x0:bc S F0 H0 F H)(h0:∃m,I m σ F H)
  (hs:∀m σ1 F1 H1,bc S F0 H0 F1 H1->aH F F1->I m σ1 F1 H1->c σ1 H1 λb H2=>if b=true then∃N:St->Hp->Prop,(∀σ' H',N σ' H'->∃m',m'<m/\∃F',bc S F0 H0 F' H'/\aH F F'/\I m' σ' F' H')/\tb {D with nx:=N,ct:=N,bk:=D.nx} σ1 H2 else D.nx σ1 H2):uM c tb D σ H:=by
 obtain⟨m,h0⟩:=h0;exact⟨λm σ1 H1=>∃F1,bc S F0 H0 F1 H1/\aH F F1/\I m σ1 F1 H1,⟨m,F,x0,aH.refl _,h0⟩,λm σ1 H1 ⟨F1,e1,s1,h1⟩=>hs m σ1 F1 H1 e1 s1 h1⟩
theorem z0{K:PySem.W.Frag}{a b:Addr}{xs ys:List V}{p q:Nat}{tb:TS}{D:ip}{σ:St}{S:List Addr}{F0 H0 F H:Hp}(I:Nat->St->Hp->Hp->Prop)(x0:bc S F0 H0 F H)(ha:F a=some (.lst xs))(hb:F b=some (.lst ys))(hl:xs.length=ys.length)(h0:I 0 σ F H)
  (hm:∀i σ1 F1 H1 T o,bc S F0 H0 F1 H1->H1 T=none->I i σ1 F1 H1->I i σ1 F1 (aJ H1 T o))
  (hs:∀i x y σ1 F1 H1,xs[i]? =some x->ys[i]? =some y->bc S F0 H0 F1 H1->aH F F1->I i σ1 F1 H1->tb {D with nx:=λσ' H'=>∃F',bc S F0 H0 F' H'/\aH F F'/\I (i+1) σ' F' H',ct:=λσ' H'=>∃F',bc S F0 H0 F' H'/\aH F F'/\I (i+1) σ' F' H',bk:=D.nx} ((σ1.set p (some x)).set q (some y)) H1)
  (hd:∀σ1 F1 H1,bc S F0 H0 F1 H1->aH F F1->I xs.length σ1 F1 H1->D.nx σ1 H1):
  ∃W:Nat->Nat->St->Hp->Prop,(∃m,W 0 m σ H)/\∀i m σ H,W i m σ H->
   ((FC K a b).stop i H/\D.nx σ H)\/((FC K a b).go i H/\∃N:St->Hp->Prop,(∀σ' H',N σ' H'->∃m',m'<m/\W (i+1) m' σ' H')/\∀x H',(FC K a b).yld i H x H'->Dv K 2 (sD (kq p) (sD (kq q) Du)) x σ H' λσ2 H2=>tb {D with nx:=N,ct:=N,bk:=D.nx} σ2 H2):=by
 refine⟨λi m σ1 H1=>m=xs.length-i/\i<=xs.length/\∃F1,bc S F0 H0 F1 H1/\aH F F1/\I i σ1 F1 H1,⟨xs.length,by simp,Nat.zero_le _,F,x0,aH.refl _,h0⟩,?_⟩;rintro i m σ1 H1 ⟨rfl,hi,F1,e1,s1,h1⟩;have qa:aZ K H1 a xs:=aZ.of (e1.fh _ _ (s1 _ _ ha));have qb:aZ K H1 b ys:=aZ.of (e1.fh _ _ (s1 _ _ hb));by_cases hlt:i<xs.length
 ·have hlt2:i<ys.length:=by omega
  refine .inr ⟨⟨xs,ys,xs[i],ys[i],qa,qb,by simp[hlt],by simp[hlt2]⟩,λσ' H'=>∃F',bc S F0 H0 F' H'/\aH F F'/\I (i+1) σ' F' H',λσ' H' z=>⟨xs.length-(i+1),by omega,rfl,hlt,z⟩,λx H' z=> ?_⟩;obtain⟨T,u,v,rfl,nT,rfl,hu,hv⟩:=z;refine⟨T,[u,v],rfl,jN.of aa,rfl,u,[v],rfl,v,[],rfl,rfl,?_⟩;exact hs i u v σ1 F1 _ (hu xs qa) (hv ys qb) (e1.new nT) s1 (hm i σ1 F1 H1 T _ e1 nT h1)
 ·have e:i=xs.length:=by omega
  subst e;exact .inl ⟨⟨xs,ys,qa,qb,.inl (Nat.le_refl _)⟩,hd σ1 F1 H1 e1 s1 h1⟩
theorem FQ{K:PySem.W.Frag}{a:Addr}{xs:List V}{p q:Nat}{tb:TS}{D:ip}{σ:St}{S:List Addr}{F0 H0 F H:Hp}(I:Nat->St->Hp->Hp->Prop)(x0:bc S F0 H0 F H)(ha:F a=some (.lst xs))(h0:I 0 σ F H)
  (hm:∀i σ1 F1 H1 T o,bc S F0 H0 F1 H1->H1 T=none->I i σ1 F1 H1->I i σ1 F1 (aJ H1 T o))
  (hs:∀i x σ1 F1 H1,xs[i]? =some x->bc S F0 H0 F1 H1->aH F F1->I i σ1 F1 H1->tb {D with nx:=λσ' H'=>∃F',bc S F0 H0 F' H'/\aH F F'/\I (i+1) σ' F' H',ct:=λσ' H'=>∃F',bc S F0 H0 F' H'/\aH F F'/\I (i+1) σ' F' H',bk:=D.nx} ((σ1.set p (some (.int (i:Nat)))).set q (some x)) H1)
  (hd:∀σ1 F1 H1,bc S F0 H0 F1 H1->aH F F1->I xs.length σ1 F1 H1->D.nx σ1 H1):
  ∃W:Nat->Nat->St->Hp->Prop,(∃m,W 0 m σ H)/\∀i m σ H,W i m σ H->
   ((FA K a).stop i H/\D.nx σ H)\/((FA K a).go i H/\∃N:St->Hp->Prop,(∀σ' H',N σ' H'->∃m',m'<m/\W (i+1) m' σ' H')/\∀x H',(FA K a).yld i H x H'->Dv K 2 (sD (kq p) (sD (kq q) Du)) x σ H' λσ2 H2=>tb {D with nx:=N,ct:=N,bk:=D.nx} σ2 H2):=by
 refine⟨λi m σ1 H1=>m=xs.length-i/\i<=xs.length/\∃F1,bc S F0 H0 F1 H1/\aH F F1/\I i σ1 F1 H1,⟨xs.length,by simp,Nat.zero_le _,F,x0,aH.refl _,h0⟩,?_⟩;rintro i m σ1 H1 ⟨rfl,hi,F1,e1,s1,h1⟩;have qa:aZ K H1 a xs:=aZ.of (e1.fh _ _ (s1 _ _ ha));by_cases hlt:i<xs.length
 ·refine .inr ⟨⟨xs,xs[i],qa,by simp[hlt]⟩,λσ' H'=>∃F',bc S F0 H0 F' H'/\aH F F'/\I (i+1) σ' F' H',λσ' H' z=>⟨xs.length-(i+1),by omega,rfl,hlt,z⟩,λx H' z=> ?_⟩;obtain⟨T,u,rfl,nT,rfl,hu⟩:=z;refine⟨T,[.int (i:Nat),u],rfl,jN.of aa,rfl,_,[u],rfl,u,[],rfl,rfl,?_⟩;exact hs i u σ1 F1 _ (hu xs qa) (e1.new nT) s1 (hm i σ1 F1 H1 T _ e1 nT h1)
 ·have e:i=xs.length:=by omega
  subst e;exact .inl ⟨⟨xs,qa,Nat.le_refl _⟩,hd σ1 F1 H1 e1 s1 h1⟩
def bP(C:Cs)(pre:Vabldi.Action->List ai->Prop)(res:Vabldi.Action->List ai->Vabldi.Outcome)(rd:Vabldi.Action->List ai->List ai):Sp:=λvs H Q _=>
 ∃(F:Hp) (va vd:V) (a:Vabldi.Action) (ds:List ai),vs=[va,vd]/\lV C F va a/\cW F vd ds/\eQ a/\ds.length=a.inputs.length/\(∀d∈ds,d.length<=4096)/\pre a ds/\aH F H/\Rt F H Q λF1 u=>lg C F1 u (res a ds) (rd a ds)
theorem bq{C:Cs}{pre res rd vs H Q E}(h:bP C pre res rd vs H Q E):vs.length=2:=by obtain⟨_,_,_,_,_,e,_⟩:=h;rw[e];rfl
theorem i6{F:Hp}{a b:Addr}{t:ai}(h:F a=some (.lst [.ref b]))(hb:F b=some (.lst ((zs t).map V.int))):cW F (.ref a) [t]:=⟨a,_,rfl,h,.cons ⟨b,rfl,hb⟩ .nil⟩
theorem aY{α β:Type}{R:α->β->Prop}:∀{xs:List α} {ds:List β} {i:Nat} {d:β},Paired R xs ds->ds[i]? =some d->∃x,xs[i]? =some x/\R x d
 |_,_,_,_,.nil,h=>by simp at h
 |_,_,0,_,.cons r _,h=>by simp at h;subst h;exact⟨_,rfl,r⟩
 |_,_,i+1,x,.cons _ t,h=>by
  obtain⟨d,h1,h2⟩:=aY (i:=i) (d:=x) t (by simpa using h);exact⟨d,by simpa using h1,h2⟩
theorem mH(s:ai)(l:List ai)(y:ai):Vabldi.joined s (l++[y])=Vabldi.joined s l++(if l.isEmpty then y else s++y):=by
 cases l with
 |nil=>simp[Vabldi.joined]
 |cons a r=>simp[Vabldi.joined,List.flatMap_append]
theorem tU(s:ai):∀(l:List ai),(∀d∈l,d.length<=4096)->(l.flatMap λy=>s++y).length<=l.length*(4096+s.length)
 |[],_=>by simp
 |d::r,h=>by
  have h1:=tU s r λd hd=>h d (List.mem_cons_of_mem _ hd)
  have h2:=h d List.mem_cons_self;rw[List.flatMap_cons,List.length_append,List.length_append,List.length_cons,Nat.add_mul,Nat.one_mul];omega
theorem vG(s:ai)(l:List ai)(h:∀d∈l,d.length<=4096):(Vabldi.joined s l).length<=l.length*(4096+s.length):=by
 cases l with
 |nil=>simp[Vabldi.joined]
 |cons d r=>
  have h1:=tU s r λd hd=>h d (List.mem_cons_of_mem _ hd)
  have h2:=h d List.mem_cons_self;show(d++r.flatMap λy=>s++y).length<=_;rw[List.length_append,List.length_cons,Nat.add_mul,Nat.one_mul];omega
theorem aX(v:V):[v].length<=sizeLine:=by show 1<=sizeLine;decide
section
variable{P:Program}{w:World}{K:PySem.W.Frag}{mg:Str->Option Value}{base:Heap}{C:Cs}
abbrev Eg:List Str:=["action","data","text","place","piece"]
theorem nj:aC Eg ["action","data"] (ao jA):=⟨rfl,rfl,rfl,by decide+kernel,rfl,by decide+kernel,by decide+kernel⟩
theorem B3(T:Tx K mg C):Ok P w K mg base "join_inputs" ["action","data"] 4 (bP C (λa _=>a.arguments.length=1) (λa ds=>Vabldi.one (Vabldi.joined (Vabldi.argument a.arguments 0) ds)) λa _=>a.inputs):=by
 refine T.d_join_inputs.ok nj (λvs H Q E h=>bq h) (λf cdv A outer s H vs Q E hr h=> ?_);obtain⟨F,va,vd,a,ds,rfl,⟨p,dx,wa,wi,wo,rfl,hp,ha,hi,ho⟩,⟨ld,xs,rfl,hld,hpd⟩,ga,hlen,hby,hpre,f0,k⟩:=h;obtain⟨la,as,rfl,hla,hpa⟩:=ha;obtain⟨sep,hsep⟩:∃s,a.arguments[0]? =some s:=⟨_,List.getElem?_eq_getElem (by omega)⟩;obtain⟨v0,hv0,a0,rfl,ha0⟩:=aY hpa hsep;have esep:Vabldi.argument a.arguments 0=sep:=by unfold Vabldi.argument;rw[hsep];rfl
 have sl:sep.length<=64:=ga.al _ (List.mem_of_getElem? hsep)
 refine⟨_,ae (aF (i:=2) nj.nd rfl (Or.inl rfl) (aL af))
  (ae (b0 PassesOwn.never rfl (BB rfl T.b_enumerate (ab (pv 1) af)) (qX rfl (dH (aS (i:=3) nj.nd rfl (Or.inl rfl)) (dH (aS (i:=4) nj.nd rfl (Or.inl rfl)) m4)))
   (ae (aN (aK iw (pv 3) aG (aP _)) (ah (eC (pv 2) (bx bn (aD (pv 0) rfl) aG (λ_ _=>rfl)))) aE)
   (ah (eC (pv 2) (pv 4)))))
  (ah (aq (aB (ca T) hr (ab (aL (ab (pv 2) af)) (ab (aD (pv 0) rfl) af)))))),?_⟩
 have sz:(8388608:Nat)<sizeLine:=by decide
 refine⟨Nat.zero_le _,λL hL=> ?_⟩;have x0:bc [] F H F (aJ H L (.lst [])):=(bo.refl f0).x.new hL;refine⟨_,rfl,ld,xs,rfl,aZ.of (x0.fh _ _ hld),FQ (p:=3) (q:=4) (λi σ1 F1 H1=>∃b1 b2,σ1=[some (.ref p),some (.ref ld),some (.ref L),b1,b2]/\H1 L=some (.lst ((zs (Vabldi.joined sep (ds.take i))).map V.int))/\F1 L=none) x0 hld ⟨none,none,rfl,aa,f0.free hL⟩ ?_ ?_ ?_⟩
 ·rintro i σ1 F1 H1 T' o e1 nT ⟨b1,b2,rfl,hHL,fL⟩
  exact⟨b1,b2,rfl,by rw[aj (az hHL nT)];exact hHL,fL⟩
 ·rintro i x σ1 F1 H1 hx e1 s1 ⟨b1,b2,rfl,hHL,fL⟩
  obtain⟨d,hd,a2,rfl,ha2⟩:=bg hpd hx;have hil:i<ds.length:=ck hd;have h8:=ga.il;have hdl:=hby d (List.mem_of_getElem? hd);have jl:=vG sep (ds.take i) λz hz=>hby z (List.mem_of_mem_take hz)
  rw[List.length_take]at jl;have hmul:min i ds.length*(4096+sep.length)<=8*4160:=Nat.mul_le_mul (by omega) (by omega);have haH:=e1.fh _ _ (s1 _ _ hp);refine⟨_,rfl,_,_,rfl,rfl,_,rfl,bY (λhb=> ?_) (λhb=> ?_)⟩
  ·have hi0:(ds.take i).isEmpty=false:=by
    have :0<i:=by simpa using hb
    cases ds with
    |nil=>simp at hil
    |cons z r=>cases i with
     |zero=>omega
     |succ i=>rfl
   refine⟨_,rfl,L,_,rfl,hHL,_,rfl,p,C.Action,dx,_,_,rfl,haH,T.k_Action.cl,T.n_Action_arguments,rfl,la,as,0,_,rfl,rfl,aZ.of (e1.fh _ _ (s1 _ _ hla)),bd (j:=0) hv0,a0,_,(zs sep).map V.int,rfl,hHL,.inl (e1.fh _ _ (s1 _ _ ha0)),?_,?_⟩
   ·rw[aM,aM];omega
   refine⟨_,rfl,L,_,rfl,aa,_,rfl,a2,_,(zs d).map V.int,rfl,aa,.inl ?_,?_,F1,(e1.wr (.inr hL) fL).wr (.inr hL) fL,s1,_,_,rfl,?_,fL⟩
   ·rw[aj (az (f0 _ _ ha2) hL)];exact e1.fh _ _ (s1 _ _ ha2)
   ·rw[List.length_append,aM,aM,aM];omega
   ·rw[aa,aT hd,mH,hi0];simp[zs]
  ·have hi0:i=0:=by
    simp at hb;omega
   subst hi0;refine⟨_,rfl,L,_,rfl,hHL,_,rfl,a2,_,(zs d).map V.int,rfl,hHL,.inl (e1.fh _ _ (s1 _ _ ha2)),?_,F1,e1.wr (.inr hL) fL,s1,_,_,rfl,?_,fL⟩
   ·rw[aM,aM];omega
   ·rw[aa,aT hd,mH];simp[zs]
 ·rintro σ1 F1 H1 e1 s1 ⟨b1,b2,rfl,hHL,fL⟩
  rw[aA hpd,List.take_length]at hHL;have e2:=e1.ext.frz hL hHL fL;refine⟨_,rfl,aX _,λq hq=> ?_⟩;have e4:=e2.newF (o:= .lst [.ref L]) hq;have s4:=aI (o:= .lst [.ref L]) (e2.fh.free hq);refine⟨_,rfl,p,C.Action,dx,_,_,rfl,e4.hh _ _ (f0 _ _ hp),T.k_Action.cl,T.n_Action_inputs,rfl,_,_,_,[Vabldi.joined sep ds],_,rfl,i6 aa (s4 _ _ aa),bH hi ((s1.trans (aI fL)).trans s4),e4.fh,λu F2 H2 e3 ho2=> ?_⟩;refine k _ _ _ (e4.trans e3) ?_;dsimp only;rw[esep];exact ho2
end
section
variable{P:Program}{w:World}{K:PySem.W.Frag}{mg:Str->Option Value}{base:Heap}{C:Cs}
theorem du(T:Tx K mg C){F H F1 H1:Hp}{Q:VK}{σ:St}{p dx b q:Addr}{wa wi wo:V}{a:Vabldi.Action}{t:ai}(e1:bo F H F1 H1)(hp:F p=some (.ins C.Action dx [("tool",.int a.tool),("arguments",wa),("inputs",wi),("outputs",wo)]))
  (hi:jZ F wi a.inputs)(hσ:σ[0]? =some (some (.ref p)))(hb:F1 b=some (.lst ((zs t).map V.int)))(hq:H1 q=none)(k:∀u F2 H2,bo F H F2 H2->lg C F2 u (.ok [t]) a.inputs->Q u H2):
  sH (zc K (nJ 0) "inputs") sG σ (aJ H1 q (.lst [.ref b])) λxs H2=>wP C (.ref q::xs++[]) H2 Q E0:=by
 have e4:=e1.newF (o:= .lst [.ref b]) hq;have s4:=aI (o:= .lst [.ref b]) (e1.fh.free hq);exact⟨_,hσ,p,C.Action,dx,_,_,rfl,e4.hh _ _ (e1.f0 _ _ hp),T.k_Action.cl,T.n_Action_inputs,rfl,_,_,_,[t],_,rfl,i6 aa (s4 _ _ hb),bH hi (e1.ff.trans s4),e4.fh,λu F2 H2 e3 ho2=>k u F2 H2 (e4.trans e3) ho2⟩
theorem cY(T:Tx K mg C){F H F1 H1:Hp}{Q:VK}{σ:St}{p dx:Addr}{wa wi wo:V}{a:Vabldi.Action}{n:Nat}(e1:bo F H F1 H1)(hp:F p=some (.ins C.Action dx [("tool",.int a.tool),("arguments",wa),("inputs",wi),("outputs",wo)]))
  (hi:jZ F wi a.inputs)(hσ:σ[0]? =some (some (.ref p)))(k:∀u F2 H2,bo F H F2 H2->lg C F2 u (.error {code:=n}) a.inputs->Q u H2):
  sH (zc K (nJ 0) "inputs") sG σ H1 λxs H2=>qu C (.int n::xs++[]) H2 Q E0:=
 ⟨_,hσ,p,C.Action,dx,_,_,rfl,e1.hh _ _ (e1.f0 _ _ hp),T.k_Action.cl,T.n_Action_inputs,rfl,_,_,_,_,rfl,bH hi e1.ff,e1.fh,λu F2 H2 e3 ho2=>k u F2 H2 (e1.trans e3) ho2⟩
theorem B4:aC ["action","data"] ["action","data"] (ao jB):=⟨rfl,rfl,rfl,by decide+kernel,rfl,by decide+kernel,by decide+kernel⟩
theorem B5(T:Tx K mg C):Ok P w K mg base "copy_inputs" ["action","data"] 4 (bP C (λa _=>True) (λa ds=>if a.outputs.length=ds.length then .ok ds else Vabldi.failed 1) λa ds=>if a.outputs.length=ds.length then a.inputs else[]):=by
 refine T.d_copy_inputs.ok B4 (λvs H Q E h=>bq h) (λf cdv A outer s H vs Q E hr h=> ?_);obtain⟨F,va,vd,a,ds,rfl,⟨p,dx,wa,wi,wo,rfl,hp,ha,hi,ho⟩,⟨ld,xs,rfl,hld,hpd⟩,ga,hlen,hby,hpre,f0,k⟩:=h;obtain⟨lo,os,rfl,hlo,hpo⟩:=ho
 refine⟨_,ae (aN (aK dI (bp T.b_len (aD (pv 0) rfl)) (bp T.b_len (pv 1)) (aP _)) (ah (aq (aB (bL T) hr (ab (aV T.g_COUNT) (ab (aL af) af))))) aE)
  (ah (aq (aB (ca T) hr (ab (nh T.b_list (pv 1)) (ab (aD (pv 0) rfl) af))))),?_⟩
 refine⟨_,rfl,p,C.Action,dx,_,_,rfl,f0 _ _ hp,T.k_Action.cl,T.n_Action_outputs,rfl,lo,_,rfl,f0 _ _ hlo,_,rfl,ld,_,rfl,f0 _ _ hld,rfl,_,rfl,?_⟩;have lo':os.length=a.outputs.length:=aA hpo;have ld':xs.length=ds.length:=aA hpd;refine bY (λhb=> ?_) (λhb=> ?_)
 ·have ne:¬a.outputs.length=ds.length:=by
   intro e;simp[lo',ld',e]at hb
  refine⟨by decide,λq hq=>⟨_,1,_,[],rfl,⟨q,[],rfl,aa,.nil⟩,((bo.refl f0).newF hq).fh,λu F2 H2 e3 ho2=>k _ _ _ (((bo.refl f0).newF hq).trans e3) ?_⟩⟩;dsimp only;rw[if_neg ne,if_neg ne];exact ho2
 ·have eq:a.outputs.length=ds.length:=by
   simp[lo',ld']at hb;omega
  refine⟨_,rfl,ld,xs,rfl,.inl (f0 _ _ hld),λq hq=> ?_⟩;have e4:=(bo.refl f0).newF (o:= .lst xs) hq;have s4:=aI (o:= .lst xs) (f0.free hq);refine⟨_,rfl,p,C.Action,dx,_,_,rfl,e4.hh _ _ (f0 _ _ hp),T.k_Action.cl,T.n_Action_inputs,rfl,_,_,_,ds,_,rfl,⟨q,xs,rfl,aa,Paired.mapP hpd λv d r=>r.mono s4⟩,bH hi s4,e4.fh,λu F2 H2 e3 ho2=>k _ _ _ (e4.trans e3) ?_⟩;dsimp only;rw[if_pos eq,if_pos eq];exact ho2
theorem z5:aC ["action","data"] ["action","data"] (ao jC):=⟨rfl,rfl,rfl,by decide+kernel,rfl,by decide+kernel,by decide+kernel⟩
theorem cR{ds:List ai}{d:ai}(h:ds[0]? =some d):ds.headD []=d:=by
 cases ds with
 |nil=>simp at h
 |cons x r=>simpa using h
theorem z6(T:Tx K mg C):Ok P w K mg base "upper_input" ["action","data"] 4 (bP C (λa ds=>ds.length=1) (λa ds=>Vabldi.one ((ds.headD []).map Vabldi.upper)) λa _=>a.inputs):=by
 refine T.d_upper_input.ok z5 (λvs H Q E h=>bq h) (λf cdv A outer s H vs Q E hr h=> ?_);obtain⟨F,va,vd,a,ds,rfl,⟨p,dx,wa,wi,wo,rfl,hp,ha,hi,ho⟩,⟨ld,xs,rfl,hld,hpd⟩,ga,hlen,hby,hpre,f0,k⟩:=h;obtain⟨d,hd⟩:∃d,ds[0]? =some d:=⟨_,List.getElem?_eq_getElem (by omega)⟩;obtain⟨v0,hv0,a0,rfl,ha0⟩:=aY hpd hd;have hdl:=hby d (List.mem_of_getElem? hd);refine⟨_,ah (aq (aB (ca T) hr (ab (aL (ab (aB (lS T) hr (ab (bx bn (pv 1) aG (λ_ _=>rfl)) af)) af)) (ab (aD (pv 0) rfl) af)))),?_⟩;refine⟨_,rfl,ld,xs,0,_,rfl,rfl,aZ.of (f0 _ _ hld),bd (j:=0) hv0,F,_,d,rfl,⟨a0,rfl,ha0⟩,by omega,f0,λu F1 H1 e1 ⟨b,eu,hb⟩=> ?_⟩;subst eu;refine⟨aX _,λq hq=>du T e1 hp hi rfl hb hq λu F2 H2 e ho2=>k u F2 H2 e ?_⟩;dsimp only;rw[cR hd];exact ho2
theorem wQ:aC ["action","data","digits"] ["action","data"] (ao kN):=⟨rfl,rfl,rfl,by decide+kernel,rfl,by decide+kernel,by decide+kernel⟩
theorem qv:∀t:ai,(Vabldi.putLines (Vabldi.split t)).length=t.length+1
 |[]=>rfl
 |c::r=>by
  have ih:=qv r;rw[Vabldi.split];by_cases e:c=10
  ·rw[if_pos e];unfold Vabldi.putLines at ih⊢;simp at ih⊢;omega
  ·rw[if_neg e];cases q:Vabldi.split r with
   |nil=>exact absurd q (iV r)
   |cons y l=>
    rw[q]at ih;unfold Vabldi.putLines at ih⊢;simp at ih⊢;omega
theorem vH(t:ai):∃done cur,Vabldi.split t=done++[cur]:=
 ⟨(Vabldi.split t).dropLast,(Vabldi.split t).getLast (iV t),(List.dropLast_concat_getLast (iV t)).symm⟩
theorem bM(t:ai):(Vabldi.putLines (Vabldi.linesOf t)).length<=t.length+1:=by
 obtain⟨done,cur,h⟩:=vH t;have :=qv t;rw[kd h];rw[h,dF]at this;split
 ·simp at this;omega
 ·rw[dF];omega
theorem B6{ts:List ai}{x:ai}(h:x∈ts):x.length<(Vabldi.putLines ts).length:=by
 induction ts with
 |nil=>simp at h
 |cons y r ih=>
  unfold Vabldi.putLines at ih⊢;rw[List.flatMap_cons,List.length_append,List.length_append];rcases List.mem_cons.mp h with rfl|h
  ·simp;omega
  ·have :=ih h;omega
theorem tV{t x:ai}(h:x∈Vabldi.linesOf t):x.length<=t.length:=by
 have h1:=bM t;have h2:=B6 h;omega
theorem eR(ts:List ai):ts.length<=(Vabldi.putLines ts).length:=by
 induction ts with
 |nil=>simp[Vabldi.putLines]
 |cons y r ih=>
  unfold Vabldi.putLines at ih⊢;rw[List.flatMap_cons,List.length_append,List.length_append,List.length_cons,List.length_singleton];omega
theorem bQ{a b:List ai}(h:a.Sublist b):(Vabldi.putLines a).length<=(Vabldi.putLines b).length:=by
 induction h with
 |slnil=>simp
 |cons x _ ih=>
  unfold Vabldi.putLines at ih⊢;rw[List.flatMap_cons,List.length_append];omega
 |cons_cons x _ ih=>
  unfold Vabldi.putLines at ih⊢;simp only[List.flatMap_cons,List.length_append];omega
theorem i7{α β:Type}{R:α->β->Prop}:∀{xs:List α} {ds:List β} (n:Nat),Paired R xs ds->Paired R (xs.take n) (ds.take n)
 |_,_,0,_=> .nil
 |_,_,_+1,.nil=> .nil
 |_,_,n+1,.cons r t=> .cons r (i7 n t)
theorem g4{m:Nat}{t:ai}(h:Vabldi.isNumber m t=true):t.all Vabldi.digit=true/\t.length<=m:=by
 unfold Vabldi.isNumber at h;simp only[Bool.and_eq_true,decide_eq_true_eq]at h;exact⟨h.2.2,h.2.1⟩
theorem B7(T:Tx K mg C):Ok P w K mg base "take_lines" ["action","data"] 4 (bP C (λa ds=>ds.length=1/\a.arguments.length=1) (λa ds=>if Vabldi.isNumber 4 (Vabldi.argument a.arguments 0)=true then Vabldi.one (Vabldi.putLines ((Vabldi.linesOf (ds.headD [])).take (Vabldi.valueOf (Vabldi.argument a.arguments 0))))else Vabldi.failed 2) λa _=>a.inputs):=by
 refine T.d_take_lines.ok wQ (λvs H Q E h=>bq h) (λf cdv A outer s H vs Q E hr h=> ?_);obtain⟨F,va,vd,a,ds,rfl,⟨p,dx,wa,wi,wo,rfl,hp,ha,hi,ho⟩,⟨ld,xs,rfl,hld,hpd⟩,ga,hlen,hby,hpre,f0,k⟩:=h;obtain⟨d,hd⟩:∃d,ds[0]? =some d:=⟨_,List.getElem?_eq_getElem (by omega)⟩;obtain⟨v0,hv0,a0,rfl,ha0⟩:=aY hpd hd;have hdl:=hby d (List.mem_of_getElem? hd);obtain⟨la,as,rfl,hla,hpa⟩:=ha;obtain⟨arg,harg⟩:∃s,a.arguments[0]? =some s:=⟨_,List.getElem?_eq_getElem (by omega)⟩;obtain⟨v1,hv1,a1,rfl,ha1⟩:=aY hpa harg;have earg:Vabldi.argument a.arguments 0=arg:=by unfold Vabldi.argument;rw[harg];rfl
 have sl:arg.length<=64:=ga.al _ (List.mem_of_getElem? harg)
 refine⟨_,ae (aF (i:=2) wQ.nd rfl (Or.inl rfl) (bx bn (aD (pv 0) rfl) aG (λ_ _=>rfl)))
  (ae (aN (bR (bI (aB (kX T) hr (ab (pv 2) (ab (aV T.g_MOST_TAKE_DIGITS) af))))) (ah (aq (aB (bL T) hr (ab (aV T.g_ARGUMENT) (ab (aD (pv 0) rfl) af))))) aE)
  (ah (aq (aB (ca T) hr (ab (aL (ab (aB (bt T) hr (ab (dJ fb (aB (cF T) hr (ab (bx bn (pv 1) aG (λ_ _=>rfl)) af)) m6 (cT (aB (kY T) hr (ab (pv 2) af)))) af)) af)) (ab (aD (pv 0) rfl) af)))))),?_⟩
 refine⟨_,rfl,p,C.Action,dx,_,_,rfl,f0 _ _ hp,T.k_Action.cl,T.n_Action_arguments,rfl,la,as,0,_,rfl,rfl,aZ.of (f0 _ _ hla),bd (j:=0) hv1,_,rfl,F,_,arg,4,rfl,⟨a1,rfl,ha1⟩,by omega,f0,λu F1 H1 e1 eu=> ?_⟩;subst eu;refine⟨_,rfl,bY (λhb=> ?_) (λhb=> ?_)⟩
 ·refine cY T e1 hp hi rfl λu F2 H2 e ho2=>k u F2 H2 e ?_
  have hb:Vabldi.isNumber 4 arg=false:=by simpa using hb
  dsimp only;rw[earg,if_neg (by rw[hb];decide)];exact ho2
 ·have hb:Vabldi.isNumber 4 arg=true:=by simpa using hb
  refine⟨_,rfl,ld,xs,0,_,rfl,rfl,aZ.of (e1.hh _ _ (f0 _ _ hld)),bd (j:=0) hv0,F1,_,d,rfl,⟨a0,rfl,e1.ff _ _ ha0⟩,by omega,e1.fh,λu F2 H2 e2 ⟨l2,ys,eu,hl2,hys⟩=> ?_⟩;subst eu;refine⟨_,rfl,F2,_,arg,rfl,⟨a1,rfl,e2.ff _ _ (e1.ff _ _ ha1)⟩,(g4 hb).1,e2.fh,λu F3 H3 e3 eu=> ?_⟩;subst eu;refine⟨_,rfl,l2,ys,rfl,aZ.of (e3.fh _ _ (e3.ff _ _ hl2)),λq hq=> ?_⟩;rw[u9];have e5:=((e1.trans e2).trans e3).newF (o:= .lst (ys.take (Vabldi.valueOf arg))) hq;refine⟨_,_,_,rfl,⟨q,_,rfl,aa,Paired.mapP (i7 _ hys) λv t r=>((r.mono e3.ff).mono (aI (e3.fh.free hq))).any⟩,?_,e5.fh,λu F4 H4 e4 ⟨b,eu,hb4⟩=> ?_⟩
  ·have h1:=jI (Vabldi.linesOf d) (Vabldi.valueOf arg);have h2:=bM d;omega
  subst eu;refine⟨aX _,λq2 hq2=>du T (e5.trans e4) hp hi rfl hb4 hq2 λu F2 H2 e ho2=>k u F2 H2 e ?_⟩;dsimp only;rw[earg,if_pos hb,cR hd];exact ho2
end
section
variable{P:Program}{w:World}{K:PySem.W.Frag}{mg:Str->Option Value}{base:Heap}{C:Cs}
theorem et{α:Type}(p:α->Bool):∀l:List α,(l.filterMap λx=>if p x=true then some x else none)=l.filter p
 |[]=>rfl
 |x::r=>by
  rw[List.filterMap_cons,List.filter_cons];cases h:p x with
  |true=>simp[et p r]
  |false=>simp[et p r]
abbrev z7:List Str:=["action","data","piece","lines","line"]
theorem nq:aC z7 ["action","data"] (ao gK):=⟨rfl,rfl,rfl,by decide+kernel,rfl,by decide+kernel,by decide+kernel⟩
theorem B8(T:Tx K mg C):Ok P w K mg base "find_lines" ["action","data"] 4 (bP C (λa ds=>ds.length=1/\a.arguments.length=1) (λa ds=>Vabldi.findOf (Vabldi.argument a.arguments 0) (ds.headD [])) λa _=>a.inputs):=by
 refine T.d_find_lines.ok nq (λvs H Q E h=>bq h) (λf cdv A outer s H vs Q E hr h=> ?_);obtain⟨F,va,vd,a,ds,rfl,⟨p,dx,wa,wi,wo,rfl,hp,ha,hi,ho⟩,⟨ld,xs,rfl,hld,hpd⟩,ga,hlen,hby,hpre,f0,k⟩:=h;obtain⟨d,hd⟩:∃d,ds[0]? =some d:=⟨_,List.getElem?_eq_getElem (by omega)⟩;obtain⟨v0,hv0,a0,rfl,ha0⟩:=aY hpd hd;have hdl:=hby d (List.mem_of_getElem? hd);obtain⟨la,as,rfl,hla,hpa⟩:=ha;obtain⟨arg,harg⟩:∃s,a.arguments[0]? =some s:=⟨_,List.getElem?_eq_getElem (by omega)⟩;obtain⟨v1,hv1,a1,rfl,ha1⟩:=aY hpa harg;have earg:Vabldi.argument a.arguments 0=arg:=by unfold Vabldi.argument;rw[harg];rfl
 have sl:arg.length<=64:=ga.al _ (List.mem_of_getElem? harg);have ln:=bM d;have cn:=eR (Vabldi.linesOf d)
 refine⟨_,ae (aF (i:=2) nq.nd rfl (Or.inr rfl) (bx bn (aD (pv 0) rfl) aG (λ_ _=>rfl)))
  (ae (kC rfl nq.nd (i:=3) rfl rfl (m7 rfl rfl rfl (by decide+kernel)) (bj (aB (cF T) hr (ab (bx bn (pv 1) aG (λ_ _=>rfl)) af))) (blk (own:=[("line",4)]) z7 (ao gK) rfl rfl (by decide+kernel)) (λ_ _ _ _ _=>aS (i:=4) nq.nd rfl (Or.inl rfl)) (λ_ _ _ _ _=>rB (bI (aB (rP T) hr (ab (pv 2) (ab (pv 4) af))))) (λ_ _ _ _ _=>pv 4))
  (ae (aN (bR (iy (pv 3) (λ_=>rfl))) (ah (aq (aB (bL T) hr (ab (aV T.g_NOTHING) (ab (aD (pv 0) rfl) af))))) aE)
  (ah (aq (aB (ca T) hr (ab (aL (ab (aB (bt T) hr (ab (pv 3) af)) af)) (ab (aD (pv 0) rfl) af))))))),?_⟩
 refine⟨_,rfl,p,C.Action,dx,_,_,rfl,f0 _ _ hp,T.k_Action.cl,T.n_Action_arguments,rfl,la,as,0,_,rfl,rfl,aZ.of (f0 _ _ hla),bd (j:=0) hv1,?_⟩;refine⟨_,rfl,ld,xs,0,_,rfl,rfl,aZ.of (f0 _ _ hld),bd (j:=0) hv0,F,_,d,rfl,⟨a0,rfl,ha0⟩,by omega,f0,λu F1 H1 e1 ⟨l1,ys,eu,hl1,hys⟩=> ?_⟩;subst eu;refine⟨l1,rfl,⟨_,aZ.of (e1.fh _ _ hl1)⟩,λD hD=> ?_⟩;refine bV (ds:=Vabldi.linesOf d) (dk F1) (λF v t=>dk F v t) (λt=>if Vabldi.standsIn arg t=true then some t else none) (λF F' v b e h=>h.mono e) e1 hD (aZ.of hl1) hys (by omega) ?_ ?_
 ·rintro x t F2 H2 Y N rx ht e2 s2 hY hN
  refine⟨rfl,_,rfl,_,rfl,F2,_,_,arg,t,rfl,⟨a1,rfl,e2.ff _ _ ha1⟩,rx.mono s2,?_,by omega,e2.fh,λu F3 H3 e3 eu=> ?_⟩
  ·have :=tV ht;omega
  subst eu;refine⟨_,rfl,bY (λhb=> ?_) (λhb=> ?_)⟩
  ·exact⟨_,rfl,hY _ F3 H3 _ (by rw[if_pos hb]) e3 ((rx.mono s2).mono e3.ff)⟩
  ·exact hN F3 H3 (by rw[if_neg (by rw[hb];decide)]) e3
 ·rintro F2 H2 zs2 e2 s2 hA fD pz
  rw[et]at pz;have nD:H D=none:=e1.hh.free hD;have e3:=e2.frz nD hA fD;refine⟨_,rfl,_,.inl ⟨_,aZ.of hA,rfl⟩,bY (λhb=> ?_) (λhb=> ?_)⟩
  ·refine cY T e2 hp hi rfl λu F4 H4 e ho2=>k u F4 H4 e ?_
   have hz:zs2=[]:=by cases zs2 with
    |nil=>rfl
    |cons x r=>simp at hb
   subst hz
   have hz2:(Vabldi.linesOf d).filter (Vabldi.standsIn arg)=[]:=by
    cases pz':(Vabldi.linesOf d).filter (Vabldi.standsIn arg)with
    |nil=>rfl
    |cons x r=>rw[pz']at pz;cases pz
   dsimp only;unfold Vabldi.findOf;rw[earg,cR hd];simp only[hz2];exact ho2
  ·have hz2:((Vabldi.linesOf d).filter (Vabldi.standsIn arg)).isEmpty=false:=by
    cases pz':(Vabldi.linesOf d).filter (Vabldi.standsIn arg)with
    |nil=>rw[pz']at pz;cases pz;simp at hb
    |cons x r=>rfl
   refine⟨_,rfl,_,_,_,rfl,⟨D,zs2,rfl,aa,Paired.mapP pz λv t r=>(r.mono (aI fD)).any⟩,?_,e3.fh,λu F4 H4 e4 ⟨b,eu,hb4⟩=> ?_⟩
   ·have :=bQ (List.filter_sublist (l:=Vabldi.linesOf d) (p:=Vabldi.standsIn arg));omega
   subst eu;refine⟨aX _,λq2 hq2=>du T (e3.trans e4) hp hi rfl hb4 hq2 λu F5 H5 e ho2=>k u F5 H5 e ?_⟩;dsimp only;unfold Vabldi.findOf;rw[earg,cR hd];simp only[hz2];exact ho2
theorem wR:aC ["action","data","old"] ["action","data"] (ao f6):=⟨rfl,rfl,rfl,by decide+kernel,rfl,by decide+kernel,by decide+kernel⟩
theorem B9(T:Tx K mg C):Ok P w K mg base "replace_places" ["action","data"] 4 (bP C (λa ds=>ds.length=1/\a.arguments.length=2) (λa ds=>if(Vabldi.argument a.arguments 0).isEmpty=true then Vabldi.failed 2 else Vabldi.one (rep (Vabldi.argument a.arguments 0) (Vabldi.argument a.arguments 1) (ds.headD []))) λa _=>a.inputs):=by
 refine T.d_replace_places.ok wR (λvs H Q E h=>bq h) (λf cdv A outer s H vs Q E hr h=> ?_);obtain⟨F,va,vd,a,ds,rfl,⟨p,dx,wa,wi,wo,rfl,hp,ha,hi,ho⟩,⟨ld,xs,rfl,hld,hpd⟩,ga,hlen,hby,hpre,f0,k⟩:=h;obtain⟨d,hd⟩:∃d,ds[0]? =some d:=⟨_,List.getElem?_eq_getElem (by omega)⟩;obtain⟨v0,hv0,a0,rfl,ha0⟩:=aY hpd hd;have hdl:=hby d (List.mem_of_getElem? hd);obtain⟨la,as,rfl,hla,hpa⟩:=ha;obtain⟨arg,harg⟩:∃s,a.arguments[0]? =some s:=⟨_,List.getElem?_eq_getElem (by omega)⟩;obtain⟨v1,hv1,a1,rfl,ha1⟩:=aY hpa harg;have earg:Vabldi.argument a.arguments 0=arg:=by unfold Vabldi.argument;rw[harg];rfl
 have sl:arg.length<=64:=ga.al _ (List.mem_of_getElem? harg);obtain⟨arg2,harg2⟩:∃s,a.arguments[1]? =some s:=⟨_,List.getElem?_eq_getElem (by omega)⟩;obtain⟨v2,hv2,a2,rfl,ha2⟩:=aY hpa harg2;have earg2:Vabldi.argument a.arguments 1=arg2:=by unfold Vabldi.argument;rw[harg2];rfl
 have sl2:arg2.length<=64:=ga.al _ (List.mem_of_getElem? harg2)
 refine⟨_,ae (aF (i:=2) wR.nd rfl (Or.inl rfl) (bx bn (aD (pv 0) rfl) aG (λ_ _=>rfl)))
  (ae (aN (bR (iy (pv 2) (λ_=>rfl))) (ah (aq (aB (bL T) hr (ab (aV T.g_ARGUMENT) (ab (aD (pv 0) rfl) af))))) aE)
  (ah (aq (aB (ca T) hr (ab (aL (ab (aB (tL T) hr (ab (bx bn (pv 1) aG (λ_ _=>rfl)) (ab (pv 2) (ab (bx bn (aD (pv 0) rfl) aG (λ_ _=>rfl)) af)))) af)) (ab (aD (pv 0) rfl) af)))))),?_⟩
 refine⟨_,rfl,p,C.Action,dx,_,_,rfl,f0 _ _ hp,T.k_Action.cl,T.n_Action_arguments,rfl,la,as,0,_,rfl,rfl,aZ.of (f0 _ _ hla),bd (j:=0) hv1,?_⟩;refine⟨_,rfl,_,.inl ⟨_,aZ.of (f0 _ _ ha1),rfl⟩,bY (λhb=> ?_) (λhb=> ?_)⟩
 ·refine cY T (bo.refl f0) hp hi rfl λu F4 H4 e ho2=>k u F4 H4 e ?_
  have hz:arg=[]:=by cases arg with
   |nil=>rfl
   |cons x r=>simp[zs]at hb
  dsimp only;rw[earg,hz];exact ho2
 ·have hz:arg≠[]:=by
   rintro rfl;simp[zs]at hb
  refine⟨_,rfl,ld,xs,0,_,rfl,rfl,aZ.of (f0 _ _ hld),bd (j:=0) hv0,_,rfl,_,rfl,p,C.Action,dx,_,_,rfl,f0 _ _ hp,T.k_Action.cl,T.n_Action_arguments,rfl,la,as,1,_,rfl,rfl,aZ.of (f0 _ _ hla),bd (j:=1) hv2,F,_,_,_,d,arg,arg2,rfl,⟨a0,rfl,ha0⟩,⟨a1,rfl,ha1⟩,⟨a2,rfl,ha2⟩,hz,by omega,by omega,?_,f0,λu F1 H1 e1 ⟨b,eu,hb4⟩=> ?_⟩
  ·have :d.length*(arg2.length+1)<=4096*65:=Nat.mul_le_mul hdl (by omega);omega
  subst eu;refine⟨aX _,λq2 hq2=>du T e1 hp hi rfl hb4 hq2 λu F5 H5 e ho2=>k u F5 H5 e ?_⟩;dsimp only;rw[earg,earg2,cR hd,if_neg (by simpa using hz)];exact ho2
theorem Ca:aC ["action","data"] ["action","data"] (ao f8):=⟨rfl,rfl,rfl,by decide+kernel,rfl,by decide+kernel,by decide+kernel⟩
theorem Cb(T:Tx K mg C):Ok P w K mg base "compare_inputs" ["action","data"] 4 (bP C (λa ds=>ds.length=2) (λa ds=>if ds.headD []=ds.getD 1 []then Vabldi.one (Vabldi.str "pass\n")else Vabldi.failed 7) λa _=>a.inputs):=by
 refine T.d_compare_inputs.ok Ca (λvs H Q E h=>bq h) (λf cdv A outer s H vs Q E hr h=> ?_);obtain⟨F,va,vd,a,ds,rfl,⟨p,dx,wa,wi,wo,rfl,hp,ha,hi,ho⟩,⟨ld,xs,rfl,hld,hpd⟩,ga,hlen,hby,hpre,f0,k⟩:=h;obtain⟨d,hd⟩:∃d,ds[0]? =some d:=⟨_,List.getElem?_eq_getElem (by omega)⟩;obtain⟨v0,hv0,a0,rfl,ha0⟩:=aY hpd hd;obtain⟨d1,hd1⟩:∃d,ds[1]? =some d:=⟨_,List.getElem?_eq_getElem (by omega)⟩;obtain⟨v1,hv1,a1,rfl,ha1⟩:=aY hpd hd1;have e1d:ds.getD 1 []=d1:=by rw[List.getD_eq_getElem?_getD,hd1];rfl
 refine⟨_,ae (aN (aK (u8 hr) (bx bn (pv 1) aG (λ_ _=>rfl)) (bx bn (pv 1) aG (λ_ _=>rfl)) (aP _)) (ah (aq (aB (bL T) hr (ab (aV T.g_FAILED) (ab (aD (pv 0) rfl) af))))) aE)
  (ah (aq (aB (ca T) hr (ab (aL (ab (aB (bJ T) hr (ab gE af)) af)) (ab (aD (pv 0) rfl) af))))),?_⟩
 refine⟨_,rfl,ld,xs,0,_,rfl,rfl,aZ.of (f0 _ _ hld),bd (j:=0) hv0,_,rfl,ld,xs,1,_,rfl,rfl,aZ.of (f0 _ _ hld),bd (j:=1) hv1,a0,a1,_,_,rfl,rfl,.inl ⟨f0 _ _ ha0,f0 _ _ ha1⟩,_,rfl,?_⟩;rw[ie];refine bY (λhb=> ?_) (λhb=> ?_)
 ·refine cY T (bo.refl f0) hp hi rfl λu F4 H4 e ho2=>k u F4 H4 e ?_
  dsimp only;rw[cR hd,e1d,if_neg (by simpa using hb)];exact ho2
 ·refine⟨F,_,rfl,by decide,f0,λu F1 H1 e1 ⟨b,eu,hb4⟩=> ?_⟩;subst eu;refine⟨aX _,λq2 hq2=>du T e1 hp hi rfl hb4 hq2 λu F5 H5 e ho2=>k u F5 H5 e ?_⟩;dsimp only;rw[cR hd,e1d,if_pos (by simpa using hb)];exact ho2
theorem gp:∀{ts:List ai},(∀x∈ts,Vabldi.isName x=true)->(Vabldi.putLines ts).length<=ts.length*33
 |[],_=>by simp[Vabldi.putLines]
 |t::r,h=>by
  have h1:=gp (ts:=r) λx hx=>h x (List.mem_cons_of_mem _ hx)
  have h2:=h t List.mem_cons_self;unfold Vabldi.isName at h2;simp only[Bool.and_eq_true,decide_eq_true_eq]at h2;unfold Vabldi.putLines at h1⊢;simp only[List.flatMap_cons,List.length_append,List.length_cons,List.length_nil,Nat.add_mul,Nat.one_mul];omega
theorem z8:aC ["action","data"] ["action","data"] (ao jE):=⟨rfl,rfl,rfl,by decide+kernel,rfl,by decide+kernel,by decide+kernel⟩
theorem z9(T:Tx K mg C):Ok P w K mg base "name_inputs" ["action","data"] 4 (bP C (λa ds=>True) (λa ds=>Vabldi.one (Vabldi.putLines a.inputs)) λa _=>[]):=by
 refine T.d_name_inputs.ok z8 (λvs H Q E h=>bq h) (λf cdv A outer s H vs Q E hr h=> ?_);obtain⟨F,va,vd,a,ds,rfl,⟨p,dx,wa,wi,wo,rfl,hp,ha,hi,ho⟩,⟨ld,xs,rfl,hld,hpd⟩,ga,hlen,hby,hpre,f0,k⟩:=h;obtain⟨li,is,rfl,hli,hpi⟩:=hi;refine⟨_,ah (aq (aB (ca T) hr (ab (aL (ab (aB (bt T) hr (ab (aD (pv 0) rfl) af)) af)) (ab (aL af) af)))),?_⟩;refine⟨_,rfl,p,C.Action,dx,_,_,rfl,f0 _ _ hp,T.k_Action.cl,T.n_Action_inputs,rfl,F,_,a.inputs,rfl,⟨li,is,rfl,hli,Paired.mapP hpi λv d r=>r.any⟩,?_,f0,λu F1 H1 e1 ⟨b,eu,hb4⟩=> ?_⟩
 ·have h1:=gp (ts:=a.inputs) λx hx=>ga.nn x (List.mem_append_left _ hx)
  have h2:=ga.il;have :a.inputs.length*33<=8*33:=Nat.mul_le_mul_right _ h2;omega
 subst eu;refine⟨aX _,λq hq=>⟨by decide,λq2 hq2=> ?_⟩⟩;have e4:=e1.newF (o:= .lst [.ref b]) hq;have s4:=aI (o:= .lst [.ref b]) (e1.fh.free hq);have e5:=e4.newF (o:= .lst []) hq2;have s5:=aI (o:= .lst []) (e4.fh.free hq2);exact⟨_,_,_,[Vabldi.putLines a.inputs],[],rfl,i6 (s5 _ _ aa) (s5 _ _ (s4 _ _ hb4)),⟨q2,[],rfl,aa,.nil⟩,e5.fh,λu F2 H2 e3 ho2=>k u F2 H2 (e5.trans e3) ho2⟩
end
abbrev tb(a b:ai):Bool:=Vabldi.textBefore a b
theorem qw:∀a:ai,tb a a=false
 |[]=>rfl
 |x::r=>by
  show(decide (x<x)||(x==x&&tb r r))=false
  rw[qw r];simp
theorem i8:∀{a b c:ai},tb a b=true->tb b c=true->tb a c=true
 |[],[],_,h,_=>by cases h
 |[],_::_,[],_,h=>by cases h
 |[],_::_,_::_,_,_=>rfl
 |_::_,[],_,h,_=>by cases h
 |_::_,_::_,[],_,h=>by cases h
 |x::a,y::b,z::c,h1,h2=>by
  have h1:(decide (x<y)||(x==y&&tb a b))=true:=h1;have h2:(decide (y<z)||(y==z&&tb b c))=true:=h2;show(decide (x<z)||(x==z&&tb a c))=true;simp only[Bool.or_eq_true,decide_eq_true_eq,Bool.and_eq_true,beq_iff_eq]at h1 h2⊢;rcases h1 with h1|⟨h1,h1'⟩<;>rcases h2 with h2|⟨h2,h2'⟩
  ·left;omega
  ·left;omega
  ·left;omega
  ·right;exact⟨by omega,i8 h1' h2'⟩
theorem jm:∀{a b:ai},tb a b=false->tb b a=false->a=b
 |[],[],_,_=>rfl
 |[],_::_,h,_=>by cases h
 |_::_,[],_,h=>by cases h
 |x::a,y::b,h1,h2=>by
  have h1:(decide (x<y)||(x==y&&tb a b))=false:=h1;have h2:(decide (y<x)||(y==x&&tb b a))=false:=h2;simp only[Bool.or_eq_false_iff,decide_eq_false_iff_not,Bool.and_eq_false_iff]at h1 h2;have e:x=y:=by omega
  subst e;have h3:=h1.2.resolve_left (by simp);have h4:=h2.2.resolve_left (by simp);rw[jm h3 h4]
theorem nu{a b:ai}(h:tb a b=true):tb b a=false:=by
 cases q:tb b a with
 |false=>rfl
 |true=>have :=i8 h q;rw[qw]at this;cases this
theorem yh{a b c:ai}(h1:tb b a=false)(h2:tb c b=false):tb c a=false:=by
 cases q:tb c a with
 |false=>rfl
 |true=>
  cases q2:tb a b with
  |true=>have :=i8 q q2;rw[h2]at this;cases this
  |false=>rw[jm q2 h1]at q;rw[h2]at q;cases q
theorem vI:∀a b:ai,HT.lexLt (zs a) (zs b)=tb a b
 |[],[]=>rfl
 |[],_::_=>rfl
 |_::_,[]=>rfl
 |x::a,y::b=>by
  show(if(x:Int)=(y:Int)then HT.lexLt (zs a) (zs b)else decide ((x:Int)<(y:Int)))=(decide (x<y)||(x==y&&tb a b))
  rw[vI a b];by_cases h:x=y
  ·subst h;simp
  ·rw[if_neg (by omega)];have h1:(x==y)=false:=by simpa using h
   rw[h1];simp
abbrev wS(l:List ai):Prop:=l.Pairwise λa b=>tb b a=false
theorem g5(x:ai):∀l:List ai,(Vabldi.putText x l).Perm (x::l)
 |[]=> .refl _
 |y::r=>by
  rw[Vabldi.putText];split
  ·exact .refl _
  ·exact((g5 x r).cons y).trans (List.Perm.swap x y r)
theorem mI(x:ai):∀{l:List ai},wS l->wS (Vabldi.putText x l)
 |[],_=>by simp[Vabldi.putText]
 |y::r,h=>by
  rw[Vabldi.putText];split
  ·rename_i hb;rw[wS,List.pairwise_cons]at h;refine List.Pairwise.cons ?_ (List.pairwise_cons.mpr h);intro z hz;rcases List.mem_cons.mp hz with rfl|hz
   ·exact nu hb
   ·exact yh (nu hb) (h.1 z hz)
  ·rename_i hb;have hb:tb x y=false:=by simpa using hb
   rw[wS,List.pairwise_cons]at h;refine List.Pairwise.cons ?_ (mI x h.2);intro z hz;rcases List.mem_cons.mp ((g5 x r).mem_iff.mp hz)with rfl|hz
   ·exact hb
   ·exact h.1 z hz
theorem vJ:∀(l acc:List ai),wS acc->wS (l.foldl (λr x=>Vabldi.putText x r) acc)/\(l.foldl (λr x=>Vabldi.putText x r) acc).Perm (acc++l)
 |[],acc,h=>by simp[h]
 |x::r,acc,h=>by
  obtain⟨h1,h2⟩:=vJ r (Vabldi.putText x acc) (mI x h);refine⟨h1,h2.trans ?_⟩;exact((g5 x acc).append_right r).trans List.perm_middle.symm
theorem g6(l:List ai):wS (Vabldi.sorted l):=(vJ l [] .nil).1
theorem cI(l:List ai):(Vabldi.sorted l).Perm l:=(vJ l [] .nil).2
theorem lh:∀{a b:List ai},a.Perm b->wS a->wS b->a=b
 |[],b,p,_,_=>by rw[List.nil_perm.mp p]
 |x::a,[],p,_,_=>by simpa using p.length_eq
 |x::a,y::b,p,ha,hb=>by
  rw[wS,List.pairwise_cons]at ha hb
  have e:x=y:=by
   by_cases e:x=y
   ·exact e
   ·have h1:x∈b:=by
     rcases List.mem_cons.mp (p.mem_iff.mp List.mem_cons_self)with h|h
     ·exact absurd h e
     ·exact h
    have h2:y∈a:=by
     rcases List.mem_cons.mp (p.mem_iff.mpr List.mem_cons_self)with h|h
     ·exact absurd h.symm e
     ·exact h
    exact jm (hb.1 x h1) (ha.1 y h2)
  subst e;rw[lh (List.perm_cons x |>.mp p) ha.2 hb.2]
theorem qx{ts ms:List ai}(p:ms.Perm ts)(h:wS ms):Vabldi.sorted ts=ms:=lh ((cI ts).trans p.symm) (g6 ts) h
theorem jn:∀l:List ai,(Vabldi.once l).getLast?=l.getLast?
 |[]=>rfl
 |[x]=>rfl
 |x::y::r=>by
  have ih:=jn (y::r);rw[Vabldi.once];split
  ·rw[ih,List.getLast?_cons_cons]
  ·rw[List.getLast?_cons,ih,List.getLast?_cons_cons,List.getLast?_cons];simp
theorem lX(z:ai):∀l:List ai,Vabldi.once (l++[z])=if l.getLast?=some z then Vabldi.once l else Vabldi.once l++[z]
 |[]=>by simp[Vabldi.once]
 |[x]=>by
  show Vabldi.once [x,z]=_;rw[Vabldi.once];by_cases e:x=z
  ·subst e;simp[Vabldi.once]
  ·simp[e,Vabldi.once]
 |x::y::r=>by
  have ih:=lX z (y::r);show Vabldi.once (x::y::(r++[z]))=_;rw[Vabldi.once,List.getLast?_cons_cons];have e:(y::(r++[z]))=(y::r)++[z]:=rfl;rw[e,ih,Vabldi.once];by_cases h:(y::r).getLast?=some z
  ·simp only[if_pos h]
  ·simp only[if_neg h];by_cases h2:x=y
   ·simp only[if_pos h2]
   ·simp only[if_neg h2];rfl
theorem lj:∀{l:List ai} {x:ai},x∈Vabldi.once l↔x∈l
 |[],x=>by simp[Vabldi.once]
 |[y],x=>by simp[Vabldi.once]
 |y::z::r,x=>by
  rw[Vabldi.once];split
  ·rename_i e;subst e;rw[lj (l:=y::r)];simp
  ·rw[List.mem_cons,lj (l:=z::r),List.mem_cons (a:=x) (b:=y)]
theorem ll:∀l:List ai,(Vabldi.once l).Sublist l
 |[]=>by simp[Vabldi.once]
 |[y]=>by simp[Vabldi.once]
 |y::z::r=>by
  rw[Vabldi.once];split
  ·exact(ll (z::r)).cons y
  ·exact(ll (z::r)).cons_cons y
theorem oJ:∀{l:List ai},wS l->(Vabldi.once l).Pairwise λa b=>tb a b=true
 |[],_=> .nil
 |[y],_=>by simp[Vabldi.once]
 |y::z::r,h=>by
  rw[wS,List.pairwise_cons]at h;rw[Vabldi.once];split
  ·exact oJ h.2
  ·rename_i e;refine List.Pairwise.cons ?_ (oJ h.2);intro x hx;have hx:=lj.mp hx;have h1:=h.1 x hx
   have h2:tb y z=true:=by
    cases q:tb y z with
    |true=>rfl
    |false=>exact absurd (jm q (h.1 z List.mem_cons_self)) e
   rcases List.mem_cons.mp hx with rfl|hx
   ·exact h2
   ·have h3:=(List.pairwise_cons.mp h.2).1 x hx;cases q:tb y x with
    |true=>rfl
    |false=>
     have h4:tb z y=false:=nu h2;have e2:=jm q h1;subst e2;rw[h2]at h3;cases h3
def dP(a:Vabldi.Action)(ds:List ai):List Vabldi.Input:=(a.inputs.zip ds).map λx=>{name:=x.1,bytes:=x.2}
section
variable{P:Program}{w:World}{K:PySem.W.Frag}{mg:Str->Option Value}{base:Heap}{C:Cs}
theorem tW:aC ["action","data","lines"] ["action","data"] (ao jD):=⟨rfl,rfl,rfl,by decide+kernel,rfl,by decide+kernel,by decide+kernel⟩
theorem Aa(T:Tx K mg C):Ok P w K mg base "count_input" ["action","data"] 4 (bP C (λa ds=>ds.length=1) (λa ds=>Vabldi.one (Vabldi.decimal (Vabldi.linesOf (ds.headD [])).length++(32::(Vabldi.decimal (ds.headD []).length++[10])))) λa _=>a.inputs):=by
 refine T.d_count_input.ok tW (λvs H Q E h=>bq h) (λf cdv A outer s H vs Q E hr h=> ?_);obtain⟨F,va,vd,a,ds,rfl,⟨p,dx,wa,wi,wo,rfl,hp,ha,hi,ho⟩,⟨ld,xs,rfl,hld,hpd⟩,ga,hlen,hby,hpre,f0,k⟩:=h;obtain⟨d,hd⟩:∃d,ds[0]? =some d:=⟨_,List.getElem?_eq_getElem (by omega)⟩;obtain⟨v0,hv0,a0,rfl,ha0⟩:=aY hpd hd;have hdl:=hby d (List.mem_of_getElem? hd);have cn:=eR (Vabldi.linesOf d);have ln:=bM d;have b1:(Vabldi.linesOf d).length<10 ^ 30:=Nat.lt_of_le_of_lt (show _<=5000 by omega) (by decide);have b2:d.length<10 ^ 30:=Nat.lt_of_le_of_lt (show _<=5000 by omega) (by decide);have l1:=bF b1;have l2:=bF b2
 refine⟨_,ae (aF (i:=2) tW.nd rfl (Or.inl rfl) (aB (eM T) hr (ab (bp T.b_len (aB (cF T) hr (ab (bx bn (pv 1) aG (λ_ _=>rfl)) af))) af)))
  (ah (aq (aB (ca T) hr (ab (aL (ab (bD cC (bD cC (bD cC (pv 2) (aB (bJ T) hr (ab gE af))) (aB (eM T) hr (ab (bp T.b_len (bx bn (pv 1) aG (λ_ _=>rfl))) af))) (aB (bJ T) hr (ab gE af))) af)) (ab (aD (pv 0) rfl) af))))),?_⟩
 refine⟨_,rfl,ld,xs,0,_,rfl,rfl,aZ.of (f0 _ _ hld),bd (j:=0) hv0,F,_,d,rfl,⟨a0,rfl,ha0⟩,by omega,f0,λu F1 H1 e1 ⟨c1,ys,eu,hc1,hys⟩=> ?_⟩;subst eu;refine⟨c1,ys,rfl,e1.fh _ _ hc1,F1,(Vabldi.linesOf d).length,by rw[aA hys];rfl,b1,e1.fh,λu F2 H2 e2 ⟨c2,eu,hc2⟩=> ?_⟩;subst eu;refine⟨_,rfl,F2,_,rfl,by decide,e2.fh,λu F3 H3 e3 ⟨c3,eu,hc3⟩=> ?_⟩;subst eu;refine⟨c2,c3,_,_,rfl,rfl,e3.hh _ _ (e2.fh _ _ hc2),e3.fh _ _ hc3,?_,λq4 hq4=> ?_⟩
 ·rw[aM,aM];have :(8388608:Nat)<sizeLine:=by decide
  have :(Str.ofString " ").cps.toList.length<=10:=by decide
  omega
 rw[<-b5];have e4:=((e1.trans e2).trans e3).newF (o:= .lst ((zs (Vabldi.decimal (Vabldi.linesOf d).length++(Str.ofString " ").cps.toList)).map V.int)) hq4;refine⟨_,rfl,ld,xs,0,_,rfl,rfl,aZ.of (e4.hh _ _ (f0 _ _ hld)),bd (j:=0) hv0,a0,_,rfl,e4.hh _ _ (f0 _ _ ha0),_,d.length,by rw[aM];rfl,b2,e4.fh,λu F5 H5 e5 ⟨c5,eu,hc5⟩=> ?_⟩;subst eu;refine⟨q4,c5,_,_,rfl,rfl,e5.hh _ _ aa,e5.fh _ _ hc5,?_,λq6 hq6=> ?_⟩
 ·rw[aM,aM,List.length_append];have :(8388608:Nat)<sizeLine:=by decide
  have :(Str.ofString " ").cps.toList.length<=10:=by decide
  omega
 rw[<-b5];have e6:=(e4.trans e5).newF (o:= .lst ((zs (Vabldi.decimal (Vabldi.linesOf d).length++(Str.ofString " ").cps.toList++Vabldi.decimal d.length)).map V.int)) hq6;refine⟨_,_,rfl,by decide,e6.fh,λu F7 H7 e7 ⟨c7,eu,hc7⟩=> ?_⟩;subst eu;refine⟨q6,c7,_,_,rfl,rfl,e7.hh _ _ aa,e7.fh _ _ hc7,?_,λq8 hq8=> ?_⟩
 ·rw[aM,aM,List.length_append,List.length_append];have :(8388608:Nat)<sizeLine:=by decide
  have :(Str.ofString " ").cps.toList.length<=10:=by decide
  have :(Str.ofString "\n").cps.toList.length<=10:=by decide
  omega
 rw[<-b5];have e8:=(e6.trans e7).newF (o:= .lst ((zs (Vabldi.decimal (Vabldi.linesOf d).length++(Str.ofString " ").cps.toList++Vabldi.decimal d.length++(Str.ofString "\n").cps.toList)).map V.int)) hq8;refine⟨aX _,λq9 hq9=>du T e8 hp hi rfl aa hq9 λu F2 H2 e ho2=>k u F2 H2 e ?_⟩;dsimp only;rw[cR hd];have es:(Str.ofString " ").cps.toList=[32]:=by decide
 have en:(Str.ofString "\n").cps.toList=[10]:=by decide
 rw[es,en]at ho2;have e9:Vabldi.decimal (Vabldi.linesOf d).length++[32]++Vabldi.decimal d.length++[10]=Vabldi.decimal (Vabldi.linesOf d).length++(32::(Vabldi.decimal d.length++[10])):=by simp
 rw[e9]at ho2;exact ho2
theorem oK{α:Type}{p:α->Bool}:∀{l:List α} {i:Nat} {x:α},l[i]? =some x->p x=true->(∀j y,j<i->l[j]? =some y->p y=false)->l.find? p=some x
 |[],_,_,h,_,_=>by simp at h
 |y::r,0,x,h,hp,_=>by simp at h;subst h;simp[List.find?_cons,hp]
 |y::r,i+1,x,h,hp,hn=>by
  rw[List.find?_cons,hn 0 y (by omega) rfl];exact oK (l:=r) (i:=i) (by simpa using h) hp λj z hj hz=>hn (j+1) z (by omega) (by simpa using hz)
theorem Eh{a:Vabldi.Action}{ds:List ai}{i:Nat}{n d:ai}(h1:a.inputs[i]? =some n)(h2:ds[i]? =some d):(dP a ds)[i]? =some {name:=n,bytes:=d}:=by
 unfold dP;rw[List.getElem?_map,(List.getElem?_zip_eq_some (z:=(n,d))).mpr ⟨h1,h2⟩];rfl
abbrev Ei:List Str:=["action","data","wanted","name","text"]
theorem nv:aC Ei ["action","data"] (ao kO):=⟨rfl,rfl,rfl,by decide+kernel,rfl,by decide+kernel,by decide+kernel⟩
theorem Cc(T:Tx K mg C):Ok P w K mg base "pick_input" ["action","data"] 4 (bP C (λa ds=>a.arguments.length=1) (λa ds=>Vabldi.pickOf (Vabldi.argument a.arguments 0) (dP a ds)) λa ds=>if(Vabldi.named (dP a ds) (Vabldi.argument a.arguments 0)).isSome=true/\Vabldi.isName (Vabldi.argument a.arguments 0)=true then[Vabldi.argument a.arguments 0]else[]):=by
 refine T.d_pick_input.ok nv (λvs H Q E h=>bq h) (λf cdv A outer s H vs Q E hr h=> ?_);obtain⟨F,va,vd,a,ds,rfl,⟨p,dx,wa,wi,wo,rfl,hp,ha,hi,ho⟩,⟨ld,xs,rfl,hld,hpd⟩,ga,hlen,hby,hpre,f0,k⟩:=h;obtain⟨la,as,rfl,hla,hpa⟩:=ha;obtain⟨li,is,rfl,hli,hpi⟩:=hi;obtain⟨arg,harg⟩:∃s,a.arguments[0]? =some s:=⟨_,List.getElem?_eq_getElem (by omega)⟩;obtain⟨v1,hv1,a1,rfl,ha1⟩:=aY hpa harg;have earg:Vabldi.argument a.arguments 0=arg:=by unfold Vabldi.argument;rw[harg];rfl
 dsimp only at k;rw[earg]at k
 refine⟨_,ae (aN (bR (bI (aB (cX T) hr (ab (bx bn (aD (pv 0) rfl) aG (λ_ _=>rfl)) af)))) (ah (aq (aB (bL T) hr (ab (aV T.g_ARGUMENT) (ab (aL af) af))))) aE)
  (ae (aF (i:=2) nv.nd rfl (Or.inl rfl) (bB T.b_tuple (bx bn (aD (pv 0) rfl) aG (λ_ _=>rfl))))
  (ae (b0 PassesOwn.never rfl (u4 rfl T.b_zip (ab (aD (pv 0) rfl) (ab (pv 1) af))) (qX rfl (dH (aS (i:=3) nv.nd rfl (Or.inl rfl)) (dH (aS (i:=4) nv.nd rfl (Or.inl rfl)) m4)))
   (ah (aN (aK (j5 hr) (pv 3) (pv 2) (aP _)) (ah (aq (aB (ca T) hr (ab (aL (ab (pv 4) af)) (ab (aL (ab (pv 3) af)) af))))) aE)))
  (ah (aq (aB (dO T) hr (ab (pv 2) (ab (aL af) af))))))),?_⟩
 refine⟨_,rfl,p,C.Action,dx,_,_,rfl,f0 _ _ hp,T.k_Action.cl,T.n_Action_arguments,rfl,la,as,0,_,rfl,rfl,aZ.of (f0 _ _ hla),bd (j:=0) hv1,F,_,arg,rfl,⟨a1,rfl,ha1⟩,f0,λu F1 H1 e1 eu=> ?_⟩;subst eu;refine⟨_,rfl,bY (λhb=> ?_) (λhb=> ?_)⟩
 ·have hb:Vabldi.isName arg=false:=by simpa using hb
  refine⟨by decide,λq hq=> ?_⟩;have e4:=e1.newF (o:= .lst []) hq;refine⟨_,2,_,[],rfl,⟨q,[],rfl,aa,.nil⟩,e4.fh,λu F2 H2 e3 ho2=>k _ _ _ (e4.trans e3) ?_⟩;rw[if_neg (by rw[hb];simp)];unfold Vabldi.pickOf;rw[if_pos hb];exact ho2
 ·have hb:Vabldi.isName arg=true:=by simpa using hb
  refine⟨_,rfl,p,C.Action,dx,_,_,rfl,e1.hh _ _ (f0 _ _ hp),T.k_Action.cl,T.n_Action_arguments,rfl,la,as,0,_,rfl,rfl,aZ.of (e1.hh _ _ (f0 _ _ hla)),bd (j:=0) hv1,a1,_,rfl,e1.hh _ _ (f0 _ _ ha1),λwq hwq=> ?_⟩;have e2:=e1.newF (o:= .tup ((zs arg).map V.int)) hwq;refine⟨_,rfl,p,C.Action,dx,_,_,rfl,e2.hh _ _ (f0 _ _ hp),T.k_Action.cl,T.n_Action_inputs,rfl,_,rfl,li,ld,is,xs,rfl,aZ.of (e2.hh _ _ (f0 _ _ hli)),aZ.of (e2.hh _ _ (f0 _ _ hld)),?_⟩;refine z0 (p:=3) (q:=4) (S:=[]) (F0:=F) (H0:=H) (λi σ1 F1 H1=>∃b1 b2,σ1=[some (.ref p),some (.ref ld),some (.ref wq),b1,b2]/\∀j n,j<i->a.inputs[j]? =some n->n≠arg) e2.x (e2.ff _ _ hli) (e2.ff _ _ hld) (by rw[aA hpi,aA hpd,hlen]) ⟨none,none,rfl,λj n hj=>absurd hj (Nat.not_lt_zero _)⟩ ?_ ?_ ?_
  ·rintro i σ1 F3 H3 T' o e3 nT h;exact h
  ·rintro i x y σ1 F3 H3 hx hy e3 s3 ⟨b1,b2,rfl,hno⟩
   obtain⟨n,hn,an,rfl,han⟩:=bg hpi hx;obtain⟨d,hd,ad,rfl,had⟩:=bg hpd hy;have e3:=e3.ext;refine⟨_,rfl,_,rfl,an,wq,_,_,rfl,rfl,.inr ⟨e3.hh _ _ (f0 _ _ han),e3.fh _ _ (s3 _ _ aa)⟩,_,rfl,?_⟩;rw[ie];refine bY (λhb2=> ?_) (λhb2=> ?_)
   ·have en:n=arg:=of_decide_eq_true hb2;subst en
    have hnm:Vabldi.named (dP a ds) n=some d:=by
     unfold Vabldi.named;rw[oK (Eh hn hd) (by simp) λj y hj hy=> ?_]
     ·rfl
     ·unfold dP at hy;rw[List.getElem?_map]at hy;cases q:(a.inputs.zip ds)[j]? with
      |none=>rw[q]at hy;cases hy
      |some z=>
       rw[q]at hy;have :=hno j z.1 hj (List.getElem?_zip_eq_some.mp (by rw[q])).1;have e:(⟨z.1,z.2⟩:Vabldi.Input)=y:=Option.some.inj hy;subst e;simpa using this
    refine⟨_,rfl,aX _,λq hq=>⟨_,rfl,aX _,λq2 hq2=> ?_⟩⟩;have e4:=e3.newF (o:= .lst [.ref ad]) hq;have s4:=aI (o:= .lst [.ref ad]) (e3.fh.free hq);have e5:=e4.newF (o:= .lst [.ref an]) hq2;have s5:=aI (o:= .lst [.ref an]) (e4.fh.free hq2);refine⟨_,_,_,[d],[n],rfl,i6 (s5 _ _ aa) (s5 _ _ (s4 _ _ (e3.ff _ _ had))),⟨q2,_,rfl,aa,.cons ⟨an,rfl,s5 _ _ (s4 _ _ (e3.ff _ _ han))⟩ .nil⟩,e5.fh,λu F6 H6 e6 ho2=>k u F6 H6 (e5.trans e6) ?_⟩;rw[if_pos ⟨by rw[hnm];rfl,hb⟩];unfold Vabldi.pickOf;rw[if_neg (by rw[hb];decide),hnm];exact ho2
   ·refine⟨F3,e3.x,s3,_,_,rfl,λj m hj hm=> ?_⟩;by_cases ej:j=i
    ·subst ej;rw[hn]at hm;cases hm;exact of_decide_eq_false hb2
    ·exact hno j m (by omega) hm
  ·rintro σ1 F3 H3 e3 s3 ⟨b1,b2,rfl,hno⟩
   rw[aA hpi]at hno
   have hnm:Vabldi.named (dP a ds) arg=none:=by
    unfold Vabldi.named;rw[Option.map_eq_none_iff,List.find?_eq_none];intro y hy;unfold dP at hy;obtain⟨z,hz,rfl⟩:=List.mem_map.mp hy;obtain⟨j,hj⟩:=List.mem_iff_getElem?.mp hz;have h1:=(List.getElem?_zip_eq_some.mp hj).1;have :=hno j z.1 (ck h1) h1;simpa using this
   have e3:=e3.ext;refine⟨_,rfl,by decide,λq hq=> ?_⟩;have e4:=e3.newF (o:= .lst []) hq;refine⟨_,_,arg,_,[],rfl,⟨wq,rfl,?_⟩,⟨q,[],rfl,aa,.nil⟩,e4.fh,λu F6 H6 e6 ho2=>k u F6 H6 (e4.trans e6) ?_⟩
   ·exact(aI (e3.fh.free hq)) _ _ (s3 _ _ aa)
   ·rw[if_neg (by rw[hnm];simp)];unfold Vabldi.pickOf;rw[if_neg (by rw[hb];decide),hnm];exact ho2
end
def oM(ls:List ai):Nat:=(ls.map Vabldi.valueOf).foldl (λn x=>n+x) 0
theorem yj(l:List ai)(t:ai):oM (l++[t])=oM l+Vabldi.valueOf t:=by
 unfold oM;rw[List.map_append,List.foldl_append];rfl
theorem Ej:∀{t:ai},t.all Vabldi.digit=true->Vabldi.valueOf t<10 ^ t.length:=by
 intro t
 have h:∀(r:ai) (n:Nat),r.all Vabldi.digit=true->r.foldl (λn c=>10*n+(c-48)) n+1<=(n+1)*10 ^ r.length:=by
  intro r;induction r with
  |nil=>intro n _;simp
  |cons c r ih=>
   intro n hd;rw[List.all_cons,Bool.and_eq_true]at hd
   have hc:c<=57:=by
    have :=hd.1;unfold Vabldi.digit at this;simp at this;omega
   refine Nat.le_trans (ih _ hd.2) ?_;rw[List.length_cons,Nat.pow_succ,Nat.mul_comm (10 ^ r.length) 10,<-Nat.mul_assoc];exact Nat.mul_le_mul_right _ (by show 10*n+(c-48)+1<=(n+1)*10;omega)
 intro hd;have :=h t 0 hd;unfold Vabldi.valueOf;omega
theorem Cd:∀{ls:List ai},(∀t∈ls,Vabldi.isNumber 9 t=true)->oM ls<=ls.length*10 ^ 9:=by
 intro ls h
 have g:∀(l:List ai) (n:Nat),(∀t∈l,Vabldi.isNumber 9 t=true)->(l.map Vabldi.valueOf).foldl (λn x=>n+x) n<=n+l.length*10 ^ 9:=by
  intro l;induction l with
  |nil=>intro n _;simp
  |cons t r ih=>
   intro n h;have h1:=g4 (h t List.mem_cons_self);have h2:=Ej h1.1;have h3:10 ^ t.length<=10 ^ 9:=Nat.pow_le_pow_right (by decide) h1.2;have :=ih (n+Vabldi.valueOf t) λt ht=>h t (List.mem_cons_of_mem _ ht)
   rw[List.map_cons,List.foldl_cons,List.length_cons,Nat.add_mul,Nat.one_mul];omega
 have :=g ls 0 h;unfold oM;omega
theorem i9:∀{ds:List ai},(∀d∈ds,d.length<=4096)->(ds.flatMap Vabldi.linesOf).length<=ds.length*4097
 |[],_=>by simp
 |d::r,h=>by
  have h1:=i9 (ds:=r) λx hx=>h x (List.mem_cons_of_mem _ hx)
  have h2:=h d List.mem_cons_self;have h3:=bM d;have h4:=eR (Vabldi.linesOf d);rw[List.flatMap_cons,List.length_append,List.length_cons,Nat.add_mul,Nat.one_mul];omega
section
variable{P:Program}{w:World}{K:PySem.W.Frag}{mg:Str->Option Value}{base:Heap}{C:Cs}
abbrev FR:List Str:=["action","data","total","text","line"]
theorem oN:aC FR ["action","data"] (ao mB):=⟨rfl,rfl,rfl,by decide+kernel,rfl,by decide+kernel,by decide+kernel⟩
theorem Ek(T:Tx K mg C):Ok P w K mg base "sum_lines" ["action","data"] 4 (bP C (λa ds=>True) (λa ds=>if(ds.flatMap Vabldi.linesOf).all (Vabldi.isNumber 9)=false then Vabldi.failed 9 else Vabldi.one (Vabldi.decimal (oM (ds.flatMap Vabldi.linesOf))++[10])) λa _=>a.inputs):=by
 refine T.d_sum_lines.ok oN (λvs H Q E h=>bq h) (λf cdv A outer s H vs Q E hr h=> ?_);obtain⟨F,va,vd,a,ds,rfl,⟨p,dx,wa,wi,wo,rfl,hp,ha,hi,ho⟩,⟨ld,xs,rfl,hld,hpd⟩,ga,hlen,hby,hpre,f0,k⟩:=h;dsimp only at k
 refine⟨_,ae (aF (i:=2) oN.nd rfl (Or.inl rfl) aG)
  (ae (b0 PassesOwn.never rfl (bj (pv 1)) (aS (i:=3) oN.nd rfl (Or.inl rfl))
   (ah (b0 PassesOwn.never rfl (bj (aB (cF T) hr (ab (pv 3) af))) (aS (i:=4) oN.nd rfl (Or.inl rfl))
    (ae (aN (bR (bI (aB (kX T) hr (ab (pv 4) (ab (aV T.g_MOST_SUM_DIGITS) af))))) (ah (aq (aB (bL T) hr (ab (aV T.g_NUMBER) (ab (aD (pv 0) rfl) af))))) aE)
    (ah (jO (i:=2) oN.nd rfl (Or.inl rfl) (aB (kY T) hr (ab (pv 4) af)) iu))))))
  (ah (aq (aB (ca T) hr (ab (aL (ab (bD cC (aB (eM T) hr (ab (pv 2) af)) (aB (bJ T) hr (ab gE af))) af)) (ab (aD (pv 0) rfl) af)))))),?_⟩
 refine⟨_,rfl,ld,rfl,⟨_,aZ.of (f0 _ _ hld)⟩,fY (λi σ1 F1 H1=>∃b1 b2,σ1=[some (.ref p),some (.ref ld),some (.int (oM ((ds.take i).flatMap Vabldi.linesOf))),b1,b2]/\∀t∈(ds.take i).flatMap Vabldi.linesOf,Vabldi.isNumber 9 t=true) (bo.refl f0) (aZ.of hld) ⟨none,none,rfl,by simp⟩ ?_ ?_⟩
 ·rintro i x σ1 F1 H1 hx e1 s1 ⟨b1,b2,rfl,hall⟩
  obtain⟨d,hd,ad,rfl,had⟩:=bg hpd hx;have hdl:=hby d (List.mem_of_getElem? hd);have hln:=bM d;refine⟨_,rfl,F1,_,d,rfl,⟨ad,rfl,s1 _ _ had⟩,by omega,e1.fh,λu F2 H2 e2 ⟨c2,ys,eu,hc2,hys⟩=> ?_⟩;subst eu;refine⟨c2,rfl,⟨_,aZ.of (e2.fh _ _ hc2)⟩,fY (λj σ1 F3 H3=>∃b2,σ1=[some (.ref p),some (.ref ld),some (.int (oM ((ds.take i).flatMap Vabldi.linesOf++(Vabldi.linesOf d).take j))),some (.ref ad),b2]/\∀t∈(ds.take i).flatMap Vabldi.linesOf++(Vabldi.linesOf d).take j,Vabldi.isNumber 9 t=true) (e1.trans e2) (aZ.of hc2) ⟨b2,?_,?_⟩ ?_ ?_⟩
  ·rw[List.take_zero,List.append_nil];rfl
  ·rw[List.take_zero,List.append_nil];exact hall
  ·rintro j y σ2 F3 H3 hy e3 s3 ⟨b3,rfl,hall3⟩
   obtain⟨t,ht,at',rfl,hat⟩:=bg hys hy;have htl:=tV (List.mem_of_getElem? ht);refine⟨_,rfl,F3,_,t,9,rfl,⟨at',rfl,s3 _ _ hat⟩,by omega,e3.fh,λu F4 H4 e4 eu=> ?_⟩;subst eu;refine⟨_,rfl,bY (λhb=> ?_) (λhb=> ?_)⟩
   ·refine cY T (e3.trans e4) hp hi rfl λu F5 H5 e ho2=>k u F5 H5 e ?_
    have hb:Vabldi.isNumber 9 t=false:=by simpa using hb
    rw[if_pos]
    ·exact ho2
    ·rw[List.all_eq_false];exact⟨t,List.mem_flatMap.mpr ⟨d,List.mem_of_getElem? hd,List.mem_of_getElem? ht⟩,by rw[hb];decide⟩
   ·have hb:Vabldi.isNumber 9 t=true:=by simpa using hb
    refine⟨_,rfl,_,rfl,F4,_,t,rfl,⟨at',rfl,e4.ff _ _ (s3 _ _ hat)⟩,(g4 hb).1,e4.fh,λu F5 H5 e5 eu=> ?_⟩;subst eu;refine⟨_,_,rfl,rfl,F5,(e3.trans e4).trans e5,s3.trans (e4.ff.trans e5.ff),some (.ref at'),?_,?_⟩
    ·rw[aT ht,<-List.append_assoc,yj];show[some (V.ref p),some (V.ref ld),some (V.int ((oM _:Nat)+(Vabldi.valueOf t:Nat))),some (V.ref ad),some (V.ref at')]=_;rw[<-Int.natCast_add]
    ·intro z hz;rw[aT ht,<-List.append_assoc,List.mem_append]at hz;rcases hz with hz|hz
     ·exact hall3 z hz
     ·simp at hz;subst hz;exact hb
  ·rintro σ2 F3 H3 e3 s3 ⟨b3,rfl,hall3⟩
   rw[aA hys,List.take_length]at hall3⊢;refine⟨F3,e3,s1.trans (e2.ff.trans s3),some (.ref ad),b3,?_,?_⟩
   ·rw[aT hd,List.flatMap_append];simp
   ·intro z hz;rw[aT hd,List.flatMap_append]at hz;exact hall3 z (by simpa using hz)
 ·rintro σ1 F1 H1 e1 s1 ⟨b1,b2,rfl,hall⟩
  rw[aA hpd,List.take_length]at hall⊢;have h8:=ga.il;have hl:=i9 hby;have hm:ds.length*4097<=8*4097:=Nat.mul_le_mul_right _ (by omega);have hs:=Cd hall
  have hb:oM (ds.flatMap Vabldi.linesOf)<10 ^ 30:=by
   have :(ds.flatMap Vabldi.linesOf).length*10 ^ 9<=40000*10 ^ 9:=Nat.mul_le_mul_right _ (by omega);exact Nat.lt_of_le_of_lt (Nat.le_trans hs this) (by decide)
  have hdl:=bF hb;refine⟨_,rfl,F1,_,rfl,hb,e1.fh,λu F2 H2 e2 ⟨c2,eu,hc2⟩=> ?_⟩;subst eu;refine⟨F2,_,rfl,by decide,e2.fh,λu F3 H3 e3 ⟨c3,eu,hc3⟩=> ?_⟩;subst eu;refine⟨c2,c3,_,_,rfl,rfl,e3.hh _ _ (e2.fh _ _ hc2),e3.fh _ _ hc3,?_,λq4 hq4=> ?_⟩
  ·rw[aM,aM];have :(8388608:Nat)<sizeLine:=by decide
   have :(Str.ofString "\n").cps.toList.length<=10:=by decide
   omega
  rw[<-b5];have e4:=((e1.trans e2).trans e3).newF (o:= .lst ((zs (Vabldi.decimal (oM (ds.flatMap Vabldi.linesOf))++(Str.ofString "\n").cps.toList)).map V.int)) hq4;refine⟨aX _,λq9 hq9=>du T e4 hp hi rfl aa hq9 λu F2 H2 e ho2=>k u F2 H2 e ?_⟩;have en:(Str.ofString "\n").cps.toList=[10]:=by decide
  rw[en]at ho2;rw[if_neg]
  ·exact ho2
  ·rw[List.all_eq_false];rintro ⟨t,ht,hn⟩;exact hn (hall t ht)
abbrev El:List Str:=["lines","kept","line"]
theorem rX:aC El ["lines"] (ao mz):=⟨rfl,rfl,rfl,by decide+kernel,rfl,by decide+kernel,by decide+kernel⟩
def Ce:Sp:=λvs H Q _=>∃(F:Hp) (v:V) (ts:List ai),vs=[v]/\cW F v ts/\ts.length<=8388608/\aH F H/\Rt F H Q λF1 u=>cW F1 u (Vabldi.once ts)
theorem Cf{α:Type}{l:List α}{x:α}(h:l.getLast?=some x):yN l (-1)=some x:=by
 obtain⟨r,rfl⟩:=List.getLast?_eq_some_iff.mp h;exact iB r x
theorem mJ{α β:Type}{R:α->β->Prop}{xs:List α}{ds:List β}{d:β}(h:Paired R xs ds)(e:ds.getLast?=some d):∃x,xs.getLast?=some x/\R x d:=by
 rw[List.getLast?_eq_getElem?]at e;obtain⟨x,h1,h2⟩:=aY h e;exact⟨x,by rw[List.getLast?_eq_getElem?,aA h];exact h1,h2⟩
theorem Cg(T:Tx K mg C):Ok P w K mg base "each_once" ["lines"] 1 Ce:=by
 refine T.d_each_once.ok rX (λvs H Q E h=>by obtain⟨_,_,_,e,_⟩:=h;rw[e];rfl) (λf cdv A outer s H vs Q E hr h=> ?_);obtain⟨F,v,ts,rfl,⟨lt,xs,rfl,hlt,hpt⟩,hl,f0,k⟩:=h
 refine⟨_,ae (aF (i:=1) rX.nd rfl (Or.inl rfl) (aL af))
  (ae (b0 PassesOwn.never rfl (bj (pv 0)) (aS (i:=2) rX.nd rfl (Or.inl rfl))
   (ah (aN (PW.pt (km (bR (iy (pv 1) (λ_=>rfl))) (lF (aK (u8 hr) (bx bn (pv 1) (sE nP aG) (λ_ _=>rfl)) (pv 2) (aP _))))) (ah (cD (pv 1) (pv 2))) aE)))
  (ah (aq (pv 1)))),?_⟩
 have sz:(8388608:Nat)<sizeLine:=by decide
 refine⟨Nat.zero_le _,λL hL=> ?_⟩;refine⟨_,rfl,lt,rfl,⟨_,aZ.of (((bo.refl f0).new hL).fh _ _ hlt)⟩,fY (λi σ1 F1 H1=>∃b refs,σ1=[some (.ref lt),some (.ref L),b]/\H1 L=some (.lst refs)/\F1 L=none/\Paired (dk F) refs (Vabldi.once (ts.take i))) ((bo.refl f0).new hL) (aZ.of hlt) ⟨none,[],rfl,aa,f0.free hL,.nil⟩ ?_ ?_⟩
 ·rintro i x σ1 F1 H1 hx e1 s1 ⟨b,refs,rfl,hHL,fL,hp⟩
  obtain⟨t,ht,at',rfl,hat⟩:=bg hpt hx
  have hol:(Vabldi.once (ts.take i)).length<=i:=by
   have :=(ll (ts.take i)).length_le;rw[List.length_take]at this;omega
  have hil:=ck ht
  have add:¬(ts.take i).getLast?=some t->∃l xs',V.ref L= .ref l/\H1 l=some (.lst xs')/\(nJ 2) [some (.ref lt),some (.ref L),some (.ref at')] H1 λy H2=>∃ys,H2 l=some (.lst ys)/\ys.length<sizeLine/\∃F',bo F H F' (aJ H2 l (.lst (ys++[y])))/\aH F F'/\∃b refs,[some (V.ref lt),some (V.ref L),some (V.ref at')]=[some (V.ref lt),some (V.ref L),b]/\aJ H2 l (.lst (ys++[y])) L=some (.lst refs)/\F' L=none/\Paired (dk F) refs (Vabldi.once (ts.take (i+1))):=λhn=>by
   refine⟨L,refs,rfl,hHL,_,rfl,refs,hHL,?_,F1,e1.wr hL fL,s1,_,refs++[.ref at'],rfl,aa,fL,?_⟩
   ·rw[aA hp];omega
   ·rw[aT ht,lX,if_neg hn];exact bh ⟨at',rfl,hat⟩ hp
  refine⟨_,rfl,_,.inl ⟨_,aZ.of hHL,rfl⟩,bY (λhb=> ?_) (λhb=> ?_)⟩
  ·refine iq ⟨_,rfl,add ?_⟩;intro hlast;rw[<-jn]at hlast;obtain⟨y,hy,_⟩:=mJ hp hlast;cases refs with
   |nil=>simp at hy
   |cons z r=>simp at hb
  ·obtain⟨y,hy⟩:∃y,(Vabldi.once (ts.take i)).getLast?=some y:=by
    cases q:(Vabldi.once (ts.take i)).getLast? with
    |some y=>exact⟨y,rfl⟩
    |none=>
     rw[List.getLast?_eq_none_iff]at q;rw[q]at hp;cases hp;simp at hb
   obtain⟨vy,hvy,ay,rfl,hay⟩:=mJ hp hy;refine⟨_,rfl,1,rfl,L,refs,-1,_,rfl,rfl,aZ.of hHL,Cf hvy,_,rfl,ay,at',_,_,rfl,rfl,.inl ⟨e1.hh _ _ (f0 _ _ hay),e1.hh _ _ (f0 _ _ hat)⟩,_,rfl,?_⟩;rw[ie];refine bY (λhb2=> ?_) (λhb2=> ?_)
   ·refine⟨_,rfl,add ?_⟩;intro hlast;rw[<-jn,hy]at hlast;cases hlast;simp at hb2
   ·have ey:y=t:=by simpa using hb2
    subst ey;refine⟨F1,e1,s1,_,refs,rfl,hHL,fL,?_⟩;rw[aT ht,lX,if_pos (by rw[<-jn];exact hy)];exact hp
 ·rintro σ1 F1 H1 e1 s1 ⟨b,refs,rfl,hHL,fL,hp⟩
  rw[aA hpt,List.take_length]at hp;exact⟨_,rfl,k _ _ _ (e1.frz hL hHL fL) ⟨L,refs,rfl,aa,Paired.mapP hp λv d r=>r.mono (s1.trans (aI fL))⟩⟩
end
theorem lY:bootBuiltins "sorted"=some (.builtin "sorted"):=by decide+kernel
theorem Ab{X:Cx}{e:Expr}{te:TE}{pos p:Pos}{j:Nat}(hr:Room j X.A)(hm:X.mg "sorted"=none)(he:PE X e te)(hg:Gl X "sorted":=by rfl)(hs:starEach [e] X.env=(false,eval e X.env)::starEach [] X.env:=by rfl)(hpl:(backTo pos (starEach [] X.env)).any (·.1)=false:=by rfl):
  PE X (.Call (.Name "sorted" p) [e] [] pos) (uJ zV te):=iK (zW hr) (λv H Q h=>⟨v,rfl,h⟩) hm lY he hg (by decide) (by decide) hs hpl
def G5(H:Hp)(v:V)(ns:List Int):Prop:=∃b,v=V.ref b/\H b=some (.lst (ns.map V.int))
theorem qy{H:Hp}:∀{xs:List V} {ts:List ai},Paired (dk H) xs ts->Paired (G5 H) xs (ts.map zs)
 |_,_,.nil=> .nil
 |_,_,.cons r t=> .cons r (qy t)
theorem C7{H:Hp}:∀{xs:List V} {ts:List ai},Paired (G5 H) xs (ts.map zs)->Paired (dk H) xs ts
 |_,[],h=>by cases h;exact .nil
 |_,t::r,h=>by cases h with |cons a b=>exact .cons a (C7 b)
theorem Ac:∀{ms:List (List Int)} {ts:List ai},ms.Perm (ts.map zs)->∃us:List ai,ms=us.map zs:=by
 intro ms ts p
 have h:∀m∈ms,∃u:ai,m=zs u:=λm hm=>by
  obtain⟨u,_,e⟩:=List.mem_map.mp (p.mem_iff.mp hm);exact⟨u,e.symm⟩
 clear p;induction ms with
 |nil=>exact⟨[],rfl⟩
 |cons m r ih=>
  obtain⟨u,e⟩:=h m List.mem_cons_self;obtain⟨us,es⟩:=ih λz hz=>h z (List.mem_cons_of_mem _ hz)
  exact⟨u::us,by rw[e,es];rfl⟩
def FS(l:List Int):ai:=l.map λz=>z.toNat
theorem Em(t:ai):FS (zs t)=t:=by
 induction t with
 |nil=>rfl
 |cons a r ih=>
  show((a:Int).toNat)::FS (zs r)=a::r
  rw[ih];simp
theorem nw(ts:List ai):(ts.map zs).map FS=ts:=by
 induction ts with
 |nil=>rfl
 |cons t r ih=>rw[List.map_cons,List.map_cons,Em,ih]
theorem yk{H:Hp}{ys:List V}{ms:List (List Int)}{ts:List ai}(h:Paired (G5 H) ys ms)(p:ms.Perm (ts.map zs))(w:ms.Pairwise λa b=>HT.lexLt b a=false):Paired (dk H) ys (Vabldi.sorted ts):=by
 obtain⟨us,rfl⟩:=Ac p
 have p2:us.Perm ts:=by
  have :=p.map FS;rwa[nw,nw]at this
 rw[qx p2]
 ·exact C7 h
 ·rw[List.pairwise_map]at w;exact w.imp λ{a b} h=>by rw[vI]at h;exact h
section
variable{P:Program}{w:World}{K:PySem.W.Frag}{mg:Str->Option Value}{base:Heap}{C:Cs}
theorem rY:aC ["action","data","how","lines"] ["action","data"] (ao kM):=⟨rfl,rfl,rfl,by decide+kernel,rfl,by decide+kernel,by decide+kernel⟩
theorem Ad{a b:List ai}(h:a.Perm b):(Vabldi.putLines a).length=(Vabldi.putLines b).length:=by
 induction h with
 |nil=>rfl
 |cons x _ ih=>unfold Vabldi.putLines at ih⊢;simp only[List.flatMap_cons,List.length_append];omega
 |swap x y l=>unfold Vabldi.putLines;simp only[List.flatMap_cons,List.length_append];omega
 |trans _ _ a b=>omega
theorem Ch(T:Tx K mg C):Ok P w K mg base "sort_lines" ["action","data"] 4 (bP C (λa ds=>ds.length=1/\a.arguments.length=1) (λa ds=>Vabldi.sortOf (Vabldi.argument a.arguments 0) (ds.headD [])) λa _=>a.inputs):=by
 refine T.d_sort_lines.ok rY (λvs H Q E h=>bq h) (λf cdv A outer s H vs Q E hr h=> ?_);obtain⟨F,va,vd,a,ds,rfl,⟨p,dx,wa,wi,wo,rfl,hp,ha,hi,ho⟩,⟨ld,xs,rfl,hld,hpd⟩,ga,hlen,hby,hpre,f0,k⟩:=h;obtain⟨d,hd⟩:∃d,ds[0]? =some d:=⟨_,List.getElem?_eq_getElem (by omega)⟩;obtain⟨v0,hv0,a0,rfl,ha0⟩:=aY hpd hd;have hdl:=hby d (List.mem_of_getElem? hd);obtain⟨la,as,rfl,hla,hpa⟩:=ha;obtain⟨arg,harg⟩:∃s,a.arguments[0]? =some s:=⟨_,List.getElem?_eq_getElem (by omega)⟩;obtain⟨v1,hv1,a1,rfl,ha1⟩:=aY hpa harg;have earg:Vabldi.argument a.arguments 0=arg:=by unfold Vabldi.argument;rw[harg];rfl
 have sl:arg.length<=64:=ga.al _ (List.mem_of_getElem? harg);have ln:=bM d;have pl:=Ad (cI (Vabldi.linesOf d));have ol:=bQ (ll (Vabldi.sorted (Vabldi.linesOf d)));have cl:=eR (Vabldi.sorted (Vabldi.linesOf d));dsimp only at k;rw[earg,cR hd]at k
 refine⟨_,ae (aF (i:=2) rY.nd rfl (Or.inl rfl) (bx bn (aD (pv 0) rfl) aG (λ_ _=>rfl)))
  (ae (aF (i:=3) rY.nd rfl (Or.inl rfl) (Ab hr T.b_sorted (aB (cF T) hr (ab (bx bn (pv 1) aG (λ_ _=>rfl)) af))))
  (ae (aN (aK (j5 hr) (pv 2) (aB (bJ T) hr (ab gE af)) (aP _)) (ah (aq (aB (ca T) hr (ab (aL (ab (aB (bt T) hr (ab (aB (Cg T) hr (ab (pv 3) af)) af)) af)) (ab (aD (pv 0) rfl) af))))) aE)
  (ae (aN (aK (j5 hr) (pv 2) (aB (bJ T) hr (ab gE af)) (aP _)) (ah (aq (aB (ca T) hr (ab (aL (ab (aB (bt T) hr (ab (pv 3) af)) af)) (ab (aD (pv 0) rfl) af))))) aE)
  (ah (aq (aB (bL T) hr (ab (aV T.g_ARGUMENT) (ab (aD (pv 0) rfl) af)))))))),?_⟩
 refine⟨_,rfl,p,C.Action,dx,_,_,rfl,f0 _ _ hp,T.k_Action.cl,T.n_Action_arguments,rfl,la,as,0,_,rfl,rfl,aZ.of (f0 _ _ hla),bd (j:=0) hv1,?_⟩;refine⟨_,rfl,ld,xs,0,_,rfl,rfl,aZ.of (f0 _ _ hld),bd (j:=0) hv0,F,_,d,rfl,⟨a0,rfl,ha0⟩,by omega,f0,λu F1 H1 e1 ⟨c1,ys,eu,hc1,hys⟩=> ?_⟩;subst eu;refine⟨c1,ys,_,G5 F1,rfl,e1.fh _ _ hc1,qy hys,λv ns ⟨b,e,h⟩=>⟨b,e,e1.fh _ _ h⟩,λq zs2 ms hq hz hperm hpw=> ?_⟩;have hz2:=yk hz hperm hpw;have e2:=e1.newF (o:= .lst zs2) hq;have s2:=aI (o:= .lst zs2) (e1.fh.free hq);have hz3:cW (aJ F1 q (.lst zs2)) (.ref q) (Vabldi.sorted (Vabldi.linesOf d)):=⟨q,zs2,rfl,aa,Paired.mapP hz2 λv d r=>r.mono s2⟩;have eo:(Str.ofString "once").cps.toList=Vabldi.str "once":=by decide+kernel
 have ea:(Str.ofString "all").cps.toList=Vabldi.str "all":=by decide+kernel
 refine⟨_,rfl,_,_,rfl,by decide,e2.fh,λu F3 H3 e3 ⟨c3,eu,hc3⟩=> ?_⟩;subst eu;refine⟨a1,c3,_,_,rfl,rfl,.inl ⟨e3.hh _ _ (e2.hh _ _ (f0 _ _ ha1)),e3.fh _ _ hc3⟩,_,rfl,?_⟩;rw[ie,eo];refine bY (λhb=> ?_) (λhb=> ?_)
 ·have hb:=of_decide_eq_true hb;refine⟨_,rfl,F3,_,_,rfl,bW hz3 e3.ff,by omega,e3.fh,λu F4 H4 e4 ⟨c4,zs4,eu,hc4,hp4⟩=> ?_⟩;subst eu;refine⟨F4,_,_,rfl,⟨c4,zs4,rfl,hc4,Paired.mapP hp4 λv d r=>r.any⟩,by omega,e4.fh,λu F5 H5 e5 ⟨c5,eu,hc5⟩=> ?_⟩;subst eu;refine⟨aX _,λq9 hq9=>du T (((e2.trans e3).trans e4).trans e5) hp hi rfl hc5 hq9 λu F2 H2 e ho2=>k u F2 H2 e ?_⟩;unfold Vabldi.sortOf;rw[if_pos hb];exact ho2
 ·have hb:=of_decide_eq_false hb;refine⟨_,rfl,_,_,rfl,by decide,e3.fh,λu F4 H4 e4 ⟨c4,eu,hc4⟩=> ?_⟩;subst eu;refine⟨a1,c4,_,_,rfl,rfl,.inl ⟨e4.hh _ _ (e3.hh _ _ (e2.hh _ _ (f0 _ _ ha1))),e4.fh _ _ hc4⟩,_,rfl,?_⟩;rw[ie,ea];refine bY (λhb2=> ?_) (λhb2=> ?_)
  ·have hb2:=of_decide_eq_true hb2;obtain⟨q',zs4,eq',hq4,hp4⟩:=hz3;refine⟨_,rfl,F4,_,_,rfl,⟨q',zs4,eq',e4.ff _ _ (e3.ff _ _ hq4),Paired.mapP hp4 λv d r=>(r.mono (e3.ff.trans e4.ff)).any⟩,by omega,e4.fh,λu F5 H5 e5 ⟨c5,eu,hc5⟩=> ?_⟩;subst eu;refine⟨aX _,λq9 hq9=>du T (((e2.trans e3).trans e4).trans e5) hp hi rfl hc5 hq9 λu F2 H2 e ho2=>k u F2 H2 e ?_⟩;unfold Vabldi.sortOf;rw[if_neg hb,if_pos hb2];exact ho2
  ·have hb2:=of_decide_eq_false hb2;refine cY T ((e2.trans e3).trans e4) hp hi rfl λu F2 H2 e ho2=>k u F2 H2 e ?_
   unfold Vabldi.sortOf;rw[if_neg hb,if_neg hb2];exact ho2
theorem jo(l:List ai):Vabldi.pieces l≠[]:=by
 cases l with
 |nil=>simp[Vabldi.pieces]
 |cons x r=>
  rw[Vabldi.pieces];split
  ·simp
  ·split<;>simp
theorem dQ(x:ai):∀(l:List ai) (done:List (List ai)) (cur:List ai),Vabldi.pieces l=done++[cur]->Vabldi.pieces (l++[x])=if x=Vabldi.str "---" then done++[cur]++[[]]else done++[cur++[x]]
 |[],done,cur,h=>by
  have h':([[]]:List (List ai))=done++[cur]:=h;cases done with
  |nil=>
   simp at h'
   subst h';by_cases e:x=Vabldi.str "---"
   ·simp[Vabldi.pieces,e]
   ·simp[Vabldi.pieces,e]
  |cons d ds=>simp at h'
 |b::r,done,cur,h=>by
  rw[Vabldi.pieces]at h;show Vabldi.pieces (b::(r++[x]))=_;rw[Vabldi.pieces];by_cases eb:b=Vabldi.str "---"
  ·simp only[if_pos eb]at h⊢;cases done with
   |nil=>
    simp at h
    exact absurd h.2 (jo r)
   |cons d ds=>
    simp only[List.cons_append,List.cons.injEq]at h;rw[dQ x r ds cur h.2,<-h.1];split<;>simp
  ·simp only[if_neg eb]at h⊢;cases e:Vabldi.pieces r with
   |nil=>exact absurd e (jo r)
   |cons y q=>
    rw[e]at h;dsimp only at h;cases done with
    |nil=>
     simp only[List.nil_append,List.cons.injEq]at h;have ih:=dQ x r [] y (by rw[e,h.2];rfl);rw[ih];by_cases ec:x=Vabldi.str "---"
     ·simp only[if_pos ec,<-h.1];rfl
     ·simp only[if_neg ec,<-h.1];rfl
    |cons d ds=>
     simp only[List.cons_append,List.cons.injEq]at h;have ih:=dQ x r (y::ds) cur (by rw[e,h.2];rfl);rw[ih];by_cases ec:x=Vabldi.str "---"
     ·simp only[if_pos ec,<-h.1];rfl
     ·simp only[if_neg ec,<-h.1];rfl
end
theorem g7:∀{l:List ai} {p:List ai},p∈Vabldi.pieces l->p.Sublist l
 |[],p,h=>by simp[Vabldi.pieces]at h;subst h;exact .slnil
 |x::r,p,h=>by
  rw[Vabldi.pieces]at h;by_cases e:x=Vabldi.str "---"
  ·simp only[if_pos e]at h;rcases List.mem_cons.mp h with rfl|h
   ·exact List.nil_sublist _
   ·exact(g7 h).cons _
  ·simp only[if_neg e]at h;cases q:Vabldi.pieces r with
   |nil=>exact absurd q (jo r)
   |cons y t=>
    rw[q]at h;dsimp only at h;rcases List.mem_cons.mp h with rfl|h
    ·exact(g7 (by rw[q];exact List.mem_cons_self)).cons_cons _
    ·exact(g7 (by rw[q];exact List.mem_cons_of_mem _ h)).cons _
theorem oO:∀l:List ai,(Vabldi.pieces l).length<=l.length+1
 |[]=>by simp[Vabldi.pieces]
 |x::r=>by
  have ih:=oO r;rw[Vabldi.pieces];by_cases e:x=Vabldi.str "---"
  ·simp only[if_pos e,List.length_cons];omega
  ·simp only[if_neg e];cases q:Vabldi.pieces r with
   |nil=>exact absurd q (jo r)
   |cons y t=>rw[q]at ih;simp only[List.length_cons]at ih⊢;omega
section
variable{P:Program}{w:World}{K:PySem.W.Frag}{mg:Str->Option Value}{base:Heap}{C:Cs}
abbrev wT:List Str:=["action","data","parting","pieces","line","piece"]
theorem gq:aC wT ["action","data"] (ao eE):=⟨rfl,rfl,rfl,by decide+kernel,rfl,by decide+kernel,by decide+kernel⟩
theorem Ae(T:Tx K mg C):Ok P w K mg base "split_pieces" ["action","data"] 4 (bP C (λa ds=>ds.length=1) (λa ds=>Vabldi.splitOf (ds.headD []) a.outputs.length) λa _=>a.inputs):=by
 refine T.d_split_pieces.ok gq (λvs H Q E h=>bq h) (λf cdv A outer s H vs Q E hr h=> ?_);obtain⟨F,va,vd,a,ds,rfl,⟨p,dx,wa,wi,wo,rfl,hp,ha,hi,ho⟩,⟨ld,xs,rfl,hld,hpd⟩,ga,hlen,hby,hpre,f0,k⟩:=h;obtain⟨d,hd⟩:∃d,ds[0]? =some d:=⟨_,List.getElem?_eq_getElem (by omega)⟩;obtain⟨v0,hv0,a0,rfl,ha0⟩:=aY hpd hd;have hdl:=hby d (List.mem_of_getElem? hd);obtain⟨lo,os,rfl,hlo,hpo⟩:=ho;have ln:=bM d;have cn:=eR (Vabldi.linesOf d);have sz:(8388608:Nat)<sizeLine:=by decide
 have ep:(Str.ofString "---").cps.toList=Vabldi.str "---":=by decide+kernel
 dsimp only at k;rw[cR hd]at k
 refine⟨_,ae (aF (i:=2) gq.nd rfl (Or.inl rfl) (aB (bJ T) hr (ab gE af)))
  (ae (aF (i:=3) gq.nd rfl (Or.inl rfl) (aL (ab (aL af) af)))
  (ae (b0 PassesOwn.never rfl (bj (aB (cF T) hr (ab (bx bn (pv 1) aG (λ_ _=>rfl)) af))) (aS (i:=4) gq.nd rfl (Or.inl rfl))
   (ah (aN (aK (j5 hr) (pv 4) (pv 2) (aP _)) (ah (cD (pv 3) (aL af))) (ah (cD (bx bn (pv 3) (sE nP aG) (λ_ _=>rfl)) (pv 4))))))
  (ae (aN (aK dI (bp T.b_len (pv 3)) (bp T.b_len (aD (pv 0) rfl)) (aP _)) (ah (aq (aB (bL T) hr (ab (aV T.g_NOTHING) (ab (aD (pv 0) rfl) af))))) aE)
  (ah (aq (aB (ca T) hr (ab (fj rfl gq.nd (bj (pv 3)) (blk (own:=[("piece",5)]) wT (ao eE) rfl rfl (by decide+kernel)) (λ_ _ _ _ _=>aS (i:=5) gq.nd rfl (Or.inl rfl)) (λ_ _ _ _ _=>b4)
   (λ_ _ _ _ _=>aB (bt T) hr (ab (pv 5) af))) (ab (aD (pv 0) rfl) af)))))))),?_⟩
 refine⟨F,_,rfl,by decide,f0,λu F1 H1 e1 ⟨c1,eu,hc1⟩=> ?_⟩;subst eu;rw[ep]at hc1;refine⟨Nat.zero_le _,λc hc=>⟨aX _,λL hL=> ?_⟩⟩;have x1:=(e1.new (o:= .lst []) hc);have x2:=x1.new (o:= .lst [.ref c]) hL;have neLc:c≠L:=az aa hL;have nL1:H1 L=none:=by rw[aj neLc.symm]at hL;exact hL
 have nL:H L=none:=e1.hh.free nL1;have nc:H c=none:=e1.hh.free hc;refine⟨_,rfl,ld,xs,0,_,rfl,rfl,aZ.of (x2.hh _ _ (f0 _ _ hld)),bd (j:=0) hv0,F1,_,d,rfl,⟨a0,rfl,e1.ff _ _ ha0⟩,by omega,x2.fh,λu F2 H2 e2 ⟨c2,ys,eu,hc2,hys⟩=> ?_⟩;subst eu;have x3:=x2.trans e2;have hL2:H2 L=some (.lst [.ref c]):=e2.hh _ _ aa;have hc2':H2 c=some (.lst []):=e2.hh _ _ (by rw[aj neLc,aa]);have fL2:F2 L=none:=e2.sp _ _ aa (e1.fh.free nL1);have fc2:F2 c=none:=e2.sp _ (.lst []) (by rw[aj neLc,aa]) (e1.fh.free hc);refine⟨c2,rfl,⟨_,aZ.of (e2.fh _ _ hc2)⟩,fY (λi σ1 F3 H3=>∃(b b2:Option V) (cc:Addr) (refs cur:List V) (dn:List (List ai)) (ct:List ai),σ1=[some (.ref p),some (.ref ld),some (.ref c1),some (.ref L),b,b2]/\H3 L=some (.lst (refs++[.ref cc]))/\F3 L=none/\H3 cc=some (.lst cur)/\F3 cc=none/\H cc=none/\L≠cc/\Paired (cW F3) refs dn/\Paired (dk F2) cur ct/\Vabldi.pieces ((Vabldi.linesOf d).take i)=dn++[ct]/\dn.length+ct.length<=i) x3 (aZ.of hc2) ?_ ?_ ?_⟩
 ·exact⟨none,none,c,[],[],[],[],rfl,hL2,fL2,hc2',fc2,nc,neLc.symm,.nil,.nil,rfl,Nat.le_refl _⟩
 ·rintro i x σ1 F3 H3 hx e3 s3 ⟨b,b2,cc,refs,cur,dn,ct,rfl,hHL,fL,hHc,fc,ncc,neq,hpr,hpc,hpi,hlen⟩
  obtain⟨t,ht,at',rfl,hat⟩:=bg hys hx;have hil:=ck ht;refine⟨_,rfl,_,rfl,at',c1,_,_,rfl,rfl,.inl ⟨e3.fh _ _ (s3 _ _ hat),e3.fh _ _ (s3 _ _ (e2.ff _ _ hc1))⟩,_,rfl,?_⟩;rw[ie];refine bY (λhb=> ?_) (λhb=> ?_)
  ·have hb:=of_decide_eq_true hb;refine⟨_,rfl,L,_,rfl,hHL,Nat.zero_le _,λq hq=> ?_⟩;have neLq:L≠q:=az hHL hq;have neq2:cc≠q:=az hHc hq;refine⟨_,by rw[aj neLq];exact hHL,?_,?_⟩
   ·have :=aA hpr;rw[List.length_append,List.length_singleton];omega
   have y1:=(e3.new (o:= .lst []) hq).frz ncc (by rw[aj neq2];exact hHc) fc;have y2:=y1.wr (o:= .lst (refs++[.ref cc]++[.ref q])) nL (by rw[aj neq];exact fL);refine⟨_,y2,s3.trans (aI fc),_,b2,q,refs++[.ref cc],[],dn++[ct],[],rfl,aa,?_,?_,?_,e3.hh.free hq,neLq,?_,.nil,?_,?_⟩
   ·rw[aj neq];exact fL
   ·rw[aj neLq.symm,aa]
   ·rw[aj neq2.symm];exact e3.fh.free hq
   ·refine bh ⟨cc,cur,rfl,aa,Paired.mapP hpc λv d r=>r.mono (s3.trans (aI fc))⟩ (Paired.mapP hpr λv d r=>bW r (aI fc))
   ·rw[aT ht,dQ t _ _ _ hpi,if_pos hb]
   ·simp;omega
  ·have hb:=of_decide_eq_false hb;refine⟨_,rfl,1,rfl,L,_,-1,_,rfl,rfl,aZ.of hHL,iB _ _,cc,cur,rfl,hHc,_,rfl,cur,hHc,?_,?_⟩
   ·rw[aA hpc];omega
   refine⟨F3,e3.wr ncc fc,s3,_,b2,cc,refs,cur++[.ref at'],dn,ct++[t],rfl,?_,fL,aa,fc,ncc,neq,hpr,bh ⟨at',rfl,hat⟩ hpc,?_,?_⟩
   ·rw[aj neq];exact hHL
   ·rw[aT ht,dQ t _ _ _ hpi,if_neg hb]
   ·rw[List.length_append,List.length_singleton];omega
 ·rintro σ1 F3 H3 e3 s3 ⟨b,b2,cc,refs,cur,dn,ct,rfl,hHL,fL,hHc,fc,ncc,neq,hpr,hpc,hpi,hlen⟩
  rw[aA hys,List.take_length]at hpi;have lr:=aA hpr;have lp:=aA hpo;refine⟨_,rfl,L,_,rfl,hHL,_,rfl,p,C.Action,dx,_,_,rfl,e3.hh _ _ (f0 _ _ hp),T.k_Action.cl,T.n_Action_outputs,rfl,lo,os,rfl,e3.hh _ _ (f0 _ _ hlo),rfl,_,rfl,?_⟩;have el:(refs++[V.ref cc]).length=(Vabldi.pieces (Vabldi.linesOf d)).length:=by rw[hpi];simp[lr]
  refine bY (λhb=> ?_) (λhb=> ?_)
  ·refine cY T e3 hp hi rfl λu F2 H2 e ho2=>k u F2 H2 e ?_
   unfold Vabldi.splitOf;rw[el,lp]at hb
   have hb:¬(Vabldi.pieces (Vabldi.linesOf d)).length=a.outputs.length:=by
    intro e;rw[e]at hb;simp at hb
   simp only[ne_eq,hb,not_false_eq_true,if_true];exact ho2
  ·rw[el,lp]at hb
   have hb:(Vabldi.pieces (Vabldi.linesOf d)).length=a.outputs.length:=by
    have :V.int ((Vabldi.pieces (Vabldi.linesOf d)).length:Nat)=V.int (a.outputs.length:Nat):=by simpa using hb
    injection this with this;omega
   have y1:=e3.frz ncc hHc fc;have y2:=y1.frz nL hHL (by rw[aj neq];exact fL);have sA:=aI (o:= .lst cur) fc;have sB:=aI (F:=aJ F3 cc (.lst cur)) (a:=L) (o:= .lst (refs++[.ref cc])) (by rw[aj neq];exact fL);refine⟨_,rfl,L,rfl,⟨_,aZ.of (y2.fh _ _ aa)⟩,λD hD=> ?_⟩
   have hpp:Paired (cW (aJ (aJ F3 cc (.lst cur)) L (.lst (refs++[.ref cc])))) (refs++[.ref cc]) (Vabldi.pieces (Vabldi.linesOf d)):=by
    rw[hpi];refine bh ⟨cc,cur,rfl,sB _ _ aa,Paired.mapP hpc λv d r=>r.mono (s3.trans (sA.trans sB))⟩ (Paired.mapP hpr λv d r=>bW r (sA.trans sB))
   refine bV (ds:=Vabldi.pieces (Vabldi.linesOf d)) (cW (aJ (aJ F3 cc (.lst cur)) L (.lst (refs++[.ref cc])))) (λF v t=>dk F v t) (λts=>some (Vabldi.putLines ts)) (λF F' v b e h=>h.mono e) y2 hD (aZ.of aa) hpp ?_ ?_ ?_
   ·have :=oO (Vabldi.linesOf d);omega
   ·rintro x ts F4 H4 Y N ⟨cx,zx,rfl,hcx,hzx⟩ hts e4 s4 hY hN
    refine⟨rfl,_,rfl,F4,_,ts,rfl,⟨cx,zx,rfl,s4 _ _ hcx,Paired.mapP hzx λv d r=>(r.mono s4).any⟩,?_,e4.fh,λu F5 H5 e5 hu=>hY _ F5 H5 _ rfl e5 hu⟩;have :=bQ (g7 hts);omega
   ·rintro F4 H4 zs4 e4 s4 hA fD pz
    have e5:=e4.frz (y2.hh.free hD) hA fD
    have pz:Paired (dk F4) zs4 ((Vabldi.pieces (Vabldi.linesOf d)).map Vabldi.putLines):=by
     rw[List.filterMap_eq_map']at pz;exact pz
    refine⟨_,rfl,p,C.Action,dx,_,_,rfl,e5.hh _ _ (f0 _ _ hp),T.k_Action.cl,T.n_Action_inputs,rfl,_,_,_,(Vabldi.pieces (Vabldi.linesOf d)).map Vabldi.putLines,_,rfl,⟨D,zs4,rfl,aa,Paired.mapP pz λv d r=>r.mono (aI fD)⟩,bH hi e5.ff,e5.fh,λu F6 H6 e6 ho2=>k u F6 H6 (e5.trans e6) ?_⟩;unfold Vabldi.splitOf;simp only[ne_eq,hb,not_true_eq_false,if_false];exact ho2
end
end Cr
namespace Cr
open Vabldi (Input Put Failure includes putFile named readName linesOf putLines)
def ja(inputs:List Input)(d:Nat)(stack:List ai)(p:Put)(l:ai):Put:=
 if p.failure.isSome=true then p else match includes l with
  |none=>{p with lines:=l::p.lines}
  |some n=>match named inputs n with
   |none=>{p with failure:=some {code:=Vabldi.UNDECLARED,name:=n}}
   |some u=>
    if stack.contains n=true then{p with failure:=some {code:=Vabldi.CIRCLE}}
    else if d=0\/64<=p.followed then{p with failure:=some {code:=Vabldi.DEEP}}
    else putFile inputs d (n::stack) u (readName {p with followed:=p.followed+1} n)
def Af(inputs:List Input)(d:Nat)(stack:List ai)(ls:List ai)(p:Put):Put:=ls.foldl (ja inputs d stack) p
theorem oP(inputs:List Input)(d:Nat)(stack:List ai)(t:ai)(p:Put):putFile inputs (d+1) stack t p=Af inputs d stack (linesOf t) p:=rfl
def cZ(inputs:List Input):List ai->List (List ai)->Put->Put
 |_,[],p=>p
 |stack,r::rs,p=>cZ inputs stack.tail rs (Af inputs (7-stack.length) stack r p)
theorem ym{inputs d stack p l}(h:(Put.failure p).isSome=true):ja inputs d stack p l=p:=by unfold ja;rw[if_pos h]
theorem lm{inputs d stack}{p:Put}(h:p.failure.isSome=true):∀ls,Af inputs d stack ls p=p
 |[]=>rfl
 |l::r=>by
  show Af inputs d stack r (ja inputs d stack p l)=p;rw[ym h,lm h r]
theorem lq{inputs}{p:Put}(h:p.failure.isSome=true):∀(rs:List (List ai)) (stack:List ai),cZ inputs stack rs p=p
 |[],_=>rfl
 |r::rs,stack=>by rw[cZ,lm h,lq h rs]
theorem oQ{inputs d stack}:∀(ks:List ai) (p:Put),p.failure=none->(∀l∈ks,includes l=none)->Af inputs d stack ks p={p with lines:=ks.reverse++p.lines}
 |[],p,_,_=>rfl
 |l::r,p,h,hn=>by
  show Af inputs d stack r (ja inputs d stack p l)=_
  have e:ja inputs d stack p l={p with lines:=l::p.lines}:=by
   unfold ja;rw[if_neg (by rw[h];simp),hn l List.mem_cons_self]
  rw[e,oQ r {p with lines:=l::p.lines} h λz hz=>hn z (List.mem_cons_of_mem _ hz)];simp
def bw:List ai->List ai->List (List ai×Option ai)
 |[],kept=>[(kept,none)]
 |l::r,kept=>match includes l with
  |some n=>(kept,some n)::bw r []
  |none=>bw r (kept++[l])
theorem Ag(ls kept:List ai):bw ls kept≠[]:=by
 induction ls generalizing kept with
 |nil=>simp[bw]
 |cons l r ih=>
  rw[bw];split
  ·simp
  ·exact ih _
theorem oR:∀(ls kept ks:List ai) (nm:Option ai) (br:List (List ai×Option ai)),(∀l∈kept,includes l=none)->bw ls kept=(ks,nm)::br->
  ∃mid,ks=kept++mid/\(∀l∈ks,includes l=none)/\((nm=none/\ls=mid/\br=[])\/∃n l tl,nm=some n/\includes l=some n/\ls=mid++l::tl/\br=bw tl [])
 |[],kept,ks,nm,br,hk,h=>by
  simp only[bw,List.cons.injEq,Prod.mk.injEq]at h;obtain⟨⟨rfl,rfl⟩,rfl⟩:=h;exact⟨[],by simp,hk,.inl ⟨rfl,rfl,rfl⟩⟩
 |l::r,kept,ks,nm,br,hk,h=>by
  rw[bw]at h;cases e:includes l with
  |some n=>
   rw[e]at h;simp only[List.cons.injEq,Prod.mk.injEq]at h;obtain⟨⟨rfl,rfl⟩,rfl⟩:=h;exact⟨[],by simp,hk,.inr ⟨n,l,r,rfl,e,rfl,rfl⟩⟩
  |none=>
   rw[e]at h
   have hk2:∀z∈kept++[l],includes z=none:=λz hz=>by
    rcases List.mem_append.mp hz with hz|hz
    ·exact hk z hz
    ·simp at hz;subst hz;exact e
   obtain⟨mid,h1,h2,h3⟩:=oR r (kept++[l]) ks nm br hk2 h;refine⟨l::mid,by rw[h1];simp,h2,?_⟩;rcases h3 with⟨a,b,c⟩|⟨n,l',tl,a,b,c,d⟩
   ·exact .inl ⟨a,by rw[b],c⟩
   ·exact .inr ⟨n,l',tl,a,b,by rw[c];rfl,d⟩
theorem yn{inputs d stack}(a b:List ai)(p:Put):Af inputs d stack (a++b) p=Af inputs d stack b (Af inputs d stack a p):=List.foldl_append ..
theorem Ci{inputs}{stack:List ai}{ks:List ai}{rs:List (List ai)}{p:Put}(h:p.failure=none)(hk:∀l∈ks,includes l=none):
  cZ inputs stack (ks::rs) p=cZ inputs stack.tail rs {p with lines:=ks.reverse++p.lines}:=by
 rw[cZ,oQ ks p h hk]
theorem Cj{inputs}{stack:List ai}{ks:List ai}{l:ai}{tl:List ai}{n:ai}{rs:List (List ai)}{p:Put}(h:p.failure=none)(hk:∀l∈ks,includes l=none)(hl:includes l=some n):
  cZ inputs stack ((ks++l::tl)::rs) p=match named inputs n with
   |none=>{p with lines:=ks.reverse++p.lines,failure:=some {code:=Vabldi.UNDECLARED,name:=n}}
   |some u=>if stack.contains n=true then{p with lines:=ks.reverse++p.lines,failure:=some {code:=Vabldi.CIRCLE}}
    else if 7<=stack.length\/64<=p.followed then{p with lines:=ks.reverse++p.lines,failure:=some {code:=Vabldi.DEEP}}
    else cZ inputs (n::stack) (linesOf u::tl::rs) (readName {p with lines:=ks.reverse++p.lines,followed:=p.followed+1} n):=by
 rw[cZ,yn,oQ ks p h hk];show cZ inputs stack.tail rs (Af inputs _ stack tl (ja inputs _ stack _ l))=_;generalize ep:({p with lines:=ks.reverse++p.lines}:Put)=p1;have f1:p1.failure=none:=by rw[<-ep];exact h
 have fo:p1.followed=p.followed:=by rw[<-ep]
 have es:ja inputs (7-stack.length) stack p1 l=match named inputs n with
   |none=>{p1 with failure:=some {code:=Vabldi.UNDECLARED,name:=n}}
   |some u=>if stack.contains n=true then{p1 with failure:=some {code:=Vabldi.CIRCLE}}
    else if 7-stack.length=0\/64<=p1.followed then{p1 with failure:=some {code:=Vabldi.DEEP}}
    else putFile inputs (7-stack.length) (n::stack) u (readName {p1 with followed:=p1.followed+1} n):=by
  unfold ja;rw[if_neg (by rw[f1];simp),hl]
 rw[es];cases named inputs n with
 |none=>
  dsimp only;rw[lm rfl,lq rfl,<-ep]
 |some u=>
  dsimp only;by_cases c1:stack.contains n=true
  ·rw[if_pos c1,if_pos c1,lm rfl,lq rfl,<-ep]
  ·rw[if_neg c1,if_neg c1];by_cases c2:7<=stack.length\/64<=p.followed
   ·rw[if_pos c2,if_pos (by rw[fo];omega),lm rfl,lq rfl,<-ep]
   ·rw[if_neg c2,if_neg (by rw[fo];omega)];obtain⟨d,hd⟩:∃d,7-stack.length=d+1:=⟨6-stack.length,by omega⟩;rw[cZ,cZ,List.tail_cons,hd,oP,List.length_cons,show 7-(stack.length+1)=d by omega,<-hd,<-ep]
theorem rZ{i:Input}{r:List Input}:Vabldi.included (i::r)=cZ (i::r) [i.name] [linesOf i.bytes] {reads:=[i.name]}:=rfl
end Cr
namespace Cr
open PySem PySem.Spec PyProof.Rows L2
def qz(F:Hp)(v:V)(pt:List ai×Option ai):Prop:=∃b v1 v2,v= .ref b/\F b=some (.tup [v1,v2])/\dk F v1 (Vabldi.putLines pt.1)/\(match pt.2 with
 |none=>v2= .non
 |some n=>gI F v2 n)
abbrev lZ(F:Hp)(v:V)(ps:List (List ai×Option ai)):Prop:=pH F (qz F) v ps
theorem qz.mono{F F':Hp}{v:V}{pt:List ai×Option ai}(h:qz F v pt)(e:aH F F'):qz F' v pt:=by
 obtain⟨b,v1,v2,h1,h2,h3,h4⟩:=h;refine⟨b,v1,v2,h1,e _ _ h2,h3.mono e,?_⟩;revert h4;cases pt.2 with
 |none=>exact id
 |some m=>exact λh=>gI.mono h e
theorem mK{F F':Hp}{v:V}{ps:List (List ai×Option ai)}(h:lZ F v ps)(e:aH F F'):lZ F' v ps:=pH.mono h e λ_ _ q=>q.mono e
theorem r6(a b:V):[a,b].length<=sizeLine:=by show 2<=sizeLine;decide
theorem Ck:(Str.ofString "include ").cps.toList=Vabldi.INCLUDE:=by decide+kernel
section
variable{P:Program}{w:World}{K:PySem.W.Frag}{mg:Str->Option Value}{base:Heap}{C:Cs}
abbrev Cm:List Str:=["text","start","parts","kept","line","name"]
theorem eS:aC Cm ["text"] (ao ou):=⟨rfl,rfl,rfl,by decide+kernel,rfl,by decide+kernel,by decide+kernel⟩
def tX:Sp:=λvs H Q _=>∃(F:Hp) (v:V) (t:ai),vs=[v]/\dk F v t/\t.length<=4096/\aH F H/\Rt F H Q λF1 u=>lZ F1 u (bw (Vabldi.linesOf t) [])
theorem qA{α:Type}{l:List α}{i:Nat}{x:α}(h:l[i]? =some x):l.drop i=x::l.drop (i+1):=by
 have hi:=ck h;rw[List.drop_eq_getElem_cons hi];congr 1;rw[List.getElem?_eq_getElem hi]at h;exact Option.some.inj h
theorem tY(T:Tx K mg C):Ok P w K mg base "parts_of" ["text"] 3 tX:=by
 refine T.d_parts_of.ok eS (λvs H Q E h=>by obtain⟨_,_,_,e,_⟩:=h;rw[e];rfl) (λf cdv A outer s H vs Q E hr h=> ?_);obtain⟨F,v,t,rfl,⟨a,rfl,ha⟩,hl,f0,k⟩:=h
 refine⟨_,ae (aF (i:=1) eS.nd rfl (Or.inl rfl) (aB (bJ T) hr (ab (aV T.g_START) af)))
  (ae (aF (i:=2) eS.nd rfl (Or.inl rfl) (aL af))
  (ae (aF (i:=3) eS.nd rfl (Or.inl rfl) (aL af))
  (ae (b0 PassesOwn.never rfl (bj (aB (cF T) hr (ab (pv 0) af))) (aS (i:=4) eS.nd rfl (Or.inl rfl))
   (ae (aF (i:=5) eS.nd rfl (Or.inl rfl) (dJ fb (pv 4) (cT (bp T.b_len (pv 1))) m6))
   (ah (aN (PW.pt (Dm (aK (j5 hr) (dJ fb (pv 4) m6 (cT (bp T.b_len (pv 1)))) (pv 1) (aP _)) (Bf (bI (aB (cX T) hr (ab (pv 5) af))))))
    (ae (cD (pv 2) (rh (ab (aB (bt T) hr (ab (pv 3) af)) (ab (bB T.b_tuple (pv 5)) af)))) (ah (aF (i:=3) eS.nd rfl (Or.inl rfl) (aL af))))
    (ah (cD (pv 3) (pv 4)))))))
  (ae (cD (pv 2) (rh (ab (aB (bt T) hr (ab (pv 3) af)) (ab qW af))))
  (ah (aq (pv 2))))))),?_⟩
 have sz:(8388608:Nat)<sizeLine:=by decide
 have ln:=bM t;have cn:=eR (Vabldi.linesOf t);refine⟨F,_,rfl,by decide,f0,λu F1 H1 e1 ⟨c1,eu,hc1⟩=> ?_⟩;subst eu;rw[Ck]at hc1;refine⟨Nat.zero_le _,λL hL=>⟨Nat.zero_le _,λc hc=> ?_⟩⟩;have neLc:L≠c:=az aa hc;have x2:=(e1.new (o:= .lst []) hL).new (o:= .lst []) hc;have nc1:H1 c=none:=by rw[aj neLc.symm]at hc;exact hc
 have nL:H L=none:=e1.hh.free hL;have nc:H c=none:=e1.hh.free nc1;refine⟨_,rfl,F1,_,t,rfl,⟨a,rfl,e1.ff _ _ ha⟩,by omega,x2.fh,λu F2 H2 e2 ⟨c2,ys,eu,hc2,hys⟩=> ?_⟩;subst eu;have hL2:H2 L=some (.lst []):=e2.hh _ _ (by rw[aj neLc,aa]);have hk2:H2 c=some (.lst []):=e2.hh _ _ aa;have fL2:F2 L=none:=e2.sp _ (.lst []) (by rw[aj neLc,aa]) (e1.fh.free hL);have fk2:F2 c=none:=e2.sp _ _ aa (e1.fh.free nc1);refine⟨c2,rfl,⟨_,aZ.of (e2.fh _ _ hc2)⟩,fY (λi σ1 F3 H3=>∃(b b2:Option V) (cc:Addr) (refs cur:List V) (dn:List (List ai×Option ai)) (ks:List ai),σ1=[some (.ref a),some (.ref c1),some (.ref L),some (.ref cc),b,b2]/\H3 L=some (.lst refs)/\F3 L=none/\H3 cc=some (.lst cur)/\F3 cc=none/\H cc=none/\L≠cc/\Paired (qz F3) refs dn/\Paired (dk F2) cur ks/\bw (Vabldi.linesOf t) []=dn++bw ((Vabldi.linesOf t).drop i) ks/\dn.length+ks.length<=i/\(Vabldi.putLines ks).length+(Vabldi.putLines ((Vabldi.linesOf t).drop i)).length<=(Vabldi.putLines (Vabldi.linesOf t)).length) (x2.trans e2) (aZ.of hc2) ?_ ?_ ?_⟩
 ·exact⟨none,none,c,[],[],[],[],rfl,hL2,fL2,hk2,fk2,nc,neLc,.nil,.nil,rfl,Nat.le_refl _,by simp[Vabldi.putLines]⟩
 ·rintro i x σ1 F3 H3 hx e3 s3 ⟨b,b2,cc,refs,cur,dn,ks,rfl,hHL,fL,hHc,fc,ncc,neq,hpr,hpc,hpa,hlen,hby⟩
  obtain⟨l,ht,al,rfl,hal⟩:=bg hys hx;have hil:=ck ht;rw[qA ht]at hpa hby;rw[bw]at hpa
  have hby2:(Vabldi.putLines (l::(Vabldi.linesOf t).drop (i+1))).length=l.length+1+(Vabldi.putLines ((Vabldi.linesOf t).drop (i+1))).length:=by
   unfold Vabldi.putLines;simp only[List.flatMap_cons,List.length_append,List.length_singleton]
  rw[hby2]at hby;have hstart:=e3.fh _ _ (s3 _ _ (e2.ff _ _ hc1));refine⟨_,rfl,_,rfl,c1,_,rfl,hstart,_,rfl,al,_,rfl,aZ.of (e3.fh _ _ (s3 _ _ hal)),λq hq=> ?_⟩;rw[aM,zI,rK];have y1:=e3.newF (o:= .lst ((zs (l.drop Vabldi.INCLUDE.length)).map V.int)) hq;have sq:=aI (o:= .lst ((zs (l.drop Vabldi.INCLUDE.length)).map V.int)) (e3.fh.free hq);have neLq:L≠q:=az hHL hq;have neq2:cc≠q:=az hHc hq;have hstart1:=y1.fh _ _ (sq _ _ (s3 _ _ (e2.ff _ _ hc1)));have hHL1:aJ H3 q (.lst ((zs (l.drop Vabldi.INCLUDE.length)).map V.int)) L=some (.lst refs):=by rw[aj neLq];exact hHL
  have hHc1:aJ H3 q (.lst ((zs (l.drop Vabldi.INCLUDE.length)).map V.int)) cc=some (.lst cur):=by rw[aj neq2];exact hHc
  have fL1:aJ F3 q (.lst ((zs (l.drop Vabldi.INCLUDE.length)).map V.int)) L=none:=by rw[aj neLq];exact fL
  have fc1:aJ F3 q (.lst ((zs (l.drop Vabldi.INCLUDE.length)).map V.int)) cc=none:=by rw[aj neq2];exact fc
  refine⟨_,rfl,_,rfl,c1,_,rfl,hstart1,_,rfl,al,_,rfl,aZ.of (y1.fh _ _ (sq _ _ (s3 _ _ hal))),λr hr2=> ?_⟩;rw[aM,u9,rJ];have y2:=y1.new (o:= .lst ((zs (l.take Vabldi.INCLUDE.length)).map V.int)) hr2;have neLr:L≠r:=az hHL1 hr2;have necr:cc≠r:=az hHc1 hr2;have hHL2:aJ (aJ H3 q (.lst ((zs (l.drop Vabldi.INCLUDE.length)).map V.int))) r (.lst ((zs (l.take Vabldi.INCLUDE.length)).map V.int)) L=some (.lst refs):=by rw[aj neLr];exact hHL1
  have hHc2:aJ (aJ H3 q (.lst ((zs (l.drop Vabldi.INCLUDE.length)).map V.int))) r (.lst ((zs (l.take Vabldi.INCLUDE.length)).map V.int)) cc=some (.lst cur):=by rw[aj necr];exact hHc1
  have stay:Vabldi.includes l=none->∀{F4 H4},bo F H F4 H4->aH F2 F4->aH F3 F4->H4 L=some (.lst refs)->F4 L=none->H4 cc=some (.lst cur)->F4 cc=none->nJ 3 [some (V.ref a),some (V.ref c1),some (V.ref L),some (V.ref cc),some (V.ref al),some (V.ref q)] H4 λx H1=>∃l xs,x= .ref l/\H1 l=some (.lst xs)/\nJ 4 [some (V.ref a),some (V.ref c1),some (V.ref L),some (V.ref cc),some (V.ref al),some (V.ref q)] H1 λy H2=>∃ys,H2 l=some (.lst ys)/\ys.length<sizeLine/\
    ∃F',bo F H F' (aJ H2 l (.lst (ys++[y])))/\aH F2 F'/\∃(b b2:Option V) (cd:Addr) (refs cur:List V) (dn:List (List ai×Option ai)) (ks:List ai),[some (V.ref a),some (V.ref c1),some (V.ref L),some (V.ref cc),some (V.ref al),some (V.ref q)]=[some (.ref a),some (.ref c1),some (.ref L),some (.ref cd),b,b2]/\(aJ H2 l (.lst (ys++[y]))) L=some (.lst refs)/\F' L=none/\(aJ H2 l (.lst (ys++[y]))) cd=some (.lst cur)/\F' cd=none/\H cd=none/\L≠cd/\Paired (qz F') refs dn/\Paired (dk F2) cur ks/\bw (Vabldi.linesOf t) []=dn++bw ((Vabldi.linesOf t).drop (i+1)) ks/\dn.length+ks.length<=i+1/\(Vabldi.putLines ks).length+(Vabldi.putLines ((Vabldi.linesOf t).drop (i+1))).length<=(Vabldi.putLines (Vabldi.linesOf t)).length:=λhin {F4 H4} e4 s4 s34 a1 a2 a3 a4=>by
   rw[hin]at hpa;refine⟨_,rfl,cc,cur,rfl,a3,_,rfl,cur,a3,?_,F4,e4.wr ncc a4,s4,_,_,cc,refs,cur++[.ref al],dn,ks++[l],rfl,?_,a2,aa,a4,ncc,neq,Paired.mapP hpr λv d r=>r.mono s34,bh ⟨al,rfl,hal⟩ hpc,hpa,?_,?_⟩
   ·rw[aA hpc];omega
   ·rw[aj neq];exact a1
   ·simp;omega
   ·rw[dF];simp;omega
  refine⟨_,rfl,r,c1,_,_,rfl,rfl,.inl ⟨aa,y2.fh _ _ (sq _ _ (s3 _ _ (e2.ff _ _ hc1)))⟩,_,rfl,?_⟩;rw[ie];refine bY (λhb=> ?_) (λhb=> ?_)
  ·have hb:=of_decide_eq_true hb;refine⟨_,rfl,_,_,l.drop Vabldi.INCLUDE.length,rfl,⟨q,rfl,aa⟩,y2.fh,λu F4 H4 e4 eu=> ?_⟩;subst eu;have hL4:H4 L=some (.lst refs):=e4.hh _ _ hHL2;have hc4:H4 cc=some (.lst cur):=e4.hh _ _ hHc2;have gL4:F4 L=none:=e4.sp _ _ hHL2 fL1;have gc4:F4 cc=none:=e4.sp _ _ hHc2 fc1;have y4:=y2.trans e4;have s34:aH F3 F4:=sq.trans e4.ff;refine⟨_,rfl,bY (λhb2=> ?_) (λhb2=> ?_)⟩
   ·have hin:Vabldi.includes l=some (l.drop Vabldi.INCLUDE.length):=by
     unfold Vabldi.includes;rw[if_pos ⟨by unfold Vabldi.startsWith;rw[beq_iff_eq];exact hb,hb2⟩]
    rw[hin]at hpa;have y5:=y4.frz ncc hc4 gc4;have s5:=aI (o:= .lst cur) gc4;refine⟨_,rfl,L,refs,rfl,hL4,_,rfl,_,_,ks,rfl,⟨cc,cur,rfl,aa,Paired.mapP hpc λv d r=>((r.mono (s3.trans s34)).mono s5).any⟩,by omega,y5.fh,λu F6 H6 e6 ⟨c6,eu,hc6⟩=> ?_⟩;subst eu;have y6:=y5.trans e6;refine⟨_,rfl,q,_,rfl,e6.hh _ _ (y4.fh _ _ (e4.ff _ _ aa)),λtq htq=>⟨r6 _ _,λpq hpq=> ?_⟩⟩;have y7:=y6.newF (o:= .tup ((zs (l.drop Vabldi.INCLUDE.length)).map V.int)) htq;have s7:=aI (o:= .tup ((zs (l.drop Vabldi.INCLUDE.length)).map V.int)) (y6.fh.free htq);have y8:=y7.newF (o:= .tup [.ref c6,.ref tq]) hpq;have s8:=aI (o:= .tup [.ref c6,.ref tq]) (y7.fh.free hpq);have hL6:H6 L=some (.lst refs):=e6.hh _ _ hL4;have gL5:aJ F4 cc (.lst cur) L=none:=by rw[aj neq];exact gL4
    have gL6:F6 L=none:=e6.sp _ _ hL4 gL5;have nt:L≠tq:=az hL6 htq;have hL7:aJ H6 tq (.tup ((zs (l.drop Vabldi.INCLUDE.length)).map V.int)) L=some (.lst refs):=by rw[aj nt];exact hL6
    have np:L≠pq:=az hL7 hpq;have gL8:aJ (aJ F6 tq (.tup ((zs (l.drop Vabldi.INCLUDE.length)).map V.int))) pq (.tup [.ref c6,.ref tq]) L=none:=by rw[aj np,aj nt];exact gL6
    refine⟨refs,by rw[aj np];exact hL7,?_,?_⟩
    ·rw[aA hpr];omega
    have y9:=y8.wr (o:= .lst (refs++[.ref pq])) nL gL8;refine⟨Nat.zero_le _,λc9 hc9=> ?_⟩;have n9:L≠c9:=az aa hc9;have s38:aH F3 _:=(((s34.trans s5).trans e6.ff).trans s7).trans s8;refine⟨_,y9.new hc9,(s3.trans s38),_,_,c9,refs++[.ref pq],[],dn++[(ks,some (l.drop Vabldi.INCLUDE.length))],[],rfl,by rw[aj n9,aa],gL8,aa,y9.fh.free hc9,y9.hh.free hc9,n9,?_,.nil,?_,?_,?_⟩
    ·refine bh ⟨pq,.ref c6,.ref tq,rfl,aa,⟨c6,rfl,s8 _ _ (s7 _ _ hc6)⟩,⟨tq,rfl,s8 _ _ aa⟩⟩ (Paired.mapP hpr λv d r=>r.mono s38)
    ·rw[hpa];simp
    ·simp;omega
    ·have :(Vabldi.putLines []).length=0:=rfl;omega
   ·refine stay ?_ y4 (s3.trans s34) s34 hL4 gL4 hc4 gc4;unfold Vabldi.includes;rw[if_neg (by rw[hb2];simp)]
  ·have hb:=of_decide_eq_false hb;refine jw (stay ?_ y2 (s3.trans sq) sq hHL2 fL1 hHc2 fc1);unfold Vabldi.includes;rw[if_neg];rintro ⟨h1,_⟩;unfold Vabldi.startsWith at h1;rw[beq_iff_eq]at h1;exact hb h1
 ·rintro σ1 F3 H3 e3 s3 ⟨b,b2,cc,refs,cur,dn,ks,rfl,hHL,fL,hHc,fc,ncc,neq,hpr,hpc,hpa,hlen,hby⟩
  rw[aA hys]at hpa hlen hby;rw[List.drop_length]at hpa hby;have y5:=e3.frz ncc hHc fc;have s5:=aI (o:= .lst cur) fc;refine⟨_,rfl,L,refs,rfl,hHL,_,rfl,_,_,ks,rfl,⟨cc,cur,rfl,aa,Paired.mapP hpc λv d r=>((r.mono s3).mono s5).any⟩,by omega,y5.fh,λu F6 H6 e6 ⟨c6,eu,hc6⟩=> ?_⟩;subst eu;have y6:=y5.trans e6;refine⟨r6 _ _,λpq hpq=> ?_⟩;have y8:=y6.newF (o:= .tup [.ref c6,.non]) hpq;have s8:=aI (o:= .tup [.ref c6,.non]) (y6.fh.free hpq);have hL6:H6 L=some (.lst refs):=e6.hh _ _ hHL;have gL6:F6 L=none:=e6.sp _ _ hHL (by rw[aj neq];exact fL);have np:L≠pq:=az hL6 hpq;have gL8:aJ F6 pq (.tup [.ref c6,.non]) L=none:=by rw[aj np];exact gL6
  refine⟨refs,by rw[aj np];exact hL6,?_,?_⟩
  ·rw[aA hpr];omega
  have y9:=(y8.wr (o:= .lst (refs++[.ref pq])) nL gL8).frz nL aa gL8;refine⟨_,rfl,k _ _ _ y9 ⟨L,_,rfl,aa,?_⟩⟩;rw[hpa];have s9:=aI (o:= .lst (refs++[.ref pq])) gL8;exact bh ⟨pq,.ref c6,.non,rfl,s9 _ _ aa,⟨c6,rfl,s9 _ _ (s8 _ _ hc6)⟩,rfl⟩ (Paired.mapP hpr λv d r=>r.mono (((s5.trans e6.ff).trans s8).trans s9))
end
theorem Ah{κ:Type}[DecidableEq κ]{kvs:List (κ×V)}{k:κ}{v:V}(h:∀kv∈kvs,kv.1≠k):eX kvs k v=kvs++[(k,v)]:=by
 unfold eX;rw[if_neg];rw[Bool.not_eq_true,List.any_eq_false];intro kv hkv;simpa using h kv hkv
theorem oS{α:Type}{R:V->α->Prop}{nm:α->ai}:∀{kvs:List (List bG×V)} {l:List α} (n:ai),Paired (λ(kv:List bG×V) d=>kv.1=nk (nm d)/\R kv.2 d) kvs l->
  (l.find? (λd=>nm d==n)=none/\cB kvs (nk n)=none)\/∃d v,l.find? (λd=>nm d==n)=some d/\cB kvs (nk n)=some v/\R v d
 |_,_,n,.nil=> .inl ⟨rfl,rfl⟩
 |kv::kvs,d::l,n,.cons ⟨h1,h2⟩ t=>by
  by_cases e:nm d=n
  ·refine .inr ⟨d,kv.2,?_,iG (h1.trans (by rw[e])),h2⟩;rw[List.find?_cons,show(nm d==n)=true by simpa using e]
  ·have e':(nm d==n)=false:=by simpa using e
   rw[List.find?_cons,e',iH (λq=>e (gZ (h1.symm.trans q)))];exact oS n t
theorem qB{α:Type}{nm:α->ai}{l l':List α}(p:l.Perm l')(nd:(l.map nm).Nodup)(n:ai):l.find? (λd=>nm d==n)=l'.find? (λd=>nm d==n):=by
 have nd':(l'.map nm).Nodup:=(p.map nm).nodup_iff.mp nd
 have key:∀{l:List α},(l.map nm).Nodup->∀d,d∈l->nm d=n->l.find? (λd=>nm d==n)=some d:=by
  intro l;induction l with
  |nil=>intro _ d h;cases h
  |cons x r ih=>
   intro hn d hd e;rw[List.map_cons,List.nodup_cons]at hn;rw[List.find?_cons];rcases List.mem_cons.mp hd with rfl|hd
   ·simp[e]
   ·have :nm x≠n:=λq=>hn.1 (by rw[q,<-e];exact List.mem_map.mpr ⟨d,hd,rfl⟩)
    rw[show(nm x==n)=false by simpa using this];exact ih hn.2 d hd e
 cases h:l'.find? (λd=>nm d==n)with
 |none=>
  rw[List.find?_eq_none]at h⊢;exact λx hx=>h x (p.mem_iff.mp hx)
 |some d=>
  have h1:=List.mem_of_find?_eq_some h;have h2:=List.find?_some h;exact key nd d (p.mem_iff.mpr h1) (by simpa using h2)
def E3(x:ai×ai):Vabldi.Input:={name:=x.1,bytes:=x.2}
def vK(F:Hp)(kvs:List (List bG×V))(l:List Vabldi.Input):Prop:=Paired (λ(kv:List bG×V) (i:Vabldi.Input)=>kv.1=nk i.name/\lZ F kv.2 (bw (Vabldi.linesOf i.bytes) [])) kvs l
section
variable{P:Program}{w:World}{K:PySem.W.Frag}{mg:Str->Option Value}{base:Heap}{C:Cs}
abbrev FT:List Str:=["names","data","parts","name","text"]
theorem r8:aC FT ["names","data"] (ao ig):=⟨rfl,rfl,rfl,by decide+kernel,rfl,by decide+kernel,by decide+kernel⟩
def En:Sp:=λvs H Q _=>∃(F:Hp) (vn vd:V) (ns ds:List ai),vs=[vn,vd]/\jZ F vn ns/\cW F vd ds/\ns.length=ds.length/\ns.length<=8/\ns.Nodup/\(∀d∈ds,d.length<=4096)/\aH F H/\
 Rt F H Q λF1 u=>∃a kvs,u= .ref a/\F1 a=some (.dT kvs)/\vK F1 kvs ((ns.zip ds).map E3)
theorem Eo(T:Tx K mg C):Ok P w K mg base "parts_by_name" ["names","data"] 4 En:=by
 refine T.d_parts_by_name.ok r8 (λvs H Q E h=>by obtain⟨_,_,_,_,_,e,_⟩:=h;rw[e];rfl) (λf cdv A outer s H vs Q E hr h=> ?_);obtain⟨F,vn,vd,ns,ds,rfl,⟨ln,xs,rfl,hln,hpn⟩,⟨ld,ys,rfl,hld,hpd⟩,hlen,h8,hnd,hby,f0,k⟩:=h
 refine⟨_,ae (aF (i:=2) r8.nd rfl (Or.inl rfl) kF)
  (ae (b0 PassesOwn.never rfl (u4 rfl T.b_zip (ab (pv 0) (ab (pv 1) af))) (qX rfl (dH (aS (i:=3) r8.nd rfl (Or.inl rfl)) (dH (aS (i:=4) r8.nd rfl (Or.inl rfl)) m4)))
   (ah (kE (bT hr) (pv 2) (pv 3) (aB (tY T) hr (ab (pv 4) af)) rfl)))
  (ah (aq (pv 2)))),?_⟩
 have sz:(8388608:Nat)<sizeLine:=by decide
 intro L hL;have x0:=(bo.refl f0).new (o:= .dT []) hL;refine⟨_,rfl,_,rfl,ln,ld,xs,ys,rfl,aZ.of (x0.fh _ _ hln),aZ.of (x0.fh _ _ hld),z0 (p:=3) (q:=4) (S:=[]) (F0:=F) (H0:=H) (λi σ1 F1 H1=>∃b1 b2 kvs,σ1=[some (.ref ln),some (.ref ld),some (.ref L),b1,b2]/\H1 L=some (.dT kvs)/\F1 L=none/\vK F1 kvs (((ns.zip ds).take i).map E3)) x0.x hln hld (by rw[aA hpn,aA hpd,hlen]) ⟨none,none,[],rfl,aa,f0.free hL,.nil⟩ ?_ ?_ ?_⟩
 ·rintro i σ1 F1 H1 T' o e1 nT ⟨b1,b2,kvs,rfl,hHL,fL,hp⟩
  exact⟨b1,b2,kvs,rfl,by rw[aj (az hHL nT)];exact hHL,fL,hp⟩
 ·rintro i x y σ1 F1 H1 hx hy e1 s1 ⟨b1,b2,kvs,rfl,hHL,fL,hp⟩
  obtain⟨n,hn,an,rfl,han⟩:=bg hpn hx;obtain⟨d,hd,ad,rfl,had⟩:=bg hpd hy;have hz:(ns.zip ds)[i]? =some (n,d):=(List.getElem?_zip_eq_some (z:=(n,d))).mpr ⟨hn,hd⟩;have hil:=ck hz;refine⟨_,rfl,F1,_,d,rfl,⟨ad,rfl,s1 _ _ had⟩,hby d (List.mem_of_getElem? hd),e1.fh,λu F2 H2 e2 hu=> ?_⟩;have hL2:H2 L=some (.dT kvs):=e2.hh _ _ hHL;have fL2:F2 L=none:=e2.sp _ _ hHL fL
  have hkl:kvs.length<=8:=by
   have :=aA hp;rw[List.length_map,List.length_take,List.length_zip]at this;omega
  refine⟨_,rfl,_,rfl,L,_,rfl,rD.t (k:=nk n) hL2 (by rw[bX];exact e2.hh _ _ (e1.fh _ _ (s1 _ _ han))) (by omega),F2,(e1.trans e2.x).wr (.inr hL) fL2,s1.trans e2.ff,_,_,_,rfl,aa,fL2,?_⟩
  have new:eX kvs (nk n) u=kvs++[(nk n,u)]:=Ah λkv hkv q=>by
   obtain⟨j,hj⟩:=List.mem_iff_getElem?.mp hkv;obtain⟨z,hz2,e3,_⟩:=bg hp hj;rw[List.getElem?_map]at hz2;cases q3:((ns.zip ds).take i)[j]? with
   |none=>rw[q3]at hz2;cases hz2
   |some zz=>
    rw[q3]at hz2;have ez:E3 zz=z:=Option.some.inj hz2
    have hji:j<i:=by
     have :=ck q3;rw[List.length_take]at this;omega
    rw[List.getElem?_take_of_lt hji]at q3;have h1:=(List.getElem?_zip_eq_some.mp q3).1
    have :zz.1=n:=by
     have :=gZ (e3.symm.trans q);rw[<-ez]at this;exact this
    rw[this]at h1;have :=C2 hnd h1 hn;omega
  rw[new,aT hz,List.map_append];exact bh ⟨rfl,hu⟩ (Paired.mapP hp λkv d r=>⟨r.1,mK r.2 e2.ff⟩)
 ·rintro σ1 F1 H1 e1 s1 ⟨b1,b2,kvs,rfl,hHL,fL,hp⟩
  have el:xs.length=(ns.zip ds).length:=by rw[aA hpn,List.length_zip,hlen];simp
  rw[el,List.take_length]at hp;refine⟨_,rfl,k _ _ _ (e1.ext.frz hL hHL fL) ⟨L,kvs,rfl,aa,?_⟩⟩;exact Paired.mapP hp λkv d r=>⟨r.1,mK r.2 (aI fL)⟩
theorem vL:aC ["name","parts","within","followed"] ["name","parts","within","followed"] (ao kK):=⟨rfl,rfl,rfl,by decide+kernel,rfl,by decide+kernel,by decide+kernel⟩
def jb(there:Bool)(n:ai)(ws:List ai)(fo:Nat):Nat:=if there=false then 3 else if n∈ws then 4 else if 7<=ws.length\/64<=fo then 5 else 0
theorem vM(n:ai)(ws:List ai):decide (zs n∈ws.map zs)=decide (n∈ws):=by
 rw[Bool.eq_iff_iff,decide_eq_true_eq,decide_eq_true_eq,List.mem_map];exact⟨λ⟨x,h,e⟩=>vb e▸h,λh=>⟨n,h,rfl⟩⟩
theorem jp{H F:Hp}(e:aH F H):∀{xs:List V} {ts:List ai},Paired (gI F) xs ts->Paired (ZT H) xs (ts.map zs)
 |_,_,.nil=> .nil
 |_,_,.cons ⟨a,h1,h2⟩ t=> .cons ⟨a,h1,e _ _ h2⟩ (jp e t)
def vN:Sp:=λvs H Q _=>∃(F:Hp) (vn:V) (ap aw:Addr) (fo:Nat) (n:ai) (ws:List ai) (xs:List V) (kvs:List (List bG×V)),vs=[vn,.ref ap,.ref aw,.int fo]/\gI F vn n/\F ap=some (.dT kvs)/\H aw=some (.lst xs)/\Paired (gI F) xs ws/\aH F H/\Q (.int (jb (cB kvs (nk n)).isSome n ws fo:Nat)) H
theorem vO(T:Tx K mg C):Ok P w K mg base "trouble_of" ["name","parts","within","followed"] 1 vN:=by
 refine T.d_trouble_of.ok vL (λvs H Q E h=>by obtain⟨_,_,_,_,_,_,_,_,_,e,_⟩:=h;rw[e];rfl) (λf cdv A outer s H vs Q E hr h=> ?_);obtain⟨F,vn,ap,aw,fo,n,ws,xs,kvs,rfl,⟨an,rfl,han⟩,hap,haw,hpw,f0,k⟩:=h
 refine⟨_,ae (aN (fJ (jj (bT hr) (pv 0) (pv 1))) (ah (aq (aV T.g_UNDECLARED))) aE)
  (ae (aN (aK (D7 hr) (pv 0) (pv 2) (by with_unfolding_all rfl)) (ah (aq (aV T.g_CIRCLE))) aE)
  (ae (aN (PW.pt (km (aK iw (bp T.b_len (pv 2)) (aV T.g_MOST_DEEP) (aP _)) (lF (aK CT (pv 3) (aV T.g_MOST_FOLLOWED) (aP _))))) (ah (aq (aV T.g_DEEP))) aE)
  (ah (aq aG)))),?_⟩
 refine⟨_,rfl,_,rfl,ap,_,rfl,dj.t (k:=nk n) (f0 _ _ hap) (by rw[bX];exact f0 _ _ han),_,rfl,bY (λhb=> ?_) (λhb=> ?_)⟩
 ·have hb:(cB kvs (nk n)).isSome=false:=by simpa using hb
  rw[hb]at k;exact k
 ·have hb:(cB kvs (nk n)).isSome=true:=by simpa using hb
  rw[hb]at k;refine⟨_,rfl,_,rfl,aw,xs,zs n,_,rfl,haw,⟨an,rfl,f0 _ _ han⟩,jp f0 hpw,_,rfl,?_⟩;show if decide (zs n∈ws.map zs)=true then _ else _
  rw[vM];refine bY (λhb2=> ?_) (λhb2=> ?_)
  ·have hb2:=of_decide_eq_true hb2;unfold jb at k;rw[if_neg (by decide),if_pos hb2]at k;exact k
  ·have hb2:=of_decide_eq_false hb2;unfold jb at k;rw[if_neg (by decide),if_neg hb2]at k;have el:=aA hpw;refine⟨_,rfl,aw,xs,rfl,haw,_,_,rfl,rfl,_,rfl,bY (λhb3=> ?_) (λhb3=> ?_)⟩
   ·refine iq ?_;have :6<xs.length:=by have :=of_decide_eq_true hb3;omega
    rw[if_pos (.inl (by omega))]at k;exact k
   ·have h3:¬6<xs.length:=by have :=of_decide_eq_false hb3;omega
    refine⟨_,rfl,_,_,rfl,rfl,_,rfl,bY (λhb4=> ?_) (λhb4=> ?_)⟩
    ·have :64<=fo:=by
      have :=of_decide_eq_true hb4;omega
     rw[if_pos (.inr this)]at k;exact k
    ·have :¬64<=fo:=by
      have :=of_decide_eq_false hb4;omega
     rw[if_neg (by omega)]at k;exact k
theorem vP:aC ["trouble","name","read"] ["trouble","name","read"] (ao kL):=⟨rfl,rfl,rfl,by decide+kernel,rfl,by decide+kernel,by decide+kernel⟩
def vQ(C:Cs):Sp:=λvs H Q _=>∃(F:Hp) (c:Nat) (vn:V) (n:ai) (vr:V) (rd:List ai),vs=[.int c,vn,vr]/\gI F vn n/\jZ F vr rd/\aH F H/\Rt F H Q λF1 u=>lg C F1 u (.error {code:=c,name:=if c=3 then n else[]}) rd
theorem vR(T:Tx K mg C):Ok P w K mg base "failure_of" ["trouble","name","read"] 4 (vQ C):=by
 refine T.d_failure_of.ok vP (λvs H Q E h=>by obtain⟨_,_,_,_,_,_,e,_⟩:=h;rw[e];rfl) (λf cdv A outer s H vs Q E hr h=> ?_);obtain⟨F,c,vn,n,vr,rd,rfl,hn,hrd,f0,k⟩:=h
 refine⟨_,ae (aN (aK eZ (pv 0) (aV T.g_UNDECLARED) (aP _)) (ah (aq (aB (dO T) hr (ab (pv 1) (ab (pv 2) af))))) aE)
  (ah (aq (aB (bL T) hr (ab (pv 0) (ab (pv 2) af))))),?_⟩
 refine⟨_,rfl,rfl,_,rfl,bY (λhb=> ?_) (λhb=> ?_)⟩
 ·have e:c=3:=by
   simp at hb;omega
  subst e;exact⟨_,rfl,_,rfl,F,_,n,_,rd,rfl,hn,hrd,f0,λu F1 H1 e1 h1=>k u F1 H1 e1 h1⟩
 ·have e:¬c=3:=by
   intro e;subst e;simp at hb
  rw[if_neg e]at k;exact⟨_,rfl,_,rfl,F,c,_,rd,rfl,hrd,f0,λu F1 H1 e1 h1=>k u F1 H1 e1 h1⟩
end
open Vabldi (Input Put)
section
variable{X:Cx}
def FU:V->V->Hp->VK->Prop:=λx y H Q=>∃p xs v,x= .ref p/\y= .int (-1)/\H p=some (.lst xs)/\yN xs (-1)=some v/\Q v H
theorem Ai:Fe X FU:=by
 intro pins s σ H o i ov iv Q I ro ri h;obtain⟨p,xs,z,rfl,rfl,hp,he,q⟩:=h;cases ro;obtain⟨t,rfl⟩:=ri;obtain⟨its,r,pl,hz⟩:=I.list (aZ.of (K:=X.K) hp);obtain⟨j,h1,h2,h3,h4,h5⟩:=rk he;obtain⟨w,ew,rw'⟩:=r.get h2;have hl:=r.length;have hn:=lG
 have hj:(-1+(its.toArray.size:Int)).toNat=j:=by
  rw[seqIndex_neg (by omega) h4]at h1;rw[List.size_toArray,<-hl];exact Option.some.inj h1
 exact wpAny_getItem_list_neg (Q:=EP X pins σ Q) pl.isList (by omega) (by rw[List.size_toArray];omega) (by omega) (by rw[hj];simpa using ew) ⟨z,H,I,rw',q⟩
end
structure Fr where
 nm:ai
 pl:Nat
 rem:List ai
def Fr.ok(inputs:List Input)(f:Fr):Prop:=∃u,Vabldi.named inputs f.nm=some u/\bw f.rem []=(bw (Vabldi.linesOf u) []).drop f.pl
def Aj(fr:List Fr):Nat:=(fr.map λf=>(Vabldi.putLines f.rem).length).sum
def vS(fr:List Fr):Nat:=(fr.map λf=>f.rem.length+1).sum
theorem gr(fr:List Fr)(f:Fr):Aj (fr++[f])=Aj fr+(Vabldi.putLines f.rem).length:=by simp[Aj]
theorem jq(fr:List Fr)(f:Fr):vS (fr++[f])=vS fr+(f.rem.length+1):=by simp[vS]
structure At(inputs:List Input)(fr:List Fr)(p:Put):Prop where
 run:Vabldi.included inputs=cZ inputs (fr.reverse.map (·.nm)) (fr.reverse.map (·.rem)) p
 nf:p.failure=none
 dp:fr.length<=7
 fo:p.followed<=64
 ok:∀f∈fr,f.ok inputs
 sz:(Vabldi.putLines p.lines.reverse).length+Aj fr<=(p.followed+1)*4097
 rd:p.reads.length<=p.followed+1
theorem ny(a b:List ai):Vabldi.putLines (a++b)=Vabldi.putLines a++Vabldi.putLines b:=by unfold Vabldi.putLines;rw[List.flatMap_append]
theorem At.head{inputs:List Input}{fr:List Fr}{f:Fr}{p:Put}(h:At inputs (fr++[f]) p):∃u ks nm,Vabldi.named inputs f.nm=some u/\(bw (Vabldi.linesOf u) [])[f.pl]? =some (ks,nm)/\
  (∀l∈ks,Vabldi.includes l=none)/\((nm=none/\f.rem=ks)\/∃n l tl,nm=some n/\Vabldi.includes l=some n/\f.rem=ks++l::tl/\bw tl []=(bw (Vabldi.linesOf u) []).drop (f.pl+1)):=by
 obtain⟨u,h1,h2⟩:=h.ok f (by simp);cases e:bw f.rem []with
 |nil=>exact absurd e (Ag _ _)
 |cons pt br=>
  obtain⟨ks,nm⟩:=pt;obtain⟨mid,e1,e2,e3⟩:=oR f.rem [] ks nm br (by simp) e;rw[List.nil_append]at e1;subst e1
  have hx:(bw (Vabldi.linesOf u) [])[f.pl]? =some (ks,nm):=by
   have :=congrArg (λl=>l[0]?) (h2.symm.trans e);simpa using this
  have hr:(bw (Vabldi.linesOf u) []).drop (f.pl+1)=br:=by
   have :=qA hx;rw[<-h2,e]at this;simp only[List.cons.injEq,true_and]at this;exact this.symm
  refine⟨u,ks,nm,h1,hx,e2,?_⟩;rcases e3 with⟨a,b,c⟩|⟨n,l,tl,a,b,c,d⟩
  ·exact .inl ⟨a,b⟩
  ·exact .inr ⟨n,l,tl,a,b,c,by rw[hr,d]⟩
theorem At.pop{inputs:List Input}{fr:List Fr}{f:Fr}{p:Put}(h:At inputs (fr++[f]) p)(hk:∀l∈f.rem,Vabldi.includes l=none):At inputs fr {p with lines:=f.rem.reverse++p.lines}:=by
 have hr:=h.run;rw[List.reverse_append,List.reverse_singleton,List.singleton_append,List.map_cons,List.map_cons,Ci h.nf hk,List.tail_cons]at hr;refine⟨hr,h.nf,by have :=h.dp;simp at this;omega,h.fo,λg hg=>h.ok g (by simp[hg]),?_,h.rd⟩;have :=h.sz;rw[gr]at this;show(Vabldi.putLines (f.rem.reverse++p.lines).reverse).length+_<=_;rw[List.reverse_append,List.reverse_reverse,ny,List.length_append];show _<=(p.followed+1)*4097;omega
theorem At.inc{inputs:List Input}{fr:List Fr}{f:Fr}{p:Put}{ks:List ai}{l n:ai}{tl:List ai}(h:At inputs (fr++[f]) p)(hk:∀l∈ks,Vabldi.includes l=none)(hl:Vabldi.includes l=some n)(hrem:f.rem=ks++l::tl):
  Vabldi.included inputs=match Vabldi.named inputs n with
   |none=>{p with lines:=ks.reverse++p.lines,failure:=some {code:=Vabldi.UNDECLARED,name:=n}}
   |some u=>if n∈(fr++[f]).map (·.nm)then{p with lines:=ks.reverse++p.lines,failure:=some {code:=Vabldi.CIRCLE}}
    else if 7<=(fr++[f]).length\/64<=p.followed then{p with lines:=ks.reverse++p.lines,failure:=some {code:=Vabldi.DEEP}}
    else cZ inputs (n::(fr++[f]).reverse.map (·.nm)) (Vabldi.linesOf u::tl::fr.reverse.map (·.rem)) (Vabldi.readName {p with lines:=ks.reverse++p.lines,followed:=p.followed+1} n):=by
 have hr:=h.run;have e1:(fr++[f]).reverse.map (·.rem)=(ks++l::tl)::fr.reverse.map (·.rem):=by simp[hrem]
 rw[e1,Cj h.nf hk hl]at hr;rw[hr]
 have e2:(((fr++[f]).reverse.map (·.nm)).contains n=true)↔(n∈(fr++[f]).map (·.nm)):=by
  rw[List.contains_iff_mem,List.map_reverse,List.mem_reverse]
 have e3:((fr++[f]).reverse.map (·.nm)).length=(fr++[f]).length:=by simp
 cases Vabldi.named inputs n with
 |none=>rfl
 |some u=>
  dsimp only;rw[e3];by_cases c:n∈(fr++[f]).map (·.nm)
  ·rw[if_pos (e2.mpr c),if_pos c]
  ·rw[if_neg (λz=>c (e2.mp z)),if_neg c]
theorem eT(p:Put)(n:ai):(Vabldi.readName p n).lines=p.lines:=by unfold Vabldi.readName;split<;>rfl
theorem bm(p:Put)(n:ai):(Vabldi.readName p n).followed=p.followed:=by unfold Vabldi.readName;split<;>rfl
theorem gu(p:Put)(n:ai):(Vabldi.readName p n).failure=p.failure:=by unfold Vabldi.readName;split<;>rfl
theorem cJ(p:Put)(n:ai):(Vabldi.readName p n).reads=if n∈p.reads then p.reads else n::p.reads:=by
 unfold Vabldi.readName;by_cases h:n∈p.reads
 ·rw[if_pos (by simpa using h),if_pos h]
 ·rw[if_neg (by simpa using h),if_neg h]
theorem At.push{inputs:List Input}{fr:List Fr}{f:Fr}{p:Put}{ks:List ai}{l n u w:ai}{tl:List ai}(h:At inputs (fr++[f]) p)(hk:∀l∈ks,Vabldi.includes l=none)(hl:Vabldi.includes l=some n)(hrem:f.rem=ks++l::tl)
  (hu:Vabldi.named inputs n=some u)(hul:u.length<=4096)(h1:n∉(fr++[f]).map (·.nm))(h2:¬(7<=(fr++[f]).length\/64<=p.followed))(hw:Vabldi.named inputs f.nm=some w)(hp:bw tl []=(bw (Vabldi.linesOf w) []).drop (f.pl+1)):
  At inputs (fr++[⟨f.nm,f.pl+1,tl⟩]++[⟨n,0,Vabldi.linesOf u⟩]) (Vabldi.readName {p with lines:=ks.reverse++p.lines,followed:=p.followed+1} n):=by
 have hr:=h.inc hk hl hrem;rw[hu]at hr;dsimp only at hr;rw[if_neg h1,if_neg h2]at hr;refine⟨?_,?_,?_,?_,?_,?_,?_⟩
 ·rw[hr];simp
 ·rw[gu];exact h.nf
 ·simp at h2⊢;omega
 ·rw[bm];show p.followed+1<=64;omega
 ·intro g hg;rcases List.mem_append.mp hg with hg|hg
  ·rcases List.mem_append.mp hg with hg|hg
   ·exact h.ok g (by simp[hg])
   ·simp at hg;subst hg;exact⟨w,hw,hp⟩
  ·simp at hg;subst hg;exact⟨u,hu,by simp⟩
 ·have hs:=h.sz;rw[gr,hrem,ny,List.length_append]at hs;rw[eT,bm,gr,gr];show(Vabldi.putLines (ks.reverse++p.lines).reverse).length+_<=(p.followed+1+1)*4097;rw[List.reverse_append,List.reverse_reverse,ny,List.length_append];have hl2:=bM u;have ht:(Vabldi.putLines tl).length<=(Vabldi.putLines (l::tl)).length:=bQ (List.sublist_cons_self _ _);have hm:(p.followed+1+1)*4097=(p.followed+1)*4097+4097:=by omega
  dsimp only;omega
 ·rw[cJ,bm];have :=h.rd;split
  ·show p.reads.length<=p.followed+1+1;omega
  ·show(n::p.reads).length<=p.followed+1+1;simp;omega
open Vabldi (Input Put)
theorem qC{F:Hp}{kvs:List (List bG×V)}{l:List Input}(h:vK F kvs l)(n:ai):(Vabldi.named l n=none/\cB kvs (nk n)=none)\/∃u v,Vabldi.named l n=some u/\cB kvs (nk n)=some v/\lZ F v (bw (Vabldi.linesOf u) []):=by
 unfold Vabldi.named;rcases oS (R:=λv (i:Input)=>lZ F v (bw (Vabldi.linesOf i.bytes) [])) (nm:=λi:Input=>i.name) n h with⟨h1,h2⟩|⟨d,v,h1,h2,h3⟩
 ·exact .inl ⟨by rw[h1];rfl,h2⟩
 ·exact .inr ⟨d.bytes,v,by rw[h1];rfl,h2,h3⟩
theorem yp{l:List Input}{n u:ai}(h:Vabldi.named l n=some u)(hl:∀i∈l,i.bytes.length<=4096):u.length<=4096:=by
 unfold Vabldi.named at h;cases q:l.find? (λi=>i.name==n)with
 |none=>rw[q]at h;cases h
 |some i=>
  rw[q]at h;have :i.bytes=u:=Option.some.inj h;rw[<-this];exact hl i (List.mem_of_find?_eq_some q)
theorem mW{α β:Type}{R:α->β->Prop}{xs:List α}{ds:List β}{d:β}(h:Paired R xs (ds++[d])):∃ys y,xs=ys++[y]/\Paired R ys ds/\R y d:=by
 induction ds generalizing xs with
 |nil=>cases h with |cons a b=>cases b;exact⟨[],_,rfl,.nil,a⟩
 |cons e r ih=>
  cases h with
  |cons a b=>
   obtain⟨ys,y,rfl,h1,h2⟩:=ih b;exact⟨_::ys,y,rfl,.cons a h1,h2⟩
theorem vT{α:Type}(l:List α):l=[]\/∃r x,l=r++[x]:=by
 cases h:l.getLast? with
 |none=>exact .inl (List.getLast?_eq_none_iff.mp h)
 |some x=>obtain⟨r,e⟩:=List.getLast?_eq_some_iff.mp h;exact .inr ⟨r,x,e⟩
theorem Ak{n:Nat}:zh (n+1) (-1)=some n:=by
 unfold zh;rw[if_neg (by decide),if_pos (by omega)];congr 1;omega
theorem Al{α:Type}(r:List α)(x y:α):(r++[x]).set r.length y=r++[y]:=by
 rw[List.set_append_right _ _ (Nat.le_refl _)];simp
section
variable{P:Program}{w:World}{K:PySem.W.Frag}{mg:Str->Option Value}{base:Heap}{C:Cs}
abbrev FV:List Str:=["names","data","parts","within","places","read","followed","text","part","name","trouble"]
theorem eU:aC FV ["names","data"] (ao ox):=⟨rfl,rfl,rfl,by decide+kernel,rfl,by decide+kernel,by decide+kernel⟩
def tZ(C:Cs):Sp:=λvs H Q _=>∃(F:Hp) (vn vd:V) (ns ds:List ai),vs=[vn,vd]/\jZ F vn ns/\cW F vd ds/\ns.length=ds.length/\1<=ns.length/\ns.length<=8/\ns.Nodup/\(∀d∈ds,d.length<=4096)/\aH F H/\
 Rt F H Q λF1 u=>lg C F1 u (Vabldi.includeOf ((ns.zip ds).map E3)) (Vabldi.included ((ns.zip ds).map E3)).reads.reverse
structure Ib(inputs:List Input)(F:Hp)(ln ld pd W Pl R Tx:Addr)(m:Nat)(σ:St)(F1 H1:Hp)(fr:List Fr)(p:Put)(xw xr:List V):Prop where
 st:∃b8 b9 b10,σ=[some (.ref ln),some (.ref ld),some (.ref pd),some (.ref W),some (.ref Pl),some (.ref R),some (.int p.followed),some (.ref Tx),b8,b9,b10]
 ms:m=(64-p.followed)*5000+vS fr
 hW:H1 W=some (.lst xw)
 pW:Paired (gI F) xw (fr.map (·.nm))
 hP:H1 Pl=some (.lst ((fr.map (·.pl)).map λn=>V.int (n:Nat)))
 hR:H1 R=some (.lst xr)
 pR:Paired (gI F) xr p.reads.reverse
 hT:H1 Tx=some (.lst ((zs (Vabldi.putLines p.lines.reverse)).map V.int))
 fW:F1 W=none
 fP:F1 Pl=none
 fR:F1 R=none
 fT:F1 Tx=none
 at_:At inputs fr p
theorem t3(T:Tx K mg C):Ok P w K mg base "included" ["names","data"] 5 (tZ C):=by
 refine T.d_included.ok eU (λvs H Q E h=>by obtain⟨_,_,_,_,_,e,_⟩:=h;rw[e];rfl) (λf cdv A outer s H vs Q E hr h=> ?_);obtain⟨F,vn,vd,ns,ds,rfl,⟨ln,xs,rfl,hln,hpn⟩,⟨ld,ys,rfl,hld,hpd⟩,hlen,h1,h8,hnd,hby,f0,k⟩:=h
 refine⟨_,ae (aF (i:=2) eU.nd rfl (Or.inl rfl) (aB (Eo T) hr (ab (pv 0) (ab (pv 1) af))))
  (ae (aF (i:=3) eU.nd rfl (Or.inl rfl) (aL (ab (bx bn (pv 0) aG (λ_ _=>rfl)) af)))
  (ae (aF (i:=4) eU.nd rfl (Or.inl rfl) (aL (ab aG af)))
  (ae (aF (i:=5) eU.nd rfl (Or.inl rfl) (aL (ab (bx bn (pv 0) aG (λ_ _=>rfl)) af)))
  (ae (aF (i:=6) eU.nd rfl (Or.inl rfl) aG)
  (ae (aF (i:=7) eU.nd rfl (Or.inl rfl) (aL af))
  (ae (kr PassesOwn.never (iy (pv 3) (λ_=>rfl))
   (ae (aF (i:=8) eU.nd rfl (Or.inl rfl) (bx bn (cv (bT hr) (pv 2) (bx bn (pv 3) (sE nP aG) (λ_ _=>rfl)) (λ_ _=>rfl)) (bx bn (pv 4) (sE nP aG) (λ_ _=>rfl)) (λ_ _=>rfl)))
   (ae (Bg (pv 4) (sE nP aG) Ai aG iu zi)
   (ae (eC (pv 7) (bx gF (pv 8) aG (λ_ _=>rfl)))
   (ae (aF (i:=9) eU.nd rfl (Or.inl rfl) (bx gF (pv 8) aG (λ_ _=>rfl)))
   (ae (aN (fJ (lE (pv 9)))
    (ae (ko (zl PySem.F.plainAttrs_list PySem.F.slot_list_pop PySem.F.type_list_pop zm (pv 3)))
    (ae (ko (zl PySem.F.plainAttrs_list PySem.F.slot_list_pop PySem.F.type_list_pop zm (pv 4)))
    (ah sC))) aE)
   (ae (aF (i:=10) eU.nd rfl (Or.inl rfl) (aB (vO T) hr (ab (pv 9) (ab (pv 2) (ab (pv 3) (ab (pv 6) af))))))
   (ae (aN (aK dI (pv 10) aG (aP _)) (ah (aq (aB (vR T) hr (ab (pv 10) (ab (pv 9) (ab (pv 5) af)))))) aE)
   (ae (cD (pv 3) (pv 9))
   (ae (cD (pv 4) aG)
   (ae (aN (aK (ql hr) (pv 9) (pv 5) (by with_unfolding_all rfl)) (ah (cD (pv 5) (pv 9))) aE)
   (ah (jO (i:=6) eU.nd rfl (Or.inl rfl) aG iu)))))))))))))
  (ah (aq (aB (ca T) hr (ab (aL (ab (pv 7) af)) (ab (pv 5) af))))))))))),?_⟩
 have sz:(8388608:Nat)<sizeLine:=by decide
 obtain⟨n0,hn0⟩:∃n,ns[0]? =some n:=⟨_,List.getElem?_eq_getElem (by omega)⟩;obtain⟨d0,hd0⟩:∃n,ds[0]? =some n:=⟨_,List.getElem?_eq_getElem (by omega)⟩;obtain⟨v0,hv0,a0,rfl,ha0⟩:=aY hpn hn0;refine⟨_,rfl,_,rfl,F,_,_,ns,ds,rfl,⟨ln,xs,rfl,hln,hpn⟩,⟨ld,ys,rfl,hld,hpd⟩,hlen,h8,hnd,hby,f0,λu F1 H1 e1 ⟨pd,kvs,eu,hpd1,hD⟩=> ?_⟩;subst eu;generalize hin:(ns.zip ds).map E3=inputs at *
 have inl:∀i∈inputs,i.bytes.length<=4096:=λi hi=>by
  rw[<-hin]at hi;obtain⟨z,hz,rfl⟩:=List.mem_map.mp hi;exact hby z.2 (List.of_mem_zip (a:=z.1) (b:=z.2) hz).2
 refine⟨_,rfl,ln,xs,0,_,rfl,rfl,aZ.of (e1.hh _ _ (f0 _ _ hln)),bd (j:=0) hv0,aX _,λW hW=>⟨aX _,λPl hPl=> ?_⟩⟩;have x1:=e1.new (o:= .lst [.ref a0]) hW;have x2:=x1.new (o:= .lst [.int 0]) hPl;refine⟨_,rfl,ln,xs,0,_,rfl,rfl,aZ.of (x2.hh _ _ (f0 _ _ hln)),bd (j:=0) hv0,aX _,λR hR=> ?_⟩;have x3:=x2.new (o:= .lst [.ref a0]) hR;refine⟨Nat.zero_le _,λTx hTx=> ?_⟩;have x4:=x3.new (o:= .lst []) hTx;have nWP:W≠Pl:=az aa hPl;have gW2:aJ (aJ H1 W (.lst [.ref a0])) Pl (.lst [.int 0]) W=some (.lst [.ref a0]):=by rw[aj nWP,aa]
 have nWR:W≠R:=az gW2 hR;have nPR:Pl≠R:=az aa hR;have nWT:W≠Tx:=az (by rw[aj nWR];exact gW2) hTx;have nPT:Pl≠Tx:=az (by rw[aj nPR];exact aa) hTx;have nRT:R≠Tx:=az aa hTx;have hnW:H W=none:=e1.hh.free hW;have hnP:H Pl=none:=x1.hh.free hPl;have hnR:H R=none:=x2.hh.free hR;have hnT:H Tx=none:=x3.hh.free hTx;have fW1:F1 W=none:=e1.fh.free hW;have fP1:F1 Pl=none:=x1.fh.free hPl;have fR1:F1 R=none:=x2.fh.free hR;have fT1:F1 Tx=none:=x3.fh.free hTx
 obtain⟨i0,br,ei,ein,eib⟩:∃i0 br,inputs=i0::br/\i0.name=n0/\i0.bytes=d0:=by
  rw[<-hin];cases ns with
  |nil=>simp at h1
  |cons a r=>cases ds with
   |nil=>simp at hlen
   |cons b q=>
    simp at hn0 hd0
    exact⟨_,_,rfl,hn0,hd0⟩
 have hnm0:Vabldi.named inputs n0=some d0:=by
  unfold Vabldi.named;rw[ei,List.find?_cons,ein];simp[eib]
 have d0l:d0.length<=4096:=hby d0 (List.mem_of_getElem? hd0);dsimp only[kq];refine rG (λm σ F2 H2=>∃fr p xw xr,Ib inputs F1 ln ld pd W Pl R Tx m σ F2 H2 fr p xw xr) x4 ?h0 ?hs
 case h0=>
  refine⟨_,[⟨n0,0,Vabldi.linesOf d0⟩],{reads:=[n0]},[.ref a0],[.ref a0],⟨none,none,none,rfl⟩,rfl,?_,.cons ⟨a0,rfl,e1.ff _ _ ha0⟩ .nil,?_,?_,.cons ⟨a0,rfl,e1.ff _ _ ha0⟩ .nil,aa,fW1,fP1,fR1,fT1,?_⟩
  ·rw[aj nWT,aj nWR];exact gW2
  ·rw[aj nPT,aj nPR];exact aa
  ·rw[aj nRT];exact aa
  ·refine⟨?_,rfl,by simp,by simp,?_,?_,by simp⟩
   ·rw[ei,rZ,ein,eib];rfl
   ·intro f hf;simp at hf;subst hf;exact⟨d0,hnm0,by simp⟩
   ·have :=bM d0;simp[Aj,Vabldi.putLines]at this⊢;omega
 rintro m σ F2 H2 e2 s2 ⟨fr,p,xw,xr,I⟩
 obtain⟨⟨b8,b9,b10,rfl⟩,rfl,iW,iWp,iP,iR,iRp,iT,gW,gP,gR,gT,A⟩:=I;refine⟨_,rfl,_,.inl ⟨_,aZ.of iW,rfl⟩,bY (λhb=> ?_) (λhb=> ?_)⟩
 ·rcases vT fr with rfl|⟨fr,f,rfl⟩
  ·have :=aA iWp;cases xw with
   |nil=>simp at hb
   |cons z r=>simp at this
  obtain⟨u,ks,nm,hnu,hpt,hks,hcase⟩:=A.head;obtain⟨xw,vw,rfl,iWp',aw,rfl,haw⟩:=mW (by simpa using iWp);rcases qC hD f.nm with⟨q,_⟩|⟨u',vp,q,hval,lp,xp,rfl,hlp,hxp⟩
  ·rw[hnu]at q;cases q
  rw[hnu]at q;cases q;obtain⟨vpt,hvpt,pb,pv1,pv2,rfl,hpb,⟨t1,rfl,ht1⟩,hpv2⟩:=aY hxp hpt;rw[List.map_append,List.map_append,List.map_singleton,List.map_singleton]at iP;have hD2:=e2.fh _ _ (s2 _ _ hpd1);refine⟨_,λ_ _ h=>h,?_⟩;refine⟨_,rfl,_,rfl,1,rfl,W,_,-1,_,rfl,rfl,aZ.of iW,iB _ _,pd,_,rfl,?_,_,rfl,1,rfl,Pl,_,-1,_,rfl,rfl,aZ.of iP,iB _ _,lp,xp,_,_,rfl,rfl,aZ.of (e2.fh _ _ (s2 _ _ hlp)),bd hvpt,?_⟩
  ·have :=dj.t (k:=nk f.nm) hD2 (by rw[bX];exact e2.fh _ _ (s2 _ _ haw));rw[hval]at this;exact this
  refine⟨_,rfl,1,rfl,Pl,_,_,rfl,rfl,iP,iB _ _,_,_,rfl,rfl,Pl,_,_,_,rfl,rfl,iP,by rw[List.length_append];exact Ak,?_⟩;rw[Al];have z1:=e2.wr (o:= .lst (List.map (λn=>V.int (n:Nat)) (fr.map (·.pl))++[V.int ((f.pl:Int)+1)])) hnP gP;have hl:=A.sz;rw[gr]at hl;have hfo:(p.followed+1)*4097<=65*4097:=Nat.mul_le_mul_right _ (by have :=A.fo;omega)
  have hkl:(Vabldi.putLines ks).length<=(Vabldi.putLines f.rem).length:=by
   rcases hcase with⟨_,e⟩|⟨n,l,tl,_,_,e,_⟩
   ·rw[e];exact Nat.le_refl _
   ·rw[e];exact bQ (List.sublist_append_left _ _)
  have iT1:aJ H2 Pl (.lst (List.map (λn=>V.int (n:Nat)) (fr.map (·.pl))++[V.int ((f.pl:Int)+1)])) Tx=some (.lst ((zs (Vabldi.putLines p.lines.reverse)).map V.int)):=by rw[aj nPT.symm];exact iT
  refine⟨_,rfl,Tx,_,rfl,iT1,_,rfl,pb,[.ref t1,pv2],0,_,rfl,rfl,jN.of (z1.fh _ _ (s2 _ _ hpb)),bd (j:=0) rfl,t1,_,_,rfl,iT1,.inl (z1.fh _ _ (s2 _ _ ht1)),by rw[aM,aM];show _+(Vabldi.putLines ks).length<=_;omega,?_⟩;rw[<-b5];have z2:=z1.wr (o:= .lst ((zs (Vabldi.putLines p.lines.reverse++Vabldi.putLines ks)).map V.int)) hnT gT;have ep:Vabldi.putLines p.lines.reverse++Vabldi.putLines ks=Vabldi.putLines (ks.reverse++p.lines).reverse:=by rw[List.reverse_append,List.reverse_reverse,ny]
  rw[ep]at z2⊢;generalize eH3:aJ (aJ H2 Pl (.lst (List.map (λn=>V.int (n:Nat)) (fr.map (·.pl))++[V.int ((f.pl:Int)+1)]))) Tx (.lst ((zs (Vabldi.putLines (ks.reverse++p.lines).reverse)).map V.int))=H3 at *
  have jT:H3 Tx=some (.lst ((zs (Vabldi.putLines (ks.reverse++p.lines).reverse)).map V.int)):=by rw[<-eH3,aa]
  have jP:H3 Pl=some (.lst (List.map (λn=>V.int (n:Nat)) (fr.map (·.pl))++[V.int ((f.pl:Int)+1)])):=by rw[<-eH3,aj nPT,aa]
  have jW:H3 W=some (.lst (xw++[.ref aw])):=by rw[<-eH3,aj nWT,aj nWP];exact iW
  have jR:H3 R=some (.lst xr):=by rw[<-eH3,aj nRT,aj nPR.symm];exact iR
  refine⟨_,rfl,pb,[.ref t1,pv2],1,_,rfl,rfl,jN.of (z2.fh _ _ (s2 _ _ hpb)),bd (j:=1) rfl,?_⟩;refine⟨_,rfl,_,rfl,bY (λhb2=> ?_) (λhb2=> ?_)⟩
  ·have e2':pv2= .non:=of_decide_eq_true hb2;rcases hcase with⟨rfl,erem⟩|⟨n,l,tl,rfl,_⟩
   ·subst erem;have nA:=A.pop hks;have k1:(xw++[V.ref aw])[(xw++[V.ref aw]).length-1]? =some (.ref aw):=by simp
    have k2:(List.map (λn=>V.int (n:Nat)) (fr.map (·.pl))++[V.int ((f.pl:Int)+1)])[(List.map (λn=>V.int (n:Nat)) (fr.map (·.pl))++[V.int ((f.pl:Int)+1)]).length-1]? =some (.int ((f.pl:Int)+1)):=by simp
    refine⟨_,rfl,.inl ⟨rfl,_,aZ.of jW⟩,W,_,_,rfl,rfl,jW,k1,?_⟩;rw[List.dropLast_concat];have jP1:aJ H3 W (.lst xw) Pl=some (.lst (List.map (λn=>V.int (n:Nat)) (fr.map (·.pl))++[V.int ((f.pl:Int)+1)])):=by rw[aj nWP.symm];exact jP
    refine⟨_,rfl,.inl ⟨rfl,_,aZ.of jP1⟩,Pl,_,_,rfl,rfl,jP1,k2,?_⟩;rw[List.dropLast_concat];refine⟨(64-p.followed)*5000+vS fr,by rw[jq];omega,F2,(z2.wr hnW gW).wr hnP gP,s2,fr,{p with lines:=f.rem.reverse++p.lines},xw,xr,⟨_,_,_,rfl⟩,rfl,?_,iWp',aa,?_,iRp,?_,gW,gP,gR,gT,nA⟩
    ·rw[aj nWP,aa]
    ·rw[aj nPR.symm,aj nWR.symm];exact jR
    ·rw[aj nPT.symm,aj nWT.symm];exact jT
   ·obtain⟨z,hz,_⟩:=hpv2;rw[hz]at e2';cases e2'
  ·have e2':¬pv2= .non:=of_decide_eq_false hb2;rcases hcase with⟨rfl,erem⟩|⟨n,l,tl,rfl,hl',erem,hptl⟩
   ·exact absurd hpv2 e2'
   obtain⟨an,rfl,han⟩:=hpv2;have hwp:Paired (gI F2) (xw++[.ref aw]) ((fr++[f]).map (·.nm)):=Paired.mapP iWp λv d r=>r.mono s2
   refine⟨_,rfl,_,rfl,_,rfl,_,rfl,F2,_,pd,W,p.followed,n,(fr++[f]).map (·.nm),_,kvs,rfl,⟨an,rfl,s2 _ _ han⟩,s2 _ _ hpd1,jW,hwp,z2.fh,?_⟩
   have tr:jb (cB kvs (nk n)).isSome n ((fr++[f]).map (·.nm)) p.followed=match Vabldi.named inputs n with
     |none=>3
     |some u=>if n∈(fr++[f]).map (·.nm)then 4 else if 7<=(fr++[f]).length\/64<=p.followed then 5 else 0:=by
    unfold jb;rw[List.length_map];rcases qC hD n with⟨q,q2⟩|⟨u',vp,q,q2,_⟩
    ·rw[q,q2];rfl
    ·rw[q,q2];rfl
   rw[tr];have hinc:=A.inc hks hl' erem;refine⟨_,rfl,rfl,_,rfl,bY (λhb3=> ?_) (λhb3=> ?_)⟩
   ·
    have z3:=z2.frz hnR jR gR;refine⟨_,rfl,_,rfl,_,rfl,_,_,_,n,_,p.reads.reverse,rfl,⟨an,rfl,aI gR _ _ (s2 _ _ han)⟩,⟨R,xr,rfl,aa,Paired.mapP iRp λv d r=>r.mono (s2.trans (aI gR))⟩,z3.fh,λu' F5 H5 e5 h5=>k u' F5 H5 (z3.trans e5) ?_⟩;cases hnn:Vabldi.named inputs n with
    |none=>
     rw[hnn]at h5 hinc;dsimp only at h5 hinc;unfold Vabldi.includeOf;rw[hinc];exact h5
    |some u2=>
     rw[hnn]at h5 hinc hb3;dsimp only at h5 hinc hb3;by_cases c1:n∈(fr++[f]).map (·.nm)
     ·rw[if_pos c1]at h5 hinc;unfold Vabldi.includeOf;rw[hinc];exact h5
     ·rw[if_neg c1]at h5 hinc hb3;by_cases c2:7<=(fr++[f]).length\/64<=p.followed
      ·rw[if_pos c2]at h5 hinc;unfold Vabldi.includeOf;rw[hinc];exact h5
      ·rw[if_neg c2]at hb3;simp at hb3
   ·cases hnn:Vabldi.named inputs n with
    |none=>rw[hnn]at hb3;simp at hb3
    |some u2=>
     rw[hnn]at hb3;dsimp only at hb3;by_cases c1:n∈(fr++[f]).map (·.nm)
     ·rw[if_pos c1]at hb3;simp at hb3
     rw[if_neg c1]at hb3;by_cases c2:7<=(fr++[f]).length\/64<=p.followed
     ·rw[if_pos c2]at hb3;simp at hb3
     have u2l:=yp hnn inl;have nA:=A.push hks hl' erem hnn u2l c1 c2 hnu hptl;have lw:(xw++[V.ref aw]).length<=7:=by have :=aA iWp;rw[this,List.length_map];exact A.dp
     refine⟨_,rfl,W,_,rfl,jW,_,rfl,_,jW,by omega,?_⟩;have z3:=z2.wr (o:= .lst (xw++[.ref aw]++[.ref an])) hnW gW;have jP1:aJ H3 W (.lst (xw++[.ref aw]++[.ref an])) Pl=some (.lst (List.map (λn=>V.int (n:Nat)) (fr.map (·.pl))++[V.int ((f.pl:Int)+1)])):=by rw[aj nWP.symm];exact jP
     refine⟨_,rfl,Pl,_,rfl,jP1,_,jP1,?_,?_⟩
     ·have :=A.dp;rw[List.length_append,List.length_singleton]at this;rw[List.length_append,List.length_map,List.length_map,List.length_singleton];omega
     have z4:=z3.wr (o:= .lst (List.map (λn=>V.int (n:Nat)) (fr.map (·.pl))++[V.int ((f.pl:Int)+1)]++[V.int 0])) hnP gP;generalize eH5:aJ (aJ H3 W (.lst (xw++[.ref aw]++[.ref an]))) Pl (.lst (List.map (λn=>V.int (n:Nat)) (fr.map (·.pl))++[V.int ((f.pl:Int)+1)]++[V.int 0]))=H5 at *
     have lW:H5 W=some (.lst (xw++[.ref aw]++[.ref an])):=by rw[<-eH5,aj nWP,aa]
     have lP:H5 Pl=some (.lst (List.map (λn=>V.int (n:Nat)) (fr.map (·.pl))++[V.int ((f.pl:Int)+1)]++[V.int 0])):=by rw[<-eH5,aa]
     have lR:H5 R=some (.lst xr):=by rw[<-eH5,aj nPR.symm,aj nWR.symm];exact jR
     have lT:H5 Tx=some (.lst ((zs (Vabldi.putLines (ks.reverse++p.lines).reverse)).map V.int)):=by rw[<-eH5,aj nPT.symm,aj nWT.symm];exact jT
     have hms:(64-(p.followed+1))*5000+vS (fr++[⟨f.nm,f.pl+1,tl⟩]++[⟨n,0,Vabldi.linesOf u2⟩])<(64-p.followed)*5000+vS (fr++[f]):=by
      rw[jq,jq,jq,erem,List.length_append,List.length_cons];have c3:=eR (Vabldi.linesOf u2);have c4:=bM u2;dsimp only;omega
     have nWp:Paired (gI F1) (xw++[.ref aw]++[.ref an]) ((fr++[⟨f.nm,f.pl+1,tl⟩]++[⟨n,0,Vabldi.linesOf u2⟩]:List Fr).map (·.nm)):=by
      have :=bh (R:=gI F1) (x:=V.ref an) (d:=n) ⟨an,rfl,han⟩ iWp;simpa using this
     have ePl:List.map (λn=>V.int (n:Nat)) (fr.map (·.pl))++[V.int ((f.pl:Int)+1)]++[V.int 0]=(((fr++[⟨f.nm,f.pl+1,tl⟩]++[⟨n,0,Vabldi.linesOf u2⟩]:List Fr).map (·.pl)).map λn=>V.int (n:Nat)):=by simp
     have hrr:p.reads.reverse=p.reads.reverse:=rfl;have lr:=aA iRp;rw[List.length_reverse]at lr;have lrd:=A.rd;have lfo:=A.fo;refine⟨_,rfl,_,rfl,R,xr,zs n,_,rfl,lR,⟨an,rfl,z4.fh _ _ (s2 _ _ han)⟩,jp (s2.trans z4.fh) iRp,_,rfl,?_⟩;show if(!decide (zs n∈p.reads.reverse.map zs))=true then _ else _
     rw[vM];refine bY (λhb4=> ?_) (λhb4=> ?_)
     ·have hnr:n∉p.reads:=by simpa using hb4
      refine⟨_,rfl,R,xr,rfl,lR,_,rfl,xr,lR,by omega,_,rfl,_,_,rfl,rfl,_,hms,F2,z4.wr hnR gR,s2,fr++[⟨f.nm,f.pl+1,tl⟩]++[⟨n,0,Vabldi.linesOf u2⟩],Vabldi.readName {p with lines:=ks.reverse++p.lines,followed:=p.followed+1} n,xw++[.ref aw]++[.ref an],xr++[.ref an],⟨_,_,_,by rw[bm];rfl⟩,?_,?_,nWp,?_,aa,?_,?_,gW,gP,gR,gT,nA⟩
      ·rw[bm]
      ·rw[aj nWR];exact lW
      ·rw[aj nPR,<-ePl];exact lP
      ·rw[cJ];show Paired _ _ (if n∈p.reads then p.reads else n::p.reads).reverse;rw[if_neg hnr,List.reverse_cons];exact bh ⟨an,rfl,han⟩ iRp
      ·rw[aj nRT.symm,eT];exact lT
     ·have hnr:n∈p.reads:=by simpa using hb4
      refine⟨_,rfl,_,_,rfl,rfl,_,hms,F2,z4,s2,fr++[⟨f.nm,f.pl+1,tl⟩]++[⟨n,0,Vabldi.linesOf u2⟩],Vabldi.readName {p with lines:=ks.reverse++p.lines,followed:=p.followed+1} n,xw++[.ref aw]++[.ref an],xr,⟨_,_,_,by rw[bm];rfl⟩,?_,lW,nWp,?_,lR,?_,?_,gW,gP,gR,gT,nA⟩
      ·rw[bm]
      ·rw[<-ePl];exact lP
      ·rw[cJ];show Paired _ _ (if n∈p.reads then p.reads else n::p.reads).reverse;rw[if_pos hnr];exact iRp
      ·rw[eT];exact lT
 ·have hfr:fr=[]:=by
   cases fr with
   |nil=>rfl
   |cons f r=>
    cases xw with
    |nil=>cases iWp
    |cons z q=>simp at hb
  subst hfr;have hrun:=A.run;have z3:=(e2.frz hnR iR gR).frz hnT iT (by rw[aj nRT.symm];exact gT);refine⟨_,rfl,aX _,λq hq=> ?_⟩;have z4:=z3.newF (o:= .lst [.ref Tx]) hq;have s4:=aI (o:= .lst [.ref Tx]) (z3.fh.free hq);have sR:=aI (o:= .lst xr) gR;have sT:=aI (F:=aJ F2 R (.lst xr)) (a:=Tx) (o:= .lst ((zs (Vabldi.putLines p.lines.reverse)).map V.int)) (by rw[aj nRT.symm];exact gT);refine⟨_,rfl,_,_,_,[Vabldi.putLines p.lines.reverse],p.reads.reverse,rfl,i6 aa (s4 _ _ aa),⟨R,xr,rfl,s4 _ _ (sT _ _ aa),Paired.mapP iRp λv d r=>r.mono (((s2.trans sR).trans sT).trans s4)⟩,z4.fh,λu F5 H5 e5 h5=>k u F5 H5 (z4.trans e5) ?_⟩;unfold Vabldi.includeOf;rw[hrun];show lg C F5 u (match p.failure with |some e=>_|none=>_) p.reads.reverse;rw[A.nf];exact h5
end
open Vabldi (Input Put)
section
variable{P:Program}{w:World}{K:PySem.W.Frag}{mg:Str->Option Value}{base:Heap}{C:Cs}
theorem Cn:aC ["action","data"] ["action","data"] (ao ij):=⟨rfl,rfl,rfl,by decide+kernel,rfl,by decide+kernel,by decide+kernel⟩
theorem Co(T:Tx K mg C):Ok P w K mg base "include_lines" ["action","data"] 6 (bP C (λa ds=>1<=ds.length) (λa ds=>Vabldi.includeOf (dP a ds)) λa ds=>(Vabldi.included (dP a ds)).reads.reverse):=by
 refine T.d_include_lines.ok Cn (λvs H Q E h=>bq h) (λf cdv A outer s H vs Q E hr h=> ?_);obtain⟨F,va,vd,a,ds,rfl,⟨p,dx,wa,wi,wo,rfl,hp,ha,hi,ho⟩,hd,ga,hlen,hby,hpre,f0,k⟩:=h;refine⟨_,ah (aq (aB (t3 T) hr (ab (aD (pv 0) rfl) (ab (pv 1) af)))),?_⟩;refine⟨_,rfl,p,C.Action,dx,_,_,rfl,f0 _ _ hp,T.k_Action.cl,T.n_Action_inputs,rfl,_,rfl,F,_,_,a.inputs,ds,rfl,hi,hd,hlen.symm,by have :1<=ds.length:=hpre;omega,ga.il,(List.nodup_append.mp ga.nd).1,hby,f0,λu F1 H1 e1 h1=>k u F1 H1 e1 h1⟩
def jc:List (List Int):=[[1,0,8,1,1],[0,0,8,1,8],[0,1,1,1,1],[1,1,1,1,1],[1,1,1,1,1],[1,1,1,1,1],[2,1,1,1,1],[0,1,8,1,1],[0,1,1,1,8],[0,2,2,1,1],[0,1,1,1,1],[0,0,8,1,1],[1,0,8,1,1],[0,0,8,1,1]]
def FW(r:List Int)(a:Vabldi.Action):Bool:=decide ((a.arguments.length:Int)=r.getD 0 0)&&(decide (r.getD 1 0<=(a.inputs.length:Int))&&decide ((a.inputs.length:Int)<=r.getD 2 0)&&(decide (r.getD 3 0<=(a.outputs.length:Int))&&decide ((a.outputs.length:Int)<=r.getD 4 0)))
def r9(a:Vabldi.Action):Bool:=FW (jc.getD a.tool []) a
theorem Am:aC ["action","asked"] ["action"] (ao kP):=⟨rfl,rfl,rfl,by decide+kernel,rfl,by decide+kernel,by decide+kernel⟩
def Ep(C:Cs):Sp:=λvs H Q _=>∃(F:Hp) (va:V) (a:Vabldi.Action),vs=[va]/\lV C F va a/\a.tool<14/\aH F H/\Q (.bl (r9 a)) H
theorem Er(T:Tx K mg C):Ok P w K mg base "counts_fit" ["action"] 1 (Ep C):=by
 refine T.d_counts_fit.ok Am (λvs H Q E h=>by obtain⟨_,_,_,e,_⟩:=h;rw[e];rfl) (λf cdv A outer s H vs Q E hr h=> ?_);obtain⟨F,va,a,rfl,⟨p,dx,wa,wi,wo,rfl,hp,⟨la,as,rfl,hla,hpa⟩,⟨li,is,rfl,hli,hpi⟩,⟨lo,os,rfl,hlo,hpo⟩⟩,ht,f0,k⟩:=h;obtain⟨ta,rs,hmg,hkt,hrows⟩:=T.t_ASKED
 refine⟨_,ae (aF (i:=1) Am.nd rfl (Or.inl rfl) (bx gF (mZ (v:= .ref ta) rfl hmg rfl) (aD (pv 0) rfl) (λ_ _=>rfl)))
  (ae (aN (aK dI (bp T.b_len (aD (pv 0) rfl)) (bx gF (pv 1) aG (λ_ _=>rfl)) (aP _)) (ah (aq jy)) aE)
  (ae (aN (bR (oh cP cP (bx gF (pv 1) aG (λ_ _=>rfl)) (bp T.b_len (aD (pv 0) rfl)) (bx gF (pv 1) aG (λ_ _=>rfl)))) (ah (aq jy)) aE)
  (ah (aq (lN cP cP (bx gF (pv 1) aG (λ_ _=>rfl)) (bp T.b_len (aD (pv 0) rfl)) (bx gF (pv 1) aG (λ_ _=>rfl))))))),?_⟩
 have el:jc.length=14:=rfl;obtain⟨row,hrow⟩:∃r,jc[a.tool]? =some r:=⟨_,List.getElem?_eq_getElem (by rw[el];exact ht)⟩;obtain⟨r,hr1,hkr⟩:=aY hrows hrow;have er:jc.getD a.tool []=row:=by rw[List.getD_eq_getElem?_getD,hrow];rfl
 obtain⟨r0,r1,r2,r3,r4,rfl⟩:∃r0 r1 r2 r3 r4,row=[r0,r1,r2,r3,r4]:=by
  have :∀r∈jc,∃r0 r1 r2 r3 r4,r=[r0,r1,r2,r3,r4]:=by
   intro r hr
   have h5:r.length=5:=by
    have :∀r∈jc,r.length=5:=by decide
    exact this r hr
   match r,h5 with
   |[r0,r1,r2,r3,r4],_=>exact⟨r0,r1,r2,r3,r4,rfl⟩
  exact this row (List.mem_of_getElem? hrow)
 unfold r9 at k;rw[er]at k;have hs:=hkr.sq (H:=H);have pa:=aA hpa;have pi:=aA hpi;have po:=aA hpo;refine⟨_,rfl,p,C.Action,dx,_,_,rfl,f0 _ _ hp,T.k_Action.cl,T.n_Action_tool,rfl,ta,_,_,.ref r,rfl,rfl,hkt.sq _,bd (by rw[List.getElem?_map,hr1];rfl),?_⟩;refine⟨_,rfl,p,C.Action,dx,_,_,rfl,f0 _ _ hp,T.k_Action.cl,T.n_Action_arguments,rfl,la,as,rfl,f0 _ _ hla,_,rfl,r,_,0,_,rfl,rfl,hs,bd (j:=0) rfl,rfl,_,rfl,?_⟩;unfold FW at k;simp only[List.getD_cons_zero,List.getD_cons_succ]at k;refine bY (λhb=> ?_) (λhb=> ?_)
 ·have :¬((a.arguments.length:Int)=r0):=by
   intro e;rw[pa,e]at hb;simp at hb
  rw[decide_eq_false this]at k;exact k
 have h0:(a.arguments.length:Int)=r0:=by
  have :V.int (as.length:Nat)=V.int r0:=by simpa using hb
  injection this with this;omega
 rw[decide_eq_true h0,Bool.true_and]at k;refine⟨_,rfl,r,_,1,_,rfl,rfl,hs,bd (j:=1) rfl,_,rfl,p,C.Action,dx,_,_,rfl,f0 _ _ hp,T.k_Action.cl,T.n_Action_inputs,rfl,li,is,rfl,f0 _ _ hli,r1,is.length,r2,rfl,rfl,λQ' q=>⟨_,rfl,r,_,2,_,rfl,rfl,hs,bd (j:=2) rfl,q⟩,_,rfl,?_⟩;rw[pi];refine bY (λhb=> ?_) (λhb=> ?_)
 ·have hb:(decide (r1<=(a.inputs.length:Int))&&decide ((a.inputs.length:Int)<=r2))=false:=by
   cases q:(decide (r1<=(a.inputs.length:Int))&&decide ((a.inputs.length:Int)<=r2))with
   |false=>rfl
   |true=>rw[q]at hb;cases hb
  rw[hb]at k;exact k
 have hb:(decide (r1<=(a.inputs.length:Int))&&decide ((a.inputs.length:Int)<=r2))=true:=by
  cases q:(decide (r1<=(a.inputs.length:Int))&&decide ((a.inputs.length:Int)<=r2))with
  |true=>rfl
  |false=>rw[q]at hb;cases hb
 rw[hb,Bool.true_and]at k;refine⟨_,rfl,r,_,3,_,rfl,rfl,hs,bd (j:=3) rfl,_,rfl,p,C.Action,dx,_,_,rfl,f0 _ _ hp,T.k_Action.cl,T.n_Action_outputs,rfl,lo,os,rfl,f0 _ _ hlo,r3,os.length,r4,rfl,rfl,λQ' q=>⟨_,rfl,r,_,4,_,rfl,rfl,hs,bd (j:=4) rfl,q⟩,?_⟩;rw[po];exact k
end
def mL(e:Vabldi.Failure):Prop:=e.code≠1/\e.code≠0/\e.name.length<=32
structure Ic(p:Put):Prop where
 fe:∀e,p.failure=some e->mL e
 rl:p.reads.length<=p.followed+1
 fo:p.followed<=64
 rn:∀x∈p.reads,Vabldi.isName x=true
theorem g8{n:ai}(h:Vabldi.isName n=true):n.length<=32:=by
 unfold Vabldi.isName at h;simp only[Bool.and_eq_true,decide_eq_true_eq]at h;exact h.2.1
theorem jL{l n:ai}(h:Vabldi.includes l=some n):Vabldi.isName n=true:=by
 unfold Vabldi.includes at h;by_cases c:Vabldi.startsWith l Vabldi.INCLUDE=true/\Vabldi.isName (l.drop Vabldi.INCLUDE.length)=true
 ·rw[if_pos c]at h;cases h;exact c.2
 ·rw[if_neg c]at h;cases h
theorem oT(inputs:List Input):∀(d:Nat) (stack:List ai) (t:ai) (p:Put),Ic p->Ic (Vabldi.putFile inputs d stack t p)
 |0,_,_,p,h=>h
 |d+1,stack,t,p,h=>by
  rw[oP];unfold Af;generalize Vabldi.linesOf t=ls;induction ls generalizing p with
  |nil=>exact h
  |cons l r ih=>
   refine ih _ ?_;unfold ja;split
   ·exact h
   ·split
    ·exact⟨h.fe,h.rl,h.fo,h.rn⟩
    ·rename_i n hn;split
     ·exact⟨λe he=>by cases he;exact⟨show(3:Nat)≠1 by decide,show(3:Nat)≠0 by decide,g8 (jL hn)⟩,h.rl,h.fo,h.rn⟩
     ·split
      ·exact⟨λe he=>by cases he;exact⟨by decide,by decide,by decide⟩,h.rl,h.fo,h.rn⟩
      ·split
       ·exact⟨λe he=>by cases he;exact⟨by decide,by decide,by decide⟩,h.rl,h.fo,h.rn⟩
       ·rename_i q;refine oT inputs d _ _ _ ⟨λe he=> ?_,?_,?_,?_⟩
        ·rw[gu]at he;exact h.fe e he
        ·rw[cJ,bm];have :=h.rl;split
         ·show p.reads.length<=p.followed+1+1;omega
         ·show(n::p.reads).length<=p.followed+1+1;simp;omega
        ·rw[bm];show p.followed+1<=64;omega
        ·intro x hx;rw[cJ]at hx;split at hx
         ·exact h.rn x hx
         ·rcases List.mem_cons.mp hx with rfl|hx
          ·exact jL hn
          ·exact h.rn x hx
theorem mM(inputs:List Input)(h:∀i∈inputs,Vabldi.isName i.name=true):Ic (Vabldi.included inputs):=by
 cases inputs with
 |nil=>exact⟨λe he=>(by cases he),(by decide),(by decide),λx hx=>(by cases hx)⟩
 |cons i r=>
  refine oT _ _ _ _ _ ⟨λe he=>(by cases he),(by simp),(by simp),λx hx=> ?_⟩;simp at hx;subst hx;exact h i List.mem_cons_self
theorem ma{t:Nat}{as:List ai}{l:List Input}{n:Nat}{e:Vabldi.Failure}(hl:∀i∈l,Vabldi.isName i.name=true)(h:Vabldi.tool t as l n= .error e):mL e:=by
 unfold Vabldi.tool at h;have fl:∀{k:Nat},k≠1->k≠0->Vabldi.failed k= .error e->mL e:=λ{k} hk hk0 h=>by cases h;exact⟨hk,hk0,show(0:Nat)<=32 by decide⟩
 have ol:∀{x},Vabldi.one x= .error e->mL e:=λ{x} h=>by cases h
 have it:∀{c:Prop} [Decidable c] {x y:Vabldi.Outcome},(x= .error e->mL e)->(y= .error e->mL e)->(if c then x else y)= .error e->mL e:=λ{c} _ {x y} h1 h2 h=>by
  by_cases q:c
  ·rw[if_pos q]at h;exact h1 h
  ·rw[if_neg q]at h;exact h2 h
 have f2:∀{k:Nat},(k≠1/\k≠0)->Vabldi.failed k= .error e->mL e:=λ{k} hk h=>fl hk.1 hk.2 h
 refine it ol (it (λh=> ?_) (it ol (it (it ol (it ol (f2 (by decide)))) (it (it ol (f2 (by decide))) (it (it (f2 (by decide)) ol) (it (it (f2 (by decide)) ol) (it (λh=> ?_) (it (it (f2 (by decide)) (λh=> ?_)) (it (it ol (f2 (by decide))) (it ol (it ol (it (λh=> ?_) (it (f2 (by decide)) ol))))))))))))) h
 ·cases h
 ·unfold Vabldi.includeOf at h;dsimp only at h;split at h
  ·rename_i e' he;have e1:e'=e:=by injection h
   rw[<-e1];exact(mM l hl).fe e' he
  ·exact ol h
 ·cases h
 ·unfold Vabldi.pickOf at h;by_cases c:Vabldi.isName (Vabldi.argument as 0)=false
  ·rw[if_pos c]at h;exact f2 (by decide) h
  ·rw[if_neg c]at h;split at h
   ·exact ol h
   ·cases h;exact⟨show(3:Nat)≠1 by decide,show(3:Nat)≠0 by decide,g8 (by simpa using c)⟩
def lu(a:Vabldi.Action)(ds:List ai):Prop:=a.tool=1/\a.outputs.length≠ds.length
instance(a:Vabldi.Action)(ds:List ai):Decidable (lu a ds):=by unfold lu;infer_instance
def lv(a:Vabldi.Action)(ds:List ai):Vabldi.Outcome:=if lu a ds then Vabldi.failed 1 else Vabldi.tool a.tool a.arguments (dP a ds) a.outputs.length
def Es(t:Nat)(as:List ai)(l:List Input):List ai:=
 if t=11 then[]
 else if t=12 then(if(Vabldi.named l (Vabldi.argument as 0)).isSome=true/\Vabldi.isName (Vabldi.argument as 0)=true then[Vabldi.argument as 0]else[])
 else if t=7 then(Vabldi.included l).reads.reverse
 else if t=0\/t=1\/t=13\/t=9 then l.map λi=>i.name
 else(l.take 1).map λi=>i.name
def t4(a:Vabldi.Action)(ds:List ai):List ai:=if lu a ds then[]else Es a.tool a.arguments (dP a ds)
theorem lx{a:Vabldi.Action}{ds:List ai}(h:ds.length=a.inputs.length):(dP a ds).length=a.inputs.length:=by
 unfold dP;rw[List.length_map,List.length_zip,h];simp
theorem nz:∀{l m:List ai},m.length=l.length->(l.zip m).map (·.1)=l
 |[],_,_=>by simp
 |a::l,[],h=>by simp at h
 |a::l,b::m,h=>by
  rw[List.zip_cons_cons,List.map_cons,nz (by simpa using h)]
theorem wU:∀{l m:List ai},m.length=l.length->(l.zip m).map (·.2)=m
 |[],[],_=>by simp
 |[],b::m,h=>by simp at h
 |a::l,[],h=>by simp at h
 |a::l,b::m,h=>by
  rw[List.zip_cons_cons,List.map_cons,wU (by simpa using h)]
theorem yq{a:Vabldi.Action}{ds:List ai}(h:ds.length=a.inputs.length):(dP a ds).map (λi=>i.name)=a.inputs:=by
 unfold dP;rw[List.map_map];exact nz h
theorem md{a:Vabldi.Action}{ds:List ai}(h:ds.length=a.inputs.length):(dP a ds).map (λi=>i.bytes)=ds:=by
 unfold dP;rw[List.map_map];exact wU h
theorem yr{a:Vabldi.Action}{ds:List ai}(h:ds.length=a.inputs.length):Vabldi.first (dP a ds)=ds.headD []:=by
 have e:=md h;unfold Vabldi.first
 conv=>rhs;rw[<-e]
 cases dP a ds<;>rfl
theorem vU{a:Vabldi.Action}{ds:List ai}(h:ds.length=a.inputs.length):Vabldi.second (dP a ds)=ds.getD 1 []:=by
 have e:=md h;unfold Vabldi.second;conv=>rhs;rw[<-e]
 rw[List.getD_eq_getElem?_getD,List.getElem?_map]
theorem oU{a:Vabldi.Action}{ds:List ai}(ga:eQ a):∀i∈dP a ds,Vabldi.isName i.name=true:=λi hi=>by
 unfold dP at hi;obtain⟨z,hz,rfl⟩:=List.mem_map.mp hi;exact ga.nn z.1 (List.mem_append_left _ (List.of_mem_zip (a:=z.1) (b:=z.2) hz).1) theorem FX:∀n<14,n=0\/n=1\/n=2\/n=3\/n=4\/n=5\/n=6\/n=7\/n=8\/n=9\/n=10\/n=11\/n=12\/n=13:=by decide
theorem fitN_all:∀t:Nat,t<14->∀x:Nat,x<5->∀y:Nat,y<9->∀z:Nat,z<9->1<=z->(decide ((x:Int)=(jc.getD t []).getD 0 0)&&(decide ((jc.getD t []).getD 1 0<=(y:Int))&&decide ((y:Int)<=(jc.getD t []).getD 2 0)&&(decide ((jc.getD t []).getD 3 0<=(z:Int))&&decide ((z:Int)<=(jc.getD t []).getD 4 0))))=(x==Vabldi.arity t&&(if t=1 then true else Vabldi.counts t y z)):=by decide+kernel
theorem oV{a:Vabldi.Action}(ga:eQ a):r9 a=(a.arguments.length==Vabldi.arity a.tool&&(if a.tool=1 then true else Vabldi.counts a.tool a.inputs.length a.outputs.length)):=
 fitN_all a.tool ga.tl _ (Nat.lt_succ_of_le ga.ar) _ (Nat.lt_succ_of_le ga.il) _ (Nat.lt_succ_of_le ga.ol) ga.o1
theorem vV{a:Vabldi.Action}{ds:List ai}(ga:eQ a)(hl:ds.length=a.inputs.length):
  (r9 a=false->Vabldi.outcome a.tool a.arguments (dP a ds) a.outputs.length=Vabldi.failed 1/\Vabldi.reads a.tool a.arguments (dP a ds) a.outputs.length=[])/\
  (r9 a=true->Vabldi.outcome a.tool a.arguments (dP a ds) a.outputs.length=(match lv a ds with
   | .error e=> .error e
   | .ok r=>if r.any (λx=>decide (4096<x.length))=true then Vabldi.failed 8 else .ok r)/\Vabldi.reads a.tool a.arguments (dP a ds) a.outputs.length=t4 a ds):=by
 have fc:=oV ga
 have hco:Vabldi.countsOk a.tool a.arguments (dP a ds) a.outputs.length=(r9 a&& !decide (lu a ds)):=by
  unfold Vabldi.countsOk;rw[fc,lx hl];by_cases h:a.tool=1
  ·rw[if_pos h,Bool.and_true];congr 1;by_cases q:a.outputs.length=ds.length
   ·have nb:¬lu a ds:=λz=>z.2 q
    rw[decide_eq_false nb,h];show(a.inputs.length==a.outputs.length)=true;simp;omega
   ·have b:lu a ds:=⟨h,q⟩;rw[decide_eq_true b,h];show(a.inputs.length==a.outputs.length)=false;simp;omega
  ·rw[if_neg h];have :decide (lu a ds)=false:=decide_eq_false λq=>h q.1
   rw[this];simp
 constructor
 ·intro hf;rw[hf,Bool.false_and]at hco
  have ho:Vabldi.outcome a.tool a.arguments (dP a ds) a.outputs.length=Vabldi.failed 1:=by
   unfold Vabldi.outcome;rw[if_pos hco];rfl
  refine⟨ho,?_⟩;unfold Vabldi.reads;rw[ho,if_pos (show Vabldi.isCount (Vabldi.failed 1)=true from rfl)]
 ·intro hf;rw[hf,Bool.true_and]at hco;by_cases hb:lu a ds
  ·rw[decide_eq_true hb]at hco
   have ho:Vabldi.outcome a.tool a.arguments (dP a ds) a.outputs.length=Vabldi.failed 1:=by
    unfold Vabldi.outcome;rw[if_pos (by rw[hco];rfl)];rfl
   unfold lv t4;rw[if_pos hb,if_pos hb];refine⟨ho,?_⟩;unfold Vabldi.reads;rw[ho,if_pos (show Vabldi.isCount (Vabldi.failed 1)=true from rfl)]
  ·rw[decide_eq_false hb]at hco;unfold lv t4;rw[if_neg hb,if_neg hb]
   have ho:Vabldi.outcome a.tool a.arguments (dP a ds) a.outputs.length=(match Vabldi.tool a.tool a.arguments (dP a ds) a.outputs.length with
    | .error e=> .error e
    | .ok r=>if r.any (λx=>decide (4096<x.length))=true then Vabldi.failed 8 else .ok r):=by
    unfold Vabldi.outcome;rw[if_neg (by rw[hco];decide)];rfl
   refine⟨ho,?_⟩
   have hic:Vabldi.isCount (Vabldi.outcome a.tool a.arguments (dP a ds) a.outputs.length)=false:=by
    rw[ho];cases q:Vabldi.tool a.tool a.arguments (dP a ds) a.outputs.length with
    |error e=>
     have :=(ma (oU ga) q).1;unfold Vabldi.isCount Vabldi.COUNT;simpa using this
    |ok r=>
     dsimp only;split
     ·rfl
     ·rfl
   unfold Vabldi.reads;rw[hic,if_neg (by decide)];rfl
theorem yt{t:Nat}{as:List ai}{l:List Input}{n:Nat}{r:List ai}(ht:t<14)(hc:Vabldi.counts t l.length n=true)(h:Vabldi.tool t as l n= .ok r):r.length=n:=by
 have fl:∀{k:Nat},Vabldi.failed k≠ .ok r:=λ{k} h=>by cases h
 have ol:∀{x},Vabldi.one x= .ok r->r.length=1:=λ{x} h=>by cases h;rfl
 have it:∀{c:Prop} [Decidable c] {x y:Vabldi.Outcome},(x= .ok r->r.length=1)->(y= .ok r->r.length=1)->(if c then x else y)= .ok r->r.length=1:=λ{c} _ {x y} h1 h2 h=>by
  by_cases q:c
  ·rw[if_pos q]at h;exact h1 h
  ·rw[if_neg q]at h;exact h2 h
 have nf:∀{k:Nat},Vabldi.failed k= .ok r->r.length=1:=λ{k} h=>absurd h fl
 have h14:=FX t ht;rcases h14 with rfl|rfl|rfl|rfl|rfl|rfl|rfl|rfl|rfl|rfl|rfl|rfl|rfl|rfl
 ·simp[Vabldi.counts]at hc;rw[hc];exact ol h
 ·simp[Vabldi.counts]at hc
  have h:(Except.ok (l.map λi=>i.bytes):Vabldi.Outcome)= .ok r:=h;cases h;rw[List.length_map];exact hc
 ·simp[Vabldi.counts]at hc;rw[hc.2];exact ol h
 ·simp[Vabldi.counts]at hc;rw[hc.2];exact it ol (it ol nf) h
 ·simp[Vabldi.counts]at hc;rw[hc.2];exact it ol nf h
 ·simp[Vabldi.counts]at hc;rw[hc.2];exact it nf ol h
 ·simp[Vabldi.counts]at hc;rw[hc.2];exact it nf ol h
 ·simp[Vabldi.counts]at hc;rw[hc.2]
  have h:Vabldi.includeOf l= .ok r:=h;unfold Vabldi.includeOf at h;dsimp only at h;split at h
  ·cases h
  ·exact ol h
 ·have h:Vabldi.splitOf (Vabldi.first l) n= .ok r:=h;unfold Vabldi.splitOf at h;dsimp only at h;split at h
  ·exact absurd h fl
  ·rename_i q;cases h;rw[List.length_map];simpa using q
 ·simp[Vabldi.counts]at hc;rw[hc.2];exact it ol nf h
 ·simp[Vabldi.counts]at hc;rw[hc.2];exact ol h
 ·simp[Vabldi.counts]at hc;rw[hc];exact ol h
 ·simp[Vabldi.counts]at hc;rw[hc]
  have h:Vabldi.pickOf (Vabldi.argument as 0) l= .ok r:=h;unfold Vabldi.pickOf at h;split at h
  ·exact absurd h fl
  ·split at h
   ·exact ol h
   ·cases h
 ·simp[Vabldi.counts]at hc;rw[hc];exact it nf ol h
theorem oW{t:Nat}{as:List ai}{l:List Input}{n:Nat}{r:List ai}(ht:t<14)(h:Vabldi.outcome t as l n= .ok r):r.length=n/\∀x∈r,x.length<=4096:=by
 unfold Vabldi.outcome at h;by_cases c:Vabldi.countsOk t as l n=false
 ·rw[if_pos c]at h;cases h
 ·rw[if_neg c]at h;have c:Vabldi.countsOk t as l n=true:=by simpa using c
  unfold Vabldi.countsOk at c;rw[Bool.and_eq_true]at c;cases q:Vabldi.tool t as l n with
  |error e=>rw[q]at h;cases h
  |ok r'=>
   rw[q]at h;dsimp only at h;by_cases c2:(r'.any λx=>decide (4096<x.length))=true
   ·rw[if_pos c2]at h;cases h
   ·rw[if_neg c2]at h;have e1:r'=r:=by injection h
    subst e1;refine⟨yt ht c.2 q,λx hx=> ?_⟩;have c2:(r'.any λx=>decide (4096<x.length))=false:=by simpa using c2
    rw[List.any_eq_false]at c2;have :=c2 x hx;simpa using this
theorem mN{t:Nat}{as:List ai}{l:List Input}{n:Nat}{e:Vabldi.Failure}(hl:∀i∈l,Vabldi.isName i.name=true)(h:Vabldi.outcome t as l n= .error e):e.code≠0/\e.name.length<=32:=by
 unfold Vabldi.outcome at h;by_cases c:Vabldi.countsOk t as l n=false
 ·rw[if_pos c]at h;cases h;exact⟨show(1:Nat)≠0 by decide,show(0:Nat)<=32 by decide⟩
 ·rw[if_neg c]at h;cases q:Vabldi.tool t as l n with
  |error e'=>
   rw[q]at h;cases h;exact⟨(ma hl q).2.1,(ma hl q).2.2⟩
  |ok r'=>
   rw[q]at h;dsimp only at h;by_cases c2:(r'.any λx=>decide (4096<x.length))=true
   ·rw[if_pos c2]at h;cases h;exact⟨show(8:Nat)≠0 by decide,show(0:Nat)<=32 by decide⟩
   ·rw[if_neg c2]at h;cases h
theorem An{t:Nat}{as:List ai}{l:List Input}{n:Nat}(hl:∀i∈l,Vabldi.isName i.name=true)(h8:l.length<=8):(∀x∈Vabldi.reads t as l n,Vabldi.isName x=true)/\(Vabldi.reads t as l n).length<=65:=by
 unfold Vabldi.reads
 have it:∀{c:Prop} [Decidable c] {x y:List ai},((∀z∈x,Vabldi.isName z=true)/\x.length<=65)->((∀z∈y,Vabldi.isName z=true)/\y.length<=65)->(∀z∈(if c then x else y),Vabldi.isName z=true)/\(if c then x else y).length<=65:=λ{c} _ {x y} h1 h2=>by
  by_cases q:c
  ·rw[if_pos q];exact h1
  ·rw[if_neg q];exact h2
 have nil:(∀z∈([]:List ai),Vabldi.isName z=true)/\([]:List ai).length<=65:=⟨λz hz=>(by cases hz),(by decide)⟩;refine it nil (it nil (it ?_ (it ?_ (it ?_ ?_))))
 ·by_cases c:(Vabldi.named l (Vabldi.argument as 0)).isSome=true/\Vabldi.isName (Vabldi.argument as 0)=true
  ·rw[if_pos c];exact⟨λz hz=>by simp at hz;subst hz;exact c.2,show(1:Nat)<=65 by decide⟩
  ·rw[if_neg c];exact nil
 ·have h:=mM l hl;refine⟨λz hz=>h.rn z (List.mem_reverse.mp hz),?_⟩;rw[List.length_reverse];have :=h.rl;have :=h.fo;omega
 ·refine⟨λz hz=> ?_,?_⟩
  ·obtain⟨i,hi,rfl⟩:=List.mem_map.mp hz;exact hl i hi
  ·rw[List.length_map];omega
 ·refine⟨λz hz=> ?_,?_⟩
  ·obtain⟨i,hi,rfl⟩:=List.mem_map.mp hz;exact hl i (List.mem_of_mem_take hi)
  ·rw[List.length_map,List.length_take];omega
open Vabldi (Input Put)
def qD:List Str:=["join_inputs","copy_inputs","upper_input","sort_lines","take_lines","find_lines","replace_places","include_lines","split_pieces","compare_inputs","count_input","name_inputs","pick_input","sum_lines"]
theorem dE{α:Type}{l:List α}(h:l.length=1):l.take 1=l:=List.take_of_length_le (by omega)
theorem Ao{t:Nat}{as:List ai}{l:List Input}{n:Nat}{r:List ai}(h:Vabldi.tool t as l n= .ok r):r.length<=l.length+n+1:=by
 unfold Vabldi.tool at h;have fl:∀{k:Nat},Vabldi.failed k= .ok r->r.length<=l.length+n+1:=λ{k} h=>by cases h
 have ol:∀{x},Vabldi.one x= .ok r->r.length<=l.length+n+1:=λ{x} h=>by cases h;simp
 have it:∀{c:Prop} [Decidable c] {x y:Vabldi.Outcome},(x= .ok r->r.length<=l.length+n+1)->(y= .ok r->r.length<=l.length+n+1)->(if c then x else y)= .ok r->r.length<=l.length+n+1:=λ{c} _ {x y} h1 h2 h=>by
  by_cases q:c
  ·rw[if_pos q]at h;exact h1 h
  ·rw[if_neg q]at h;exact h2 h
 refine it ol (it (λh=> ?_) (it ol (it (λh=> ?_) (it (it ol fl) (it (λh=> ?_) (it (it fl ol) (it (λh=> ?_) (it (λh=> ?_) (it (it ol fl) (it ol (it ol (it (λh=> ?_) λh=> ?_)))))))))))) h
 ·cases h;simp;omega
 ·exact it ol (it ol fl) h
 ·exact it fl ol h
 ·unfold Vabldi.includeOf at h;dsimp only at h;split at h
  ·cases h
  ·exact ol h
 ·unfold Vabldi.splitOf at h;dsimp only at h;split at h
  ·exact fl h
  ·rename_i q;cases h;rw[List.length_map];have :(Vabldi.pieces (Vabldi.linesOf (Vabldi.first l))).length=n:=by simpa using q
   omega
 ·unfold Vabldi.pickOf at h;split at h
  ·exact fl h
  ·split at h
   ·exact ol h
   ·cases h
 ·exact it fl ol h
section
variable{P:Program}{w:World}{K:PySem.W.Frag}{mg:Str->Option Value}{base:Heap}{C:Cs}
theorem Cp(T:Tx K mg C){a:Vabldi.Action}{ds:List ai}{x:Str}{f:Addr}(ga:eQ a)(hl:ds.length=a.inputs.length)(hfit:r9 a=true)(hx:qD[a.tool]? =some x)(hf:mg x=some (.ref f)):
  ∃k pre res rd,k<=6/\HR P w K mg base f k (bP C pre res rd)/\pre a ds/\res a ds=lv a ds/\rd a ds=t4 a ds:=by
 have fc:=oV ga;rw[hfit]at fc;have fc:=fc.symm;rw[Bool.and_eq_true,beq_iff_eq]at fc;obtain⟨far,fco⟩:=fc;have fnm:=yq hl;have ffi:=yr hl;have fse:=vU hl;have fby:=md hl;have fln:=lx hl;have h4:=ga.tl;have h:=FX a.tool (by omega);unfold lv t4;have nb:a.tool≠1->¬lu a ds:=λq z=>q z.1
 rcases h with h|h|h|h|h|h|h|h|h|h|h|h|h|h
 ·rw[if_neg (nb (by rw[h];decide)),if_neg (nb (by rw[h];decide)),h];rw[h]at hx far fco;cases hx;refine⟨4,_,_,_,by decide,(B3 T).at hf,far,?_,?_⟩
  ·show _=Vabldi.one (Vabldi.joined (Vabldi.argument a.arguments 0) ((dP a ds).map λi=>i.bytes));rw[fby]
  ·exact fnm.symm
 ·rw[h]at hx far fco;cases hx;refine⟨4,_,_,_,by decide,(B5 T).at hf,trivial,?_,?_⟩
  ·by_cases q:a.outputs.length=ds.length
   ·have :¬lu a ds:=λz=>z.2 q
    rw[if_neg this,if_pos q,h];show _=Except.ok ((dP a ds).map λi=>i.bytes);rw[fby]
   ·have b:lu a ds:=⟨h,q⟩;rw[if_pos b,if_neg q]
  ·by_cases q:a.outputs.length=ds.length
   ·have :¬lu a ds:=λz=>z.2 q
    rw[if_neg this,if_pos q,h];exact fnm.symm
   ·have b:lu a ds:=⟨h,q⟩;rw[if_pos b,if_neg q]
 ·rw[if_neg (nb (by rw[h];decide)),if_neg (nb (by rw[h];decide)),h];rw[h]at hx far fco;cases hx;have c1:a.inputs.length=1:=by simp[Vabldi.counts]at fco;exact fco.1
  refine⟨4,_,_,_,by decide,(z6 T).at hf,by rw[hl,c1],?_,?_⟩
  ·rw[<-ffi];rfl
  ·show _=((dP a ds).take 1).map λi=>i.name
   rw[dE (by rw[fln,c1]),fnm]
 ·rw[if_neg (nb (by rw[h];decide)),if_neg (nb (by rw[h];decide)),h];rw[h]at hx far fco;cases hx;have c1:a.inputs.length=1:=by simp[Vabldi.counts]at fco;exact fco.1
  refine⟨4,_,_,_,by decide,(Ch T).at hf,⟨by rw[hl,c1],far⟩,?_,?_⟩
  ·rw[<-ffi];rfl
  ·show _=((dP a ds).take 1).map λi=>i.name
   rw[dE (by rw[fln,c1]),fnm]
 ·rw[if_neg (nb (by rw[h];decide)),if_neg (nb (by rw[h];decide)),h];rw[h]at hx far fco;cases hx;have c1:a.inputs.length=1:=by simp[Vabldi.counts]at fco;exact fco.1
  refine⟨4,_,_,_,by decide,(B7 T).at hf,⟨by rw[hl,c1],far⟩,?_,?_⟩
  ·rw[<-ffi];rfl
  ·show _=((dP a ds).take 1).map λi=>i.name
   rw[dE (by rw[fln,c1]),fnm]
 ·rw[if_neg (nb (by rw[h];decide)),if_neg (nb (by rw[h];decide)),h];rw[h]at hx far fco;cases hx;have c1:a.inputs.length=1:=by simp[Vabldi.counts]at fco;exact fco.1
  refine⟨4,_,_,_,by decide,(B8 T).at hf,⟨by rw[hl,c1],far⟩,?_,?_⟩
  ·rw[<-ffi];rfl
  ·show _=((dP a ds).take 1).map λi=>i.name
   rw[dE (by rw[fln,c1]),fnm]
 ·rw[if_neg (nb (by rw[h];decide)),if_neg (nb (by rw[h];decide)),h];rw[h]at hx far fco;cases hx;have c1:a.inputs.length=1:=by simp[Vabldi.counts]at fco;exact fco.1
  refine⟨4,_,_,_,by decide,(B9 T).at hf,⟨by rw[hl,c1],far⟩,?_,?_⟩
  ·rw[<-ffi];rfl
  ·show _=((dP a ds).take 1).map λi=>i.name
   rw[dE (by rw[fln,c1]),fnm]
 ·rw[if_neg (nb (by rw[h];decide)),if_neg (nb (by rw[h];decide)),h];rw[h]at hx far fco;cases hx;have c1:1<=a.inputs.length:=by simp[Vabldi.counts]at fco;omega
  exact⟨6,_,_,_,by omega,(Co T).at hf,(by show 1<=ds.length;omega),rfl,rfl⟩
 ·rw[if_neg (nb (by rw[h];decide)),if_neg (nb (by rw[h];decide)),h];rw[h]at hx far fco;cases hx;have c1:a.inputs.length=1:=by simp[Vabldi.counts]at fco;exact fco
  refine⟨4,_,_,_,by decide,(Ae T).at hf,by rw[hl,c1],?_,?_⟩
  ·rw[<-ffi];rfl
  ·show _=((dP a ds).take 1).map λi=>i.name
   rw[dE (by rw[fln,c1]),fnm]
 ·rw[if_neg (nb (by rw[h];decide)),if_neg (nb (by rw[h];decide)),h];rw[h]at hx far fco;cases hx;have c1:a.inputs.length=2:=by simp[Vabldi.counts]at fco;exact fco.1
  refine⟨4,_,_,_,by decide,(Cb T).at hf,by rw[hl,c1],?_,?_⟩
  ·rw[<-ffi,<-fse];rfl
  ·exact fnm.symm
 ·rw[if_neg (nb (by rw[h];decide)),if_neg (nb (by rw[h];decide)),h];rw[h]at hx far fco;cases hx;have c1:a.inputs.length=1:=by simp[Vabldi.counts]at fco;exact fco.1
  refine⟨4,_,_,_,by decide,(Aa T).at hf,by rw[hl,c1],?_,?_⟩
  ·rw[<-ffi];rfl
  ·show _=((dP a ds).take 1).map λi=>i.name
   rw[dE (by rw[fln,c1]),fnm]
 ·rw[if_neg (nb (by rw[h];decide)),if_neg (nb (by rw[h];decide)),h];rw[h]at hx far fco;cases hx;refine⟨4,_,_,_,by decide,(z9 T).at hf,trivial,?_,rfl⟩;show _=Vabldi.one (Vabldi.putLines ((dP a ds).map λi=>i.name));rw[fnm]
 ·rw[if_neg (nb (by rw[h];decide)),if_neg (nb (by rw[h];decide)),h];rw[h]at hx far fco;cases hx;exact⟨4,_,_,_,by omega,(Cc T).at hf,far,rfl,rfl⟩
 ·rw[if_neg (nb (by rw[h];decide)),if_neg (nb (by rw[h];decide)),h];rw[h]at hx far fco;cases hx;refine⟨4,_,_,_,by decide,(Ek T).at hf,trivial,?_,?_⟩
  ·show _=Vabldi.sumOf (dP a ds);unfold Vabldi.sumOf
   have e:(dP a ds).flatMap (λi=>Vabldi.linesOf i.bytes)=ds.flatMap Vabldi.linesOf:=by
    conv=>rhs;rw[<-fby]
    rw[List.flatMap_map]
   simp only[e];rfl
  ·exact fnm.symm
abbrev Ap:List Str:=["action","data","tool","outcome","text"]
theorem ly:aC Ap ["action","data"] (ao gM):=⟨rfl,rfl,rfl,by decide+kernel,rfl,by decide+kernel,by decide+kernel⟩
theorem Cq(T:Tx K mg C):Ok P w K mg base "outcome_of" ["action","data"] 7 (bP C (λ_ _=>True) (λa ds=>Vabldi.outcome a.tool a.arguments (dP a ds) a.outputs.length) λa ds=>Vabldi.reads a.tool a.arguments (dP a ds) a.outputs.length):=by
 refine T.d_outcome_of.ok ly (λvs H Q E h=>bq h) (λf cdv A outer s H vs Q E hr h=> ?_);obtain⟨F,va,vd,a,ds,rfl,hA,hd,ga,hlen,hby,hpre,f0,k⟩:=h;obtain⟨o1,o2⟩:=vV ga hlen;dsimp only at k;obtain⟨ta,fs,hmg,hkt,hfns⟩:=T.t_TOOLS
 refine⟨_,ae (aN (bR (bI (aB (Er T) hr (ab (pv 0) af)))) (ah (aq (aB (bL T) hr (ab (aV T.g_COUNT) (ab (aL af) af))))) aE)
  (ae (aF (i:=2) ly.nd rfl (Or.inl rfl) (bx gF (mZ (v:= .ref ta) rfl hmg rfl) (aD (pv 0) rfl) (λ_ _=>rfl)))
  (ae (aF (i:=3) ly.nd rfl (Or.inl rfl) (FO (i:=2) hr rfl (Or.inl rfl) (ab (pv 0) (ab (pv 1) af))))
  (ae (aN (bI (u6 rfl T.b_any (fj rfl ly.nd (bj (aD (pv 3) rfl)) (blk (own:=[("text",4)]) Ap (ao gM) rfl rfl (by decide+kernel)) (λ_ _ _ _ _=>aS (i:=4) ly.nd rfl (Or.inl rfl)) (λ_ _ _ _ _=>b4)
   (λ_ _ _ _ _=>m5 iw (bp T.b_len (pv 4)) (aV T.g_MOST_FILE_BYTES) (aP _))))) (ah (aq (aB (bL T) hr (ab (aV T.g_LONG_outcomes) (ab (aD (pv 3) rfl) af))))) aE)
  (ah (aq (pv 3)))))),?_⟩
 refine⟨_,rfl,F,_,a,rfl,hA,ga.tl,f0,_,rfl,bY (λhb=> ?_) (λhb=> ?_)⟩
 ·have hb:r9 a=false:=by simpa using hb
  obtain⟨q1,q2⟩:=o1 hb;rw[q1,q2]at k;refine⟨by decide,λq hq=> ?_⟩;have e4:=(bo.refl f0).newF (o:= .lst []) hq;exact⟨_,1,_,[],rfl,⟨q,[],rfl,aa,.nil⟩,e4.fh,λu F2 H2 e3 ho2=>k _ _ _ (e4.trans e3) ho2⟩
 ·have hb:r9 a=true:=by simpa using hb
  obtain⟨q1,q2⟩:=o2 hb;rw[q1,q2]at k;have h4:=ga.tl;obtain⟨x,hx⟩:∃x,qD[a.tool]? =some x:=⟨_,List.getElem?_eq_getElem (by show a.tool<14;exact h4)⟩;obtain⟨fa,hfa,hmf⟩:=aY hfns hx;obtain⟨kk,pre,res,rd,hk,hok,hpr,hres,hrd⟩:=Cp (P:=P) (w:=w) (base:=base) T ga hlen hb hx hmf;have hA':=hA;obtain⟨p,dx,wa,wi,wo,rfl,hp,_,_,_⟩:=hA';refine⟨_,rfl,p,C.Action,dx,_,_,rfl,f0 _ _ hp,T.k_Action.cl,T.n_Action_tool,rfl,ta,_,_,.ref fa,rfl,rfl,hkt.sq _,bd (by rw[List.getElem?_map,hfa];rfl),?_⟩;refine⟨fa,kk,_,rfl,by omega,hok,_,rfl,_,rfl,F,_,_,a,ds,rfl,hA,hd,ga,hlen,hby,hpr,f0,λu F1 H1 e1 hu=> ?_⟩;rw[hres,hrd]at hu;have hu':=hu;obtain⟨po,dxo,vu,vo,vr,rfl,hpo,hvu,⟨lo,xo,rfl,hlo,hxo⟩,hvr⟩:=hu';refine⟨_,rfl,po,C.Outcome,dxo,_,_,rfl,e1.fh _ _ hpo,T.k_Outcome.cl,T.n_Outcome_outputs,rfl,lo,rfl,⟨_,aZ.of (e1.fh _ _ hlo)⟩,λD hD=> ?_⟩;refine bV (ds:=zX (lv a ds)) (dk F1) (λ_ v b=>v=V.bl b) (λt=>some (decide (4096<t.length))) (λ_ _ _ _ _ h=>h) e1 hD (aZ.of hlo) hxo ?_ ?_ ?_
  ·unfold lv;split
   ·exact Nat.zero_le _
   ·cases q:Vabldi.tool a.tool a.arguments (dP a ds) a.outputs.length with
    |error e=>exact Nat.zero_le _
    |ok r=>
     have h1:=Ao q;rw[lx hlen]at h1;have h2:=ga.il;have h3:=ga.ol;show r.length<=_;omega
  ·rintro x t F2 H2 Y N ⟨at',rfl,hat⟩ ht e2 s2 hY hN
   refine⟨rfl,_,rfl,at',_,rfl,e2.fh _ _ (s2 _ _ hat),_,_,rfl,rfl,hY _ F2 H2 _ rfl (bo.refl e2.fh) ?_⟩;rw[aM,V.bl.injEq,Bool.eq_iff_iff,decide_eq_true_eq,decide_eq_true_eq];omega
  ·rintro F2 H2 ys e2 s2 hAc fD pz
   rw[cQ pz]at hAc;refine⟨D,_,rfl,hAc,_,rfl,?_⟩;rw[List.any_map];refine bY (λhb2=> ?_) (λhb2=> ?_)
   ·refine⟨_,rfl,po,C.Outcome,dxo,_,_,rfl,e2.fh _ _ (s2 _ _ hpo),T.k_Outcome.cl,T.n_Outcome_read,rfl,F2,8,_,_,rfl,bH hvr s2,e2.fh,λu F3 H3 e3 ho2=>k _ _ _ (e2.trans e3) ?_⟩;cases q:lv a ds with
    |error e=>rw[q]at hb2;simp[zX]at hb2
    |ok r=>
     rw[q]at hb2;have hb3:(r.any λx=>decide (4096<x.length))=true:=hb2;dsimp only;rw[if_pos hb3];exact ho2
   ·refine⟨_,rfl,k _ _ _ e2 ?_⟩;cases q:lv a ds with
    |error e=>rw[q]at hu;exact hu.mono s2
    |ok r=>
     rw[q]at hb2 hu;have hb3:(r.any λx=>decide (4096<x.length))=false:=hb2;dsimp only;rw[if_neg (by rw[hb3];decide)];exact hu.mono s2
end
section
variable{α:Type}{R:V->α->Prop}{nm:α->ai}
abbrev KD(R:V->α->Prop)(nm:α->ai)(kvs:List (List bG×V))(l:List α):Prop:=Paired (λ(kv:List bG×V) d=>kv.1=nk (nm d)/\R kv.2 d) kvs l
theorem wV(n:ai){v:V}{f:α}(hv:R v f)(hn:nm f=n):∀{kvs:List (List bG×V)} {l:List α},KD R nm kvs l->KD R nm (kvs.map λkv=>if kv.1=nk n then(kv.1,v)else kv) (l.map λg=>if nm g=n then f else g)
 |_,_,.nil=> .nil
 |kv::kvs,d::l,.cons ⟨h1,h2⟩ t=>by
  rw[List.map_cons,List.map_cons];refine .cons ?_ (wV n hv hn t);by_cases e:nm d=n
  ·have e':kv.1=nk n:=by rw[h1,e]
   rw[if_pos e,if_pos e'];exact⟨by rw[e',hn],hv⟩
  ·have e':¬kv.1=nk n:=λq=>e (gZ (h1.symm.trans q))
   rw[if_neg e,if_neg e'];exact⟨h1,h2⟩
theorem Aq(n:ai):∀{kvs:List (List bG×V)} {l:List α},KD R nm kvs l->(kvs.any λkv=>decide (kv.1=nk n))=decide (n∈l.map nm)
 |_,_,.nil=>by simp
 |kv::kvs,d::l,.cons ⟨h1,h2⟩ t=>by
  rw[List.any_cons,Aq n t,List.map_cons,Bool.eq_iff_iff,Bool.or_eq_true,decide_eq_true_eq,decide_eq_true_eq,decide_eq_true_eq,List.mem_cons,h1,Ed];exact⟨λz=>z.imp Eq.symm id,λz=>z.imp Eq.symm id⟩
theorem eV{n:ai}{l:List α}(h:n∉l.map nm):(l.filter λg=>nm g !=n)=l:=by
 rw[List.filter_eq_self];intro g hg;have :nm g≠n:=λe=>h (List.mem_map.mpr ⟨g,hg,e⟩)
 simpa using this
theorem qE{n:ai}{f:α}:∀{l:List α},(l.map nm).Nodup->n∈l.map nm->(l.map λg=>if nm g=n then f else g).Perm (f::l.filter λg=>nm g !=n)
 |[],_,h=>by simp at h
 |d::l,hnd,h=>by
  rw[List.map_cons,List.nodup_cons]at hnd;rw[List.map_cons,List.filter_cons];by_cases e:nm d=n
  ·rw[if_pos e,if_neg (by simp[e])];have hn:n∉l.map nm:=by rw[<-e];exact hnd.1
   rw[eV hn]
   have :(l.map λg=>if nm g=n then f else g)=l:=by
    conv=>rhs;rw[<-List.map_id l]
    refine List.map_congr_left λg hg=> ?_
    have :nm g≠n:=λq=>hn (List.mem_map.mpr ⟨g,hg,q⟩)
    rw[if_neg this];rfl
   rw[this]
  ·rw[if_neg e,if_pos (by simpa using e)]
   have h2:n∈l.map nm:=by
    rw[List.map_cons]at h;rcases List.mem_cons.mp h with h|h
    ·exact absurd h.symm e
    ·exact h
   exact((qE hnd.2 h2).cons d).trans (List.Perm.swap _ _ _)
theorem Ar{n:ai}{v:V}{f:α}(hv:R v f)(hn:nm f=n){kvs:List (List bG×V)}{l fs:List α}(h:KD R nm kvs l)(hp:l.Perm fs)(nd:(fs.map nm).Nodup):∃l',KD R nm (eX kvs (nk n) v) l'/\l'.Perm (f::fs.filter λg=>nm g !=n):=by
 have nd':(l.map nm).Nodup:=(hp.map nm).nodup_iff.mpr nd;have ha:=Aq n h;unfold eX;by_cases e:n∈l.map nm
 ·rw[if_pos (by rw[ha];exact decide_eq_true e)];exact⟨_,wV n hv hn h,(qE nd' e).trans ((hp.filter _).cons f)⟩
 ·rw[if_neg (by rw[ha];simpa using e)];refine⟨l++[f],bh ⟨by rw[hn],hv⟩ h,(List.perm_append_comm.trans ?_)⟩;refine List.Perm.cons f ?_;have :=hp.filter (λg=>nm g !=n);rw[eV e]at this;exact this
theorem wW(n:ai):∀{kvs:List (List bG×V)} {l:List α},KD R nm kvs l->KD R nm (kD kvs (nk n)) (l.filter λg=>nm g !=n)
 |_,_,.nil=> .nil
 |kv::kvs,d::l,.cons ⟨h1,h2⟩ t=>by
  have ih:=wW n t;unfold kD at ih⊢;rw[List.filter_cons,List.filter_cons];by_cases e:nm d=n
  ·have e':kv.1=nk n:=by rw[h1,e]
   rw[if_neg (by simp[e']),if_neg (by simp[e])];exact ih
  ·have e':¬kv.1=nk n:=λq=>e (gZ (h1.symm.trans q))
   rw[if_pos (by simpa using e'),if_pos (by simpa using e)];exact .cons ⟨h1,h2⟩ ih
theorem wX{kvs:List (List bG×V)}{l fs:List α}(h:KD R nm kvs l)(hp:l.Perm fs)(nd:(fs.map nm).Nodup)(n:ai):
  (fs.find? (λd=>nm d==n)=none/\cB kvs (nk n)=none)\/∃d v,fs.find? (λd=>nm d==n)=some d/\cB kvs (nk n)=some v/\R v d:=by
 rw[<-qB hp ((hp.map nm).nodup_iff.mpr nd) n];exact oS n h
end
abbrev cz(fs:List Vabldi.File):Prop:=(fs.map (·.name)).Pairwise λa b=>Vabldi.textBefore a b=true
theorem wY{a b:ai}(h:Vabldi.textBefore a b=true):a≠b:=by
 rintro rfl
 have :Vabldi.textBefore a a=false:=by
  induction a with
  |nil=>rfl
  |cons x r ih=>
   show(decide (x<x)||(x==x&&Vabldi.textBefore r r))=false
   rw[ih (by
    have h:(decide (x<x)||(x==x&&Vabldi.textBefore r r))=true:=h
    simpa using h)]
   simp
 rw[this]at h;cases h
theorem cz.nodup{fs:List Vabldi.File}(h:cz fs):(fs.map (·.name)).Nodup:=h.imp λz=>wY z
theorem cf(f:Vabldi.File):∀{fs:List Vabldi.File},cz fs->(Vabldi.setFile f fs).Perm (f::fs.filter λg=>g.name !=f.name)
 |[],_=> .refl _
 |g::r,h=>by
  rw[cz,List.map_cons,List.pairwise_cons]at h;rw[Vabldi.setFile,List.filter_cons];by_cases e:f.name=g.name
  ·rw[if_pos e,if_neg (by simp[e])];rw[eV (nm:=λg:Vabldi.File=>g.name)];rw[e];intro q;exact wY (h.1 _ q) rfl
  ·have e':(g.name !=f.name)=true:=by simpa using λq=>e q.symm
   rw[if_neg e,if_pos e'];by_cases b:Vabldi.textBefore f.name g.name=true
   ·rw[if_pos b,eV (nm:=λg:Vabldi.File=>g.name)];intro q;exact wY (i8 b (h.1 _ q)) rfl
   ·rw[if_neg b];exact((cf f h.2).cons g).trans (List.Perm.swap _ _ _)
theorem cg(f:Vabldi.File):∀{fs:List Vabldi.File},cz fs->cz (Vabldi.setFile f fs)
 |[],_=>by simp[Vabldi.setFile,cz]
 |g::r,h=>by
  have h0:=h;rw[cz,List.map_cons,List.pairwise_cons]at h;rw[Vabldi.setFile];by_cases e:f.name=g.name
  ·rw[if_pos e,cz,List.map_cons,e];exact List.pairwise_cons.mpr h
  ·rw[if_neg e];by_cases b:Vabldi.textBefore f.name g.name=true
   ·rw[if_pos b,cz,List.map_cons];refine List.Pairwise.cons ?_ h0;intro z hz;rw[List.map_cons]at hz;rcases List.mem_cons.mp hz with rfl|hz
    ·exact b
    ·exact i8 b (h.1 z hz)
   ·rw[if_neg b,cz,List.map_cons];refine List.Pairwise.cons ?_ (cg f h.2);intro z hz;obtain⟨x,hx,rfl⟩:=List.mem_map.mp hz;rcases List.mem_cons.mp ((cf f h.2).mem_iff.mp hx)with rfl|hx
    ·have b:tb x.name g.name=false:=by simpa using b
     cases q:tb g.name x.name with
     |true=>exact q
     |false=>exact absurd (jm b q) e
    ·exact h.1 _ (List.mem_map.mpr ⟨x,(List.mem_filter.mp hx).1,rfl⟩)
theorem kh{α:Type}{nm:α->ai}{n:ai}{l:List α}(nd:(l.map nm).Nodup):((l.find? λd=>nm d==n)=none->(l.filter λg=>nm g !=n).length=l.length)/\((l.find? λd=>nm d==n).isSome=true->(l.filter λg=>nm g !=n).length+1=l.length):=by
 induction l with
 |nil=>simp
 |cons d r ih=>
  rw[List.map_cons,List.nodup_cons]at nd;have ih:=ih nd.2;rw[List.find?_cons,List.filter_cons];by_cases e:nm d=n
  ·rw[show(nm d==n)=true by simpa using e,if_neg (by simp[e])];refine⟨λh=>by simp at h,λ_=> ?_⟩;rw[eV (nm:=nm) (by rw[<-e];exact nd.1),List.length_cons]
  ·rw[show(nm d==n)=false by simpa using e,if_pos (by simpa using e),List.length_cons,List.length_cons];exact⟨λh=>by rw[ih.1 h],λh=>by rw[ih.2 h]⟩
section
variable{C:Cs}{F H F1 H1:Hp}{R df da:Addr}{s:Vabldi.State}
theorem aQ.keep(r:aQ C F H R df da s)(e:bo F H F1 H1):aQ C F1 H1 R df da s:=by
 obtain⟨⟨d,h1⟩,h2,h3,h4,⟨kf,h5,l,h6,h7⟩,⟨ka,h8,m,h9,h10⟩,g⟩:=r;exact⟨⟨d,e.ff _ _ h1⟩,e.sp _ _ h5 h2,e.sp _ _ h8 h3,h4,⟨kf,e.hh _ _ h5,l,Paired.mapP h6 λkv f q=>⟨q.1,q.2.mono e.ff⟩,h7⟩,⟨ka,e.hh _ _ h8,m,Paired.mapP h9 λkv f q=>⟨q.1,q.2.mono e.ff⟩,h10⟩,g⟩
theorem aQ.keepX{S:List Addr}(r:aQ C F H R df da s)(e:bc S F H F1 H1)(h1:df∉S)(h2:da∉S):aQ C F1 H1 R df da s:=by
 obtain⟨⟨d,a1⟩,a2,a3,a4,⟨kf,a5,l,a6,a7⟩,⟨ka,a8,m,a9,a10⟩,g⟩:=r;exact⟨⟨d,e.ff _ _ a1⟩,e.sp _ _ a5 a2,e.sp _ _ a8 a3,a4,⟨kf,e.hx _ _ a5 h1,l,Paired.mapP a6 λkv f q=>⟨q.1,q.2.mono e.ff⟩,a7⟩,⟨ka,e.hx _ _ a8 h2,m,Paired.mapP a9 λkv f q=>⟨q.1,q.2.mono e.ff⟩,a10⟩,g⟩
theorem aQ.file(r:aQ C F H R df da s)(n:ai):∃kvs,H df=some (.dT kvs)/\kvs.length=s.files.length/\((Vabldi.fileOf s n=none/\cB kvs (nk n)=none)\/∃f v,Vabldi.fileOf s n=some f/\cB kvs (nk n)=some v/\lf C F v f/\zY f/\f.name=n):=by
 obtain⟨kf,h5,l,h6,h7⟩:=r.fs;refine⟨kf,h5,by rw[aA h6,h7.length_eq],?_⟩;rcases wX (nm:=λf:Vabldi.File=>f.name) (R:=lf C F) h6 h7 (cz.nodup r.gd.fo) n with⟨a,b⟩|⟨f,v,a,b,c⟩
 ·exact .inl ⟨a,b⟩
 ·exact .inr ⟨f,v,a,b,c,r.gd.fg f (List.mem_of_find?_eq_some a),by simpa using List.find?_some a⟩
theorem aQ.act(r:aQ C F H R df da s)(n:ai):∃kvs,H da=some (.dT kvs)/\kvs.length=s.actions.length/\((Vabldi.actionOf s n=none/\cB kvs (nk n)=none)\/∃f v,Vabldi.actionOf s n=some f/\cB kvs (nk n)=some v/\lV C F v f/\eQ f/\f.name=n):=by
 obtain⟨kf,h5,l,h6,h7⟩:=r.as;refine⟨kf,h5,by rw[aA h6,h7.length_eq],?_⟩;rcases wX (nm:=λf:Vabldi.Action=>f.name) (R:=lV C F) h6 h7 r.gd.an n with⟨a,b⟩|⟨f,v,a,b,c⟩
 ·exact .inl ⟨a,b⟩
 ·exact .inr ⟨f,v,a,b,c,r.gd.ag f (List.mem_of_find?_eq_some a),by simpa using List.find?_some a⟩
theorem aQ.putF(r:aQ C F H R df da s){kvs:List (List bG×V)}(hk:H df=some (.dT kvs)){v:V}{f:Vabldi.File}(hv:lf C F v f)(gf:zY f)(hl:(Vabldi.setFile f s.files).length<=64):aQ C F (aJ H df (.dT (eX kvs (nk f.name) v))) R df da {s with files:=Vabldi.setFile f s.files}:=by
 obtain⟨h1,h2,h3,h4,⟨kf,h5,l,h6,h7⟩,h8,g⟩:=r;rw[hk]at h5;have e:kvs=kf:=by injection h5 with q;injection q
 subst e;obtain⟨l',p1,p2⟩:=Ar (nm:=λf:Vabldi.File=>f.name) (R:=lf C F) hv rfl h6 h7 (cz.nodup g.fo);refine⟨h1,h2,h3,h4,⟨_,aa,l',p1,p2.trans (cf f g.fo).symm⟩,?_,⟨λx hx=> ?_,cg f g.fo,hl,g.ag,g.an,g.al⟩⟩
 ·rw[aj h4.symm];exact h8
 ·rcases List.mem_cons.mp ((cf f g.fo).mem_iff.mp hx)with rfl|hx
  ·exact gf
  ·exact g.fg x (List.mem_filter.mp hx).1
theorem aQ.dropF(r:aQ C F H R df da s){kvs:List (List bG×V)}(hk:H df=some (.dT kvs))(n:ai):aQ C F (aJ H df (.dT (kD kvs (nk n)))) R df da {s with files:=s.files.filter λf=>f.name !=n}:=by
 obtain⟨h1,h2,h3,h4,⟨kf,h5,l,h6,h7⟩,h8,g⟩:=r;rw[hk]at h5;have e:kvs=kf:=by injection h5 with q;injection q
 subst e;refine⟨h1,h2,h3,h4,⟨_,aa,_,wW (nm:=λf:Vabldi.File=>f.name) (R:=lf C F) n h6,h7.filter _⟩,?_,⟨λx hx=>g.fg x (List.mem_filter.mp hx).1,?_,Nat.le_trans (List.length_filter_le _ _) g.fl,g.ag,g.an,g.al⟩⟩
 ·rw[aj h4.symm];exact h8
 ·exact g.fo.sublist ((List.filter_sublist).map _)
theorem aQ.putA(r:aQ C F H R df da s){kvs:List (List bG×V)}(hk:H da=some (.dT kvs)){v:V}{a:Vabldi.Action}(hv:lV C F v a)(gf:eQ a)(hl:(a::s.actions.filter λx=>x.name !=a.name).length<=32):aQ C F (aJ H da (.dT (eX kvs (nk a.name) v))) R df da {s with actions:=a::s.actions.filter λx=>x.name !=a.name}:=by
 obtain⟨h1,h2,h3,h4,h8,⟨kf,h5,l,h6,h7⟩,g⟩:=r;rw[hk]at h5;have e:kvs=kf:=by injection h5 with q;injection q
 subst e;obtain⟨l',p1,p2⟩:=Ar (nm:=λf:Vabldi.Action=>f.name) (R:=lV C F) hv rfl h6 h7 g.an;refine⟨h1,h2,h3,h4,?_,⟨_,aa,l',p1,p2⟩,⟨g.fg,g.fo,g.fl,λx hx=> ?_,?_,hl⟩⟩
 ·rw[aj h4];exact h8
 ·rcases List.mem_cons.mp hx with rfl|hx
  ·exact gf
  ·exact g.ag x (List.mem_filter.mp hx).1
 ·rw[List.map_cons,List.nodup_cons];refine⟨λq=> ?_,g.an.sublist ((List.filter_sublist).map _)⟩;obtain⟨x,hx,e⟩:=List.mem_map.mp q;have :=(List.mem_filter.mp hx).2;rw[e]at this;simp at this
end
def pK(F:Hp)(u:V)(a:Vabldi.Answer):Prop:=ZL F u (VabldiNeutral.encode a)/\(VabldiNeutral.encode a).length<=50000
theorem cK{F:Hp}{q:Addr}{k:Int}(h:F q=some (.lst [.int k])):pK F (.ref q) (Vabldi.no k):=⟨⟨q,rfl,h⟩,show 1<=50000 by decide⟩
theorem oX{F:Hp}{q:Addr}{t:ai}(h:F q=some (.lst (V.int 0::(zs t).map V.int)))(hl:t.length<=49999):pK F (.ref q) (Vabldi.said t):=by
 refine⟨⟨q,rfl,h⟩,?_⟩;show(0::t.map λ(n:Nat)=>(n:Int)).length<=_;rw[List.length_cons,List.length_map];omega
theorem cV{F:Hp}{q:Addr}{n:Nat}{t:ai}(h:F q=some (.lst (V.int n::(zs t).map V.int)))(hl:t.length<=49999):pK F (.ref q) (Vabldi.num n t):=by
 refine⟨⟨q,rfl,h⟩,?_⟩;show((n:Int)::t.map λ(n:Nat)=>(n:Int)).length<=_;rw[List.length_cons,List.length_map];omega
section
variable{P:Program}{w:World}{K:PySem.W.Frag}{mg:Str->Option Value}{base:Heap}{C:Cs}
def dG(C:Cs)(g:Vabldi.State->ai->Vabldi.State×Vabldi.Answer):Sp:=λvs H Q _=>∃(F:Hp) (R df da:Addr) (s:Vabldi.State) (vn:V) (n:ai),vs=[.ref R,vn]/\aQ C F H R df da s/\dk F vn n/\aH F H/\
 ∀u F1 H1,bc [df,da] F H F1 H1->aQ C F1 H1 R df da (g s n).1->pK F1 u (g s n).2->Q u H1
theorem bZ{g vs H Q E}(h:dG C g vs H Q E):vs.length=2:=by obtain⟨_,_,_,_,_,_,_,e,_⟩:=h;rw[e];rfl
theorem Et:aC ["name","held"] ["name","held"] (ao kJ):=⟨rfl,rfl,rfl,by decide+kernel,rfl,by decide+kernel,by decide+kernel⟩
def Eu:Sp:=λvs H Q _=>∃(b a:Addr) (n:ai) (kvs:List (List bG×V)),vs=[.ref b,.ref a]/\H b=some (.tup ((zs n).map V.int))/\H a=some (.dT kvs)/\Q (.int (if(cB kvs (nk n)).isSome=true then 0 else 1)) H
theorem vW(T:Tx K mg C):Ok P w K mg base "new_or_not" ["name","held"] 1 Eu:=by
 refine T.d_new_or_not.ok Et (λvs H Q E h=>by obtain⟨_,_,_,_,e,_⟩:=h;rw[e];rfl) (λf cdv A outer s H vs Q E hr h=> ?_);obtain⟨b,a,n,kvs,rfl,hb,ha,k⟩:=h;refine⟨_,ah (aq (sy (fJ (uZ (bT hr) (pv 0) (pv 1))) aG aG)),?_⟩;refine⟨_,rfl,_,rfl,a,_,rfl,dj.t (k:=nk n) ha (by rw[bX];exact hb),_,rfl,bY (λh1=> ?_) (λh1=> ?_)⟩
 ·rw[if_pos h1]at k;exact k
 ·rw[if_neg (by rw[h1];decide)]at k;exact k
theorem Ev:aC ["room","name"] ["room","name"] (ao mt):=⟨rfl,rfl,rfl,by decide+kernel,rfl,by decide+kernel,by decide+kernel⟩
def Ew(C:Cs):Sp:=λvs H Q _=>∃(F:Hp) (R df da b:Addr) (s:Vabldi.State) (n:ai),vs=[.ref R,.ref b]/\aQ C F H R df da s/\H b=some (.tup ((zs n).map V.int))/\aH F H/\Q (.bl (Vabldi.isSource s n)) H
theorem As(T:Tx K mg C):Ok P w K mg base "is_source" ["room","name"] 1 (Ew C):=by
 refine T.d_is_source.ok Ev (λvs H Q E h=>by obtain⟨_,_,_,_,_,_,_,e,_⟩:=h;rw[e];rfl) (λf cdv A outer s H vs Q E hr h=> ?_);obtain⟨F,R,df,da,b,st,n,rfl,ra,hb,f0,k⟩:=h;obtain⟨dR,hR⟩:=ra.dx;obtain⟨kvs,hdf,_,hcase⟩:=ra.file n;refine⟨_,ah (aq (Do (uL (uZ (bT hr) (pv 1) (aD (pv 0) rfl))) (yR (uL (lE (aD (cv (bT hr) (aD (pv 0) rfl) (pv 1) (λ_ _=>rfl)) rfl)))))),?_⟩;have hget:=dj.t (k:=nk n) hdf (by rw[bX];exact hb);refine⟨_,rfl,_,rfl,R,C.Room,dR,_,_,rfl,f0 _ _ hR,T.k_Room.cl,T.n_Room_files,rfl,df,_,rfl,hget,_,rfl,?_⟩;unfold Vabldi.isSource at k;rcases hcase with⟨h1,h2⟩|⟨fl,v,h1,h2,hv,_,_⟩
 ·rw[h2];rw[h1]at k;exact jw k
 ·rw[h2]at hget⊢;rw[h1]at k;refine iq ?_;obtain⟨a,dx,vd,vm,rfl,ha,hd,hm⟩:=hv;refine⟨_,rfl,R,C.Room,dR,_,_,rfl,f0 _ _ hR,T.k_Room.cl,T.n_Room_files,rfl,_,rfl,df,_,rfl,hget,a,C.File,dx,_,_,rfl,f0 _ _ ha,T.k_File.cl,T.n_File_made_by,rfl,?_⟩
  have e:(fl.maker.isNone)=decide (vm= .non):=by
   cases q:fl.maker with
   |none=>rw[q]at hm;simp[show vm= .non from hm]
   |some m=>
    rw[q]at hm;obtain⟨z,hz,_⟩:=hm;rw[hz];rfl
  show Q (.bl (decide (vm= .non))) H;rw[<-e];exact k
theorem vX:aC ["room","name","data","key","fresh"] ["room","name","data"] (ao oy):=⟨rfl,rfl,rfl,by decide+kernel,rfl,by decide+kernel,by decide+kernel⟩
def Ex(C:Cs):Sp:=λvs H Q _=>∃(F:Hp) (R df da:Addr) (s:Vabldi.State) (vn vd:V) (n d:ai),vs=[.ref R,vn,vd]/\aQ C F H R df da s/\dk F vn n/\dk F vd d/\aH F H/\
 ∀u F1 H1,bc [df,da] F H F1 H1->aQ C F1 H1 R df da (Vabldi.putCall s n d).1->pK F1 u (Vabldi.putCall s n d).2->Q u H1
theorem Au{n:ai}(h:Vabldi.isName n=true):n.length<=32:=by
 unfold Vabldi.isName at h;simp only[Bool.and_eq_true,decide_eq_true_eq]at h;exact h.2.1
theorem Ey(T:Tx K mg C):Ok P w K mg base "put_file" ["room","name","data"] 3 (Ex C):=by
 refine T.d_put_file.ok vX (λvs H Q E h=>by obtain⟨_,_,_,_,_,_,_,_,_,e,_⟩:=h;rw[e];rfl) (λf cdv A outer s H vs Q E hr h=> ?_);obtain⟨F,R,df,da,st,vn,vd,n,d,rfl,ra,⟨an,rfl,han⟩,⟨ad,rfl,had⟩,f0,k⟩:=h;obtain⟨dR,hR⟩:=ra.dx
 refine⟨_,ae (aN (bR (bI (aB (cX T) hr (ab (pv 1) af)))) (ah (aq (aL (ab (aV T.g_NAME) af)))) aE)
  (ae (aN (aK iw (bp T.b_len (pv 2)) (aV T.g_MOST_FILE_BYTES) (aP _)) (ah (aq (aL (ab (aV T.g_LONG_refusals) af)))) aE)
  (ae (aF (i:=3) vX.nd rfl (Or.inl rfl) (bB T.b_tuple (pv 1)))
  (ae (aF (i:=4) vX.nd rfl (Or.inl rfl) (aB (vW T) hr (ab (pv 3) (ab (aD (pv 0) rfl) af))))
  (ae (aN (aK iw (bD fK (ni T.b_len (aD (pv 0) rfl)) (pv 4)) (aV T.g_MOST_FILES) (aP _)) (ah (aq (aL (ab (aV T.g_FULL) af)))) aE)
  (ae (kE (bT hr) (aD (pv 0) rfl) (pv 3) (og T.k_File (wO T) hr (ab (pv 2) (ab qW af))) rfl)
  (ah (aq (aL (ab (pv 4) af))))))))),?_⟩
 unfold Vabldi.putCall at k;refine⟨_,rfl,F,_,n,rfl,⟨an,rfl,han⟩,f0,λu F1 H1 e1 eu=> ?_⟩;subst eu;have ra1:=ra.keep e1;refine⟨_,rfl,bY (λhb=> ?_) (λhb=> ?_)⟩
 ·have hb:Vabldi.isName n=false:=by simpa using hb
  refine⟨aX _,λq hq=> ?_⟩;rw[if_pos hb]at k;have e2:=e1.newF (o:= .lst [.int (-1)]) hq;exact k _ _ _ e2.x (ra.keep e2) (cK aa)
 have hb:Vabldi.isName n=true:=by simpa using hb
 rw[if_neg (by rw[hb];decide)]at k;refine⟨_,rfl,ad,_,rfl,e1.hh _ _ (f0 _ _ had),_,_,rfl,rfl,_,rfl,?_⟩;rw[aM];refine bY (λhb2=> ?_) (λhb2=> ?_)
 ·have hb2:4096<d.length:=by have :=of_decide_eq_true hb2;omega
  refine⟨aX _,λq hq=> ?_⟩;rw[if_pos hb2]at k;have e2:=e1.newF (o:= .lst [.int (-2)]) hq;exact k _ _ _ e2.x (ra.keep e2) (cK aa)
 have hb2:¬4096<d.length:=by have :=of_decide_eq_false hb2;omega
 rw[if_neg hb2]at k;refine⟨_,rfl,an,_,rfl,e1.hh _ _ (f0 _ _ han),λq hq=> ?_⟩;have e2:=e1.newF (o:= .tup ((zs n).map V.int)) hq;have ra2:=ra.keep e2;obtain⟨kvs,hdf,hkl,hcase⟩:=ra2.file n;have hsz:=ra.gd.fl;refine⟨_,rfl,_,rfl,R,C.Room,dR,_,_,rfl,e2.hh _ _ (f0 _ _ hR),T.k_Room.cl,T.n_Room_files,rfl,q,df,n,kvs,rfl,aa,hdf,?_⟩;refine⟨_,rfl,R,C.Room,dR,_,_,rfl,e2.hh _ _ (f0 _ _ hR),T.k_Room.cl,T.n_Room_files,rfl,df,kvs,rfl,hdf,_,rfl,_,_,rfl,rfl,_,_,rfl,rfl,_,rfl,?_⟩
 have hnone:(cB kvs (nk n)).isSome=(Vabldi.fileOf st n).isSome:=by
  rcases hcase with⟨h1,h2⟩|⟨fl,v,h1,h2,_⟩
  ·rw[h1,h2];rfl
  ·rw[h1,h2];rfl
 rw[hnone]
 have hset:(Vabldi.setFile {name:=n,bytes:=d,maker:=none} st.files).length=st.files.length+(if(Vabldi.fileOf st n).isSome=true then 0 else 1):=by
  rw[(cf _ ra.gd.fo).length_eq,List.length_cons];have fl:=kh (nm:=λf:Vabldi.File=>f.name) (n:=n) (cz.nodup ra.gd.fo);have e:Vabldi.fileOf st n=st.files.find? λd=>d.name==n:=rfl
  cases q:(Vabldi.fileOf st n).isSome with
  |true=>
   rw[if_pos rfl];have :=fl.2 (by rw[<-e];exact q);exact this
  |false=>
   rw[if_neg (by decide)];have :=fl.1 (by rw[<-e];simpa using q);rw[this]
 refine bY (λhb3=> ?_) (λhb3=> ?_)
 ·refine⟨aX _,λq3 hq3=> ?_⟩;rw[if_pos]at k
  ·have e3:=e2.newF (o:= .lst [.int (-3)]) hq3;exact k _ _ _ e3.x (ra.keep e3) (cK aa)
  ·have hb3:=of_decide_eq_true hb3;cases q:Vabldi.fileOf st n with
   |none=>rw[q]at hb3;refine⟨rfl,?_⟩;simp at hb3;omega
   |some fl=>rw[q]at hb3;simp at hb3;omega
 have hb3:=of_decide_eq_false hb3
 have hneg:¬((Vabldi.fileOf st n).isNone=true/\64<=st.files.length):=by
  rintro ⟨h1,h2⟩
  have h1:Vabldi.fileOf st n=none:=by simpa using h1
  rw[h1]at hb3;simp at hb3;omega
 rw[if_neg hneg]at k;refine⟨_,rfl,λx dx nx nd ne=>⟨x,dx,_,rfl,rfl,aa,rfl,?_⟩⟩;have e3:=e2.newI (D:=C.File) (fs:=[("data",.ref ad),("made_by",.non)]) nx nd ne;have s3:=aI (o:= .ins C.File dx [("data",.ref ad),("made_by",.non)]) (e2.fh.free nx);have ra3:=ra.keep e3;have hdf3:=((e2.newI (D:=C.File) (fs:=[("data",.ref ad),("made_by",.non)]) nx nd ne).hh);obtain⟨kvs3,hdf3,hkl3,_⟩:=ra3.file n;refine⟨_,rfl,R,C.Room,dR,_,_,rfl,e3.hh _ _ (f0 _ _ hR),T.k_Room.cl,T.n_Room_files,rfl,_,rfl,df,_,rfl,rD.t (k:=nk n) hdf3 (by rw[bX];exact e3.fh _ _ (s3 _ _ aa)) ?_,?_⟩
 ·rw[hkl3];have :(64:Nat)<sizeLine:=by decide
  omega
 have ra4:=ra3.putF hdf3 (f:={name:=n,bytes:=d,maker:=none}) (v:= .ref x) ⟨x,dx,.ref ad,.non,rfl,aa,⟨ad,rfl,s3 _ _ (e2.ff _ _ had)⟩,rfl⟩ ⟨hb,by show d.length<=4096;omega,λm hm=>by cases hm⟩ (by
  rw[hset];cases q:(Vabldi.fileOf st n).isSome with
  |true=>rw[if_pos rfl];omega
  |false=>rw[q]at hb3;rw[if_neg (by decide)];simp at hb3;omega)
 have e4:bc [df,da] F H _ _:=e3.x.wr (o:= .dT (eX kvs3 (nk n) (.ref x))) (.inl (by simp)) ra3.ff;refine⟨_,rfl,aX _,λq5 hq5=> ?_⟩;have e5:=e4.newF (o:= .lst [.int (if(Vabldi.fileOf st n).isSome=true then 0 else 1)]) hq5;have ra5:=ra4.keep ((bo.refl e4.fh).newF (o:= .lst [.int (if(Vabldi.fileOf st n).isSome=true then 0 else 1)]) hq5);refine k _ _ _ e5 ra5 ?_;cases q:Vabldi.fileOf st n with
 |none=>exact cV (n:=1) (t:=[]) aa (by decide)
 |some fl=>exact cV (n:=0) (t:=[]) aa (by decide)
end
section
variable{P:Program}{w:World}{K:PySem.W.Frag}{mg:Str->Option Value}{base:Heap}{C:Cs}
theorem Ez:aC ["room","name"] ["room","name"] (ao fz):=⟨rfl,rfl,rfl,by decide+kernel,rfl,by decide+kernel,by decide+kernel⟩
def gv(s:Vabldi.State)(n:ai):Int:=if Vabldi.isName n=false then -1 else if(Vabldi.fileOf s n).isSome=false then -8 else 0
def EA(C:Cs):Sp:=λvs H Q _=>∃(F:Hp) (R df da:Addr) (s:Vabldi.State) (vn:V) (n:ai),vs=[.ref R,vn]/\aQ C F H R df da s/\dk F vn n/\aH F H/\Rt F H Q λ_ u=>u= .int (gv s n)
theorem vY(T:Tx K mg C):Ok P w K mg base "refusal_of_file" ["room","name"] 3 (EA C):=by
 refine T.d_refusal_of_file.ok Ez (λvs H Q E h=>by obtain⟨_,_,_,_,_,_,_,e,_⟩:=h;rw[e];rfl) (λf cdv A outer s H vs Q E hr h=> ?_);obtain⟨F,R,df,da,st,vn,n,rfl,ra,⟨an,rfl,han⟩,f0,k⟩:=h;obtain⟨dR,hR⟩:=ra.dx
 refine⟨_,ae (aN (bR (bI (aB (cX T) hr (ab (pv 1) af)))) (ah (aq (aV T.g_NAME))) aE)
  (ae (aN (fJ (jj (bT hr) (bB T.b_tuple (pv 1)) (aD (pv 0) rfl))) (ah (aq (aV T.g_ABSENT))) aE)
  (ah (aq aG))),?_⟩
 unfold gv at k;refine⟨_,rfl,F,_,n,rfl,⟨an,rfl,han⟩,f0,λu F1 H1 e1 eu=> ?_⟩;subst eu;refine⟨_,rfl,bY (λhb=> ?_) (λhb=> ?_)⟩
 ·have hb:Vabldi.isName n=false:=by simpa using hb
  rw[if_pos hb]at k;exact k _ _ _ e1 rfl
 have hb:Vabldi.isName n=true:=by simpa using hb
 rw[if_neg (by rw[hb];decide)]at k;refine⟨_,rfl,an,_,rfl,e1.hh _ _ (f0 _ _ han),λq hq=> ?_⟩;have e2:=e1.newF (o:= .tup ((zs n).map V.int)) hq;have ra2:=ra.keep e2;obtain⟨kvs,hdf,hkl,hcase⟩:=ra2.file n;have hget:=dj.t (k:=nk n) hdf (by rw[bX];exact aa (H:=H1) (a:=q) (o:= .tup ((zs n).map V.int)));refine⟨_,rfl,R,C.Room,dR,_,_,rfl,e2.hh _ _ (f0 _ _ hR),T.k_Room.cl,T.n_Room_files,rfl,df,_,rfl,hget,_,rfl,?_⟩;rcases hcase with⟨h1,h2⟩|⟨fl,v,h1,h2,_⟩
 ·rw[h2];rw[h1,if_pos (show(none:Option Vabldi.File).isSome=false from rfl)]at k;exact iq (k _ _ _ e2 rfl)
 ·rw[h2];rw[h1,if_neg (by simp)]at k;exact jw (k _ _ _ e2 rfl)
theorem Av:aC ["room","name","refusal"] ["room","name"] (ao oz):=⟨rfl,rfl,rfl,by decide+kernel,rfl,by decide+kernel,by decide+kernel⟩
theorem qF{s:Vabldi.State}{n:ai}{g:Vabldi.File->Vabldi.Answer}(h:gv s n≠0):Vabldi.onFile s n g=Vabldi.no (gv s n):=by
 unfold gv at h⊢;unfold Vabldi.onFile;by_cases h1:Vabldi.isName n=false
 ·rw[if_pos h1,if_pos h1];rfl
 ·rw[if_neg h1]at h;rw[if_neg h1,if_neg h1];cases q:Vabldi.fileOf s n with
  |none=>rfl
  |some f=>rw[q]at h;simp at h
theorem sf{s:Vabldi.State}{n:ai}(h:gv s n=0):Vabldi.isName n=true/\∃f,Vabldi.fileOf s n=some f:=by
 unfold gv at h;by_cases h1:Vabldi.isName n=false
 ·rw[if_pos h1]at h;cases h
 ·rw[if_neg h1]at h;cases q:Vabldi.fileOf s n with
  |none=>rw[q]at h;simp at h
  |some f=>exact⟨by simpa using h1,f,rfl⟩
theorem oY{s:Vabldi.State}{n:ai}{g:Vabldi.File->Vabldi.Answer}{f:Vabldi.File}(h1:Vabldi.isName n=true)(h2:Vabldi.fileOf s n=some f):Vabldi.onFile s n g=g f:=by
 unfold Vabldi.onFile;rw[if_neg (by rw[h1];decide),h2]
theorem EB(T:Tx K mg C):Ok P w K mg base "get_file" ["room","name"] 4 (dG C λs n=>(s,Vabldi.onFile s n λf=>Vabldi.said f.bytes)):=by
 refine T.d_get_file.ok Av (λvs H Q E h=>bZ h) (λf cdv A outer s H vs Q E hr h=> ?_);obtain⟨F,R,df,da,st,vn,n,rfl,ra,⟨an,rfl,han⟩,f0,k⟩:=h;obtain⟨dR,hR⟩:=ra.dx;dsimp only at k
 refine⟨_,ae (aF (i:=2) Av.nd rfl (Or.inl rfl) (aB (vY T) hr (ab (pv 0) (ab (pv 1) af))))
  (ae (aN (aK dI (pv 2) aG (aP _)) (ah (aq (aL (ab (pv 2) af)))) aE)
  (ah (aq (bD cC (aL (ab aG af)) (aD (cv (bT hr) (aD (pv 0) rfl) (bB T.b_tuple (pv 1)) (λ_ _=>rfl)) rfl))))),?_⟩
 refine⟨_,rfl,_,rfl,F,R,df,da,st,_,n,rfl,ra,⟨an,rfl,han⟩,f0,λu F1 H1 e1 eu=> ?_⟩;subst eu;refine⟨_,rfl,rfl,_,rfl,bY (λhb=> ?_) (λhb=> ?_)⟩
 ·have hb:gv st n≠0:=by intro q;rw[q]at hb;simp at hb
  rw[qF hb]at k;refine⟨_,rfl,aX _,λq hq=> ?_⟩;have e2:=e1.newF (o:= .lst [.int (gv st n)]) hq;exact k _ _ _ e2.x (ra.keep e2) (cK aa)
 have hb:gv st n=0:=by
  have :V.int (gv st n)=V.int 0:=by simpa using hb
  injection this
 obtain⟨h1,fl,h2⟩:=sf hb;rw[oY h1 h2]at k;refine⟨aX _,λq hq=> ?_⟩;have e2:=e1.new (o:= .lst [.int 0]) hq;refine⟨_,rfl,R,C.Room,dR,_,_,rfl,e2.hh _ _ (f0 _ _ hR),T.k_Room.cl,T.n_Room_files,rfl,_,rfl,an,_,rfl,e2.hh _ _ (f0 _ _ han),λq3 hq3=> ?_⟩;have e3:=e2.new (o:= .tup ((zs n).map V.int)) hq3;have ra3:=ra.keep e3;obtain⟨kvs,hdf,hkl,hcase⟩:=ra3.file n;rcases hcase with⟨h3,_⟩|⟨fl',v,h3,h4,hv,gf,_⟩
 ·rw[h2]at h3;cases h3
 rw[h2]at h3;cases h3;obtain⟨a,dx,vd,vm,rfl,ha,⟨ad,rfl,had⟩,hm⟩:=hv;have hget:=dj.t (k:=nk n) hdf (by rw[bX];exact aa (a:=q3) (o:= .tup ((zs n).map V.int)));rw[h4]at hget;have neq:q≠q3:=az aa hq3;have gb:=gf.2.1;refine⟨df,_,rfl,hget,a,C.File,dx,_,_,rfl,e3.fh _ _ ha,T.k_File.cl,T.n_File_data,rfl,q,ad,_,_,rfl,rfl,by rw[aj neq,aa],e3.fh _ _ had,?_,λq4 hq4=> ?_⟩
 ·rw[aM];have :(5000:Nat)<sizeLine:=by decide
  simp only[List.length_singleton];omega
 have e4:=e3.newF (o:= .lst ([.int 0]++(zs fl.bytes).map V.int)) hq4;exact k _ _ _ e4.x (ra.keep e4) (oX aa (by omega))
theorem oZ:aC ["room","name","refusal","made_by"] ["room","name"] (ao oA):=⟨rfl,rfl,rfl,by decide+kernel,rfl,by decide+kernel,by decide+kernel⟩
theorem Aw(T:Tx K mg C):Ok P w K mg base "maker_of" ["room","name"] 4 (dG C λs n=>(s,Vabldi.onFile s n λf=>(match f.maker with
  |some a=>Vabldi.said a
  |none=>Vabldi.num 1 []))):=by
 refine T.d_maker_of.ok oZ (λvs H Q E h=>bZ h) (λf cdv A outer s H vs Q E hr h=> ?_);obtain⟨F,R,df,da,st,vn,n,rfl,ra,⟨an,rfl,han⟩,f0,k⟩:=h;obtain⟨dR,hR⟩:=ra.dx;dsimp only at k
 refine⟨_,ae (aF (i:=2) oZ.nd rfl (Or.inl rfl) (aB (vY T) hr (ab (pv 0) (ab (pv 1) af))))
  (ae (aN (aK dI (pv 2) aG (aP _)) (ah (aq (aL (ab (pv 2) af)))) aE)
  (ae (aF (i:=3) oZ.nd rfl (Or.inl rfl) (aD (cv (bT hr) (aD (pv 0) rfl) (bB T.b_tuple (pv 1)) (λ_ _=>rfl)) rfl))
  (ae (aN (fJ (lE (pv 3))) (ah (aq (aL (ab aG af)))) aE)
  (ah (aq (bD cC (aL (ab aG af)) (nh T.b_list (pv 3)))))))),?_⟩
 refine⟨_,rfl,_,rfl,F,R,df,da,st,_,n,rfl,ra,⟨an,rfl,han⟩,f0,λu F1 H1 e1 eu=> ?_⟩;subst eu;refine⟨_,rfl,rfl,_,rfl,bY (λhb=> ?_) (λhb=> ?_)⟩
 ·have hb:gv st n≠0:=by intro q;rw[q]at hb;simp at hb
  rw[qF hb]at k;refine⟨_,rfl,aX _,λq hq=> ?_⟩;have e2:=e1.newF (o:= .lst [.int (gv st n)]) hq;exact k _ _ _ e2.x (ra.keep e2) (cK aa)
 have hb:gv st n=0:=by
  have :V.int (gv st n)=V.int 0:=by simpa using hb
  injection this
 obtain⟨h1,fl,h2⟩:=sf hb;rw[oY h1 h2]at k;refine⟨_,rfl,R,C.Room,dR,_,_,rfl,e1.hh _ _ (f0 _ _ hR),T.k_Room.cl,T.n_Room_files,rfl,_,rfl,an,_,rfl,e1.hh _ _ (f0 _ _ han),λq3 hq3=> ?_⟩;have e3:=e1.new (o:= .tup ((zs n).map V.int)) hq3;have ra3:=ra.keep e3;obtain⟨kvs,hdf,hkl,hcase⟩:=ra3.file n;rcases hcase with⟨h3,_⟩|⟨fl',v,h3,h4,hv,gf,_⟩
 ·rw[h2]at h3;cases h3
 rw[h2]at h3;cases h3;obtain⟨a,dx,vd,vm,rfl,ha,hd,hm⟩:=hv;have hget:=dj.t (k:=nk n) hdf (by rw[bX];exact aa (a:=q3) (o:= .tup ((zs n).map V.int)));rw[h4]at hget;refine⟨df,_,rfl,hget,a,C.File,dx,_,_,rfl,e3.fh _ _ ha,T.k_File.cl,T.n_File_made_by,rfl,_,rfl,_,rfl,?_⟩;cases q:fl.maker with
 |none=>
  rw[q]at hm k;have hm:vm= .non:=hm;subst hm;refine iq ⟨aX _,λq4 hq4=> ?_⟩;have e4:=e3.newF (o:= .lst [.int 1]) hq4;exact k _ _ _ e4.x (ra.keep e4) (cV (n:=1) (t:=[]) aa (by decide))
 |some m=>
  rw[q]at hm k;obtain⟨am,rfl,ham⟩:=hm;have ml:=Au (gf.2.2 m q);refine jw ⟨aX _,λq4 hq4=> ?_⟩;have e4:=e3.new (o:= .lst [.int 0]) hq4;refine⟨_,rfl,am,_,rfl,.inr (e4.fh _ _ ham),λq5 hq5=> ?_⟩;have e5:=e4.new (o:= .lst ((zs m).map V.int)) hq5;have neq:q4≠q5:=az aa hq5;refine⟨q4,q5,_,_,rfl,rfl,by rw[aj neq,aa],aa,?_,λq6 hq6=> ?_⟩
  ·rw[aM];have :(5000:Nat)<sizeLine:=by decide
   simp only[List.length_singleton];omega
  have e6:=e5.newF (o:= .lst ([.int 0]++(zs m).map V.int)) hq6;exact k _ _ _ e6.x (ra.keep e6) (oX aa (by omega))
theorem qG:aC ["room","name","refusal"] ["room","name"] (ao jF):=⟨rfl,rfl,rfl,by decide+kernel,rfl,by decide+kernel,by decide+kernel⟩
theorem yu(T:Tx K mg C):Ok P w K mg base "forget_file" ["room","name"] 4 (dG C λs n=>Vabldi.step s (.forget n)):=by
 refine T.d_forget_file.ok qG (λvs H Q E h=>bZ h) (λf cdv A outer s H vs Q E hr h=> ?_);obtain⟨F,R,df,da,st,vn,n,rfl,ra,⟨an,rfl,han⟩,f0,k⟩:=h;obtain⟨dR,hR⟩:=ra.dx;have ek:Vabldi.step st (.forget n)=if Vabldi.isName n=false then(st,Vabldi.no Vabldi.NAME)else if(Vabldi.fileOf st n).isNone=true then(st,Vabldi.no Vabldi.ABSENT)else({st with files:=st.files.filter λf=>f.name !=n},Vabldi.num 0 []):=rfl
 dsimp only at k;rw[ek]at k
 refine⟨_,ae (aF (i:=2) qG.nd rfl (Or.inl rfl) (aB (vY T) hr (ab (pv 0) (ab (pv 1) af))))
  (ae (aN (aK dI (pv 2) aG (aP _)) (ah (aq (aL (ab (pv 2) af)))) aE)
  (ae (ko (zN (bT hr) (aD (pv 0) rfl) (bB T.b_tuple (pv 1)) ⟨rfl,rfl,rfl,rfl⟩))
  (ah (aq (aL (ab aG af)))))),?_⟩
 refine⟨_,rfl,_,rfl,F,R,df,da,st,_,n,rfl,ra,⟨an,rfl,han⟩,f0,λu F1 H1 e1 eu=> ?_⟩;subst eu;refine⟨_,rfl,rfl,_,rfl,bY (λhb=> ?_) (λhb=> ?_)⟩
 ·have hb:gv st n≠0:=by intro q;rw[q]at hb;simp at hb
  refine⟨_,rfl,aX _,λq hq=> ?_⟩;have e2:=e1.newF (o:= .lst [.int (gv st n)]) hq;unfold gv at hb e2⊢;by_cases c1:Vabldi.isName n=false
  ·rw[if_pos c1]at k;rw[if_pos c1]at e2⊢;exact k _ _ _ e2.x (ra.keep e2) (cK aa)
  ·rw[if_neg c1]at k hb e2⊢;cases q:Vabldi.fileOf st n with
   |none=>
    rw[q]at k e2;exact k _ _ _ e2.x (ra.keep e2) (cK aa)
   |some fl=>rw[q]at hb;simp at hb
 have hb:gv st n=0:=by
  have :V.int (gv st n)=V.int 0:=by simpa using hb
  injection this
 obtain⟨h1,fl,h2⟩:=sf hb;rw[if_neg (by rw[h1];decide),h2,if_neg (by simp)]at k;have ra1:=ra.keep e1;obtain⟨kvs1,hdf1,_,_⟩:=ra1.file n;refine⟨_,rfl,R,C.Room,dR,_,_,rfl,e1.hh _ _ (f0 _ _ hR),T.k_Room.cl,T.n_Room_files,rfl,df,rfl,.inr ⟨kvs1,.inl hdf1⟩,_,rfl,an,_,rfl,e1.hh _ _ (f0 _ _ han),λq3 hq3=> ?_⟩;have e3:=e1.new (o:= .tup ((zs n).map V.int)) hq3;have ra3:=ra.keep e3;obtain⟨kvs,hdf,hkl,hcase⟩:=ra3.file n;rcases hcase with⟨h3,_⟩|⟨fl',v,h3,h4,hv,gf,_⟩
 ·rw[h2]at h3;cases h3
 refine⟨kvs,nk n,q3,v,hdf,rfl,by rw[bX,aa],h4,?_⟩;have ra4:=ra3.dropF hdf n;have e4:bc [df,da] F H F1 _:=e3.x.wr (o:= .dT (kD kvs (nk n))) (.inl (by simp)) ra3.ff;refine⟨aX _,λq5 hq5=> ?_⟩;have e5:=e4.newF (o:= .lst [.int 0]) hq5;have ra5:=ra4.keep ((bo.refl e4.fh).newF (o:= .lst [.int 0]) hq5);exact k _ _ _ e5 ra5 (cV (n:=0) (t:=[]) aa (by decide))
end
open Vabldi (Input)
def cO(s:Vabldi.State)(a:Vabldi.Action):Bool:=a.inputs.all λi=>(Vabldi.fileOf s i).isSome
def jx(s:Vabldi.State)(n:ai):Int:=if Vabldi.isName n=false then -1 else match Vabldi.actionOf s n with
 |none=> -8
 |some a=>if cO s a=false then -9 else 0
theorem lz{s:Vabldi.State}{n:ai}(h:jx s n=0):Vabldi.isName n=true/\∃a,Vabldi.actionOf s n=some a/\cO s a=true:=by
 unfold jx at h;by_cases h1:Vabldi.isName n=false
 ·rw[if_pos h1]at h;cases h
 ·rw[if_neg h1]at h;cases q:Vabldi.actionOf s n with
  |none=>rw[q]at h;cases h
  |some a=>
   rw[q]at h;dsimp only at h;by_cases h2:cO s a=false
   ·rw[if_pos h2]at h;cases h
   ·exact⟨by simpa using h1,a,rfl,by simpa using h2⟩
theorem fF{s:Vabldi.State}{n:ai}{g:Vabldi.Action->Vabldi.Answer}(h:jx s n≠0):Vabldi.onAction s n g=Vabldi.no (jx s n):=by
 unfold jx at h⊢;unfold Vabldi.onAction;by_cases h1:Vabldi.isName n=false
 ·rw[if_pos h1,if_pos h1];rfl
 ·rw[if_neg h1]at h;rw[if_neg h1,if_neg h1];cases q:Vabldi.actionOf s n with
  |none=>rfl
  |some a=>
   rw[q]at h;dsimp only at h⊢;by_cases h2:cO s a=false
   ·rw[if_pos h2];unfold cO at h2;rw[if_pos h2];rfl
   ·rw[if_neg h2]at h;exact absurd rfl h
theorem eA{s:Vabldi.State}{n:ai}{g:Vabldi.Action->Vabldi.Answer}{a:Vabldi.Action}(h1:Vabldi.isName n=true)(h2:Vabldi.actionOf s n=some a)(h3:cO s a=true):Vabldi.onAction s n g=g a:=by
 unfold Vabldi.onAction;rw[if_neg (by rw[h1];decide),h2];dsimp only;unfold cO at h3;rw[if_neg (by rw[h3];decide)]
theorem vZ{s:Vabldi.State}{n:ai}(h:jx s n≠0):Vabldi.runCall s n=(s,Vabldi.no (jx s n)):=by
 unfold jx at h⊢;unfold Vabldi.runCall;by_cases h1:Vabldi.isName n=false
 ·rw[if_pos h1,if_pos h1];rfl
 ·rw[if_neg h1]at h;rw[if_neg h1,if_neg h1];cases q:Vabldi.actionOf s n with
  |none=>rfl
  |some a=>
   rw[q]at h;dsimp only at h⊢;by_cases h2:cO s a=false
   ·rw[if_pos h2];unfold cO at h2;rw[if_pos h2];rfl
   ·rw[if_neg h2]at h;exact absurd rfl h
theorem t5{s:Vabldi.State}{n:ai}{a:Vabldi.Action}(h1:Vabldi.isName n=true)(h2:Vabldi.actionOf s n=some a)(h3:cO s a=true):Vabldi.runCall s n=Vabldi.runAction s a:=by
 unfold Vabldi.runCall;rw[if_neg (by rw[h1];decide),h2];dsimp only;unfold cO at h3;rw[if_neg (by rw[h3];decide)]
def cA(s:Vabldi.State)(n:ai):ai:=((Vabldi.fileOf s n).map λf=>f.bytes).getD []
def o3(s:Vabldi.State)(a:Vabldi.Action):List ai:=a.inputs.map (cA s)
theorem jr{s:Vabldi.State}{a:Vabldi.Action}(h:cO s a=true):Vabldi.inputsOf s a=dP a (o3 s a):=by
 unfold cO at h;unfold Vabldi.inputsOf dP o3
 have g:∀l:List ai,(l.all λi=>(Vabldi.fileOf s i).isSome)=true->(l.filterMap λn=>(Vabldi.fileOf s n).map λf=>({name:=n,bytes:=f.bytes}:Input))=(l.zip (l.map (cA s))).map λx=>{name:=x.1,bytes:=x.2}:=by
  intro l;induction l with
  |nil=>intro _;rfl
  |cons n r ih=>
   intro h;rw[List.all_cons,Bool.and_eq_true]at h;rw[List.map_cons,List.zip_cons_cons,List.map_cons,<-ih h.2];cases q:Vabldi.fileOf s n with
   |none=>rw[q]at h;simp at h
   |some f=>
    rw[List.filterMap_cons,q];unfold cA;rw[q];rfl
 exact g a.inputs h
theorem nB{X:Cx}{e:Expr}{f:Str}{pos:Pos}{ta:TE}(K:PySem.W.Frag)(he:PE X e ta)(hb:attributeBase e f X.env (eval e X.env)=eval e X.env:=by rfl)(hK:X.K=K:=by rfl):PE X (.Attribute e f pos) (zc K ta f):=by
 subst hK;exact aD he hb
section
variable{P:Program}{w:World}{K:PySem.W.Frag}{mg:Str->Option Value}{base:Heap}{C:Cs}
abbrev C8:List Str:=["room","name","key","given"]
theorem sg:aC C8 ["room","name"] (ao dC):=⟨rfl,rfl,rfl,by decide+kernel,rfl,by decide+kernel,by decide+kernel⟩
def EC(C:Cs):Sp:=λvs H Q _=>∃(F:Hp) (R df da:Addr) (s:Vabldi.State) (vn:V) (n:ai),vs=[.ref R,vn]/\aQ C F H R df da s/\dk F vn n/\aH F H/\Rt F H Q λ_ u=>u= .int (jx s n)
theorem o4(T:Tx K mg C):Ok P w K mg base "refusal_of_run" ["room","name"] 3 (EC C):=by
 refine T.d_refusal_of_run.ok sg (λvs H Q E h=>by obtain⟨_,_,_,_,_,_,_,e,_⟩:=h;rw[e];rfl) (λf cdv A outer s H vs Q E hr h=> ?_);obtain⟨F,R,df,da,st,vn,n,rfl,ra,⟨an,rfl,han⟩,f0,k⟩:=h;obtain⟨dR,hR⟩:=ra.dx
 refine⟨_,ae (aN (bR (bI (aB (cX T) hr (ab (pv 1) af)))) (ah (aq (aV T.g_NAME))) aE)
  (ae (aF (i:=2) sg.nd rfl (Or.inl rfl) (bB T.b_tuple (pv 1)))
  (ae (aN (fJ (jj (bT hr) (pv 2) (aD (pv 0) rfl))) (ah (aq (aV T.g_ABSENT))) aE)
  (ae (aN (bR (bI (rH rfl T.b_all (fj rfl sg.nd (bj (aD (cv (bT hr) (aD (pv 0) rfl) (pv 2) (λ_ _=>rfl)) rfl)) (blk (own:=[("given",3)]) C8 (ao dC) rfl rfl (by decide+kernel)) (λ_ _ _ _ _=>aS (i:=3) sg.nd rfl (Or.inl rfl)) (λ_ _ _ _ _=>b4)
   (λ_ _ _ _ _=>uL (uZ (bT hr) (pv 3) (nB K (pv 0)))))))) (ah (aq (aV T.g_LACKS))) aE)
  (ah (aq aG))))),?_⟩
 unfold jx at k;refine⟨_,rfl,F,_,n,rfl,⟨an,rfl,han⟩,f0,λu F1 H1 e1 eu=> ?_⟩;subst eu;refine⟨_,rfl,bY (λhb=> ?_) (λhb=> ?_)⟩
 ·have hb:Vabldi.isName n=false:=by simpa using hb
  rw[if_pos hb]at k;exact k _ _ _ e1 rfl
 have hb:Vabldi.isName n=true:=by simpa using hb
 rw[if_neg (by rw[hb];decide)]at k;refine⟨_,rfl,an,_,rfl,e1.hh _ _ (f0 _ _ han),λq hq=> ?_⟩;have e2:=e1.newF (o:= .tup ((zs n).map V.int)) hq;have ra2:=ra.keep e2;obtain⟨kvs,hda,hkl,hcase⟩:=ra2.act n;have hget:=dj.t (k:=nk n) hda (by rw[bX];exact aa (H:=H1) (a:=q) (o:= .tup ((zs n).map V.int)));have hRR:=e2.hh _ _ (f0 _ _ hR);refine⟨_,rfl,_,rfl,R,C.Room,dR,_,_,rfl,hRR,T.k_Room.cl,T.n_Room_actions,rfl,da,_,rfl,hget,_,rfl,?_⟩;rcases hcase with⟨h1,h2⟩|⟨ac,v,h1,h2,hv,ga,_⟩
 ·rw[h2];rw[h1]at k;exact iq (k _ _ _ e2 rfl)
 rw[h2]at hget⊢;rw[h1]at k;refine jw ?_;obtain⟨p,dx,wa,wi,wo,rfl,hp,ha,⟨li,is,rfl,hli,hpi⟩,ho⟩:=hv;refine⟨_,rfl,R,C.Room,dR,_,_,rfl,hRR,T.k_Room.cl,T.n_Room_actions,rfl,_,rfl,da,_,rfl,hget,p,C.Action,dx,_,_,rfl,e2.fh _ _ hp,T.k_Action.cl,T.n_Action_inputs,rfl,li,rfl,⟨_,aZ.of (e2.fh _ _ hli)⟩,λD hD=> ?_⟩;refine bV (ds:=ac.inputs) (gI (aJ F1 q (.tup ((zs n).map V.int)))) (λ_ v b=>v=V.bl b) (λt=>some (Vabldi.fileOf st t).isSome) (λ_ _ _ _ _ h=>h) e2 hD (aZ.of hli) hpi (by have :=ga.il;omega) ?_ ?_
 ·rintro x t F2 H2 Y N ⟨at',rfl,hat⟩ ht e3 s3 hY hN
  have ra3:=ra.keep e3;obtain⟨kf,hdf,_,hc⟩:=ra3.file t;refine⟨rfl,_,rfl,_,rfl,R,C.Room,dR,_,_,rfl,e3.hh _ _ (f0 _ _ hR),T.k_Room.cl,T.n_Room_files,rfl,df,_,rfl,dj.t (k:=nk t) hdf (by rw[bX];exact e3.fh _ _ (s3 _ _ hat)),?_⟩;refine hY _ F2 H2 _ rfl (bo.refl e3.fh) ?_;rcases hc with⟨c1,c2⟩|⟨fl,v,c1,c2,_⟩
  ·rw[c1,c2];rfl
  ·rw[c1,c2];rfl
 ·rintro F2 H2 ys e3 s3 hAc fD pz
  rw[cQ pz]at hAc;refine⟨D,_,rfl,hAc,_,rfl,?_⟩;rw[List.all_map];have e:(ac.inputs.all (id∘λt=>(Vabldi.fileOf st t).isSome))=cO st ac:=rfl;rw[e];refine bY (λhb2=> ?_) (λhb2=> ?_)
  ·have hb2:cO st ac=false:=by simpa using hb2
   refine k _ _ _ e3 ?_;dsimp only;rw[if_pos hb2]
  ·have hb2:cO st ac=true:=by simpa using hb2
   refine k _ _ _ e3 ?_;dsimp only;rw[if_neg (by rw[hb2];decide)]
abbrev FY:List Str:=["room","action","name"]
theorem Ax:aC FY ["room","action"] (ao gN):=⟨rfl,rfl,rfl,by decide+kernel,rfl,by decide+kernel,by decide+kernel⟩
def FZ(C:Cs):Sp:=λvs H Q _=>∃(F:Hp) (R df da:Addr) (s:Vabldi.State) (va:V) (a:Vabldi.Action),vs=[.ref R,va]/\aQ C F H R df da s/\lV C F va a/\eQ a/\cO s a=true/\aH F H/\Rt F H Q λF1 u=>lg C F1 u (Vabldi.outcomeOf s a) (Vabldi.readsOf s a)
theorem wZ(T:Tx K mg C):Ok P w K mg base "outcome_in" ["room","action"] 8 (FZ C):=by
 refine T.d_outcome_in.ok Ax (λvs H Q E h=>by obtain⟨_,_,_,_,_,_,_,e,_⟩:=h;rw[e];rfl) (λf cdv A outer s H vs Q E hr h=> ?_);obtain⟨F,R,df,da,st,va,ac,rfl,ra,hA,ga,hall,f0,k⟩:=h;obtain⟨dR,hR⟩:=ra.dx;have hA':=hA;obtain⟨p,dx,wa,wi,wo,rfl,hp,ha,⟨li,is,rfl,hli,hpi⟩,ho⟩:=hA'
 refine⟨_,ah (aq (aB (Cq T) hr (ab (pv 1) (ab (fj rfl Ax.nd (bj (aD (pv 1) rfl)) (blk (own:=[("name",2)]) FY (ao gN) rfl rfl (by decide+kernel)) (λ_ _ _ _ _=>aS (i:=2) Ax.nd rfl (Or.inl rfl)) (λ_ _ _ _ _=>b4)
   (λ_ _ _ _ _=>nB K (cv (bT hr) (nB K (pv 0)) (pv 2) (λ_ _=>rfl)))) af)))),?_⟩
 refine⟨_,rfl,_,rfl,p,C.Action,dx,_,_,rfl,f0 _ _ hp,T.k_Action.cl,T.n_Action_inputs,rfl,li,rfl,⟨_,aZ.of (f0 _ _ hli)⟩,λD hD=> ?_⟩;have hall':=hall;unfold cO at hall';rw[List.all_eq_true]at hall';refine bV (ds:=ac.inputs) (gI F) (λF v b=>dk F v b) (λt=>some (cA st t)) (λF F' v b e h=>h.mono e) (bo.refl f0) hD (aZ.of hli) hpi (by have :=ga.il;omega) ?_ ?_
 ·rintro x t F2 H2 Y N ⟨at',rfl,hat⟩ ht e3 s3 hY hN
  have ra3:=ra.keep e3;obtain⟨kf,hdf,_,hc⟩:=ra3.file t;rcases hc with⟨c1,c2⟩|⟨fl,v,c1,c2,⟨a,dxf,vd,vm,rfl,haf,hd,hm⟩,_⟩
  ·have :=hall' t ht;rw[c1]at this;cases this
  have hget:=dj.t (k:=nk t) hdf (by rw[bX];exact e3.fh _ _ (s3 _ _ hat));rw[c2]at hget;refine⟨rfl,_,rfl,R,C.Room,dR,_,_,rfl,e3.hh _ _ (f0 _ _ hR),T.k_Room.cl,T.n_Room_files,rfl,_,rfl,df,_,rfl,hget,a,C.File,dxf,_,_,rfl,e3.fh _ _ haf,T.k_File.cl,T.n_File_data,rfl,hY _ F2 H2 _ rfl (bo.refl e3.fh) ?_⟩;unfold cA;rw[c1];exact hd
 ·rintro F2 H2 ys e3 s3 hAc fD pz
  have pz:Paired (dk F2) ys (o3 st ac):=by
   rw[List.filterMap_eq_map']at pz;exact pz
  have e4:=e3.frz hD hAc fD;refine⟨_,_,_,ac,o3 st ac,rfl,hA.mono (s3.trans (aI fD)),⟨D,ys,rfl,aa,Paired.mapP pz λv d r=>r.mono (aI fD)⟩,ga,by unfold o3;rw[List.length_map],λd hd=> ?_,trivial,e4.fh,λu F5 H5 e5 hu=>k _ _ _ (e4.trans e5) ?_⟩
  ·unfold o3 at hd;obtain⟨t,ht,rfl⟩:=List.mem_map.mp hd;unfold cA;cases q:Vabldi.fileOf st t with
   |none=>exact Nat.zero_le _
   |some fl=>exact(ra.gd.fg fl (List.mem_of_find?_eq_some q)).2.1
  ·unfold Vabldi.outcomeOf Vabldi.readsOf;rw[jr hall];exact hu
theorem Ga:aC ["outcome"] ["outcome"] (ao gg):=⟨rfl,rfl,rfl,by decide+kernel,rfl,by decide+kernel,by decide+kernel⟩
def Gb(C:Cs):Sp:=λvs H Q _=>∃(F:Hp) (v:V) (e:Vabldi.Failure) (rd:List ai),vs=[v]/\lg C F v (.error e) rd/\e.name.length<=32/\aH F H/\Rt F H Q λF1 u=>pK F1 u (Vabldi.failureAnswer e)
theorem C9(T:Tx K mg C):Ok P w K mg base "failure_answer" ["outcome"] 1 (Gb C):=by
 refine T.d_failure_answer.ok Ga (λvs H Q E h=>by obtain⟨_,_,_,_,e,_⟩:=h;rw[e];rfl) (λf cdv A outer s H vs Q E hr h=> ?_);obtain⟨F,v,e,rd,rfl,⟨p,dx,vu,vo,vr,rfl,hp,⟨au,rfl,hau⟩,ho,hvr⟩,hel,f0,k⟩:=h;refine⟨_,ah (aq (bD cC (aL (ab aG (ab (aD (pv 0) rfl) af))) (nh T.b_list (aD (pv 0) rfl)))),?_⟩;refine⟨_,rfl,p,C.Outcome,dx,_,_,rfl,f0 _ _ hp,T.k_Outcome.cl,T.n_Outcome_code,rfl,r6 _ _,λq hq=> ?_⟩;have e1:=(bo.refl f0).new (o:= .lst [.int 1,.int (tT (.error e))]) hq;refine⟨_,rfl,p,C.Outcome,dx,_,_,rfl,e1.hh _ _ (f0 _ _ hp),T.k_Outcome.cl,T.n_Outcome_undeclared,rfl,au,_,rfl,.inr (e1.hh _ _ (f0 _ _ hau)),λq2 hq2=> ?_⟩;have e2:=e1.new (o:= .lst ((zs (wN (.error e))).map V.int)) hq2;have ne:q≠q2:=az aa hq2;have hl:(wN (.error e)).length<=32:=hel;refine⟨q,q2,_,_,rfl,rfl,by rw[aj ne,aa],aa,?_,λq3 hq3=> ?_⟩
 ·rw[aM];have :(5000:Nat)<sizeLine:=by decide
  simp only[List.length_cons,List.length_nil];omega
 have e3:=e2.newF (o:= .lst ([.int 1,.int (tT (.error e))]++(zs (wN (.error e))).map V.int)) hq3;refine k _ _ _ e3 (cV (n:=1) (t:=e.code::e.name) aa ?_);rw[List.length_cons];omega
end
def Bc(kn:ai)(x:ai×ai):Vabldi.File:={name:=x.1,bytes:=x.2,maker:=some kn}
def cM(kn:ai)(zs:List (ai×ai))(fs:List Vabldi.File):List Vabldi.File:=zs.foldl (λfs x=>Vabldi.setFile (Bc kn x) fs) fs
theorem o5(kn:ai)(l:List (ai×ai))(x:ai×ai)(fs:List Vabldi.File):cM kn (l++[x]) fs=Vabldi.setFile (Bc kn x) (cM kn l fs):=by
 unfold cM;rw[List.foldl_append];rfl
theorem mO{f:Vabldi.File}{fs:List Vabldi.File}(h:cz fs):(Vabldi.setFile f fs).length=fs.length+(if(fs.find? λd=>d.name==f.name).isSome=true then 0 else 1):=by
 rw[(cf f h).length_eq,List.length_cons];have fl:=kh (nm:=λf:Vabldi.File=>f.name) (n:=f.name) (cz.nodup h);cases q:(fs.find? λd=>d.name==f.name).isSome with
 |true=>rw[if_pos rfl];exact fl.2 q
 |false=>
  rw[if_neg (by decide),fl.1 (by simpa using q)]
theorem t6{fs:List Vabldi.File}{n m:ai}(h:n≠m):((fs.filter λg=>g.name !=m).find? λd=>d.name==n)=fs.find? λd=>d.name==n:=by
 induction fs with
 |nil=>rfl
 |cons g r ih=>
  rw[List.filter_cons,List.find?_cons];by_cases e:g.name=m
  ·rw[if_neg (by simp[e]),ih,show(g.name==n)=false by simpa [e]using λq=>h q.symm]
  ·rw[if_pos (by simpa using e),List.find?_cons,ih]
theorem lA{f:Vabldi.File}{fs:List Vabldi.File}{n:ai}(h:cz fs)(hn:n≠f.name):((Vabldi.setFile f fs).find? λd=>d.name==n)=fs.find? λd=>d.name==n:=by
 rw[qB (nm:=λd:Vabldi.File=>d.name) (cf f h) (cz.nodup (cg f h)) n,List.find?_cons,show(f.name==n)=false by simpa using λq=>hn q.symm];exact t6 hn
theorem o6{kn:ai}:∀(l:List (ai×ai)) {fs:List Vabldi.File},cz fs->cz (cM kn l fs)
 |[],_,h=>h
 |x::r,_,h=>o6 r (cg _ h)
theorem o7{kn:ai}{n:ai}:∀(l:List (ai×ai)) {fs:List Vabldi.File},cz fs->n∉l.map (·.1)->((cM kn l fs).find? λd=>d.name==n)=fs.find? λd=>d.name==n
 |[],_,_,_=>rfl
 |x::r,fs,h,hn=>by
  rw[List.map_cons,List.mem_cons,not_or]at hn;show((cM kn r (Vabldi.setFile (Bc kn x) fs)).find? _)=_;rw[o7 r (cg _ h) hn.2,lA h hn.1]
theorem qH{kn:ai}:∀(l:List (ai×ai)) {fs:List Vabldi.File},cz fs->(l.map (·.1)).Nodup->(cM kn l fs).length=fs.length+(l.filter λx=>(fs.find? λd=>d.name==x.1).isNone).length
 |[],_,_,_=>by simp[cM]
 |x::r,fs,h,hn=>by
  rw[List.map_cons,List.nodup_cons]at hn;show(cM kn r (Vabldi.setFile (Bc kn x) fs)).length=_;rw[qH r (cg _ h) hn.2,mO h,List.filter_cons]
  have e:(r.filter λy=>((Vabldi.setFile (Bc kn x) fs).find? λd=>d.name==y.1).isNone)=r.filter λy=>(fs.find? λd=>d.name==y.1).isNone:=by
   refine List.filter_congr λy hy=> ?_
   rw[lA h (show y.1≠x.1 from λq=>hn.1 (by rw[<-q];exact List.mem_map.mpr ⟨y,hy,rfl⟩))]
  rw[e];have e2:(Bc kn x).name=x.1:=rfl;rw[e2];cases q:fs.find? λd=>d.name==x.1 with
  |none=>simp;omega
  |some g=>simp
theorem o8{kn:ai}:∀(l:List (ai×ai)) {fs:List Vabldi.File},cz fs->fs.length<=(cM kn l fs).length
 |[],_,_=>Nat.le_refl _
 |x::r,fs,h=>by
  have h1:=o8 (kn:=kn) r (cg (Bc kn x) h);rw[mO h]at h1;show fs.length<=(cM kn r (Vabldi.setFile (Bc kn x) fs)).length;omega
theorem wb{kn:ai}{l:List (ai×ai)}{fs:List Vabldi.File}(h:cz fs)(i:Nat):(cM kn (l.take i) fs).length<=(cM kn l fs).length:=by
 have :=o8 (kn:=kn) (l.drop i) (o6 (kn:=kn) (l.take i) h);conv=>rhs;rw[<-List.take_append_drop i l]
 unfold cM at this⊢;rw[List.foldl_append];exact this
section
variable{P:Program}{w:World}{K:PySem.W.Frag}{mg:Str->Option Value}{base:Heap}{C:Cs}
def si(s:Vabldi.State)(ns:List ai):Nat:=(ns.filter λn=>(Vabldi.fileOf s n).isNone).length
def wc(s:Vabldi.State)(ns:List ai):Int:=if ns.any (Vabldi.isSource s)=true then -10 else if 64<s.files.length+si s ns then -3 else 0
abbrev Ay:List Str:=["room","names","fresh","name"]
theorem me:aC Ay ["room","names"] (ao bO):=⟨rfl,rfl,rfl,by decide+kernel,rfl,by decide+kernel,by decide+kernel⟩
def ED(C:Cs):Sp:=λvs H Q _=>∃(F:Hp) (R df da:Addr) (s:Vabldi.State) (vn:V) (ns:List ai),vs=[.ref R,vn]/\aQ C F H R df da s/\jZ F vn ns/\ns.length<=8/\aH F H/\Rt F H Q λ_ u=>u= .int (wc s ns)
theorem w6(s:Vabldi.State):∀ns:List ai,(ns.map λn=>(if(Vabldi.fileOf s n).isSome=true then 0 else 1:Int)).sum=(si s ns:Nat)
 |[]=>rfl
 |n::r=>by
  rw[List.map_cons,List.sum_cons,w6 s r];unfold si;rw[List.filter_cons];cases q:Vabldi.fileOf s n with
  |none=>simp;omega
  |some f=>simp
theorem EE(T:Tx K mg C):Ok P w K mg base "refusal_of_outputs" ["room","names"] 2 (ED C):=by
 refine T.d_refusal_of_outputs.ok me (λvs H Q E h=>by obtain⟨_,_,_,_,_,_,_,e,_⟩:=h;rw[e];rfl) (λf cdv A outer s H vs Q E hr h=> ?_);obtain⟨F,R,df,da,st,vn,ns,rfl,ra,⟨ln,xs,rfl,hln,hpn⟩,h8,f0,k⟩:=h;obtain⟨dR,hR⟩:=ra.dx
 refine⟨_,ae (aN (bI (u6 rfl T.b_any (fj rfl me.nd (bj (pv 1)) (blk (own:=[("name",3)]) Ay (ao bO) rfl rfl (by decide+kernel)) (λ_ _ _ _ _=>aS (i:=3) me.nd rfl (Or.inl rfl)) (λ_ _ _ _ _=>b4)
   (λ_ _ _ _ _=>aB (As T) hr (ab (pv 0) (ab (pv 3) af)))))) (ah (aq (aV T.g_TAKEN))) aE)
  (ae (aF (i:=2) me.nd rfl (Or.inl rfl) (D4 rfl T.b_sum (fj rfl me.nd (bj (pv 1)) (blk (own:=[("name",3)]) Ay (ao bO) rfl rfl (by decide+kernel)) (λ_ _ _ _ _=>aS (i:=3) me.nd rfl (Or.inl rfl)) (λ_ _ _ _ _=>b4)
   (λ_ _ _ _ _=>aB (vW T) hr (ab (pv 3) (ab (nB K (pv 0)) af))))))
  (ae (aN (aK iw (bD fK (ni T.b_len (aD (pv 0) rfl)) (pv 2)) (aV T.g_MOST_FILES) (aP _)) (ah (aq (aV T.g_FULL))) aE)
  (ah (aq aG)))),?_⟩
 unfold wc at k;refine⟨_,rfl,ln,rfl,⟨_,aZ.of (f0 _ _ hln)⟩,λD hD=> ?_⟩;refine bV (ds:=ns) (gI F) (λ_ v b=>v=V.bl b) (λt=>some (Vabldi.isSource st t)) (λ_ _ _ _ _ h=>h) (bo.refl f0) hD (aZ.of hln) hpn (by omega) ?_ ?_
 ·rintro x t F2 H2 Y N ⟨at',rfl,hat⟩ ht e3 s3 hY hN
  exact⟨rfl,_,rfl,_,rfl,F2,R,df,da,at',st,t,rfl,ra.keep e3,e3.fh _ _ (s3 _ _ hat),e3.fh,hY _ F2 H2 _ rfl (bo.refl e3.fh) rfl⟩
 rintro F2 H2 ys e2 s2 hAc fD pz
 rw[cQ pz]at hAc;refine⟨D,_,rfl,hAc,_,rfl,?_⟩;rw[List.any_map];refine bY (λhb=> ?_) (λhb=> ?_)
 ·have hb:ns.any (Vabldi.isSource st)=true:=hb;rw[if_pos hb]at k;exact k _ _ _ e2 rfl
 have hb:ns.any (Vabldi.isSource st)=false:=hb;rw[if_neg (by rw[hb];decide)]at k;refine⟨_,rfl,ln,rfl,⟨_,aZ.of (e2.fh _ _ (s2 _ _ hln))⟩,λD2 hD2=> ?_⟩;refine bV (ds:=ns) (gI F) (λ_ v (b:Int)=>v=V.int b) (λt=>some (if(Vabldi.fileOf st t).isSome=true then 0 else 1)) (λ_ _ _ _ _ h=>h) e2 hD2 (aZ.of (s2 _ _ hln)) hpn (by omega) ?_ ?_
 ·rintro x t F3 H3 Y N ⟨at',rfl,hat⟩ ht e3 s3 hY hN
  obtain⟨kf,hdf,_,hc⟩:=(ra.keep e3).file t;refine⟨rfl,_,rfl,_,rfl,R,C.Room,dR,_,_,rfl,e3.hh _ _ (f0 _ _ hR),T.k_Room.cl,T.n_Room_files,rfl,at',df,t,kf,rfl,e3.hh _ _ (f0 _ _ hat),hdf,hY _ F3 H3 _ rfl (bo.refl e3.fh) ?_⟩;rcases hc with⟨c1,c2⟩|⟨fl,v,c1,c2,_⟩
  ·rw[c1,c2];rfl
  ·rw[c1,c2];rfl
 rintro F3 H3 ys3 e3 s3 hA3 fD3 pz3
 rw[cQ pz3]at hA3;have ra3:=ra.keep e3;obtain⟨kf,hdf,hkl,_⟩:=ra3.file [];refine⟨D2,_,rfl,hA3,?_⟩;rw[w6];refine⟨_,rfl,R,C.Room,dR,_,_,rfl,e3.hh _ _ (f0 _ _ hR),T.k_Room.cl,T.n_Room_files,rfl,df,kf,rfl,hdf,_,rfl,_,_,rfl,rfl,_,_,rfl,rfl,_,rfl,?_⟩;rw[hkl];refine bY (λhb2=> ?_) (λhb2=> ?_)
 ·have hb2:64<st.files.length+si st ns:=by have :=of_decide_eq_true hb2;omega
  rw[if_pos hb2]at k;exact k _ _ _ e3 rfl
 ·have hb2:¬64<st.files.length+si st ns:=by have :=of_decide_eq_false hb2;omega
  rw[if_neg hb2]at k;exact k _ _ _ e3 rfl
abbrev Ie:List Str:=["room","key","names","outputs","changed","name","data"]
theorem t7:aC Ie ["room","key","names","outputs"] (ao iN):=⟨rfl,rfl,rfl,by decide+kernel,rfl,by decide+kernel,by decide+kernel⟩
def Gc(C:Cs):Sp:=λvs H Q _=>∃(F:Hp) (R df da:Addr) (s:Vabldi.State) (vk vn vo:V) (kn:ai) (ns rs:List ai),vs=[.ref R,vk,vn,vo]/\aQ C F H R df da s/\gI F vk kn/\Vabldi.isName kn=true/\jZ F vn ns/\cW F vo rs/\rs.length=ns.length/\ns.Nodup/\(∀x∈ns,Vabldi.isName x=true)/\(∀x∈rs,x.length<=4096)/\(cM kn (ns.zip rs) s.files).length<=64/\aH F H/\
 ∀F1 H1,bc [df,da] F H F1 H1->aQ C F1 H1 R df da {s with files:=cM kn (ns.zip rs) s.files}->Q (.int (((ns.zip rs).filter λx=> !Vabldi.isSo s x).length:Nat)) H1
theorem t8{α:Type}{p:α->Bool}(l:List α)(x:α):((l++[x]).filter p).length=(l.filter p).length+(if p x=true then 1 else 0):=by
 rw[List.filter_append,List.length_append];cases h:p x<;>simp[h]
theorem Gd(T:Tx K mg C):Ok P w K mg base "keep_outputs" ["room","key","names","outputs"] 3 (Gc C):=by
 refine T.d_keep_outputs.ok t7 (λvs H Q E h=>by obtain⟨_,_,_,_,_,_,_,_,_,_,_,e,_⟩:=h;rw[e];rfl) (λf cdv A outer s H vs Q E hr h=> ?_);obtain⟨F,R,df,da,st,vk,vn,vo,kn,ns,rs,rfl,ra,⟨ak,rfl,hak⟩,hkn,⟨ln,xs,rfl,hln,hpn⟩,⟨lo,ys,rfl,hlo,hpo⟩,hlen,hnd,hnn,hby,h64,f0,k⟩:=h;obtain⟨dR,hR⟩:=ra.dx
 refine⟨_,ae (aF (i:=4) t7.nd rfl (Or.inl rfl) aG)
  (ae (b0 PassesOwn.never rfl (u4 rfl T.b_zip (ab (pv 2) (ab (pv 3) af))) (qX rfl (dH (aS (i:=5) t7.nd rfl (Or.inl rfl)) (dH (aS (i:=6) t7.nd rfl (Or.inl rfl)) m4)))
   (ae (aN (PW.pt (km (fJ (jj (bT hr) (pv 5) (aD (pv 0) rfl))) (lF (aK (u8 hr) (aD (cv (bT hr) (aD (pv 0) rfl) (pv 5) (λ_ _=>rfl)) rfl) (pv 6) (aP _))))) (ah (jO (i:=4) t7.nd rfl (Or.inl rfl) aG iu)) aE)
   (ah (kE (bT hr) (aD (pv 0) rfl) (pv 5) (og T.k_File (wO T) hr (ab (pv 6) (ab (pv 1) af))) rfl))))
  (ah (aq (pv 4)))),?_⟩
 have hzl:(ns.zip rs).map (·.1)=ns:=nz hlen;refine⟨_,rfl,_,rfl,ln,lo,xs,ys,rfl,aZ.of (f0 _ _ hln),aZ.of (f0 _ _ hlo),z0 (p:=5) (q:=6) (S:=[df,da]) (F0:=F) (H0:=H) (λi σ1 F1 H1=>∃b1 b2,σ1=[some (.ref R),some (.ref ak),some (.ref ln),some (.ref lo),some (.int ((((ns.zip rs).take i).filter λx=> !Vabldi.isSo st x).length:Nat)),b1,b2]/\aQ C F1 H1 R df da {st with files:=cM kn ((ns.zip rs).take i) st.files}) (bc.refl f0) hln hlo (by rw[aA hpn,aA hpo,hlen]) ⟨none,none,rfl,ra⟩ ?_ ?_ ?_⟩
 ·rintro i σ1 F1 H1 T' o e1 nT ⟨b1,b2,rfl,r1⟩
  exact⟨b1,b2,rfl,r1.keep ((bo.refl e1.fh).new nT)⟩
 ·rintro i x y σ1 F1 H1 hx hy e1 s1 ⟨b1,b2,rfl,r1⟩
  obtain⟨n,hn,an,rfl,han⟩:=bg hpn hx;obtain⟨d,hd,ad,rfl,had⟩:=bg hpo hy;have hz:(ns.zip rs)[i]? =some (n,d):=(List.getElem?_zip_eq_some (z:=(n,d))).mpr ⟨hn,hd⟩
  have nin:n∉((ns.zip rs).take i).map (·.1):=by
   rw[List.map_take,hzl];intro hm;obtain⟨j,hj⟩:=List.mem_iff_getElem?.mp hm
   have hji:j<i:=by
    have :=ck hj;rw[List.length_take]at this;omega
   rw[List.getElem?_take_of_lt hji]at hj;have :=C2 hnd hj hn;omega
  obtain⟨kf,hdf,hkl,hc⟩:=r1.file n;have hfo:Vabldi.fileOf {st with files:=cM kn ((ns.zip rs).take i) st.files} n=Vabldi.fileOf st n:=o7 _ ra.gd.fo nin;rw[hfo]at hc;have hRR:=e1.fh _ _ (s1 _ _ hR);have hget:=dj.t (k:=nk n) hdf (by rw[bX];exact e1.fh _ _ (s1 _ _ han));have hml:=wb (kn:=kn) (l:=ns.zip rs) ra.gd.fo (i+1);rw[aT hz,o5]at hml;have hkl':kf.length<=64:=by rw[hkl];exact r1.gd.fl
  have store:∀c:Int,c=(((((ns.zip rs).take (i+1)).filter λx=> !Vabldi.isSo st x).length:Nat):Int)->C1 (zc K (nJ 0) "files") (nJ 5) (sI C.File (rW C.File ["data","made_by"]) [] E0 (sH (nJ 6) (sH (nJ 1) sG))) {nx:=λσ' H'=>∃F',bc [df,da] F H F' H'/\aH F F'/\∃b1 b2,σ'=[some (.ref R),some (.ref ak),some (.ref ln),some (.ref lo),some (.int ((((ns.zip rs).take (i+1)).filter λx=> !Vabldi.isSo st x).length:Nat)),b1,b2]/\aQ C F' H' R df da {st with files:=cM kn ((ns.zip rs).take (i+1)) st.files},rt:=Q} [some (.ref R),some (.ref ak),some (.ref ln),some (.ref lo),some (.int c),some (.ref an),some (.ref ad)] H1:=λc ec=>by
   refine⟨_,rfl,_,rfl,λx dx nx nd ne=>⟨x,dx,_,rfl,rfl,aa,rfl,?_⟩⟩;have e3:=e1.newI (D:=C.File) (fs:=[("data",.ref ad),("made_by",.ref ak)]) nx nd ne;have e3':=(bo.refl e1.fh).newI (D:=C.File) (fs:=[("data",.ref ad),("made_by",.ref ak)]) nx nd ne;have s3:=aI (o:= .ins C.File dx [("data",.ref ad),("made_by",.ref ak)]) (e1.fh.free nx);have r3:=r1.keep e3';obtain⟨kf3,hdf3,hkl3,_⟩:=r3.file n;refine⟨_,rfl,R,C.Room,dR,_,_,rfl,e3'.hh _ _ hRR,T.k_Room.cl,T.n_Room_files,rfl,_,rfl,df,_,rfl,rD.t (k:=nk n) hdf3 (by rw[bX];exact e3.fh _ _ (s3 _ _ (s1 _ _ han))) ?_,?_⟩
   ·rw[hkl3];have :=r1.gd.fl;have :(64:Nat)<sizeLine:=by decide
    omega
   have r4:=r3.putF hdf3 (f:=Bc kn (n,d)) (v:= .ref x) ⟨x,dx,.ref ad,.ref ak,rfl,aa,⟨ad,rfl,s3 _ _ (s1 _ _ had)⟩,⟨ak,rfl,s3 _ _ (s1 _ _ hak)⟩⟩ ⟨hnn n (List.mem_of_getElem? hn),hby d (List.mem_of_getElem? hd),λm hm=>by cases hm;exact hkn⟩ (by
    show(Vabldi.setFile (Bc kn (n,d)) (cM kn ((ns.zip rs).take i) st.files)).length<=64
    omega)
   refine⟨_,e3.wr (.inl (by simp)) r3.ff,s1.trans s3,some (.ref an),some (.ref ad),by rw[ec],?_⟩;rw[aT hz,o5];exact r4
  have nE:((((ns.zip rs).take (i+1)).filter λx=> !Vabldi.isSo st x).length:Nat)=(((ns.zip rs).take i).filter λx=> !Vabldi.isSo st x).length+(if Vabldi.isSo st (n,d)=true then 0 else 1):=by
   rw[aT hz,t8];cases Vabldi.isSo st (n,d)<;>simp
  refine⟨_,rfl,_,rfl,R,C.Room,dR,_,_,rfl,hRR,T.k_Room.cl,T.n_Room_files,rfl,df,_,rfl,hget,_,rfl,?_⟩;rcases hc with⟨c1,c2⟩|⟨fl,v,c1,c2,⟨a,dxf,vd,vm,rfl,haf,⟨adf,rfl,hadf⟩,hm⟩,_⟩
  ·rw[c2];refine iq (iq ⟨_,rfl,_,_,rfl,rfl,store _ ?_⟩);rw[nE];have :Vabldi.isSo st (n,d)=false:=by unfold Vabldi.isSo;rw[c1];rfl
   rw[this];simp
  ·rw[c2]at hget⊢;refine jw ?_;refine⟨_,rfl,R,C.Room,dR,_,_,rfl,hRR,T.k_Room.cl,T.n_Room_files,rfl,_,rfl,df,_,rfl,hget,a,C.File,dxf,_,_,rfl,e1.fh _ _ haf,T.k_File.cl,T.n_File_data,rfl,_,rfl,adf,ad,_,_,rfl,rfl,.inl ⟨e1.fh _ _ hadf,e1.fh _ _ (s1 _ _ had)⟩,_,rfl,?_⟩;rw[ie]
   have hso:Vabldi.isSo st (n,d)=decide (fl.bytes=d):=by
    unfold Vabldi.isSo;rw[c1];show(fl.bytes==d)=_;rw[Bool.eq_iff_iff];simp
   refine bY (λhb=> ?_) (λhb=> ?_)
   ·refine⟨_,rfl,_,_,rfl,rfl,store _ ?_⟩;rw[nE,hso];have hb:decide (fl.bytes=d)=false:=by simpa using hb
    rw[hb];simp
   ·refine store _ ?_;rw[nE,hso];have hb:decide (fl.bytes=d)=true:=by simpa using hb
    rw[hb];simp
 ·rintro σ1 F1 H1 e1 s1 ⟨b1,b2,rfl,r1⟩
  have el:xs.length=(ns.zip rs).length:=by rw[aA hpn,List.length_zip,hlen];simp
  rw[el,List.take_length]at r1⊢;exact⟨_,rfl,k _ _ e1 r1⟩
end
theorem Ct(s:Vabldi.State)(a:Vabldi.Action)(r:List ai):Vabldi.made s a r=cM a.name (a.outputs.zip r) s.files:=rfl
theorem EF{s:Vabldi.State}{a:Vabldi.Action}{r:List ai}(gd:Ef s)(ga:eQ a)(h:Vabldi.outcomeOf s a= .ok r)(hl:r.length=a.outputs.length):
  (wc s a.outputs≠0->Vabldi.runAction s a=(s,Vabldi.no (wc s a.outputs)))/\(wc s a.outputs=0->(cM a.name (a.outputs.zip r) s.files).length<=64/\Vabldi.runAction s a=({s with files:=cM a.name (a.outputs.zip r) s.files},Vabldi.num 0 [((a.outputs.zip r).filter λx=> !Vabldi.isSo s x).length])):=by
 have hzl:(a.outputs.zip r).map (·.1)=a.outputs:=nz hl;have hnd:a.outputs.Nodup:=(List.nodup_append.mp ga.nd).2.1;have hml:=qH (kn:=a.name) (a.outputs.zip r) (fs:=s.files) gd.fo (by rw[hzl];exact hnd)
 have hcn:((a.outputs.zip r).filter λx=>(s.files.find? λd=>d.name==x.1).isNone).length=si s a.outputs:=by
  unfold si;conv=>rhs;rw[<-hzl]
  rw[List.filter_map,List.length_map];rfl
 rw[hcn]at hml;unfold Vabldi.runAction;rw[h];dsimp only;unfold wc;rw[Ct,hml];constructor
 ·intro hr;by_cases c1:a.outputs.any (Vabldi.isSource s)=true
  ·rw[if_pos c1,if_pos c1];rfl
  ·rw[if_neg c1]at hr;rw[if_neg c1,if_neg c1];by_cases c2:64<s.files.length+si s a.outputs
   ·rw[if_pos c2,if_pos c2];rfl
   ·rw[if_neg c2]at hr;exact absurd rfl hr
 ·intro hr;by_cases c1:a.outputs.any (Vabldi.isSource s)=true
  ·rw[if_pos c1]at hr;cases hr
  ·rw[if_neg c1]at hr;rw[if_neg c1];by_cases c2:64<s.files.length+si s a.outputs
   ·rw[if_pos c2]at hr;cases hr
   ·rw[if_neg c2];exact⟨by omega,rfl⟩
theorem fQ{s:Vabldi.State}{a:Vabldi.Action}(ga:eQ a)(h:cO s a=true):∀i∈Vabldi.inputsOf s a,Vabldi.isName i.name=true:=by
 rw[jr h];exact oU ga
section
variable{P:Program}{w:World}{K:PySem.W.Frag}{mg:Str->Option Value}{base:Heap}{C:Cs}
abbrev Ge:List Str:=["room","name","refusal","key","action","outcome"]
theorem mf:aC Ge ["room","name"] (ao kR):=⟨rfl,rfl,rfl,by decide+kernel,rfl,by decide+kernel,by decide+kernel⟩
theorem g9{a:Int}(hb:(!decide (V.int a=V.int 0))=true):a≠0:=by intro q;rw[q]at hb;simp at hb
theorem hC{a:Int}(hb:(!decide (V.int a=V.int 0))=false):a=0:=by
 have :V.int a=V.int 0:=by simpa using hb
 injection this
theorem EG(T:Tx K mg C):Ok P w K mg base "run_action" ["room","name"] 9 (dG C Vabldi.runCall):=by
 refine T.d_run_action.ok mf (λvs H Q E h=>bZ h) (λf cdv A outer s H vs Q E hr h=> ?_);obtain⟨F,R,df,da,st,vn,n,rfl,ra,⟨an,rfl,han⟩,f0,k⟩:=h;obtain⟨dR,hR⟩:=ra.dx
 refine⟨_,ae (aF (i:=2) mf.nd rfl (Or.inl rfl) (aB (o4 T) hr (ab (pv 0) (ab (pv 1) af))))
  (ae (aN (aK dI (pv 2) aG (aP _)) (ah (aq (aL (ab (pv 2) af)))) aE)
  (ae (aF (i:=3) mf.nd rfl (Or.inl rfl) (bB T.b_tuple (pv 1)))
  (ae (aF (i:=4) mf.nd rfl (Or.inl rfl) (cv (bT hr) (aD (pv 0) rfl) (pv 3) (λ_ _=>rfl)))
  (ae (aF (i:=5) mf.nd rfl (Or.inl rfl) (aB (wZ T) hr (ab (pv 0) (ab (pv 4) af))))
  (ae (aN (aK dI (aD (pv 5) rfl) aG (aP _)) (ah (aq (aB (C9 T) hr (ab (pv 5) af)))) aE)
  (ae (aF (i:=2) mf.nd rfl (Or.inl rfl) (aB (EE T) hr (ab (pv 0) (ab (aD (pv 4) rfl) af))))
  (ae (aN (aK dI (pv 2) aG (aP _)) (ah (aq (aL (ab (pv 2) af)))) aE)
  (ah (aq (aL (ab aG (ab (aB (Gd T) hr (ab (pv 0) (ab (pv 3) (ab (aD (pv 4) rfl) (ab (aD (pv 5) rfl) af))))) af)))))))))))),?_⟩
 refine⟨_,rfl,_,rfl,F,R,df,da,st,_,n,rfl,ra,⟨an,rfl,han⟩,f0,λu F1 H1 e1 eu=> ?_⟩;subst eu;refine⟨_,rfl,rfl,_,rfl,bY (λhb=> ?_) (λhb=> ?_)⟩
 ·rw[vZ (g9 hb)]at k;refine⟨_,rfl,aX _,λq hq=> ?_⟩;have e2:=e1.newF (o:= .lst [.int (jx st n)]) hq;exact k _ _ _ e2.x (ra.keep e2) (cK aa)
 obtain⟨h1,ac,h2,h3⟩:=lz (hC hb);rw[t5 h1 h2 h3]at k;refine⟨_,rfl,an,_,rfl,e1.hh _ _ (f0 _ _ han),λq3 hq3=> ?_⟩;have e3:=e1.newF (o:= .tup ((zs n).map V.int)) hq3;have ra3:=ra.keep e3;obtain⟨kvs,hda,hkl,hcase⟩:=ra3.act n;rcases hcase with⟨h4,_⟩|⟨ac',v,h4,h5,hv,ga,hnm⟩
 ·rw[h2]at h4;cases h4
 rw[h2]at h4;cases h4;have hget:=dj.t (k:=nk n) hda (by rw[bX];exact aa (H:=H1) (a:=q3) (o:= .tup ((zs n).map V.int)));rw[h5]at hget;refine⟨_,rfl,R,C.Room,dR,_,_,rfl,e3.hh _ _ (f0 _ _ hR),T.k_Room.cl,T.n_Room_actions,rfl,_,rfl,da,_,rfl,hget,?_⟩;refine⟨_,rfl,_,rfl,_,R,df,da,st,_,ac,rfl,ra3,hv,ga,h3,e3.fh,λu F4 H4 e4 hu=> ?_⟩;have ra4:=ra3.keep e4;have e34:=e3.trans e4;have hu':=hu;obtain⟨po,dxo,vu,vo,vr,rfl,hpo,_,hvo,_⟩:=hu';refine⟨_,rfl,po,C.Outcome,dxo,_,_,rfl,e4.fh _ _ hpo,T.k_Outcome.cl,T.n_Outcome_code,rfl,rfl,_,rfl,?_⟩;cases q:Vabldi.outcomeOf st ac with
 |error e=>
  rw[q]at hu hpo;have⟨ec,en⟩:=mN (fQ ga h3) q;have er:Vabldi.runAction st ac=(st,Vabldi.failureAnswer e):=by unfold Vabldi.runAction;rw[q]
  rw[er]at k;refine bY (λhb2=> ?_) (λhb2=> ?_)
  ·refine⟨_,rfl,F4,_,e,_,rfl,hu,en,e4.fh,λu F5 H5 e5 h5=> ?_⟩;exact k _ _ _ (e34.trans e5).x (ra4.keep e5) h5
  ·have :((tT (.error e):Nat):Int)=0:=hC hb2;exact absurd (show e.code=0 from by have :((e.code:Nat):Int)=0:=this;omega) ec
 |ok r=>
  rw[q]at hu hvo;have⟨rl,rb⟩:=oW ga.tl q;have⟨k1,k2⟩:=EF ra.gd ga q rl;refine bY (λhb2=> ?_) (λhb2=> ?_)
  ·exact absurd rfl (g9 hb2)
  have hv4:=hv.mono e4.ff;obtain⟨p,dx,wa,wi,wo,rfl,hp,_,_,hwo⟩:=hv4;refine⟨_,rfl,_,rfl,p,C.Action,dx,_,_,rfl,e4.fh _ _ hp,T.k_Action.cl,T.n_Action_outputs,rfl,F4,R,df,da,st,_,ac.outputs,rfl,ra4,hwo,ga.ol,e4.fh,λu F5 H5 e5 eu=> ?_⟩;subst eu;have ra5:=ra4.keep e5;have e35:=e34.trans e5;refine⟨_,rfl,rfl,_,rfl,bY (λhb3=> ?_) (λhb3=> ?_)⟩
  ·rw[k1 (g9 hb3)]at k;refine⟨_,rfl,aX _,λq6 hq6=> ?_⟩;have e6:=e35.newF (o:= .lst [.int (wc st ac.outputs)]) hq6;exact k _ _ _ e6.x (ra.keep e6) (cK aa)
  ·obtain⟨k64,k3⟩:=k2 (hC hb3);rw[k3]at k;rw[<-hnm]at h1;refine⟨_,rfl,_,rfl,_,rfl,p,C.Action,dx,_,_,rfl,e5.hh _ _ (e4.fh _ _ hp),T.k_Action.cl,T.n_Action_outputs,rfl,_,rfl,po,C.Outcome,dxo,_,_,rfl,e5.hh _ _ (e4.fh _ _ hpo),T.k_Outcome.cl,T.n_Outcome_outputs,rfl,F5,R,df,da,st,_,_,_,ac.name,ac.outputs,r,rfl,ra5,⟨q3,rfl,?_⟩,h1,bH hwo e5.ff,bW hvo e5.ff,rl,(List.nodup_append.mp ga.nd).2.1,λx hx=>ga.nn x (List.mem_append_right _ hx),rb,k64,e5.fh,λF6 H6 e6 ra6=> ?_⟩
   ·rw[hnm];exact e5.ff _ _ (e4.ff _ _ aa)
   refine⟨r6 _ _,λq7 hq7=> ?_⟩;have e36:bc [df,da] F H F6 H6:=e35.x.trans e6;have e7:=e36.newF (o:= .lst [.int 0,.int (((ac.outputs.zip r).filter λx=> !Vabldi.isSo st x).length:Nat)]) hq7;exact k _ _ _ e7 (ra6.keep ((bo.refl e36.fh).newF (o:= .lst [.int 0,.int (((ac.outputs.zip r).filter λx=> !Vabldi.isSo st x).length:Nat)]) hq7)) (cV (n:=0) (t:=[((ac.outputs.zip r).filter λx=> !Vabldi.isSo st x).length]) aa (show 1<=49999 by decide))
abbrev Cu:List Str:=["room","name","refusal","outcome","answer","data"]
theorem jd:aC Cu ["room","name"] (ao kS):=⟨rfl,rfl,rfl,by decide+kernel,rfl,by decide+kernel,by decide+kernel⟩
theorem Az:∀{r:List ai},(∀x∈r,x.length<=4096)->(r.flatMap Vabldi.withLength).length<=r.length*4097
 |[],_=>by simp
 |x::r,h=>by
  have h1:=Az (r:=r) λz hz=>h z (List.mem_cons_of_mem _ hz)
  have h2:=h x List.mem_cons_self;rw[List.flatMap_cons,List.length_append,List.length_cons,Nat.add_mul,Nat.one_mul];have :(Vabldi.withLength x).length=x.length+1:=rfl;omega
theorem AA(T:Tx K mg C):Ok P w K mg base "would_make" ["room","name"] 9 (dG C λs n=>(s,Vabldi.onAction s n (Vabldi.wouldAnswer s))):=by
 refine T.d_would_make.ok jd (λvs H Q E h=>bZ h) (λf cdv A outer s H vs Q E hr h=> ?_);obtain⟨F,R,df,da,st,vn,n,rfl,ra,⟨an,rfl,han⟩,f0,k⟩:=h;obtain⟨dR,hR⟩:=ra.dx;dsimp only at k
 refine⟨_,ae (aF (i:=2) jd.nd rfl (Or.inl rfl) (aB (o4 T) hr (ab (pv 0) (ab (pv 1) af))))
  (ae (aN (aK dI (pv 2) aG (aP _)) (ah (aq (aL (ab (pv 2) af)))) aE)
  (ae (aF (i:=3) jd.nd rfl (Or.inl rfl) (aB (wZ T) hr (ab (pv 0) (ab (cv (bT hr) (aD (pv 0) rfl) (bB T.b_tuple (pv 1)) (λ_ _=>rfl)) af))))
  (ae (aN (aK dI (aD (pv 3) rfl) aG (aP _)) (ah (aq (aB (C9 T) hr (ab (pv 3) af)))) aE)
  (ae (aF (i:=4) jd.nd rfl (Or.inl rfl) (aL (ab aG af)))
  (ae (b0 PassesOwn.never rfl (bj (aD (pv 3) rfl)) (aS (i:=5) jd.nd rfl (Or.inl rfl))
   (ae (cD (pv 4) (bp T.b_len (pv 5))) (ah (eC (pv 4) (pv 5)))))
  (ah (aq (pv 4)))))))),?_⟩
 refine⟨_,rfl,_,rfl,F,R,df,da,st,_,n,rfl,ra,⟨an,rfl,han⟩,f0,λu F1 H1 e1 eu=> ?_⟩;subst eu;refine⟨_,rfl,rfl,_,rfl,bY (λhb=> ?_) (λhb=> ?_)⟩
 ·rw[fF (g9 hb)]at k;refine⟨_,rfl,aX _,λq hq=> ?_⟩;have e2:=e1.newF (o:= .lst [.int (jx st n)]) hq;exact k _ _ _ e2.x (ra.keep e2) (cK aa)
 obtain⟨h1,ac,h2,h3⟩:=lz (hC hb);rw[eA h1 h2 h3]at k;refine⟨_,rfl,_,rfl,R,C.Room,dR,_,_,rfl,e1.hh _ _ (f0 _ _ hR),T.k_Room.cl,T.n_Room_actions,rfl,_,rfl,an,_,rfl,e1.hh _ _ (f0 _ _ han),λq3 hq3=> ?_⟩;have e3:=e1.newF (o:= .tup ((zs n).map V.int)) hq3;have ra3:=ra.keep e3;obtain⟨kvs,hda,hkl,hcase⟩:=ra3.act n;rcases hcase with⟨h4,_⟩|⟨ac',v,h4,h5,hv,ga,hnm⟩
 ·rw[h2]at h4;cases h4
 rw[h2]at h4;cases h4;have hget:=dj.t (k:=nk n) hda (by rw[bX];exact aa (H:=H1) (a:=q3) (o:= .tup ((zs n).map V.int)));rw[h5]at hget;refine⟨da,_,rfl,hget,_,R,df,da,st,_,ac,rfl,ra3,hv,ga,h3,e3.fh,λu F4 H4 e4 hu=> ?_⟩;have ra4:=ra3.keep e4;have e34:=e3.trans e4;have hu':=hu;obtain⟨po,dxo,vu,vo,vr,rfl,hpo,_,hvo,_⟩:=hu';refine⟨_,rfl,po,C.Outcome,dxo,_,_,rfl,e4.fh _ _ hpo,T.k_Outcome.cl,T.n_Outcome_code,rfl,rfl,_,rfl,?_⟩;unfold Vabldi.wouldAnswer at k;cases q:Vabldi.outcomeOf st ac with
 |error e=>
  rw[q]at hu hpo k;have⟨ec,en⟩:=mN (fQ ga h3) q;refine bY (λhb2=> ?_) (λhb2=> ?_)
  ·refine⟨_,rfl,F4,_,e,_,rfl,hu,en,e4.fh,λu F5 H5 e5 h5=> ?_⟩;exact k _ _ _ (e34.trans e5).x (ra4.keep e5) h5
  ·have :((tT (.error e):Nat):Int)=0:=hC hb2;exact absurd (show e.code=0 from by have :((e.code:Nat):Int)=0:=this;omega) ec
 |ok r=>
  rw[q]at hu hvo k hpo;have⟨rl,rb⟩:=oW ga.tl q;refine bY (λhb2=> ?_) (λhb2=> ?_)
  ·exact absurd rfl (g9 hb2)
  obtain⟨lo,ys,rfl,hlo,hpl⟩:=hvo;have hpl:Paired (dk F4) ys r:=hpl;have sz:(8388608:Nat)<sizeLine:=by decide
  have hol:=ga.ol
  have hwl:∀i,((r.take i).flatMap Vabldi.withLength).length<=8*4097:=λi=>by
   have h1:=Az (r:=r.take i) λz hz=>rb z (List.mem_of_mem_take hz)
   have h2:(r.take i).length*4097<=8*4097:=Nat.mul_le_mul_right _ (by rw[List.length_take];omega);omega
  refine⟨aX _,λL hL=> ?_⟩;have nL:H L=none:=e34.hh.free hL;have x5:=e34.new (o:= .lst [.int 0]) hL;refine⟨_,rfl,po,C.Outcome,dxo,_,_,rfl,x5.fh _ _ hpo,T.k_Outcome.cl,T.n_Outcome_outputs,rfl,lo,rfl,⟨_,aZ.of (x5.fh _ _ hlo)⟩,fY (λi σ1 F5 H5=>∃b,σ1=[some (.ref R),some (.ref an),some (.int (jx st n)),some (.ref po),some (.ref L),b]/\H5 L=some (.lst (.int 0::(zs ((r.take i).flatMap Vabldi.withLength)).map V.int))/\F5 L=none) x5 (aZ.of hlo) ⟨none,rfl,aa,e34.fh.free hL⟩ ?_ ?_⟩
  ·rintro i x σ1 F5 H5 hx e5 s5 ⟨b,rfl,hHL,fL⟩
   obtain⟨d,hd,ad,rfl,had⟩:=bg hpl hx;have w1:=hwl i;have dl:=rb d (List.mem_of_getElem? hd);refine⟨_,rfl,L,_,rfl,hHL,_,rfl,ad,_,rfl,e5.fh _ _ (s5 _ _ had),_,hHL,?_,?_⟩
   ·rw[List.length_cons,aM];omega
   refine⟨_,rfl,L,_,rfl,aa,_,rfl,ad,_,(zs d).map V.int,rfl,aa,.inl ?_,?_,F5,(e5.wr nL fL).wr nL fL,s5,_,rfl,?_,fL⟩
   ·rw[aj (az (s5 _ _ had) fL)];exact e5.fh _ _ (s5 _ _ had)
   ·rw[List.length_append,List.length_cons,aM,aM,List.length_singleton];omega
   ·rw[aa,aT hd,List.flatMap_append];simp[zs,Vabldi.withLength]
  ·rintro σ1 F5 H5 e5 s5 ⟨b,rfl,hHL,fL⟩
   rw[aA hpl,List.take_length]at hHL;have w1:=hwl r.length;rw[List.take_length]at w1;exact⟨_,rfl,k _ _ _ (e5.frz nL hHL fL).x (ra.keep (e5.frz nL hHL fL)) (cV (n:=0) (t:=r.flatMap Vabldi.withLength) aa (by omega))⟩
end
section
variable{X:Cx}{e:Expr}{te:TE}{pos p:Pos}
def Gf:V->Hp->VK->Prop:=λx H Q=>∃p ys,x= .ref p/\(H p=some (.lst ys)\/H p=some (.tup ys))/\Q (.int ys.length) H
theorem Cv(hm:X.mg "len"=none)(he:PE X e te)(hg:Gl X "len":=by rfl)(hs:starEach [e] X.env=(false,eval e X.env)::starEach [] X.env:=by rfl)(hpl:(backTo pos (starEach [] X.env)).any (·.1)=false:=by rfl):PE X (.Call (.Name "len" p) [e] [] pos) (uJ Gf te):=
 iK d9 (λv H Q ⟨p,ys,e,h,q⟩=>by
  subst e;rcases h with h|h
  ·exact⟨p,ys,rfl,.inl (aZ.of h),q⟩
  ·exact⟨p,ys,rfl,.inr (jN.of h),q⟩) hm PySem.boot_len he hg (by decide) (by decide) hs hpl
end
section
variable{P:Program}{w:World}{K:PySem.W.Frag}{mg:Str->Option Value}{base:Heap}{C:Cs}
theorem yw{ts:List ai}{m:Nat}(h:∀x∈ts,Vabldi.isName x=true)(hm:ts.length<=m):(Vabldi.putLines ts).length<=m*33:=Nat.le_trans (gp h) (Nat.mul_le_mul_right _ hm)
theorem qI{F H F1 H1:Hp}{Q:VK}{a:Addr}{xs:List V}{ts:List ai}(e1:bo F H F1 H1)(ha:F1 a=some (.lst xs))(hp:Paired (gI F1) xs ts)(hn:∀x∈ts,Vabldi.isName x=true)(hl:ts.length<=1000)
  (k:∀u F2 H2,bo F H F2 H2->pK F2 u (Vabldi.num ts.length (Vabldi.putLines ts))->Q u H2)(q:Addr)(hq:H1 q=none):
  kZ ([V.ref a]++[]) (aJ H1 q (.lst [.int xs.length])) (λy H2=>Fo (.ref q) y H2 Q) E0:=by
 have pl:=yw hn hl;have e2:=e1.new (o:= .lst [.int xs.length]) hq;refine⟨F1,_,ts,rfl,⟨a,xs,rfl,ha,Paired.mapP hp λv d r=>r.any⟩,by omega,e2.fh,λu F3 H3 e3 ⟨b,eu,hb⟩=> ?_⟩;subst eu;refine⟨q,b,_,_,rfl,rfl,e3.hh _ _ aa,e3.fh _ _ hb,?_,λq4 hq4=> ?_⟩
 ·rw[aM];have :(8388608:Nat)<sizeLine:=by decide
  simp only[List.length_singleton];omega
 ·refine k _ _ _ ((e2.trans e3).newF hq4) (cV (n:=ts.length) (t:=Vabldi.putLines ts) ?_ (by omega));rw[aa,aA hp];rfl
abbrev If:List Str:=["room","name","refusal","read"]
theorem AB:aC If ["room","name"] (ao kT):=⟨rfl,rfl,rfl,by decide+kernel,rfl,by decide+kernel,by decide+kernel⟩
theorem Gg(T:Tx K mg C):Ok P w K mg base "list_reads" ["room","name"] 9 (dG C λs n=>(s,Vabldi.onAction s n λa=>Vabldi.num (Vabldi.readsOf s a).length (Vabldi.putLines (Vabldi.readsOf s a)))):=by
 refine T.d_list_reads.ok AB (λvs H Q E h=>bZ h) (λf cdv A outer s H vs Q E hr h=> ?_);obtain⟨F,R,df,da,st,vn,n,rfl,ra,⟨an,rfl,han⟩,f0,k⟩:=h;obtain⟨dR,hR⟩:=ra.dx;dsimp only at k
 refine⟨_,ae (aF (i:=2) AB.nd rfl (Or.inl rfl) (aB (o4 T) hr (ab (pv 0) (ab (pv 1) af))))
  (ae (aN (aK dI (pv 2) aG (aP _)) (ah (aq (aL (ab (pv 2) af)))) aE)
  (ae (aF (i:=3) AB.nd rfl (Or.inl rfl) (aD (aB (wZ T) hr (ab (pv 0) (ab (cv (bT hr) (aD (pv 0) rfl) (bB T.b_tuple (pv 1)) (λ_ _=>rfl)) af))) rfl))
  (ah (aq (bD cC (aL (ab (bp T.b_len (pv 3)) af)) (aB (bt T) hr (ab (pv 3) af))))))),?_⟩
 refine⟨_,rfl,_,rfl,F,R,df,da,st,_,n,rfl,ra,⟨an,rfl,han⟩,f0,λu F1 H1 e1 eu=> ?_⟩;subst eu;refine⟨_,rfl,rfl,_,rfl,bY (λhb=> ?_) (λhb=> ?_)⟩
 ·rw[fF (g9 hb)]at k;refine⟨_,rfl,aX _,λq hq=> ?_⟩;have e2:=e1.newF (o:= .lst [.int (jx st n)]) hq;exact k _ _ _ e2.x (ra.keep e2) (cK aa)
 obtain⟨h1,ac,h2,h3⟩:=lz (hC hb);rw[eA h1 h2 h3]at k;refine⟨_,rfl,_,rfl,R,C.Room,dR,_,_,rfl,e1.hh _ _ (f0 _ _ hR),T.k_Room.cl,T.n_Room_actions,rfl,_,rfl,an,_,rfl,e1.hh _ _ (f0 _ _ han),λq3 hq3=> ?_⟩;have e3:=e1.newF (o:= .tup ((zs n).map V.int)) hq3;have ra3:=ra.keep e3;obtain⟨kvs,hda,hkl,hcase⟩:=ra3.act n;rcases hcase with⟨h4,_⟩|⟨ac',v,h4,h5,hv,ga,hnm⟩
 ·rw[h2]at h4;cases h4
 rw[h2]at h4;cases h4;have hget:=dj.t (k:=nk n) hda (by rw[bX];exact aa (H:=H1) (a:=q3) (o:= .tup ((zs n).map V.int)));rw[h5]at hget;refine⟨da,_,rfl,hget,_,R,df,da,st,_,ac,rfl,ra3,hv,ga,h3,e3.fh,λu F4 H4 e4 hu=> ?_⟩;have ra4:=ra3.keep e4;have e34:=e3.trans e4;obtain⟨po,dxo,vu,vo,vr,rfl,hpo,_,hvo,⟨lr,xr,rfl,hlr,hpr⟩⟩:=hu;refine⟨po,C.Outcome,dxo,_,_,rfl,e4.fh _ _ hpo,T.k_Outcome.cl,T.n_Outcome_read,rfl,?_⟩;have⟨rn,rl⟩:=An (t:=ac.tool) (as:=ac.arguments) (n:=ac.outputs.length) (fQ ga h3) (by rw[jr h3,lx (by unfold o3;rw[List.length_map])];exact ga.il);refine⟨_,rfl,lr,xr,rfl,e4.fh _ _ hlr,aX _,λq5 hq5=>⟨_,rfl,?_⟩⟩;refine qI (ts:=Vabldi.readsOf st ac) e34 hlr hpr rn (Nat.le_trans rl (by decide)) (λu F5 H5 e5 h5=> ?_) q5 hq5;exact k _ _ _ e5.x (ra.keep e5) h5
abbrev AC:List Str:=["room","name","refusal","action","read","vain","given"]
theorem js:aC AC ["room","name"] (ao iO):=⟨rfl,rfl,rfl,by decide+kernel,rfl,by decide+kernel,by decide+kernel⟩
theorem Cw(T:Tx K mg C):Ok P w K mg base "list_vain" ["room","name"] 9 (dG C λs n=>(s,Vabldi.onAction s n λa=>Vabldi.num (Vabldi.vainOf s a).length (Vabldi.putLines (Vabldi.vainOf s a)))):=by
 refine T.d_list_vain.ok js (λvs H Q E h=>bZ h) (λf cdv A outer s H vs Q E hr h=> ?_);obtain⟨F,R,df,da,st,vn,n,rfl,ra,⟨an,rfl,han⟩,f0,k⟩:=h;obtain⟨dR,hR⟩:=ra.dx;dsimp only at k
 refine⟨_,ae (aF (i:=2) js.nd rfl (Or.inl rfl) (aB (o4 T) hr (ab (pv 0) (ab (pv 1) af))))
  (ae (aN (aK dI (pv 2) aG (aP _)) (ah (aq (aL (ab (pv 2) af)))) aE)
  (ae (aF (i:=3) js.nd rfl (Or.inl rfl) (cv (bT hr) (aD (pv 0) rfl) (bB T.b_tuple (pv 1)) (λ_ _=>rfl)))
  (ae (aF (i:=4) js.nd rfl (Or.inr rfl) (aD (aB (wZ T) hr (ab (pv 0) (ab (pv 3) af))) rfl))
  (ae (kC rfl js.nd (i:=5) rfl rfl (m7 rfl rfl rfl (by decide+kernel)) (bj (aD (pv 3) rfl)) (blk (own:=[("given",6)]) AC (ao iO) rfl rfl (by decide+kernel)) (λ_ _ _ _ _=>aS (i:=6) js.nd rfl (Or.inl rfl)) (λ_ _ _ _ _=>rB (aK (ql hr) (pv 6) (pv 4) (by with_unfolding_all rfl))) (λ_ _ _ _ _=>pv 6))
  (ah (aq (bD cC (aL (ab (bp T.b_len (pv 5)) af)) (aB (bt T) hr (ab (pv 5) af))))))))),?_⟩
 refine⟨_,rfl,_,rfl,F,R,df,da,st,_,n,rfl,ra,⟨an,rfl,han⟩,f0,λu F1 H1 e1 eu=> ?_⟩;subst eu;refine⟨_,rfl,rfl,_,rfl,bY (λhb=> ?_) (λhb=> ?_)⟩
 ·rw[fF (g9 hb)]at k;refine⟨_,rfl,aX _,λq hq=> ?_⟩;have e2:=e1.newF (o:= .lst [.int (jx st n)]) hq;exact k _ _ _ e2.x (ra.keep e2) (cK aa)
 obtain⟨h1,ac,h2,h3⟩:=lz (hC hb);rw[eA h1 h2 h3]at k;refine⟨_,rfl,R,C.Room,dR,_,_,rfl,e1.hh _ _ (f0 _ _ hR),T.k_Room.cl,T.n_Room_actions,rfl,_,rfl,an,_,rfl,e1.hh _ _ (f0 _ _ han),λq3 hq3=> ?_⟩;have e3:=e1.newF (o:= .tup ((zs n).map V.int)) hq3;have ra3:=ra.keep e3;obtain⟨kvs,hda,hkl,hcase⟩:=ra3.act n;rcases hcase with⟨h4,_⟩|⟨ac',v,h4,h5,hv,ga,hnm⟩
 ·rw[h2]at h4;cases h4
 rw[h2]at h4;cases h4;have hget:=dj.t (k:=nk n) hda (by rw[bX];exact aa (H:=H1) (a:=q3) (o:= .tup ((zs n).map V.int)));rw[h5]at hget;refine⟨da,_,rfl,hget,?_⟩;refine⟨_,rfl,_,rfl,_,R,df,da,st,_,ac,rfl,ra3,hv,ga,h3,e3.fh,λu F4 H4 e4 hu=> ?_⟩;have ra4:=ra3.keep e4;have e34:=e3.trans e4;obtain⟨po,dxo,vu,vo,vr,rfl,hpo,_,hvo,⟨lr,xr,rfl,hlr,hpr⟩⟩:=hu;refine⟨po,C.Outcome,dxo,_,_,rfl,e4.fh _ _ hpo,T.k_Outcome.cl,T.n_Outcome_read,rfl,?_⟩;have hv4:=hv.mono e4.ff;obtain⟨p,dx,wa,wi,wo,rfl,hp,_,⟨li,xi,rfl,hli,hpi⟩,_⟩:=hv4;have hil:=ga.il;refine⟨_,rfl,p,C.Action,dx,_,_,rfl,e4.fh _ _ hp,T.k_Action.cl,T.n_Action_inputs,rfl,li,rfl,⟨_,aZ.of (e4.fh _ _ hli)⟩,λD hD=> ?_⟩;refine bV (ds:=ac.inputs) (gI F4) (λF v t=>gI F v t) (λt=>if(!decide (t∈Vabldi.readsOf st ac))=true then some t else none) (λF F' v b e h=>h.mono e) e34 hD (aZ.of hli) hpi (by omega) ?_ ?_
 ·rintro x t F5 H5 Y N ⟨at',rfl,hat⟩ ht e5 s5 hY hN
  refine⟨rfl,_,rfl,_,rfl,lr,xr,zs t,_,rfl,e5.fh _ _ (s5 _ _ hlr),⟨at',rfl,e5.fh _ _ (s5 _ _ hat)⟩,jp (s5.trans e5.fh) hpr,_,rfl,?_⟩;show if(!decide (zs t∈(Vabldi.readsOf st ac).map zs))=true then _ else _
  rw[vM];refine bY (λhb2=> ?_) (λhb2=> ?_)
  ·exact⟨_,rfl,hY _ F5 H5 _ (by rw[if_pos hb2]) (bo.refl e5.fh) ⟨at',rfl,s5 _ _ hat⟩⟩
  ·exact hN F5 H5 (by rw[if_neg (by rw[hb2];decide)]) (bo.refl e5.fh)
 ·rintro F5 H5 ys e5 s5 hAc fD pz
  rw[et]at pz
  have ev:(ac.inputs.filter λt=> !decide (t∈Vabldi.readsOf st ac))=Vabldi.vainOf st ac:=by
   unfold Vabldi.vainOf;refine List.filter_congr λt _=> ?_
   congr 1
   rw[Bool.eq_iff_iff];simp
  rw[ev]at pz;have nD:H D=none:=e34.hh.free hD;have e6:=e5.frz nD hAc fD;have vs:(Vabldi.vainOf st ac).Sublist ac.inputs:=List.filter_sublist;refine⟨_,rfl,D,ys,rfl,hAc,aX _,λq5 hq5=>⟨_,rfl,?_⟩⟩;refine qI (ts:=Vabldi.vainOf st ac) e6 aa (Paired.mapP pz λv d r=>r.mono (aI fD)) (λx hx=>ga.nn x (List.mem_append_left _ (vs.mem hx))) (by have :=vs.length_le;omega) (λu F5 H5 e5 h5=> ?_) q5 hq5;exact k _ _ _ e5.x (ra.keep e5) h5
end
open Vabldi (counted decimal)
theorem fG{t:ai}(h:t.length<10 ^ 30):(counted t).length<=t.length+31:=by
 unfold counted;have :=bF h;rw[List.length_append,List.length_cons];omega
theorem mh{α:Type}{g:α->ai}{m:Nat}:∀{l:List α},(∀x∈l,(g x).length<=m)->(l.flatMap g).length<=l.length*m
 |[],_=>by simp
 |x::r,h=>by
  have h1:=mh (l:=r) λz hz=>h z (List.mem_cons_of_mem _ hz)
  have h2:=h x List.mem_cons_self;rw[List.flatMap_cons,List.length_append,List.length_cons,Nat.add_mul,Nat.one_mul];omega
theorem dv{n:Nat}(h:n<=1000000):n<10 ^ 30:=Nat.lt_of_le_of_lt h (by decide)
section
variable{P:Program}{w:World}{K:PySem.W.Frag}{mg:Str->Option Value}{base:Heap}{C:Cs}
theorem Gh:aC ["number"] ["number"] (ao iQ):=⟨rfl,rfl,rfl,by decide+kernel,rfl,by decide+kernel,by decide+kernel⟩
def Gi:Sp:=λvs H Q _=>∃(F:Hp) (n:Nat),vs=[.int n]/\n<=1000000/\aH F H/\Rt F H Q λF1 u=>dk F1 u (decimal n++[58])
theorem w8(T:Tx K mg C):Ok P w K mg base "before_colon" ["number"] 3 Gi:=by
 refine T.d_before_colon.ok Gh (λvs H Q E h=>by obtain⟨_,_,e,_⟩:=h;rw[e];rfl) (λf cdv A outer s H vs Q E hr h=> ?_);obtain⟨F,n,rfl,hn,f0,k⟩:=h;have b:=dv hn;have l1:=bF b;refine⟨_,ah (aq (bD cC (aB (eM T) hr (ab (pv 0) af)) (aB (bJ T) hr (ab gE af)))),?_⟩;refine⟨_,rfl,F,n,rfl,b,f0,λu F1 H1 e1 ⟨c1,eu,hc1⟩=> ?_⟩;subst eu;refine⟨F1,_,rfl,by decide,e1.fh,λu F2 H2 e2 ⟨c2,eu,hc2⟩=> ?_⟩;subst eu;have es:(Str.ofString ":").cps.toList=[58]:=by decide
 rw[es]at hc2;refine⟨c1,c2,_,_,rfl,rfl,e2.hh _ _ (e1.fh _ _ hc1),e2.fh _ _ hc2,?_,λq hq=> ?_⟩
 ·rw[aM,aM];have :(8388608:Nat)<sizeLine:=by decide
  simp only[List.length_singleton];omega
 rw[<-b5];exact k _ _ _ ((e1.trans e2).newF hq) ⟨q,rfl,aa⟩
theorem Gj:aC ["text"] ["text"] (ao jG):=⟨rfl,rfl,rfl,by decide+kernel,rfl,by decide+kernel,by decide+kernel⟩
def Gk:Sp:=λvs H Q _=>∃(F:Hp) (v:V) (t:ai),vs=[v]/\G3 F v t/\t.length<=1000000/\aH F H/\Rt F H Q λF1 u=>dk F1 u (counted t)
theorem AD(T:Tx K mg C):Ok P w K mg base "with_length" ["text"] 4 Gk:=by
 refine T.d_with_length.ok Gj (λvs H Q E h=>by obtain⟨_,_,_,e,_⟩:=h;rw[e];rfl) (λf cdv A outer s H vs Q E hr h=> ?_);obtain⟨F,v,t,rfl,⟨a,rfl,ha⟩,hn,f0,k⟩:=h;have l1:=bF (dv hn);refine⟨_,ah (aq (bD cC (aB (w8 T) hr (ab (Cv T.b_len (pv 0)) af)) (nh T.b_list (pv 0)))),?_⟩;refine⟨_,rfl,a,_,rfl,ha.imp (f0 _ _) (f0 _ _),F,t.length,by rw[aM];rfl,hn,f0,λu F1 H1 e1 ⟨c1,eu,hc1⟩=> ?_⟩;subst eu;refine⟨_,rfl,a,_,rfl,ha.imp (λz=>e1.hh _ _ (f0 _ _ z)) (λz=>e1.hh _ _ (f0 _ _ z)),λq2 hq2=> ?_⟩;have e2:=e1.new (o:= .lst ((zs t).map V.int)) hq2;refine⟨c1,q2,_,_,rfl,rfl,e2.fh _ _ hc1,aa,?_,λq hq=> ?_⟩
 ·rw[aM,aM,List.length_append,List.length_singleton];have :(8388608:Nat)<sizeLine:=by decide
  omega
 rw[<-b5];have ec:decimal t.length++[58]++t=counted t:=by unfold counted;simp
 rw[ec];exact k _ _ _ (e2.newF hq) ⟨q,rfl,aa⟩
abbrev Ig:List Str:=["room","action","text","argument","name"]
theorem w9:aC Ig ["room","action"] (ao oB):=⟨rfl,rfl,rfl,by decide+kernel,rfl,by decide+kernel,by decide+kernel⟩
def Gm(C:Cs):Sp:=λvs H Q _=>∃(F:Hp) (R df da:Addr) (s:Vabldi.State) (va:V) (a:Vabldi.Action),vs=[.ref R,va]/\aQ C F H R df da s/\lV C F va a/\eQ a/\cO s a=true/\aH F H/\Rt F H Q λF1 u=>dk F1 u (Vabldi.key a (Vabldi.inputsOf s a))/\(Vabldi.key a (Vabldi.inputsOf s a)).length<=45000
def t9(a:Vabldi.Action):ai:=decimal a.tool++[58]++(decimal a.arguments.length++[58])
def AE(s:Vabldi.State)(n:ai):ai:=counted n++counted (cA s n)
theorem EH{s:Vabldi.State}{a:Vabldi.Action}(h:cO s a=true):Vabldi.key a (Vabldi.inputsOf s a)=t9 a++a.arguments.flatMap counted++(decimal a.inputs.length++[58])++a.inputs.flatMap (AE s)++decimal a.outputs.length:=by
 unfold Vabldi.key Vabldi.several t9;rw[jr h];have hl:(o3 s a).length=a.inputs.length:=by unfold o3;rw[List.length_map]
 have e1:((dP a (o3 s a)).map λi=>counted i.name++counted i.bytes).flatMap id=a.inputs.flatMap (AE s):=by
  rw[List.flatMap_map];unfold dP o3;rw[List.flatMap_map];show((a.inputs.zip (a.inputs.map (cA s))).flatMap λx=>counted x.1++counted x.2)=_;generalize a.inputs=l;induction l with
  |nil=>rfl
  |cons n r ih=>rw[List.map_cons,List.zip_cons_cons,List.flatMap_cons,ih,List.flatMap_cons];rfl
 have e2:(a.arguments.map counted).flatMap id=a.arguments.flatMap counted:=by rw[List.flatMap_map];rfl
 rw[e1,e2,List.length_map,List.length_map,lx hl];simp
theorem Gn(T:Tx K mg C):Ok P w K mg base "key_text" ["room","action"] 5 (Gm C):=by
 refine T.d_key_text.ok w9 (λvs H Q E h=>by obtain⟨_,_,_,_,_,_,_,e,_⟩:=h;rw[e];rfl) (λf cdv A outer s H vs Q E hr h=> ?_);obtain⟨F,R,df,da,st,va,ac,rfl,ra,⟨p,dx,wa,wi,wo,rfl,hp,⟨la,xa,rfl,hla,hpa⟩,⟨li,xi,rfl,hli,hpi⟩,⟨lo,xo,rfl,hlo,hpo⟩⟩,ga,hall,f0,k⟩:=h;obtain⟨dR,hR⟩:=ra.dx
 refine⟨_,ae (aF (i:=2) w9.nd rfl (Or.inl rfl) (bD cC (aB (w8 T) hr (ab (aD (pv 1) rfl) af)) (aB (w8 T) hr (ab (bp T.b_len (aD (pv 1) rfl)) af))))
  (ae (b0 PassesOwn.never rfl (bj (aD (pv 1) rfl)) (aS (i:=3) w9.nd rfl (Or.inl rfl)) (ah (eC (pv 2) (aB (AD T) hr (ab (pv 3) af)))))
  (ae (eC (pv 2) (aB (w8 T) hr (ab (bp T.b_len (aD (pv 1) rfl)) af)))
  (ae (b0 PassesOwn.never rfl (bj (aD (pv 1) rfl)) (aS (i:=4) w9.nd rfl (Or.inl rfl)) (ae (eC (pv 2) (aB (AD T) hr (ab (pv 4) af))) (ah (eC (pv 2) (aB (AD T) hr (ab (aD (cv (bT hr) (aD (pv 0) rfl) (pv 4) (λ_ _=>rfl)) rfl) af))))))
  (ah (aq (bD cC (pv 2) (aB (eM T) hr (ab (bp T.b_len (aD (pv 1) rfl)) af)))))))),?_⟩
 have sz:(8388608:Nat)<sizeLine:=by decide
 have ht:=ga.tl;have har:=ga.ar;have hil:=ga.il;have hol:=ga.ol;have d1:=bF (dv (show ac.tool<=1000000 by omega));have d2:=bF (dv (show ac.arguments.length<=1000000 by omega));have d3:=bF (dv (show ac.inputs.length<=1000000 by omega));have d4:=bF (dv (show ac.outputs.length<=1000000 by omega))
 have kl:(t9 ac).length<=62:=by
  unfold t9;simp only[List.length_append,List.length_singleton];omega
 have hall':=hall;unfold cO at hall';rw[List.all_eq_true]at hall'
 have bl:∀n,(cA st n).length<=4096:=λn=>by
  unfold cA;cases q:Vabldi.fileOf st n with
  |none=>exact Nat.zero_le _
  |some fl=>exact(ra.gd.fg fl (List.mem_of_find?_eq_some q)).2.1
 have al:∀i,((ac.arguments.take i).flatMap counted).length<=4*95:=λi=>by
  have h1:=mh (g:=counted) (m:=95) (l:=ac.arguments.take i) λx hx=>by
   have h2:=ga.al x (List.mem_of_mem_take hx);have h3:=fG (dv (show x.length<=1000000 by omega));omega
  have h4:(ac.arguments.take i).length*95<=4*95:=Nat.mul_le_mul_right _ (by rw[List.length_take];omega);omega
 have cl:∀n∈ac.inputs,(counted n).length<=63/\(counted (cA st n)).length<=4127:=λn hn=>by
  have h2:=g8 (ga.nn n (List.mem_append_left _ hn));have h3:=fG (dv (show n.length<=1000000 by omega));have h4:=bl n;have h5:=fG (dv (show(cA st n).length<=1000000 by omega));omega
 have il:∀i,((ac.inputs.take i).flatMap (AE st)).length<=8*4190:=λi=>by
  have h1:=mh (g:=AE st) (m:=4190) (l:=ac.inputs.take i) λx hx=>by
   have :=cl x (List.mem_of_mem_take hx);unfold AE;rw[List.length_append];omega
  have h4:(ac.inputs.take i).length*4190<=8*4190:=Nat.mul_le_mul_right _ (by rw[List.length_take];omega);omega
 refine⟨_,rfl,p,C.Action,dx,_,_,rfl,f0 _ _ hp,T.k_Action.cl,T.n_Action_tool,rfl,F,ac.tool,rfl,by omega,f0,λu F1 H1 e1 ⟨c1,eu,hc1⟩=> ?_⟩;subst eu;refine⟨_,rfl,p,C.Action,dx,_,_,rfl,e1.hh _ _ (f0 _ _ hp),T.k_Action.cl,T.n_Action_arguments,rfl,la,xa,rfl,e1.hh _ _ (f0 _ _ hla),F1,ac.arguments.length,by rw[aA hpa];rfl,by omega,e1.fh,λu F2 H2 e2 ⟨c2,eu,hc2⟩=> ?_⟩;subst eu;refine⟨c1,c2,_,_,rfl,rfl,e2.hh _ _ (e1.fh _ _ hc1),e2.fh _ _ hc2,?_,λL hL=> ?_⟩
 ·rw[aM,aM];simp only[List.length_append,List.length_singleton];omega
 rw[<-b5];have e12:=e1.trans e2;have nL:H L=none:=e12.hh.free hL;have x0:=e12.new (o:= .lst ((zs (t9 ac)).map V.int)) hL;refine⟨_,rfl,p,C.Action,dx,_,_,rfl,x0.hh _ _ (f0 _ _ hp),T.k_Action.cl,T.n_Action_arguments,rfl,la,rfl,⟨_,aZ.of (x0.hh _ _ (f0 _ _ hla))⟩,fY (λi σ1 F3 H3=>∃b1,σ1=[some (.ref R),some (.ref p),some (.ref L),b1,none]/\H3 L=some (.lst ((zs (t9 ac++(ac.arguments.take i).flatMap counted)).map V.int))/\F3 L=none) x0 (aZ.of (e12.ff _ _ hla)) ⟨none,rfl,?_,e12.fh.free hL⟩ ?_ ?_⟩
 ·rw[List.take_zero,List.flatMap_nil,List.append_nil];exact aa
 ·rintro i x σ1 F3 H3 hx e3 s3 ⟨b1,rfl,hHL,fL⟩
  obtain⟨d,hd,ad,rfl,had⟩:=bg hpa hx;have dl:=ga.al d (List.mem_of_getElem? hd);have a1:=al i;have cd:=fG (dv (show d.length<=1000000 by omega));refine⟨_,rfl,L,_,rfl,hHL,_,rfl,F3,_,d,rfl,⟨ad,rfl,.inl (e3.ff _ _ had)⟩,by omega,e3.fh,λu F4 H4 e4 ⟨c4,eu,hc4⟩=> ?_⟩;subst eu;have hL4:=e4.hh _ _ hHL;have fL4:=e4.sp _ _ hHL fL;refine⟨c4,_,_,rfl,hL4,.inl (e4.fh _ _ hc4),?_,F4,(e3.trans e4).wr nL fL4,s3.trans e4.ff,_,rfl,?_,fL4⟩
  ·rw[aM,aM,List.length_append];omega
  ·rw[aa,<-b5,aT hd,List.flatMap_append];simp
 rintro σ1 F3 H3 e3 s3 ⟨b1,rfl,hHL,fL⟩
 rw[aA hpa,List.take_length]at hHL;have a1:=al ac.arguments.length;rw[List.take_length]at a1;refine⟨_,rfl,L,_,rfl,hHL,_,rfl,p,C.Action,dx,_,_,rfl,e3.hh _ _ (f0 _ _ hp),T.k_Action.cl,T.n_Action_inputs,rfl,li,xi,rfl,e3.hh _ _ (f0 _ _ hli),F3,ac.inputs.length,by rw[aA hpi];rfl,by omega,e3.fh,λu F4 H4 e4 ⟨c4,eu,hc4⟩=> ?_⟩;subst eu;have hL4:=e4.hh _ _ hHL;have fL4:=e4.sp _ _ hHL fL;have e34:=e3.trans e4;refine⟨c4,_,_,rfl,hL4,.inl (e4.fh _ _ hc4),?_,?_⟩
 ·rw[aM,aM];simp only[List.length_append,List.length_singleton];omega
 rw[<-b5];have x5:=e34.wr (o:= .lst ((zs (t9 ac++ac.arguments.flatMap counted++(decimal ac.inputs.length++[58]))).map V.int)) nL fL4;generalize hK2:t9 ac++ac.arguments.flatMap counted++(decimal ac.inputs.length++[58])=K2 at *
 have k2l:K2.length<=62+4*95+31:=by
  rw[<-hK2];simp only[List.length_append,List.length_singleton];omega
 refine⟨_,rfl,p,C.Action,dx,_,_,rfl,x5.hh _ _ (f0 _ _ hp),T.k_Action.cl,T.n_Action_inputs,rfl,li,rfl,⟨_,aZ.of (x5.hh _ _ (f0 _ _ hli))⟩,fY (λi σ1 F3 H3=>∃b2,σ1=[some (.ref R),some (.ref p),some (.ref L),b1,b2]/\H3 L=some (.lst ((zs (K2++(ac.inputs.take i).flatMap (AE st))).map V.int))/\F3 L=none) x5 (aZ.of (x5.ff _ _ hli)) ⟨none,rfl,?_,fL4⟩ ?_ ?_⟩
 ·rw[List.take_zero,List.flatMap_nil,List.append_nil];exact aa
 ·rintro i x σ1 F5 H5 hx e5 s5 ⟨b2,rfl,hHL5,fL5⟩
  obtain⟨n,hn,an,rfl,han⟩:=bg hpi hx;have hni:=List.mem_of_getElem? hn;have⟨c63,c41⟩:=cl n hni;have i1:=il i;have nl:=g8 (ga.nn n (List.mem_append_left _ hni));refine⟨_,rfl,L,_,rfl,hHL5,_,rfl,F5,_,n,rfl,⟨an,rfl,.inr (e5.ff _ _ han)⟩,by omega,e5.fh,λu F6 H6 e6 ⟨c6,eu,hc6⟩=> ?_⟩;subst eu;have hL6:=e6.hh _ _ hHL5;have fL6:=e6.sp _ _ hHL5 fL5;have e56:=e5.trans e6;refine⟨c6,_,_,rfl,hL6,.inl (e6.fh _ _ hc6),?_,?_⟩
  ·rw[aM,aM,List.length_append];omega
  rw[<-b5];have x7:=e56.wr (o:= .lst ((zs (K2++(ac.inputs.take i).flatMap (AE st)++counted n)).map V.int)) nL fL6;have ra7:=ra.keep x7;obtain⟨kf,hdf,_,hc⟩:=ra7.file n;rcases hc with⟨q1,q2⟩|⟨fl,v,q1,q2,⟨a,dxf,vd,vm,rfl,haf,⟨ad,rfl,had⟩,hm⟩,gf,_⟩
  ·have :=hall' n hni;rw[q1]at this;cases this
  have hget:=dj.t (k:=nk n) hdf (by rw[bX];exact x7.hh _ _ (f0 _ _ han));rw[q2]at hget;have eb:cA st n=fl.bytes:=by unfold cA;rw[q1];rfl
  have b1':=bl n;rw[eb]at b1' c41;refine⟨_,rfl,L,_,rfl,aa,_,rfl,R,C.Room,dR,_,_,rfl,x7.hh _ _ (f0 _ _ hR),T.k_Room.cl,T.n_Room_files,rfl,_,rfl,df,_,rfl,hget,a,C.File,dxf,_,_,rfl,x7.fh _ _ haf,T.k_File.cl,T.n_File_data,rfl,F6,_,fl.bytes,rfl,⟨ad,rfl,.inl had⟩,by omega,x7.fh,λu F8 H8 e8 ⟨c8,eu,hc8⟩=> ?_⟩;subst eu;have hL8:=e8.hh _ _ (aa (a:=L) (o:= .lst ((zs (K2++(ac.inputs.take i).flatMap (AE st)++counted n)).map V.int)));have fL8:=e8.sp _ _ (aa (a:=L) (o:= .lst ((zs (K2++(ac.inputs.take i).flatMap (AE st)++counted n)).map V.int))) fL6;refine⟨c8,_,_,rfl,hL8,.inl (e8.fh _ _ hc8),?_,F8,(x7.trans e8).wr nL fL8,s5.trans (e6.ff.trans e8.ff),_,rfl,?_,fL8⟩
  ·rw[aM,aM,List.length_append,List.length_append];omega
  ·rw[aa,<-b5,aT hn,List.flatMap_append]
   have :[n].flatMap (AE st)=counted n++counted fl.bytes:=by
    rw[List.flatMap_singleton];unfold AE;rw[eb]
   rw[this];simp
 ·rintro σ1 F5 H5 e5 s5 ⟨b2,rfl,hHL5,fL5⟩
  rw[aA hpi,List.take_length]at hHL5;have i1:=il ac.inputs.length;rw[List.take_length]at i1;refine⟨_,rfl,_,rfl,p,C.Action,dx,_,_,rfl,e5.hh _ _ (f0 _ _ hp),T.k_Action.cl,T.n_Action_outputs,rfl,lo,xo,rfl,e5.hh _ _ (f0 _ _ hlo),F5,ac.outputs.length,by rw[aA hpo];rfl,dv (by omega),e5.fh,λu F6 H6 e6 ⟨c6,eu,hc6⟩=> ?_⟩;subst eu;refine⟨L,c6,_,_,rfl,rfl,e6.hh _ _ hHL5,e6.fh _ _ hc6,?_,λq7 hq7=> ?_⟩
  ·rw[aM,aM,List.length_append];omega
  rw[<-b5];have ek:=EH hall;rw[hK2]at ek;rw[ek]at k;refine k _ _ _ ((e5.trans e6).newF hq7) ⟨⟨q7,rfl,aa⟩,?_⟩;rw[List.length_append,List.length_append];omega
theorem AF:aC ["room","name","refusal"] ["room","name"] (ao tz):=⟨rfl,rfl,rfl,by decide+kernel,rfl,by decide+kernel,by decide+kernel⟩
theorem EI(T:Tx K mg C):Ok P w K mg base "key_of" ["room","name"] 9 (dG C λs n=>(s,Vabldi.onAction s n λa=>Vabldi.said (Vabldi.key a (Vabldi.inputsOf s a)))):=by
 refine T.d_key_of.ok AF (λvs H Q E h=>bZ h) (λf cdv A outer s H vs Q E hr h=> ?_);obtain⟨F,R,df,da,st,vn,n,rfl,ra,⟨an,rfl,han⟩,f0,k⟩:=h;obtain⟨dR,hR⟩:=ra.dx;dsimp only at k
 refine⟨_,ae (aF (i:=2) AF.nd rfl (Or.inl rfl) (aB (o4 T) hr (ab (pv 0) (ab (pv 1) af))))
  (ae (aN (aK dI (pv 2) aG (aP _)) (ah (aq (aL (ab (pv 2) af)))) aE)
  (ah (aq (bD cC (aL (ab aG af)) (aB (Gn T) hr (ab (pv 0) (ab (cv (bT hr) (aD (pv 0) rfl) (bB T.b_tuple (pv 1)) (λ_ _=>rfl)) af))))))),?_⟩
 refine⟨_,rfl,_,rfl,F,R,df,da,st,_,n,rfl,ra,⟨an,rfl,han⟩,f0,λu F1 H1 e1 eu=> ?_⟩;subst eu;refine⟨_,rfl,rfl,_,rfl,bY (λhb=> ?_) (λhb=> ?_)⟩
 ·rw[fF (g9 hb)]at k;refine⟨_,rfl,aX _,λq hq=> ?_⟩;have e2:=e1.newF (o:= .lst [.int (jx st n)]) hq;exact k _ _ _ e2.x (ra.keep e2) (cK aa)
 obtain⟨h1,ac,h2,h3⟩:=lz (hC hb);rw[eA h1 h2 h3]at k;refine⟨aX _,λq2 hq2=> ?_⟩;have e2:=e1.new (o:= .lst [.int 0]) hq2;refine⟨_,rfl,_,rfl,R,C.Room,dR,_,_,rfl,e2.hh _ _ (f0 _ _ hR),T.k_Room.cl,T.n_Room_actions,rfl,_,rfl,an,_,rfl,e2.hh _ _ (f0 _ _ han),λq3 hq3=> ?_⟩;have e3:=e2.newF (o:= .tup ((zs n).map V.int)) hq3;have ne:q2≠q3:=az aa hq3;have ra3:=ra.keep e3;obtain⟨kvs,hda,hkl,hcase⟩:=ra3.act n;rcases hcase with⟨h4,_⟩|⟨ac',v,h4,h5,hv,ga,hnm⟩
 ·rw[h2]at h4;cases h4
 rw[h2]at h4;cases h4;have hget:=dj.t (k:=nk n) hda (by rw[bX];exact aa (a:=q3) (o:= .tup ((zs n).map V.int)));rw[h5]at hget;refine⟨da,_,rfl,hget,_,R,df,da,st,_,ac,rfl,ra3,hv,ga,h3,e3.fh,λu F4 H4 e4 ⟨⟨c4,eu,hc4⟩,hkl⟩=> ?_⟩;subst eu;refine⟨q2,c4,_,_,rfl,rfl,e4.hh _ _ (by rw[aj ne,aa]),e4.fh _ _ hc4,?_,λq5 hq5=> ?_⟩
 ·rw[aM];have :(8388608:Nat)<sizeLine:=by decide
  simp only[List.length_singleton];omega
 have e5:=(e3.trans e4).newF (o:= .lst ([.int 0]++(zs (Vabldi.key ac (Vabldi.inputsOf st ac))).map V.int)) hq5;exact k _ _ _ e5.x (ra.keep e5) (oX aa (by omega))
end
abbrev fH:Nat->Bool:=λ_=>false
abbrev AG(us:List Value)(ns:List Int):Prop:=Paired (λ(u:Value) (i:Int)=>∃t,u=Value.int i t) us ns
def o9(h:Heap)(v:Value)(ns:List Int):Prop:=ns≠[]/\∃a o xs n,v=Value.ref a/\h.get? a=some o/\o.cls=Value.type "tuple"/\o.data= .seq xs n/\AG xs.toList ns
theorem pc:∀{us:List Value} {ns:List Int} (i:Nat),AG us ns->tupItems fH i us=some (ns.map Sum.inl)
 |_,_,_,.nil=>rfl
 |_,_,i,.cons ⟨t,e⟩ r=>by
  subst e;rw[tupItems,if_neg (show¬false=true by decide),pc (i+1) r];rfl
theorem ub{h:Heap}{v:Value}{ns:List Int}(k:o9 h v ns):G.tupKeyC h fH v=some (ns.map Sum.inl):=by
 obtain⟨_,a,o,xs,n,rfl,ho,hc,hd,hi⟩:=k;exact G.tupKeyC_of ho hc hd (pc 0 hi)
theorem AH{h:Heap}{v:Value}{ns:List Int}(k:o9 h v ns):∃f,TupOf h fH v f:=by
 obtain⟨hne,a,o,xs,n,rfl,ho,hc,hd,hi⟩:=k;cases hx:xs.toList with
 |nil=>rw[hx]at hi;cases hi;exact absurd rfl hne
 |cons u us=>
  rw[hx]at hi;cases hi with
  |cons e _=>
   obtain⟨t,rfl⟩:=e;exact⟨_,a,o,xs,n,rfl,ho,hc,hd,by rw[<-Array.getElem?_toList,hx];rfl,λ_=>⟨_,t,rfl⟩,λz=>by cases z⟩
theorem pf{h:Heap}:∀{vs:List Value} {ks:List (List Int)},Paired (o9 h) vs ks->∃fs,TupsOf h fH vs fs
 |_,_,.nil=>⟨[],.nil⟩
 |_,_,.cons k r=>by
  obtain⟨f,hf⟩:=AH k;obtain⟨fs,hfs⟩:=pf r;exact⟨f::fs,.cons hf hfs⟩
theorem uc{h:Heap}{vs:List Value}{ks:List (List Int)}(p:Paired (o9 h) vs ks):∀v,v∈vs->∃l,G.tupKeyC h fH v=some l:=by
 intro v hv;obtain⟨i,hi⟩:=List.mem_iff_getElem?.mp hv;obtain⟨ns,_,k⟩:=bS p hi;exact⟨_,ub k⟩
theorem ue:∀ns ms:List Int,lexLt itemOrd (ns.map Sum.inl) (ms.map Sum.inl)=HT.lexLt ns ms
 |[],[]=>rfl
 |[],_::_=>rfl
 |_::_,[]=>rfl
 |x::r,y::t=>by
  have ih:=ue r t;show(decide (x<y)||(!decide (y<x)&&lexLt itemOrd (r.map Sum.inl) (t.map Sum.inl)))=if x=y then HT.lexLt r t else decide (x<y)
  rw[ih];by_cases e:x=y
  ·subst e;simp
  ·rw[if_neg e];by_cases l:x<y
   ·simp[l]
   ·have :y<x:=by omega
    simp[l,this]
theorem uf{α β γ:Type}{R:α->β->Prop}{S:α->γ->Prop}{zs vs:List β}(p:zs.Perm vs):∀{xs:List α} {ks:List γ},Paired R xs vs->Paired S xs ks->∃ys ms,Paired R ys zs/\Paired S ys ms/\ms.Perm ks:=by
 induction p with
 |nil=>
  intro xs ks h1 h2;cases h1;cases h2;exact⟨[],[],.nil,.nil,.refl _⟩
 |cons z _ ih=>
  intro xs ks h1 h2;cases h1 with
  |cons a b=>
   cases h2 with
   |cons c d=>
    obtain⟨ys,ms,q1,q2,q3⟩:=ih b d;exact⟨_::ys,_::ms,.cons a q1,.cons c q2,q3.cons _⟩
 |swap y z l=>
  intro xs ks h1 h2;cases h1 with
  |cons a b=>
   cases b with
   |cons a2 b=>
    cases h2 with
    |cons c d=>
     cases d with
     |cons c2 d=>exact⟨_,_,.cons a2 (.cons a b),.cons c2 (.cons c d),List.Perm.swap _ _ _⟩
 |trans _ _ ih1 ih2=>
  intro xs ks h1 h2;obtain⟨ys,ms,q1,q2,q3⟩:=ih2 h1 h2;obtain⟨ys',ms',r1,r2,r3⟩:=ih1 q1 q2;exact⟨ys',ms',r1,r2,r3.trans q3⟩
theorem AI{x:V}{q:Addr}(h:L2.be x (Value.ref q)):x=V.ref q:=by
 cases x with
 |ref a=>
  have h:Value.ref q=Value.ref a:=h;injection h with h
  rw[h]
 |non=>exact absurd (show Value.ref q=Value.none from h) (λz=>by cases z)
 |bl b=>exact absurd (show Value.ref q=Value.bool b from h) (λz=>by cases z)
 |ty n=>exact absurd (show Value.ref q=Value.type n from h) (λz=>by cases z)
 |int i=>obtain⟨t,e⟩:=(show∃t,Value.ref q=Value.int i t from h);cases e
 |str i=>obtain⟨t,e⟩:=(show∃t,Value.ref q=Value.str i t from h);cases e
 |byt i=>obtain⟨t,e⟩:=(show∃t,Value.ref q=Value.bytes i t from h);cases e
 |flt i=>obtain⟨t,e⟩:=(show∃t,Value.ref q=Value.float i t from h);cases e
theorem qJ{h:Heap}{vs:List Value}{ks:List (List Int)}(hk:Paired (o9 h) vs ks){arr:Array Keyed}(hp:arr.Perm (pairsOf vs))(hs:SortedToK (G.tupKindC h fH) arr (pairsOf vs).size){xs:List V}(hv:aW xs vs){R:V->List Int->Prop}(hR:Paired R xs ks):
  ∃ys ms,aW ys (arr.map (·.2)).toList/\Paired R ys ms/\ms.Perm ks/\ms.Pairwise (λa b=>HT.lexLt b a=false):=by
 have hl:arr.toList.Perm (vs.zip vs):=by rw[<-pairsOf_toList];exact Array.perm_iff_toList_perm.mp hp
 have diag:∀q∈arr.toList,q.1=q.2:=λq hq=>by
  have :=hl.mem_iff.mp hq;obtain⟨i,hi⟩:=List.mem_iff_getElem?.mp this;have :=List.getElem?_zip_eq_some.mp hi;exact Option.some.inj (this.1.symm.trans this.2)
 have hz:(arr.toList.map (·.2)).Perm vs:=by
  have :=hl.map (λq:Keyed=>q.2);rwa[List.map_snd_zip (Nat.le_refl _)]at this
 have both:Paired (λx (ns:List Int)=>R x ns/\∃a,x=V.ref a/\o9 h (Value.ref a) ns) xs ks:=by
  clear hp hs hl diag hz;induction hv generalizing ks with
  |nil=>cases hR;exact .nil
  |cons a b ih=>
   cases hR with
   |cons c d=>
    cases hk with
    |cons e f=>
     refine .cons ⟨c,?_⟩ (ih f d);have e':=e;obtain⟨_,q,_,_,_,rfl,_⟩:=e';exact⟨q,AI a,e⟩
 obtain⟨ys,ms,h1,h2,h3⟩:=uf hz hv both;refine⟨ys,ms,by rw[Array.toList_map];exact h1,Paired.mapP h2 λx ns q=>q.1,h3,?_⟩;rw[List.pairwise_iff_getElem];intro i j hi hj hij
 have key:∀k (hk:k<ms.length),KK (G.tupKindC h fH) arr k=ms[k].map Sum.inl:=λk hk=>by
  have hyl:=Paired.length h2;have hzl:=Paired.length h1;obtain⟨y,hy⟩:∃y,ys[k]? =some y:=⟨_,List.getElem?_eq_getElem (by omega)⟩;obtain⟨ns,hns,_,a,rfl,kt⟩:=bS h2 hy;obtain⟨z,hz2,rz⟩:=bS h1 hy;cases rz;rw[List.getElem?_map]at hz2;obtain⟨q,hq,hq2⟩:=Option.map_eq_some_iff.mp hz2;have hqm:=List.mem_of_getElem? hq;have hq':arr[k]? =some q:=by rw[<-Array.getElem?_toList];exact hq
  unfold KK;rw[hq'];show(G.tupKeyC h fH q.1).getD []=_;rw[diag q hqm,hq2,ub kt];rw[List.getElem?_eq_getElem hk]at hns;rw[Option.some.inj hns];rfl
 have hal:(pairsOf vs).size=ms.length:=by
  rw[<-Array.length_toList,pairsOf_toList,List.length_zip,Nat.min_self,<-hz.length_eq,<-Paired.length h1,Paired.length h2]
 have :=hs i j (Nat.le_of_lt hij) (by rw[hal];exact hj);rw[key i hi,key j hj]at this;have this:lexLt itemOrd (ms[j].map Sum.inl) (ms[i].map Sum.inl)=false:=this;rw[ue]at this;exact this
section
variable{X:Cx}{pins:List (Addr×Obj)}{σ:St}{H:Hp}{s:Shared}
def Da(H:Hp)(v:V)(ns:List Int):Prop:=ns≠[]/\∃b,v=V.ref b/\H b=some (.tup (ns.map V.int))
theorem qK:∀{ns:List Int} {us:List Value},aW (ns.map V.int) us->AG us ns
 |[],_,h=>by cases h;exact .nil
 |_::_,_,h=>by cases h with |cons a b=>exact .cons a (qK b)
theorem wd(I:aO X pins σ H s){b:Addr}{ns:List Int}(hn:ns≠[])(hb:H b=some (.tup (ns.map V.int))):o9 s.heap (.ref b) ns:=by
 obtain⟨its,r,⟨o,ho,hc,n,hd⟩,_⟩:=I.tuple (jN.of (K:=X.K) hb);exact⟨hn,b,o,_,n,rfl,ho,hc,hd,by simpa using qK r⟩
theorem hE(I:aO X pins σ H s):∀{xs:List V} {us:List Value} {ks:List (List Int)},aW xs us->Paired (Da H) xs ks->Paired (o9 s.heap) us ks
 |_,_,_,.nil,.nil=> .nil
 |_,_,_,.cons r t,.cons ⟨hn,b,e,hb⟩ q=>by
  subst e;obtain rfl:=(show _=Value.ref b from r);exact .cons (wd I hn hb) (hE I t q)
def AJ:V->Hp->VK->Prop:=λx H Q=>∃(a:Addr) (xs:List V) (ks:List (List Int)) (R:V->List Int->Prop),x= .ref a/\H a=some (.lst xs)/\Paired R xs ks/\(∀v ns,R v ns->Da H v ns)/\
 ∀(p:Addr) (ys:List V) (ms:List (List Int)),H p=none->Paired R ys ms->ms.Perm ks->ms.Pairwise (λa b=>HT.lexLt b a=false)->Q (.ref p) (aJ H p (.lst ys))
theorem AL:dB X (.builtin "sorted") (λvs H Q=>∃x,vs=[x]/\AJ x H Q):=by
 intro pins s σ H xs us Q I r h;obtain⟨x,rfl,a,xs,ks,R,rfl,ha,hp,hR,q⟩:=h;obtain⟨u,rfl,ru⟩:=iz r;cases ru;obtain⟨z,its,n,rv,hlen,oa⟩:=I.lstM ha;have hk:=hE I rv (Paired.mapP hp hR);obtain⟨fs,hfs⟩:=pf hk;refine G.sorted_tups ⟨_,oa,rfl,n,rfl⟩ hfs (uc hk) (by rw[<-hlen];exact z) λst' p1 p2 p3=> ?_
 obtain⟨ys,ms,y1,y2,y3,y4⟩:=qJ hk p1 p2 rv hp;obtain⟨ep,he⟩:=sortedAll_at s.heap its ((arrOf st').map (·.2));have yl:ys.length<=sizeLine:=by rw[Paired.length y2,y3.length_eq,<-Paired.length hp];exact z
 refine⟨.ref _,aJ H (s.heap.objs.size+1) (.lst ys),I.laid (t':=s.toks) (λ_ _=>sortedAll_old) (Nat.le_succ _) ⟨yl,_,ep,y1,by rw[Array.toArray_toList];exact he⟩,rfl,q _ _ _ (I.hok.fresh (Nat.le_succ _)) y2 y3 y4⟩
end
section
variable{prog:Program}{w:World}{A:Around}{a:Addr}{o:Obj}{es:Array DictEntry}{ep:Nat}
theorem yx(hh:A.handled=none)(hdat:o.data= .dict es ep)(it:Addr)(hne:a≠it):Walks prog w A it [it,a] [it] es.size (λi v=>∃en,es[i]? =some en/\v=en.key) (λi h=>h.IsKeyIter it a i es.size ep/\h.get? a=some o) where
 sub:=λb hb=>by simp at hb;simp[hb]
 frame:=λi h h' st k=>⟨st.1.at λq e=>k it (by simp) q e,k a (by simp) o st.2⟩
 item:=λi s Q E hi st hQ=>by
  have hx:es[i]? =some es[i]:=Array.getElem?_eq_getElem hi;refine jz st.1 st.2 hdat rfl hx λh' st' sb=> ?_
  exact hQ _ h' s.toks ⟨_,hx,rfl⟩ ⟨st',(sb.2 a hne).trans st.2⟩ λb q hb e=>(sb.2 b (λz=>hb (by simp[z]))).trans e
 done:=λs Q E st hQ=>gG hh st.1 st.2 hdat rfl (Nat.le_refl _) λh' eb=>hQ h' s.toks λb q hb e=>eb b q (λz=>hb (by simp[z])) e
 self:=λi s Q E st hQ=>wpAny_pyIter_keyiter st.1 hQ
theorem AM(hd:(a==sysModules)=false)(hx:o.ExactDict)(hdat:o.data= .dict es ep):PySem.W.KdlSrc prog w "dict" a a es.size (λi v=>∃en,es[i]? =some en/\v=en.key) (λh=>h.get? a=some o) where
 type:=λs h=>⟨o,h,hx.1⟩
 there:=λh e=>⟨Heap.lt_size e,Heap.lt_size e⟩
 keep:=λh h' e k=>k a (.inl rfl) o e
 notList:=by decide
 notTuple:=by decide
 hint:=λA E s Q h q=>PySem.W.kdl_hint_dict ⟨o,h,hx.1⟩ q
 iter:=λA s hh h=>⟨_,_,(λE Q q=>lL hd h hx hdat q),yx hh hdat _ (Nat.ne_of_lt (Heap.lt_size h)),⟨⟨_,Heap.get?_push_size _ rfl,rfl,rfl⟩,Heap.get?_push_of_some _ h⟩⟩
end
theorem yy{h h':Heap}{v:Value}{ns:List Int}(k:o9 h v ns)(e:∀b o,h.get? b=some o->h'.get? b=some o):o9 h' v ns:=by
 obtain⟨hn,a,o,xs,n,h1,h2,h3,h4,h5⟩:=k;exact⟨hn,a,o,xs,n,h1,e _ _ h2,h3,h4,h5⟩
theorem hJ{α β:Type}{R:α->β->Prop}:∀{xs:List α} {ks:List β},xs.length=ks.length->(∀(i:Nat) (x:α) (k:β),xs[i]? =some x->ks[i]? =some k->R x k)->Paired R xs ks
 |[],[],_,_=> .nil
 |[],_::_,h,_=>by simp at h
 |_::_,[],h,_=>by simp at h
 |x::xs,k::ks,h,g=> .cons (g 0 x k rfl rfl) (hJ (by simpa using h) λi y l hy hl=>g (i+1) y l (by simpa using hy) (by simpa using hl))
theorem yz{prog:Program}{w:World}{A:Around}{E:Value->Shared->Prop}{s:Shared}{T:String}{r d:Addr}{n:Nat}{P:Nat->Value->Prop}{OK:Heap->Prop}{R:List Value->Shared->Prop}(K:PySem.W.KdlSrc prog w T r d n P OK)(hh:A.handled=none)(hok:OK s.heap)(hn:n<=sizeLine)
  (fin:∀(h':Heap) (tk:Nat) (acc:Array Value),(∀b o,s.heap.get? b=some o->h'.get? b=some o)->s.heap.objs.size<h'.objs.size->ItemsOf P acc n->R acc.toList {s with heap:=h',toks:=tk}):wpAny (model prog w) A (collect (.ref r)) R E s:=by
 obtain⟨hr1,hd1⟩:=K.there _ hok;generalize hL:s.heap.objs.size=L at *
 have okL:OK (s.heap.push (seqObj "list" #[] 0)):=K.keep _ _ hok λb _ o e=>Heap.get?_push_of_some _ e
 have oL:(s.heap.push (seqObj "list" #[] 0)).get? L=some {cls:= .type "list",data:= .seq #[] 0}:=by rw[<-hL];exact Heap.get?_push_size _ rfl
 let Z:Result->Shared->Prop:=λq s'=>q= .ok (.ret (.ref L))/\∃(h':Heap) (tk:Nat) (acc:Array Value) (c:Nat),s'={s with heap:=h',toks:=tk}/\(∀b o,s.heap.get? b=some o->h'.get? b=some o)/\h'.get? L=some {cls:= .type "list",dict:=none,data:= .seq acc c,slots:=#[]}/\ItemsOf P acc n
 have last:∀q s',Z q s'->q= .ok (.ret (.ref L))/\wpAny (model prog w) A (do
   let o<-load L
   match o.data with
   | .seq xs _=>pure xs.toList
   |_=>unsupported "internal:collect") R E s':=by
  rintro q s' ⟨rfl,h',tk,acc,c,rfl,keep,hl,hi⟩
  exact⟨rfl,wpAny_bind (wpAny_load hl (wpAny_pure (fin h' tk acc keep (Heap.lt_size hl) hi)))⟩
 have go:=PySem.W.kdl_extend (A:=A) (s:={s with heap:=s.heap.push (seqObj "list" #[] 0)}) (R:=Z) K hh okL L (Nat.ne_of_gt hr1) (Nat.ne_of_gt hd1) (.ref L) 0 oL
  (λh' tk acc c keep hl hi=>⟨rfl,h',tk,acc,c,rfl,λb o e=>keep b o (by rintro rfl;exact Nat.lt_irrefl _ (hL▸Heap.lt_size e)) (Heap.get?_push_of_some _ e),hl,hi⟩) hn
 unfold collect;refine wpAny_bind (wpAny_runValue (codeAny_builtin entry_proto_collect' ?_));rw[Around.under_plainId PySem.F.plain_proto_collect _];show wpAny _ _ (newList []>>= λl=>again (.builtin "list.__iadd__" ⟨[l,.ref r],[]⟩)) _ _ s;refine wpAny_bind (wpAny_newList (wpAny_pure ⟨plainId_quiet PySem.F.plain_list_iadd _,codeAny_builtin entry_list_iadd' ?_⟩));rw[Around.under_plainId PySem.F.plain_list_iadd _,hL];refine wpAny_mono go (λf s' x=> ?_) λe s' x=>(by cases x.1)
 cases f with
 |done f=>
  obtain⟨e,y⟩:=last _ _ x;cases e;exact y
 |again c=>
  refine⟨x.1,codeAny_mono x.2 λq s2 y=> ?_⟩;obtain⟨e,y2⟩:=last _ _ y;cases e;exact y2
section
variable{X:Cx}
def AN:V->Hp->VK->Prop:=λx H Q=>∃(a:Addr) (kvs:List (List bG×V)) (ks:List (List Int)),x= .ref a/\H a=some (.dT kvs)/\kvs.map (·.1)=ks.map (λns=>ns.map Sum.inl)/\(∀ns∈ks,ns≠[])/\
 ∀(p:Addr) (ys:List V) (ms:List (List Int)),H p=none->Paired (Da H) ys ms->ms.Perm ks->ms.Pairwise (λa b=>HT.lexLt b a=false)->Q (.ref p) (aJ H p (.lst ys))
theorem Cy(ns:List Int):(ns.map (Sum.inl:Int->bG)).map kV=ns.map V.int:=by simp[kV]
theorem AO{j:Nat}(hr:Room j X.A):dB X (.builtin "sorted") (λvs H Q=>∃x,vs=[x]/\AN x H Q):=by
 intro pins s σ H xs us Q I r h;obtain⟨x,rfl,a,kvs,ks,rfl,ha,hks,hne,q⟩:=h;obtain⟨u,rfl,ru⟩:=iz r;cases ru;obtain⟨z,hd,xs,rel,o,es,ep,ho,hx,hdat,he,_,_⟩:=wF I.hok ha;have hsz:es.size=kvs.length:=by rw[size_of_entries he];exact(Paired.length rel).symm
 have hkl:kvs.length=ks.length:=by have :=congrArg List.length hks;simpa using this
 have hkeys:∀(i:Nat) (ns:List Int),ks[i]? =some ns->∃(en:DictEntry) (b:Addr),es[i]? =some en/\en.key= .ref b/\H b=some (.tup (ns.map V.int)):=λi ns hi=>by
  have h1:(kvs.map (·.1))[i]? =some (ns.map Sum.inl):=by rw[hks,List.getElem?_map,hi];rfl
  rw[List.getElem?_map]at h1;obtain⟨kv,hkv,e1⟩:=Option.map_eq_some_iff.mp h1;obtain⟨q,hq,e2,e3,_⟩:=bS rel hkv;have h2:=entry_at he i;rw[hq]at h2;refine⟨_,q.2.1,h2,rfl,?_⟩;rw[e1,Cy]at e3;exact e3
 refine Calls.call_function_entry kind_sorted plain_sorted entry_sorted (args_sorted1 _) ?_;unfold Builtin.«sorted»;refine wpAny_bind (m:=checkCount "sorted" 1 1 _) (wpAny_pure (wpAny_bind (yz (A:=X.A.in1) (AM hd hx hdat) hr.hd ho (by rw[hsz];exact z) λh' tk acc keep hlt hacc=> ?_)));have hal:acc.toList.length=ks.length:=by rw[Array.length_toList,hacc.1,hsz,hkl]
 refine wpAny_bind (wpAny_newList ?_ (by rw[hal,<-hkl];exact z))
 have hix:∀(i:Nat) (u:Value) (ns:List Int),acc.toList[i]? =some u->ks[i]? =some ns->∃b,u= .ref b/\H b=some (.tup (ns.map V.int)):=λi u ns hu hn=>by
  obtain⟨en,b,h1,h2,h3⟩:=hkeys i ns hn;obtain⟨en',h4,h5⟩:=hacc.2 i u (by rw[<-Array.getElem?_toList];exact hu);rw[h1]at h4;cases h4;exact⟨b,by rw[h5,h2],h3⟩
 have hvals:aW (acc.toList.map λu=>match u with | .ref b=>V.ref b|_=>V.non) acc.toList:=by
  refine hJ (by simp) λi x u hx hu=> ?_
  rw[List.getElem?_map,hu]at hx;obtain⟨ns,hn⟩:∃ns,ks[i]? =some ns:=⟨_,List.getElem?_eq_getElem (by rw[<-hal];exact(List.getElem?_eq_some_iff.mp hu).1)⟩;obtain⟨b,rfl,_⟩:=hix i u ns hu hn;have :V.ref b=x:=Option.some.inj hx;rw[<-this];rfl
 have hzt:Paired (Da H) (acc.toList.map λu=>match u with | .ref b=>V.ref b|_=>V.non) ks:=by
  refine hJ (by simpa using hal) λi x ns hx hn=> ?_
  rw[List.getElem?_map]at hx;obtain⟨u,hu,e⟩:=Option.map_eq_some_iff.mp hx;obtain⟨b,rfl,hb⟩:=hix i u ns hu hn;exact⟨hne ns (List.mem_of_getElem? hn),b,e.symm,hb⟩
 have hk:=hE I hvals hzt;have hk2:Paired (o9 (h'.push (seqObj "list" acc.toList.toArray 0))) acc.toList ks:=Paired.mapP hk λv ns k=>yy k λb o e=>Heap.get?_push_of_some _ (keep b o e)
 obtain⟨fs,hfs⟩:=pf hk2;have oL:(h'.push (seqObj "list" acc.toList.toArray 0)).get? h'.objs.size=some (seqObj "list" acc.toList.toArray 0):=Heap.get?_push_size _ rfl;refine wpAny_bind (wpAny_holding (wpAny_call_entry slot_list_sort ⟨_,oL,rfl⟩ entry_list_sort (G.list_sort_tups (s:={s with heap:=h'.push (seqObj "list" acc.toList.toArray 0),toks:=tk}) oL hfs (uc hk2) (by rw[hal,<-hkl];exact z) λst' p1 p2 p3=>⟨_,rfl,wpAny_pure ⟨_,rfl,?_⟩⟩) (args_list_sort _)));obtain⟨ys,ms,y1,y2,y3,y4⟩:=qJ hk2 p1 p2 hvals hzt;obtain⟨e,he2⟩:=sortedHeap_at (out:=(arrOf st').map (·.2)) oL;have yl:ys.length<=sizeLine:=by rw[Paired.length y2,y3.length_eq,<-hkl];exact z
 refine⟨.ref _,aJ H h'.objs.size (.lst ys),I.laid (t':=tk) (λb u hb=> ?_) (Nat.le_of_lt hlt) ⟨yl,_,e,y1,by rw[Array.toArray_toList];exact he2⟩,rfl,q _ _ _ (I.hok.fresh (Nat.le_of_lt hlt)) y2 y3 y4⟩;have h1:=keep b u hb;have h2:=Heap.lt_size h1;rw[sortedHeap_old (Nat.ne_of_lt h2) (by rw[Heap.size_push];exact Nat.lt_succ_of_lt h2)];exact Heap.get?_push_of_some _ h1
end
section
variable{X:Cx}{e:Expr}{te:TE}{pos p:Pos}{j:Nat}
theorem AQ(hr:Room j X.A)(hm:X.mg "sorted"=none)(he:PE X e te)(hg:Gl X "sorted":=by rfl)(hs:starEach [e] X.env=(false,eval e X.env)::starEach [] X.env:=by rfl)(hpl:(backTo pos (starEach [] X.env)).any (·.1)=false:=by rfl):
  PE X (.Call (.Name "sorted" p) [e] [] pos) (uJ AN te):=iK (AO hr) (λv H Q h=>⟨v,rfl,h⟩) hm lY he hg (by decide) (by decide) hs hpl
theorem AR(hm:X.mg "sorted"=none)(he:PE X e te)(hg:Gl X "sorted":=by rfl)(hs:starEach [e] X.env=(false,eval e X.env)::starEach [] X.env:=by rfl)(hpl:(backTo pos (starEach [] X.env)).any (·.1)=false:=by rfl):
  PE X (.Call (.Name "sorted" p) [e] [] pos) (uJ AJ te):=iK AL (λv H Q h=>⟨v,rfl,h⟩) hm lY he hg (by decide) (by decide) hs hpl
end
theorem bo.hp{F H F1 H1 H2:Hp}(e:bo F H F1 H1)(s:aH H1 H2):bo F H F1 H2:=⟨e.f0,e.ff,e.fh.trans s,e.hh.trans s,e.sp⟩
theorem mP{ms:List (List Int)}{ts:List ai}(p:ms.Perm (ts.map zs))(w:ms.Pairwise λa b=>HT.lexLt b a=false):ms=(Vabldi.sorted ts).map zs:=by
 obtain⟨us,rfl⟩:=Ac p
 have p2:us.Perm ts:=by
  have :=p.map FS;rwa[nw,nw]at this
 rw[qx p2];rw[List.pairwise_map]at w;exact w.imp λ{a b} h=>by rw[vI]at h;exact h
theorem AS{H:Hp}:∀{ys:List V} {ts:List ai},Paired (Da H) ys (ts.map zs)->Paired (gI H) ys ts
 |_,[],h=>by cases h;exact .nil
 |_,t::r,h=>by cases h with |cons a b=>exact .cons a.2 (AS b)
theorem qL{l:List ai}(h:l.Pairwise λa b=>Vabldi.textBefore a b=true):wS l:=h.imp λ{a b} z=>nu z
theorem xb{n:ai}(h:Vabldi.isName n=true):zs n≠[]:=by
 intro e;have :n.length=0:=by have :=congrArg List.length e;simpa [zs]using this
 unfold Vabldi.isName at h;simp only[Bool.and_eq_true,decide_eq_true_eq]at h;omega
theorem Go(t:ai):nk t=(zs t).map Sum.inl:=by simp[nk,zs]
section
variable{P:Program}{w:World}{K:PySem.W.Frag}{mg:Str->Option Value}{base:Heap}{C:Cs}
def ug(C:Cs)(g:Vabldi.State->Vabldi.Answer):Sp:=λvs H Q _=>∃(F:Hp) (R df da:Addr) (s:Vabldi.State),vs=[.ref R]/\aQ C F H R df da s/\aH F H/\
 ∀u F1 H1,bc [df,da] F H F1 H1->aQ C F1 H1 R df da s->pK F1 u (g s)->Q u H1
theorem Gp:aC ["room"] ["room"] (ao kQ):=⟨rfl,rfl,rfl,by decide+kernel,rfl,by decide+kernel,by decide+kernel⟩
theorem Gq(T:Tx K mg C):Ok P w K mg base "list_files" ["room"] 2 (ug C λs=>Vabldi.num s.files.length (Vabldi.putLines (s.files.map λf=>f.name))):=by
 refine T.d_list_files.ok Gp (λvs H Q E h=>by obtain⟨_,_,_,_,_,e,_⟩:=h;rw[e];rfl) (λf cdv A outer s H vs Q E hr h=> ?_);obtain⟨F,R,df,da,st,rfl,ra,f0,k⟩:=h;obtain⟨dR,hR⟩:=ra.dx;dsimp only at k;refine⟨_,ah (aq (bD cC (aL (ab (ni T.b_len (aD (pv 0) rfl)) af)) (aB (bt T) hr (ab (AQ hr T.b_sorted (aD (pv 0) rfl)) af)))),?_⟩;obtain⟨kvs,hdf,l,hl,hp⟩:=ra.fs;have hkl:kvs.length=st.files.length:=by rw[aA hl,hp.length_eq]
 refine⟨_,rfl,R,C.Room,dR,_,_,rfl,f0 _ _ hR,T.k_Room.cl,T.n_Room_files,rfl,df,kvs,rfl,hdf,aX _,λq hq=> ?_⟩;have e1:=(bo.refl f0).new (o:= .lst [.int kvs.length]) hq
 have hks:kvs.map (·.1)=(l.map λf=>zs f.name).map λns=>ns.map Sum.inl:=by
  clear hp hkl hdf hq e1 k;induction hl with
  |nil=>rfl
  |cons a b ih=>rw[List.map_cons,List.map_cons,List.map_cons,ih,a.1,Go]
 refine⟨_,rfl,R,C.Room,dR,_,_,rfl,e1.hh _ _ (f0 _ _ hR),T.k_Room.cl,T.n_Room_files,rfl,df,kvs,(l.map λf=>zs f.name),rfl,e1.hh _ _ hdf,hks,?_,λp ys ms hp0 hys hms hpw=> ?_⟩
 ·intro ns hns;obtain⟨fl,hfl,rfl⟩:=List.mem_map.mp hns;exact xb (ra.gd.fg fl (hp.mem_iff.mp hfl)).1
 have hnames:ms=(st.files.map λf=>f.name).map zs:=by
  have h1:ms.Perm ((l.map λf=>f.name).map zs):=by rw[List.map_map];exact hms
  rw[mP h1 hpw];congr 1;exact lh ((cI _).trans (hp.map _)) (g6 _) (qL ra.gd.fo)
 rw[hnames]at hys;have hys:=AS hys
 have nl:(Vabldi.putLines (st.files.map λf=>f.name)).length<=64*33:=by
  have h1:=gp (ts:=st.files.map λf=>f.name) λx hx=>by
   obtain⟨fl,hfl,rfl⟩:=List.mem_map.mp hx;exact(ra.gd.fg fl hfl).1
  rw[List.length_map]at h1;have h2:st.files.length*33<=64*33:=Nat.mul_le_mul_right _ ra.gd.fl;omega
 have e2:=e1.new (o:= .lst ys) hp0;have neq:q≠p:=az aa hp0;refine⟨_,_,st.files.map λf=>f.name,rfl,⟨p,ys,rfl,aa,Paired.mapP hys λv d r=>(r.mono (λb o h=>by rw[aj (az h hp0)];exact h)).any⟩,by omega,aH.refl _,λu F3 H3 e3 ⟨b,eu,hb⟩=> ?_⟩;subst eu;have e4:=e2.hp e3.hh;refine⟨q,b,_,_,rfl,rfl,e3.hh _ _ (by rw[aj neq,aa]),e3.fh _ _ hb,?_,λq5 hq5=> ?_⟩
 ·rw[aM];have :(8388608:Nat)<sizeLine:=by decide
  simp only[List.length_singleton];omega
 have e5:=e4.newF (o:= .lst ([.int kvs.length]++(zs (Vabldi.putLines (st.files.map λf=>f.name))).map V.int)) hq5;refine k _ _ _ e5.x (ra.keep e5) (cV (n:=st.files.length) (t:=Vabldi.putLines (st.files.map λf=>f.name)) ?_ (by omega));rw[aa,hkl];rfl
end
section
variable{prog:Program}{w:World}{A:Around}{E:Value->Shared->Prop}{s:Shared}
theorem yA{D:Addr}(nsys:(D==sysModules)=false):MeetsIn prog w (Builtin.«dict.values» ⟨[.ref D],[]⟩) (λ_ R s=>s.TypeIs (.ref D) "dict"/\
  R (.ok (.ret (.ref s.heap.objs.size))) {s with heap:=s.heap.push {cls:= .type "dict_values",data:= .fields #[.ref D]}}):=by
 refine .of_wp λA R s ⟨ty,fin⟩=>wpAny_bind ?_
 unfold Builtin.Dict.noArgs;refine wpAny_bind (wpAny_notOrdered_dict ty (wpAny_pure ?_));show wpAny _ _ (Builtin.Dict.showsAll D>>= _) _ _ s;unfold Builtin.Dict.showsAll;rw[if_neg (by simp[nsys])];exact wpAny_bind (wpAny_pure (wpAny_bind (wpAny_newObj_type (wpAny_pure ⟨_,rfl,fin⟩))))
theorem yB{V0 D:Addr}{od:Obj}{ents:Array DictEntry}{epo:Nat}{Q:Value->Shared->Prop}(view:s.heap.IsValuesView V0 D)(dict:s.heap.get? D=some od)(dat:od.data= .dict ents epo)
  (fin:Q (.ref s.heap.objs.size) {s with heap:=s.heap.push {cls:= .type "dict_valueiterator",data:= .fields #[.ref D,.int 0 0,.int ents.size 0,.int epo 0]}}):wpAny (model prog w) A (pyIter (.ref V0)) Q E s:=by
 have tv:=view.typeIs;obtain⟨ow,gw,_,dw⟩:=view;refine wpAny_pyIter_slot tv F.slot_dict_values_iter (wpAny_call_entry F.slot_dict_values_iter tv F.entry_dict_values_iter (wpAny_bind (wpAny_pure (wpAny_bind ?_))) (F.args_dict_values_iter_1 _));unfold Builtin.Dict_items.dictOf;refine wpAny_bind (wpAny_field gw dw (x:= .ref D) rfl (wpAny_pure (wpAny_bind ?_)));unfold Builtin.Dict_items.newIterator;refine wpAny_bind (wpAny_dictEntries dict dat (wpAny_bind (wpAny_dictEpoch dict dat ?_)));simp only[show Builtin.Dict_items.ownsTuple "dict_valueiterator"=false by decide,Bool.false_eq_true,if_false];exact wpAny_newObj_type (wpAny_pure ⟨_,rfl,"dict_valueiterator",_,⟨_,Heap.get?_push_size _ rfl,rfl⟩,F.slot_dict_valueiterator_next.lookup,fin⟩)
theorem yC{it D:Addr}{i n epo:Nat}{od:Obj}{ents:Array DictEntry}{Q:Option Value->Shared->Prop}(hit:s.heap.IsValIter it D i n epo)(dict:s.heap.get? D=some od)(dat:od.data= .dict ents epo)(sz:ents.size=n){en:DictEntry}(hx:ents[i]? =some en)
  (fin:∀h',h'.IsValIter it D (i+1) n epo->Heap.SameBut it s.heap h'->Q (some en.val) {s with heap:=h'}):wpAny (model prog w) A (pyNext (.ref it)) Q E s:=by
 have ti:=hit.typeIs;obtain⟨oi,gi,ci,di⟩:=hit;obtain⟨lt,een⟩:=Array.getElem?_eq_some_iff.mp hx;refine wpAny_bind (wpAny_attempt (wpAny_callSpecial?_slot (name:=Str.ofString "__next__") ti F.slot_dict_valueiterator_next (wpAny_call_entry F.slot_dict_valueiterator_next ti F.entry_dict_valueiterator_next (wpAny_bind (wpAny_pure (wpAny_bind (wpAny_bind ?_)))) (F.args_dict_valueiterator_next_1 _))));refine wpAny_bind (wpAny_typeNameOfWhole_valiter ti (wpAny_pure (wpAny_bind (wpAny_fieldsOf gi di ?_))));simp only[show Builtin.Dict_items.ownsTuple "dict_valueiterator"=false by decide,Bool.false_eq_true,if_false];show wpAny _ _ (if(Value.ref D== .none)=true then _ else _) _ _ _;rw[if_neg (by rw[show(Value.ref D== .none)=false from rfl];decide)];refine wpAny_bind (wpAny_pure (wpAny_bind (wpAny_dictEntries dict dat ?_)));rw[if_neg (by simp[sz])];refine wpAny_bind (wpAny_pure (wpAny_bind (wpAny_dictEpoch dict dat ?_)));rw[if_neg (by simp)];refine wpAny_pure ?_;simp only[Int.not_ofNat_neg,if_false,Int.toNat_natCast,Array.getElem?_eq_getElem lt];refine wpAny_bind (wpAny_bind (wpAny_typeNameOfWhole_valiter ti (wpAny_pure (wpAny_bind (wpAny_isOneOf_valiter ti ?_)))));show wpAny _ _ (setField (.ref it) 1 (rawInt ((i:Int)+1))>>= _) _ _ _;refine wpAny_bind (wpAny_setField gi di (by simp) ?_);generalize eH:s.heap.update it (Obj.mapFields (·.setIfInBounds 1 (rawInt ((i:Int)+1))))=hN
 have itN:hN.IsValIter it D (i+1) n epo:=by
  rw[<-eH];refine⟨_,Heap.get?_update_self _ gi (Obj.isFreed_of_fields (Obj.data_mapFields di _)),(Obj.cls_mapFields ..).trans ci,?_⟩;rw[Obj.data_mapFields di];simp[rawInt]
 have sbN:Heap.SameBut it s.heap hN:=by rw[<-eH];exact Heap.SameBut.update ..
 refine wpAny_bind (wpAny_holding (wpAny_bind (wpAny_isOneOf_valiter (s:={s with heap:=hN}) itN.typeIs (wpAny_bind (wpAny_isOneOf_valiter (s:={s with heap:=hN}) itN.typeIs ?_)))));show wpAny _ _ (pure ents[i].val) _ _ _;rw[een];exact wpAny_pure (wpAny_pure ⟨_,rfl,wpAny_pure (fin hN itN sbN)⟩)
theorem AT{it D:Addr}{i n epo:Nat}{od:Obj}{ents:Array DictEntry}{Q:Option Value->Shared->Prop}(noh:A.handled=none)(hit:s.heap.IsValIter it D i n epo)(dict:s.heap.get? D=some od)(dat:od.data= .dict ents epo)(sz:ents.size=n)(ge:n<=i)
  (fin:∀h',Heap.ExtBut it s.heap h'->Q none {s with heap:=h'}):wpAny (model prog w) A (pyNext (.ref it)) Q E s:=by
 have ti:=hit.typeIs;obtain⟨oi,gi,ci,di⟩:=hit;refine wpAny_bind (wpAny_attempt (wpAny_callSpecial?_slot (name:=Str.ofString "__next__") ti F.slot_dict_valueiterator_next (wpAny_call_entry F.slot_dict_valueiterator_next ti F.entry_dict_valueiterator_next (wpAny_bind (wpAny_pure (wpAny_bind (wpAny_bind ?_)))) (F.args_dict_valueiterator_next_1 _))));refine wpAny_bind (wpAny_typeNameOfWhole_valiter ti (wpAny_pure (wpAny_bind (wpAny_fieldsOf gi di ?_))));simp only[show Builtin.Dict_items.ownsTuple "dict_valueiterator"=false by decide,Bool.false_eq_true,if_false];show wpAny _ _ (if(Value.ref D== .none)=true then _ else _) _ _ _;rw[if_neg (by rw[show(Value.ref D== .none)=false from rfl];decide)];refine wpAny_bind (wpAny_pure (wpAny_bind (wpAny_dictEntries dict dat ?_)));rw[if_neg (by simp[sz])];refine wpAny_bind (wpAny_pure (wpAny_bind (wpAny_dictEpoch dict dat ?_)));rw[if_neg (by simp)];refine wpAny_pure ?_;simp only[Int.not_ofNat_neg,if_false,Int.toNat_natCast,Array.getElem?_eq_none (show ents.size<=i by omega)];refine wpAny_bind (wpAny_bind (wpAny_typeNameOfWhole_valiter ti (wpAny_pure ?_)));show wpAny _ _ (setField (.ref it) 0 .none>>= _) _ _ _;refine wpAny_bind (wpAny_setField gi di (by simp) ?_);show wpAny _ _ (newExc (.type "StopIteration") []>>= _) _ _ _;refine wpAny_bind ?_;simp only[newExc,newTuple];refine wpAny_bind (wpAny_newObj_type (wpAny_bind (m:=firstArgMember _ _) (wpAny_of_eq (a:=Value.none) (by first|rfl|(simp only[firstArgMember];rfl)) (wpAny_newObj_type ?_ (by size_fits)))) (by size_fits));simp only[raiseNew];refine wpAny_bind (wpAny_handled ?_);rw[show A.in1.handled=none from noh];refine wpAny_bind (wpAny_pure (wpAny_throw ?_));exact wpAny_bind (wpAny_isInstance (b:=true) (T:="StopIteration") ⟨_,Heap.get?_push_size _ rfl,rfl⟩ isSubtype_stop (wpAny_pure (fin _ (((Heap.SameBut.update ..).extBut.push _).push _))))
end
def AU(d:Addr)(o:Obj)(kvs:List (List bG×V)):It:=
 ⟨λi H=>H d=some (.frz o (.dT kvs))/\i<kvs.length,λi H x H'=>H'=H/\∃k,kvs[i]? =some (k,x),λi H=>H d=some (.frz o (.dT kvs))/\kvs.length<=i⟩
theorem ph{X:Cx}{pins:List (Addr×Obj)}{σ:St}{H:Hp}{s:Shared}{d:Addr}{o:Obj}{kvs:List (List bG×V)}(I:aO X pins σ H s)(h:H d=some (.frz o (.dT kvs))):
  (d==sysModules)=false/\s.heap.get? d=some o/\o.ExactDict/\∃(es:Array DictEntry) (ep:Nat),o.data= .dict es ep/\es.size=kvs.length/\∀(i:Nat) (k:List bG) (v:V),kvs[i]? =some (k,v)->∃en:DictEntry,es[i]? =some en/\L2.be v en.val:=by
 obtain⟨hd,z,hs,xs,pr,o',es,ep,ho,hx,hdt,he,_⟩:=I.hok d _ h;rw[hd]at ho;cases ho;refine⟨hs,hd,hx,es,ep,hdt,?_,λi k v e=> ?_⟩
 ·rw[size_of_entries he];exact(Paired.length pr).symm
 ·obtain⟨b,hb,_,_,e3⟩:=bS pr e;have q:=entry_at he i;rw[hb]at q;exact⟨_,q,e3⟩
theorem we{P:Program}{w:World}{K:PySem.W.Frag}{tg:Expr}{d:Addr}{o:Obj}{es:Array DictEntry}{ep:Nat}{kvs:List (List bG×V)}(it:Addr)(hod:o.data= .dict es ep):pE P w K tg (AU d o kvs) [it] it (λi h=>h.IsValIter it d i kvs.length ep) where
 mem:=by simp
 obj:=λi h st b hb=>by
  have e:b=it:=by simpa using hb
  subst e;obtain⟨oi,e,c,dd⟩:=st;exact⟨oi,e,λv z=>by rw[dd]at z;cases z⟩
 keep:=λi h h' st k=>st.at λoi e=>k it (by simp) oi e
 item:=by
  intro X hP hw hK hc i pins s σ H E I hf st hg;subst hP hw hK;obtain⟨hd,hi⟩:=hg;obtain⟨f0,f1,f2,f3,f4,f5⟩:=hf it (by simp);obtain⟨hs,hgd,hx,es',ep',hdt,hsz,ent⟩:=ph I hd;obtain⟨rfl,rfl⟩:=jk hod hdt;obtain⟨⟨k,v⟩,hkv⟩:∃p,kvs[i]? =some p:=⟨kvs[i],List.getElem?_eq_getElem hi⟩;obtain⟨en,hen,rv⟩:=ent i k v hkv;refine yC st hgd hdt hsz hen λh' st' sb=> ?_
  have I1:aO X pins σ H {s with heap:=h'}:=I.turned (t':=s.toks) (λb ob hb e=>(sb.2 b hb).trans e) f0 f1 f3 f4 f5;obtain⟨oi,e,c,dd⟩:=id st';exact⟨en.val,rfl,pQ (s:={s with heap:=h'}) e c dd (by decide) ⟨v,H,I1,rv,⟨rfl,k,hkv⟩,st',λb hb=>(hf b hb).1⟩⟩
 done:=by
  intro X hP hw hK hc i pins s σ H E I hf st hg;subst hP hw hK;obtain⟨hd,hi⟩:=hg;obtain⟨f0,f1,f2,f3,f4,f5⟩:=hf it (by simp);obtain⟨hs,hgd,hx,es',ep',hdt,hsz,ent⟩:=ph I hd;obtain⟨rfl,rfl⟩:=jk hod hdt;exact AT (I.ok.hd hc) st hgd hdt hsz hi λh' eb=>⟨rfl,I.turned (t':=s.toks) (λb ob hb e=>eb b ob hb e) f0 f1 f3 f4 f5⟩
 self:=λA i s Q E st h=>wpAny_pyIter_valiter st h
def EJ(td:TE):TI:=λσ H R=>td σ H λx H1=>∃d o kvs,x= .ref d/\H1 d=some (.frz o (.dT kvs))/\R (AU d o kvs) H1
theorem wf{X:Cx}{tg e:Expr}{td:TE}{apos cpos:Pos}(he:PE X e td)(hbase:attributeBase e "values" X.env (eval e X.env)=eval e X.env:=by rfl)(hline:(apos.endLine==cpos.line)=true:=by rfl):PI X tg (.Call (.Attribute e "values" apos) [] [] cpos) (EJ td):=by
 intro pins s σ H R I h;refine wpAny_Call_method (T:="dict") (id:="dict.values") hbase rfl hline F.plainAttrs_dict F.slot_dict_values F.type_dict_values (bC (he pins s σ H _ I h) λu s1 ⟨x,H1,I1,rx,d,o,kvs,ex,hd,q⟩=> ?_);subst ex;obtain rfl:u=Value.ref d:=rx;obtain⟨hs,hgd,hx,es,ep,hdt,hsz,ent⟩:=ph I1 hd;have ty:s1.TypeIs (.ref d) "dict":=⟨o,hgd,hx.1⟩;refine⟨ty,λa e=>⟨o,by cases e;exact hgd,hx.2.1⟩,?_⟩;have I2:aO X pins σ H1 {s1 with heap:=s1.heap.push {cls:= .type "dict_values",data:= .fields #[.ref d]}}:=I1.kept (t':=s1.toks) λb ob q=>Heap.get?_push_of_some _ q
 have fin:wpAny (model X.prog X.w) X.A (pyIter (.ref s1.heap.objs.size)) (GZ X pins σ tg R) X.xe {s1 with heap:=s1.heap.push {cls:= .type "dict_values",data:= .fields #[.ref d]}}:=by
  refine yB (D:=d) ⟨_,Heap.get?_push_size _ rfl,rfl,rfl⟩ (Heap.get?_push_of_some _ hgd) hdt (n4 (tk:=s1.toks) I2 _ (we _ hdt) ⟨_,Heap.get?_push_size _ rfl,rfl,?_⟩ q);rw[hsz]<;>rfl
 show wpAny _ _ (callWith cpos (.builtin "dict.values") [.ref d] [] []) _ X.xe s1;exact method_meetsIn F.slot_dict_values F.entry_dict_values rfl (PySem.evalArgs_none ⟨rfl,ty,F.args_dict_values_1 _,_,yA hs,ty,fin⟩)
def nE(n:ai)(l:List ai):Nat:=(l.filter λm=>m==n).length
theorem pj(n m:ai)(l:List ai):nE n (l++[m])=nE n l+(if m=n then 1 else 0):=by
 unfold nE;rw[List.filter_append,List.length_append];by_cases e:m=n
 ·simp[e]
 ·simp[e]
theorem AV{n:ai}{l:List ai}(h:n∉l):nE n l=0:=by
 unfold nE;rw[List.length_eq_zero_iff,List.filter_eq_nil_iff];intro m hm;simp only[beq_iff_eq];rintro rfl;exact h hm
theorem AW{n:ai}{l l':List ai}(p:l.Perm l'):nE n l=nE n l':=(p.filter _).length_eq
def pL(tk:List (List bG×V))(done:List ai):Prop:=∃ns:List ai,tk=ns.map (λn=>(nk n,V.int (nE n done:Nat)))/\ns.Nodup/\∀n,n∈ns↔n∈done
theorem sj(g:ai->V)(m:ai):∀ns:List ai,cB (ns.map λn=>(nk n,g n)) (nk m)=if m∈ns then some (g m)else none
 |[]=>by simp[zp]
 |n::r=>by
  rw[List.map_cons];by_cases e:n=m
  ·subst e;rw[iG rfl,if_pos List.mem_cons_self]
  ·rw[iH (λq=>e (gZ q)),sj g m r];by_cases h:m∈r
   ·rw[if_pos h,if_pos (List.mem_cons_of_mem _ h)]
   ·rw[if_neg h,if_neg (λq=>(List.mem_cons.mp q).elim (λz=>e z.symm) h)]
theorem pL.val{tk:List (List bG×V)}{done:List ai}(h:pL tk done)(m:ai):(cB tk (nk m)).getD (.int 0)= .int (nE m done:Nat)/\((cB tk (nk m)).isSome=true->cB tk (nk m)=some (.int (nE m done:Nat))):=by
 obtain⟨ns,rfl,nd,hm⟩:=h;rw[sj (λn=>V.int (nE n done:Nat))];by_cases e:m∈ns
 ·rw[if_pos e];exact⟨rfl,λ_=>rfl⟩
 ·rw[if_neg e];refine⟨?_,λz=>by cases z⟩;rw[AV (λq=>e ((hm m).mpr q))];rfl
theorem pL.put{tk:List (List bG×V)}{done:List ai}(h:pL tk done)(m:ai):pL (eX tk (nk m) (.int ((nE m done:Nat)+1))) (done++[m]):=by
 obtain⟨ns,rfl,nd,hm⟩:=h;unfold eX;by_cases e:m∈ns
 ·rw[if_pos (by rw[List.any_eq_true];exact⟨_,List.mem_map.mpr ⟨m,e,rfl⟩,by simp⟩)];refine⟨ns,?_,nd,λn=> ?_⟩
  ·rw[List.map_map];refine List.map_congr_left λn hn=> ?_
   show(if nk n=nk m then(nk n,V.int ((nE m done:Nat)+1))else(nk n,V.int (nE n done:Nat)))=_
   rw[pj];by_cases q:n=m
   ·subst q;rw[if_pos rfl,if_pos rfl];rfl
   ·rw[if_neg (λz=>q (gZ z)),if_neg (λz=>q z.symm)];rfl
  ·rw[hm n,List.mem_append];refine⟨.inl,λz=>z.elim id λq=> ?_⟩;simp at q;subst q;exact(hm n).mp e
 ·rw[if_neg (by
   rw[Bool.not_eq_true,List.any_eq_false];intro kv hkv;obtain⟨n,hn,rfl⟩:=List.mem_map.mp hkv;simp only[decide_eq_true_eq];intro q
   exact e (gZ q▸hn))]
  refine⟨ns++[m],?_,?_,λn=> ?_⟩
  ·rw[List.map_append];congr 1
   ·refine List.map_congr_left λn hn=> ?_
    rw[pj,if_neg (by rintro rfl;exact e hn)];rfl
   ·rw[List.map_singleton,pj,if_pos rfl];rfl
  ·rw[List.nodup_append];exact⟨nd,by simp,λa ha b hb=>by simp at hb;subst hb;rintro rfl;exact e ha⟩
  ·rw[List.mem_append,List.mem_append,hm n]
theorem pL.len{tk:List (List bG×V)}{done:List ai}(h:pL tk done):tk.length<=done.length:=by
 obtain⟨ns,rfl,nd,hm⟩:=h;rw[List.length_map];exact List.Nodup.length_le_of_subset nd λn hn=>(hm n).mp hn
theorem bo.unlock{F H F1 H1:Hp}{d:Addr}{o u:HO}(e:bo F (aJ H d o) F1 H1)(hu:H d=some u)(hf:F d=none):bo F H F1 (aJ H1 d u):=by
 have fd:F1 d=none:=e.sp d o aa hf;refine⟨λb v q=> ?_,e.ff,aH.updn e.fh fd,λb v q=> ?_,λb v q n=> ?_⟩
 ·have :=e.f0 b v q;by_cases c:b=d
  ·subst c;rw[hf]at q;cases q
  ·rw[aj c]at this;exact this
 ·by_cases c:b=d
  ·subst c;rw[aa,<-q,hu]
  ·rw[aj c];exact e.hh b v (by rw[aj c];exact q)
 ·by_cases c:b=d
  ·subst c;exact fd
  ·exact e.sp b v (by rw[aj c];exact q) n
theorem AX{H:Hp}{d:Addr}{o u:HO}(h:H d=some u):aJ (aJ H d o) d u=H:=by
 rw[bN];funext b;unfold aJ;by_cases c:b=d
 ·rw[if_pos c,c,h]
 ·rw[if_neg c]
theorem EK{d:Addr}{o:Obj}{kvs:List (List bG×V)}{g:TG}{tb:TS}{D:ip}{σ:St}{H:Hp}(Pv:Nat->St->Hp->Prop)(h0:Pv 0 σ H)(hl:∀i σ H,Pv i σ H->H d=some (.frz o (.dT kvs)))
  (hs:∀i k x σ H,kvs[i]? =some (k,x)->Pv i σ H->g x σ H λσ2 H2=>tb {D with nx:=Pv (i+1),ct:=Pv (i+1),bk:=D.nx} σ2 H2)(hd:∀σ H,Pv kvs.length σ H->D.nx σ H):
  ∃W:Nat->Nat->St->Hp->Prop,(∃m,W 0 m σ H)/\∀i m σ H,W i m σ H->
   ((AU d o kvs).stop i H/\D.nx σ H)\/((AU d o kvs).go i H/\∃N:St->Hp->Prop,(∀σ' H',N σ' H'->∃m',m'<m/\W (i+1) m' σ' H')/\∀x H',(AU d o kvs).yld i H x H'->g x σ H' λσ2 H2=>tb {D with nx:=N,ct:=N,bk:=D.nx} σ2 H2):=by
 refine⟨λi m σ H=>m=kvs.length-i/\i<=kvs.length/\Pv i σ H,⟨kvs.length,by simp,Nat.zero_le _,h0⟩,?_⟩;rintro i m σ H ⟨rfl,hi,p⟩;have q:=hl i σ H p;by_cases hlt:i<kvs.length
 ·refine .inr ⟨⟨q,hlt⟩,Pv (i+1),λσ' H' p'=>⟨kvs.length-(i+1),by omega,rfl,hlt,p'⟩,λx H' y=> ?_⟩;obtain⟨e,k,hk⟩:=y;subst e;exact hs i k x σ _ hk p
 ·have e:i=kvs.length:=by omega
  subst e;exact .inl ⟨⟨q,Nat.le_refl _⟩,hd σ H p⟩
theorem Gr{d:Addr}{o:Obj}{kvs:List (List bG×V)}{g:TG}{tt:TT}{te:TE}{vs:List Nat}{σ:St}{H1:Hp}{D:Addr}{Qd:Hp->Prop}(Pv:Nat->Hp->Prop)(h0:Pv 0 (aJ H1 D (.lst [])))(hl:∀i H,Pv i H->H d=some (.frz o (.dT kvs)))
  (hs:∀i k v q H,kvs[i]? =some (k,v)->H q=some (.tup (k.map kV))->Pv i H->g (.ref q) (cr σ vs) H λσ2 H2=>cr σ2 vs=cr σ vs/\tt σ2 H2 λb H3=>
   if b=true then te σ2 H3 λy H4=>∃acc,H4 D=some (.lst acc)/\acc.length<sizeLine/\Pv (i+1) (aJ H4 D (.lst (acc++[y])))else Pv (i+1) H3)(hd:∀H,Pv kvs.length H->Qd H):
  ∃W:Nat->Nat->Hp->Prop,(∃m,W 0 m (aJ H1 D (.lst [])))/\∀i m H,W i m H->
   ((zy d o kvs).stop i H/\Qd H)\/((zy d o kvs).go i H/\∃Nx:Hp->Prop,(∀H',Nx H'->∃m',m'<m/\W (i+1) m' H')/\∀x H',(zy d o kvs).yld i H x H'->g x (cr σ vs) H' λσ2 H2=>cr σ2 vs=cr σ vs/\tt σ2 H2 λb H3=>
    if b=true then te σ2 H3 λy H4=>∃acc,H4 D=some (.lst acc)/\acc.length<sizeLine/\Nx (aJ H4 D (.lst (acc++[y])))else Nx H3):=by
 refine⟨λi m H=>m=kvs.length-i/\i<=kvs.length/\Pv i H,⟨kvs.length,by simp,Nat.zero_le _,h0⟩,?_⟩;rintro i m H ⟨rfl,hi,p⟩;have q:=hl i H p;by_cases hlt:i<kvs.length
 ·refine .inr ⟨⟨q,hlt⟩,Pv (i+1),λH' p'=>⟨kvs.length-(i+1),by omega,rfl,hlt,p'⟩,λx H' y=> ?_⟩;obtain⟨e,k,v,b,hk,rfl,hb⟩:=y;subst e;exact hs i k v b _ hk hb p
 ·have e:i=kvs.length:=by omega
  subst e;exact .inl ⟨⟨q,Nat.le_refl _⟩,hd H p⟩
section
variable{P:Program}{w:World}{K:PySem.W.Frag}{mg:Str->Option Value}{base:Heap}{C:Cs}
abbrev Gs:List Str:=["room","times","action","name"]
theorem sk:aC Gs ["room"] (ao fw):=⟨rfl,rfl,rfl,by decide+kernel,rfl,by decide+kernel,by decide+kernel⟩
def EL(C:Cs):Sp:=λvs H Q _=>∃(F:Hp) (R df da:Addr) (s:Vabldi.State),vs=[.ref R]/\aQ C F H R df da s/\aH F H/\
 ∀a tk outs F1 H1,bo F H F1 H1->H a=none->F1 a=none->H1 a=some (.dT tk)->pL tk outs->outs.Perm (s.actions.flatMap λa=>a.outputs)->Q (.ref a) H1
theorem lB{l:List Vabldi.Action}(h:∀a∈l,eQ a):(l.flatMap λa=>a.outputs).length<=l.length*8:=by
 induction l with
 |nil=>simp
 |cons a r ih=>
  have h1:=ih λx hx=>h x (List.mem_cons_of_mem _ hx)
  have h2:=(h a List.mem_cons_self).ol;rw[List.flatMap_cons,List.length_append,List.length_cons,Nat.add_mul,Nat.one_mul];omega
theorem EM(T:Tx K mg C):Ok P w K mg base "times_an_output" ["room"] 1 (EL C):=by
 refine T.d_times_an_output.ok sk (λvs H Q E h=>by obtain⟨_,_,_,_,_,e,_⟩:=h;rw[e];rfl) (λf cdv A outer s H vs Q E hr h=> ?_);obtain⟨F,R,df,da,st,rfl,ra,f0,k⟩:=h;obtain⟨dR,hR⟩:=ra.dx;obtain⟨kvs,hda,l,hl,hperm⟩:=ra.as
 refine⟨_,ae (aF (i:=1) sk.nd rfl (Or.inl rfl) kF)
  (ae (By (b0 PassesOwn.never rfl (wf (aD (pv 0) rfl)) (aS (i:=2) sk.nd rfl (Or.inl rfl))
   (ah (b0 PassesOwn.never rfl (bj (aD (pv 2) rfl)) (aS (i:=3) sk.nd rfl (Or.inl rfl))
    (ah (kE (bT hr) (pv 1) (pv 3) (bD fK (zu (bT hr) (pv 1) (pv 3) aG ⟨rfl,rfl,rfl,rfl⟩) aG) rfl))))))
  (ah (aq (pv 1)))),?_⟩
 intro L hL;have x0:=(bo.refl f0).new (o:= .dT []) hL;have ga:∀a∈l,eQ a:=λa ha=>ra.gd.ag a (hperm.mem_iff.mp ha)
 have hol:∀i,((l.take i).flatMap λa=>a.outputs).length<=32*8:=λi=>by
  have h1:=lB (l:=l.take i) λa ha=>ga a (List.mem_of_mem_take ha)
  have h2:(l.take i).length*8<=32*8:=Nat.mul_le_mul_right _ (by rw[List.length_take,hperm.length_eq];have :=ra.gd.al;omega);omega
 have neLd:da≠L:=az hda hL;refine⟨da,.dT kvs,by rw[aj neLd];exact hda,trivial,λod=> ?_⟩;generalize hHL:aJ (aJ H L (.dT [])) da (.frz od (.dT kvs))=HL;have hLda:HL da=some (.frz od (.dT kvs)):=by rw[<-hHL,aa]
 have hLL:HL L=some (.dT []):=by rw[<-hHL,aj neLd.symm,aa]
 have f1:aH F HL:=by rw[<-hHL];exact aH.updn x0.fh ra.fa
 have hLb:∀b o,F b=some o->HL b=some o:=f1;refine⟨_,rfl,R,C.Room,dR,_,_,rfl,hLb _ _ hR,T.k_Room.cl,T.n_Room_actions,rfl,da,od,kvs,rfl,hLda,?_⟩;refine EK (λi σ1 H1=>∃F1 b1 b2 tk,bo F (aJ H da (.frz od (.dT kvs))) F1 H1/\σ1=[some (.ref R),some (.ref L),b1,b2]/\H1 da=some (.frz od (.dT kvs))/\H1 L=some (.dT tk)/\F1 L=none/\pL tk ((l.take i).flatMap λa=>a.outputs)) ?_ ?_ ?_ ?_
 ·refine⟨F,none,none,[],?_,rfl,hLda,hLL,f0.free hL,⟨[],rfl,by simp,by simp⟩⟩;rw[<-hHL,i3 neLd.symm];exact(bo.refl (aH.updn f0 ra.fa)).new (by rw[aj neLd.symm];exact hL)
 ·rintro i σ1 H1 ⟨F1,b1,b2,tk,e1,_,h1,_⟩
  exact h1
 ·rintro i kx x σ1 H1 hx ⟨F1,b1,b2,tk,e1,rfl,h1,h2,fL,hc⟩
  obtain⟨ac,hac,_,p,dx,wa,wi,wo,rfl,hp,_,_,⟨lo,xo,rfl,hlo,hpo⟩⟩:=bg hl hx;have gac:=ga ac (List.mem_of_getElem? hac);have nL':(aJ H da (.frz od (.dT kvs))) L=none:=by rw[aj neLd.symm];exact hL
  refine⟨_,rfl,p,C.Action,dx,_,_,rfl,e1.hh _ _ (e1.f0 _ _ hp),T.k_Action.cl,T.n_Action_outputs,rfl,lo,rfl,⟨_,aZ.of (e1.fh _ _ (e1.ff _ _ hlo))⟩,?_⟩;refine fY (λj σ2 F2 H2=>∃b2 tk,σ2=[some (.ref R),some (.ref L),some (.ref p),b2]/\H2 da=some (.frz od (.dT kvs))/\H2 L=some (.dT tk)/\F2 L=none/\pL tk ((l.take i).flatMap (λa=>a.outputs)++ac.outputs.take j)) e1 (aZ.of (e1.ff _ _ hlo)) ⟨b2,tk,rfl,h1,h2,fL,by simpa using hc⟩ ?_ ?_
  ·rintro j y σ2 F2 H2 hy e2 s2 ⟨b3,tk2,rfl,g1,g2,gL,hc2⟩
   obtain⟨m,hm,am,rfl,ham⟩:=bg hpo hy;have hmH:H2 am=some (.tup ((nk m).map kV)):=by rw[bX];exact e2.fh _ _ (s2 _ _ (e1.ff _ _ ham))
   have hcl:=hc2.len;have h8:=hol i;have ho:=gac.ol;refine⟨_,rfl,L,rfl,.inr ⟨tk2,.inl g2⟩,_,rfl,cB tk2 (nk m),dj.t g2 hmH,?_⟩;rw[(hc2.val m).1];refine⟨_,_,rfl,rfl,_,rfl,_,rfl,L,_,rfl,rD.t (k:=nk m) g2 hmH ?_,F2,e2.wr nL' gL,s2,some (.ref am),_,rfl,?_,aa,gL,?_⟩
   ·rw[List.length_append,List.length_take]at hcl;have :(8388608:Nat)<sizeLine:=by decide
    omega
   ·rw[aj neLd];exact g1
   ·have :=hc2.put m;rw[aT hm,<-List.append_assoc];exact this
  ·rintro σ2 F2 H2 e2 s2 ⟨b3,tk2,rfl,g1,g2,gL,hc2⟩
   rw[aA hpo,List.take_length]at hc2;refine⟨F2,some (.ref p),b3,tk2,e2,rfl,g1,g2,gL,?_⟩;rw[aT hac,List.flatMap_append];simpa using hc2
 ·rintro σ1 H1 ⟨F1,b1,b2,tk,e1,rfl,h1,h2,fL,hc⟩
  rw[aA hl,List.take_length]at hc;refine⟨h1,_,rfl,k L tk _ F1 _ (e1.unlock hda ra.fa) hL fL (by rw[aj neLd.symm];exact h2) hc ?_⟩;exact hperm.flatMap_right _
end
def dy(s:Vabldi.State)(outs:List ai)(n:ai):Bool:=decide (1<nE n outs)||Vabldi.isSource s n
theorem uh{s:Vabldi.State}{outs ns:List ai}(hp:outs.Perm (s.actions.flatMap λa=>a.outputs))(nd:ns.Nodup)(hm:∀n,n∈ns↔n∈outs):Vabldi.sorted (ns.filter (dy s outs))=Vabldi.clashNames s:=by
 unfold Vabldi.clashNames;dsimp only;generalize ho:(s.actions.flatMap λa=>a.outputs)=os at *
 have hP:∀n,(Vabldi.isSource s n||decide (1<(os.filter λm=>m==n).length))=dy s outs n:=λn=>by
  unfold dy;rw[AW hp,Bool.or_comm];rfl
 have n1:(Vabldi.sorted (ns.filter (dy s outs))).Nodup:=(cI _).nodup_iff.mpr (nd.sublist List.filter_sublist);have s2:=oJ (g6 (os.filter λn=>Vabldi.isSource s n||decide (1<(os.filter λm=>m==n).length)));have n2:(Vabldi.once (Vabldi.sorted (os.filter λn=>Vabldi.isSource s n||decide (1<(os.filter λm=>m==n).length)))).Nodup:=s2.imp λz=>wY z
 refine lh ((List.perm_ext_iff_of_nodup n1 n2).mpr λx=> ?_) (g6 _) (qL s2);rw[lj,(cI _).mem_iff,(cI _).mem_iff,List.mem_filter,List.mem_filter,hm x,hp.mem_iff,hP]
theorem aQ.moved{C:Cs}{F H H':Hp}{R df da:Addr}{s:Vabldi.State}(r:aQ C F H R df da s)(h1:H' df=H df)(h2:H' da=H da):aQ C F H' R df da s:=by
 obtain⟨a1,a2,a3,a4,⟨kf,a5,a6⟩,⟨ka,a7,a8⟩,g⟩:=r;exact⟨a1,a2,a3,a4,⟨kf,h1.trans a5,a6⟩,⟨ka,h2.trans a7,a8⟩,g⟩
section
variable{P:Program}{w:World}{K:PySem.W.Frag}{mg:Str->Option Value}{base:Heap}{C:Cs}
abbrev Gt:List Str:=["room","times","names","name"]
theorem uj:aC Gt ["room"] (ao eG):=⟨rfl,rfl,rfl,by decide+kernel,rfl,by decide+kernel,by decide+kernel⟩
theorem Gu(T:Tx K mg C):Ok P w K mg base "list_clashes" ["room"] 3 (ug C λs=>Vabldi.num (Vabldi.clashNames s).length (Vabldi.putLines ((Vabldi.clashNames s).take 16))):=by
 refine T.d_list_clashes.ok uj (λvs H Q E h=>by obtain⟨_,_,_,_,_,e,_⟩:=h;rw[e];rfl) (λf cdv A outer s H vs Q E hr h=> ?_);obtain⟨F,R,df,da,st,rfl,ra,f0,k⟩:=h;obtain⟨dR,hR⟩:=ra.dx;dsimp only at k
 refine⟨_,ae (aF (i:=1) uj.nd rfl (Or.inr rfl) (aB (EM T) hr (ab (pv 0) af)))
  (ae (aF (i:=2) uj.nd rfl (Or.inl rfl) (AR T.b_sorted (Bz (fj rfl uj.nd (BA (pv 1)) (blk (own:=[("name",3)]) Gt (ao eG) rfl rfl (by decide+kernel)) (λ_ _ _ _ _=>aS (i:=3) uj.nd rfl (Or.inl rfl))
   (λ_ _ _ _ _=>rB (PW.pt (km (aK iw (cv (bT hr) (pv 1) (pv 3) (λ_ _=>rfl)) aG (aP _)) (lF (bI (aB (As T) hr (ab (pv 0) (ab (pv 3) af)))))))) (λ_ _ _ _ _=>pv 3)))))
  (ah (aq (bD cC (aL (ab (bp T.b_len (pv 2)) af)) (aB (bt T) hr (ab (dJ fb (pv 2) m6 (cT (aV T.g_MOST_CLASHES_NAMED))) af)))))),?_⟩
 refine⟨_,rfl,F,R,df,da,st,rfl,ra,f0,λL tk outs F1 H1 e1 nL fL hL hc hperm=> ?_⟩;obtain⟨ns,etk,nnd,hmem⟩:=hc;have ra1:=ra.keep e1;have sz:(8388608:Nat)<sizeLine:=by decide
 have hnm:∀n∈ns,Vabldi.isName n=true:=λn hn=>by
  obtain⟨a,ha,hb⟩:=List.mem_flatMap.mp (hperm.mem_iff.mp ((hmem n).mp hn));exact(ra.gd.ag a ha).nn n (List.mem_append_right _ hb)
 have hnl:ns.length<=256:=by
  have h1:=List.Nodup.length_le_of_subset nnd λn hn=>(hmem n).mp hn
  have h2:=hperm.length_eq;have h3:=lB ra.gd.ag;have h4:st.actions.length*8<=32*8:=Nat.mul_le_mul_right _ ra.gd.al;omega
 refine⟨L,.dT tk,hL,trivial,λod=> ?_⟩;generalize hHL:aJ H1 L (.frz od (.dT tk))=HL;have hLL:HL L=some (.frz od (.dT tk)):=by rw[<-hHL,aa]
 have hLo:∀b,b≠L->HL b=H1 b:=λb hb=>by rw[<-hHL,aj hb]
 have fHL:aH F1 HL:=by rw[<-hHL];exact aH.updn e1.fh fL
 have ndf:df≠L:=by obtain⟨z,hz,_⟩:=ra.fs;exact az hz nL
 have nda:da≠L:=by obtain⟨z,hz,_⟩:=ra.as;exact az hz nL
 have raL:aQ C F1 HL R df da st:=ra1.moved (hLo df ndf) (hLo da nda);refine⟨_,rfl,L,od,rfl,.inr ⟨tk,hLL,λD hD=> ?_⟩⟩;have nDL:D≠L:=by rintro rfl;rw[hLL]at hD;cases hD
 have hD1:H1 D=none:=by rw[<-hLo D nDL];exact hD
 refine Gr (λi H'=>∃acc,H'=aJ HL D (.lst acc)/\Paired (gI HL) acc ((ns.take i).filter (dy st outs))) ⟨[],rfl,.nil⟩ ?_ ?_ ?_
 ·rintro i H' ⟨acc,rfl,_⟩
  rw[aj nDL.symm];exact hLL
 ·rintro i kx v q H' hkv hq ⟨acc,rfl,hacc⟩
  obtain⟨n,hn,ek,ev⟩:∃n,ns[i]? =some n/\kx=nk n/\v= .int (nE n outs:Nat):=by
   rw[etk,List.getElem?_map]at hkv;obtain⟨n,hn,e⟩:=Option.map_eq_some_iff.mp hkv;exact⟨n,hn,(congrArg Prod.fst e).symm,(congrArg Prod.snd e).symm⟩
  subst ek ev;have hil:=ck hn;have nqD:q≠D:=by rintro rfl;rw[aa]at hq;cases hq
  have hqL:HL q=some (.tup ((zs n).map V.int)):=by rw[aj nqD,bX]at hq;exact hq
  have hval:cB tk (nk n)=some (.int (nE n outs:Nat)):=by
   rw[etk,sj (λn=>V.int (nE n outs:Nat)),if_pos (List.mem_of_getElem? hn)]
  have hal:acc.length<=256:=by
   rw[aA hacc];have h1:=List.length_filter_le (dy st outs) (ns.take i);rw[List.length_take]at h1;omega
  have yes:dy st outs n=true->∃acc',aJ HL D (.lst acc) D=some (.lst acc')/\acc'.length<sizeLine/\∃acc2,aJ (aJ HL D (.lst acc)) D (.lst (acc'++[.ref q]))=aJ HL D (.lst acc2)/\Paired (gI HL) acc2 ((ns.take (i+1)).filter (dy st outs)):=λhp=>by
   refine⟨acc,aa,by omega,acc++[.ref q],by rw[bN],?_⟩;rw[aT hn,List.filter_append];have :[n].filter (dy st outs)=[n]:=by simp[hp]
   rw[this];exact bh ⟨q,rfl,hqL⟩ hacc
  refine⟨rfl,_,rfl,_,rfl,L,_,rfl,.inr ⟨tk,nk n,q,.inr ⟨od,by rw[aj nDL.symm];exact hLL⟩,rfl,hq,hval.symm⟩,_,_,rfl,rfl,_,rfl,bY (λhb=> ?_) (λhb=> ?_)⟩
  ·refine iq ⟨_,rfl,yes ?_⟩;unfold dy;rw[decide_eq_true (show 1<nE n outs by have :=of_decide_eq_true hb;omega)];rfl
  ·have hb:decide (1<nE n outs)=false:=decide_eq_false (by have :=of_decide_eq_false hb;omega)
   have raD:aQ C F1 (aJ HL D (.lst acc)) R df da st:=by
    refine raL.moved (aj ?_) (aj ?_)
    ·rintro rfl;obtain⟨z,hz,_⟩:=raL.fs;rw[hz]at hD;cases hD
    ·rintro rfl;obtain⟨z,hz,_⟩:=raL.as;rw[hz]at hD;cases hD
   refine⟨_,rfl,_,rfl,F1,R,df,da,q,st,n,rfl,raD,by rw[aj nqD];exact hqL,aH.updn fHL (fHL.free hD),_,rfl,?_⟩;refine bY (λhb2=> ?_) (λhb2=> ?_)
   ·refine⟨_,rfl,yes ?_⟩;unfold dy;rw[hb,hb2];rfl
   ·refine⟨acc,rfl,?_⟩;rw[aT hn,List.filter_append]
    have :[n].filter (dy st outs)=[]:=by
     have :dy st outs n=false:=by unfold dy;rw[hb,hb2];rfl
     simp[this]
    rw[this,List.append_nil];exact hacc
 rintro H' ⟨acc,rfl,hacc⟩
 have htl:tk.length=ns.length:=by rw[etk,List.length_map]
 rw[htl,List.take_length]at hacc;refine⟨by rw[aj nDL.symm];exact hLL,?_⟩
 have back:aJ (aJ HL D (.lst acc)) L (.dT tk)=aJ H1 D (.lst acc):=by
  rw[i3 nDL,<-hHL,AX hL]
 rw[back];have e3:=e1.new (o:= .lst acc) hD1
 have hR3:∀v n,gI HL v n->n∈ns->Da (aJ H1 D (.lst acc)) v (zs n):=λv n ⟨b,ev,hb⟩ hn=>by
  refine⟨xb (hnm n hn),b,ev,?_⟩;have nbL:b≠L:=by rintro rfl;rw[hLL]at hb;cases hb
  have hb1:H1 b=some (.tup ((zs n).map V.int)):=by rw[<-hLo b nbL];exact hb
  rw[aj (az hb1 hD1)];exact hb1
 have hz:∀{xs:List V} {ts:List ai},(∀t∈ts,t∈ns)->Paired (gI HL) xs ts->Paired (Da (aJ H1 D (.lst acc))) xs (ts.map zs):=by
  intro xs ts ht hp;induction hp with
  |nil=>exact .nil
  |cons a _ ih=>exact .cons (hR3 _ _ a (ht _ List.mem_cons_self)) (ih λt h=>ht t (List.mem_cons_of_mem _ h))
 refine⟨D,acc,_,Da (aJ H1 D (.lst acc)),rfl,aa,hz (λt ht=>(List.mem_filter.mp ht).1) hacc,λ_ _ h=>h,λp ys ms hp hys hms hpw=> ?_⟩
 have hnames:ms=(Vabldi.clashNames st).map zs:=by
  rw[mP hms hpw,uh hperm nnd hmem]
 rw[hnames]at hys;have hys:=AS hys
 have cmem:∀x∈Vabldi.clashNames st,x∈ns:=λx hx=>by
  rw[<-uh hperm nnd hmem]at hx;exact(List.mem_filter.mp ((cI _).mem_iff.mp hx)).1
 have e4:=e3.new (o:= .lst ys) hp;have hys4:Paired (gI (aJ (aJ H1 D (.lst acc)) p (.lst ys))) ys (Vabldi.clashNames st):=Paired.mapP hys λv d r=>r.mono λb o h=>by rw[aj (az h hp)];exact h
 have pl:(Vabldi.putLines ((Vabldi.clashNames st).take 16)).length<=16*33:=by
  have h1:=gp (ts:=(Vabldi.clashNames st).take 16) λx hx=>hnm x (cmem x (List.mem_of_mem_take hx))
  have h2:((Vabldi.clashNames st).take 16).length*33<=16*33:=Nat.mul_le_mul_right _ (by rw[List.length_take];omega);omega
 refine⟨_,rfl,p,ys,rfl,aa,aX _,λq5 hq5=> ?_⟩;have e5:=e4.new (o:= .lst [.int ys.length]) hq5;have np5:p≠q5:=az aa hq5;refine⟨_,rfl,_,rfl,p,ys,rfl,aZ.of (by rw[aj np5,aa]),λq6 hq6=> ?_⟩;have hcut:iA ys none (some (16:Int))=ys.take 16:=u9 ys 16;rw[hcut];have e6:=e5.new (o:= .lst (ys.take 16)) hq6;have n56:q5≠q6:=az aa hq6
 have s46:aH (aJ (aJ H1 D (.lst acc)) p (.lst ys)) (aJ (aJ (aJ (aJ H1 D (.lst acc)) p (.lst ys)) q5 (.lst [.int ys.length])) q6 (.lst (ys.take 16))):=λb o h=>by
  have h5:aJ (aJ (aJ H1 D (.lst acc)) p (.lst ys)) q5 (.lst [.int ys.length]) b=some o:=by rw[aj (az h hq5)];exact h
  rw[aj (az h5 hq6)];exact h5
 refine⟨_,_,(Vabldi.clashNames st).take 16,rfl,⟨q6,_,rfl,aa,Paired.mapP (i7 16 hys4) λv d r=>(r.mono s46).any⟩,by omega,aH.refl _,λu F7 H7 e7 ⟨b,eu,hb⟩=> ?_⟩;subst eu;have e8:=e6.hp e7.hh;refine⟨q5,b,_,_,rfl,rfl,e7.hh _ _ (by rw[aj n56,aa]),e7.fh _ _ hb,?_,λq9 hq9=> ?_⟩
 ·rw[aM];simp only[List.length_singleton];omega
 have e9:=e8.newF (o:= .lst ([.int ys.length]++(zs (Vabldi.putLines ((Vabldi.clashNames st).take 16))).map V.int)) hq9;refine k _ _ _ e9.x (ra.keep e9) (cV (n:=(Vabldi.clashNames st).length) (t:=Vabldi.putLines ((Vabldi.clashNames st).take 16)) ?_ (by omega));rw[aa,aA hys];rfl
end
end Cr
namespace Cr
open PySem
def sn(xs:Array Nat):Prop:=∀i j (hi:i<xs.size) (hj:j<xs.size),i<j->xs[i]<xs[j]
theorem pk{xs:Array Nat}{j:Nat}(hr:sn xs):∀(fuel lo hi:Nat),hi-lo<=fuel->lo<=hi->hi<=xs.size->(∀i (h:i<xs.size),i<lo->xs[i]<j)->(∀i (h:i<xs.size),hi<=i->j<=xs[i])->
  let r:=SetTable.below.go xs j fuel lo hi
  lo<=r/\r<=hi/\(∀i (h:i<xs.size),i<r->xs[i]<j)/\(∀i (h:i<xs.size),r<=i->j<=xs[i])
 |0,lo,hi,hf,hl,hs,h1,h2=>by
  have e:lo=hi:=by omega
  subst e;exact⟨Nat.le_refl _,Nat.le_refl _,h1,h2⟩
 |fuel+1,lo,hi,hf,hl,hs,h1,h2=>by
  dsimp only;rw[SetTable.below.go];by_cases c:lo<hi
  ·rw[if_pos c];have hm:(lo+hi) / 2<xs.size:=by omega
   have eg:xs.getD ((lo+hi) / 2) j=xs[(lo+hi) / 2]:=by rw[Array.getD,dif_pos hm];rfl
   dsimp only;rw[eg];by_cases c2:xs[(lo+hi) / 2]<j
   ·rw[if_pos c2];have :=pk hr fuel ((lo+hi) / 2+1) hi (by omega) (by omega) hs (λi h hi'=> ?_) h2
    ·dsimp only at this;obtain⟨q1,q2,q3,q4⟩:=this;exact⟨by omega,q2,q3,q4⟩
    ·by_cases e:i=(lo+hi) / 2
     ·subst e;exact c2
     ·exact Nat.lt_trans (hr i _ h hm (by omega)) c2
   ·rw[if_neg c2];have :=pk hr fuel lo ((lo+hi) / 2) (by omega) (by omega) (by omega) h1 (λi h hi'=> ?_)
    ·dsimp only at this;obtain⟨q1,q2,q3,q4⟩:=this;exact⟨q1,by omega,q3,q4⟩
    ·by_cases e:i=(lo+hi) / 2
     ·subst e;omega
     ·have :=hr _ i hm h (by omega);omega
  ·rw[if_neg c];have e:lo=hi:=by omega
   subst e;exact⟨Nat.le_refl _,Nat.le_refl _,h1,h2⟩
theorem uk{xs:Array Nat}(hr:sn xs)(j:Nat):SetTable.below xs j<=xs.size/\(∀i (h:i<xs.size),i<SetTable.below xs j->xs[i]<j)/\(∀i (h:i<xs.size),SetTable.below xs j<=i->j<=xs[i]):=by
 have :=pk (j:=j) hr xs.size 0 xs.size (by omega) (Nat.zero_le _) (Nat.le_refl _) (λi h hi=>absurd hi (Nat.not_lt_zero _)) (λi h hi=>absurd h (by omega));dsimp only at this;obtain⟨_,q2,q3,q4⟩:=this;exact⟨q2,q3,q4⟩
theorem je{xs:Array Nat}(hr:sn xs){i j:Nat}(h:xs[i]? =some j):SetTable.below xs j=i:=by
 obtain⟨hi,e⟩:=Array.getElem?_eq_some_iff.mp h;obtain⟨b1,b2,b3⟩:=uk hr j;rcases Nat.lt_trichotomy (SetTable.below xs j) i with c|c|c
 ·have h1:=b3 _ (by omega) (Nat.le_refl _);have h2:=hr _ i (by omega) hi c;omega
 ·exact c
 ·have :=b2 i hi c;omega
def ki(place:Array Nat)(j:Nat):SetTable.Slot:=if place[SetTable.below place j]? =some j then .live (SetTable.below place j)else .empty
theorem nF{t:SetTable}(hd:t.dummies=#[])(j:Nat):t.slot j=ki t.place j:=by
 unfold SetTable.slot ki SetTable.has;rw[hd];by_cases c:t.place[SetTable.below t.place j]? =some j
 ·rw[if_pos c];simp[c]
 ·rw[if_neg c];simp[c]
theorem qM{place:Array Nat}(hr:sn place){i j:Nat}(h:place[i]? =some j):ki place j= .live i:=by
 unfold ki;rw[je hr h,if_pos h]
theorem wg{place:Array Nat}(hr:sn place)(j:Nat):(ki place j= .empty/\j∉place.toList)\/∃i,place[i]? =some j/\ki place j= .live i:=by
 by_cases c:j∈place.toList
 ·obtain⟨i,hi⟩:=List.mem_iff_getElem?.mp c;rw[Array.getElem?_toList]at hi;exact .inr ⟨i,hi,qM hr hi⟩
 ·refine .inl ⟨?_,c⟩;unfold ki;rw[if_neg];intro q;exact c (by rw[<-Array.getElem?_toList]at q;exact List.mem_of_getElem? q)
def dS(mask:Nat):Nat->Nat->Nat->List Nat
 |0,_,_=>[]
 |n+1,i,q=>(List.range (SetTable.runEnd mask i+1-i)).map (i+ ·)++dS mask n (SetTable.leap mask i q).1 (SetTable.leap mask i q).2
def cj(mask:Nat)(h:Int):List Nat:=dS mask (SetTable.turns mask) (SetTable.bits h % (mask+1)) (SetTable.bits h)
theorem mi(mask i:Nat):i<=SetTable.runEnd mask i/\SetTable.runEnd mask i<=i+9:=by
 unfold SetTable.runEnd;split<;>omega
theorem um(mask:Nat):∀n i q,(dS mask n i q).length<=10*n
 |0,_,_=>by simp[dS]
 |n+1,i,q=>by
  have h1:=um mask n (SetTable.leap mask i q).1 (SetTable.leap mask i q).2;have h2:=mi mask i;rw[dS,List.length_append,List.length_map,List.length_range];omega
theorem xc(mask:Nat):∀n i q,i<=mask->∀j∈dS mask n i q,j<=mask
 |0,_,_,_,j,h=>by simp[dS]at h
 |n+1,i,q,hi,j,h=>by
  rw[dS,List.mem_append]at h;rcases h with h|h
  ·obtain⟨k,hk,rfl⟩:=List.mem_map.mp h;have hk:=List.mem_range.mp hk;unfold SetTable.runEnd at hk;split at hk<;>omega
  ·refine xc mask n _ _ ?_ j h;unfold SetTable.leap;exact Nat.le_of_lt_succ (Nat.mod_lt _ (Nat.succ_pos _))
def dU(mask:Nat):Nat->Nat×Nat->Nat×Nat
 |0,x=>x
 |k+1,x=>dU mask k (SetTable.leap mask x.1 x.2)
theorem uq(mask:Nat):∀(n k i q:Nat),k<n->(dU mask k (i,q)).1∈dS mask n i q
 |0,_,_,_,h=>absurd h (Nat.not_lt_zero _)
 |n+1,0,i,q,_=>by
  rw[dS,List.mem_append];left;have h2:=mi mask i;exact List.mem_map.mpr ⟨0,List.mem_range.mpr (by omega),rfl⟩
 |n+1,k+1,i,q,h=>by
  rw[dS,List.mem_append];right;exact uq mask n k _ _ (by omega)
theorem qN(mask:Nat):∀(k m:Nat) (x:Nat×Nat),dU mask (k+m) x=dU mask m (dU mask k x)
 |0,m,x=>by simp[dU]
 |k+1,m,x=>by
  rw[show k+1+m=(k+m)+1 by omega,dU,dU,qN mask k m]
theorem xf(mask:Nat):∀(k:Nat) (x:Nat×Nat),(dU mask k x).2=x.2 / 32 ^ k
 |0,x=>by simp[dU]
 |k+1,x=>by
  rw[dU,xf mask k];show x.2 / 32 / 32 ^ k=_;rw[Nat.div_div_eq_div_mul,Nat.pow_succ,Nat.mul_comm]
theorem xg(mask:Nat):∀(k:Nat) (x:Nat×Nat),x.1<=mask->(dU mask k x).1<=mask
 |0,x,h=>h
 |k+1,x,h=>xg mask k _ (Nat.le_of_lt_succ (Nat.mod_lt _ (Nat.succ_pos _)))
def Gw(mask:Nat):Nat->Nat->Nat
 |0,i=>i
 |k+1,i=>Gw mask k ((i*5+1) % (mask+1))
theorem qO(mask:Nat):∀(k i:Nat),dU mask k (i,0)=(Gw mask k i,0)
 |0,i=>rfl
 |k+1,i=>by
  rw[dU,Gw];show dU mask k ((i*5+1+0 / 32) % (mask+1),0 / 32)=_;rw[show(0:Nat) / 32=0 from rfl,Nat.add_zero];exact qO mask k _
def Cz(mask:Nat):Prop:=∀i,i<=mask->∀e,e<=mask->∃k,k<=mask/\Gw mask k i=e
def Gx(mask:Nat):Nat->Nat->List Nat
 |0,_=>[]
 |k+1,i=>i::Gx mask k ((i*5+1) % (mask+1))
theorem xh(mask:Nat):∀(n i e:Nat),e∈Gx mask n i->∃k,k<n/\Gw mask k i=e
 |0,_,_,h=>by simp[Gx]at h
 |n+1,i,e,h=>by
  rw[Gx]at h;rcases List.mem_cons.mp h with rfl|h
  ·exact⟨0,Nat.succ_pos _,rfl⟩
  ·obtain⟨k,hk,q⟩:=xh mask n _ e h;exact⟨k+1,by omega,q⟩
theorem AY{mask:Nat}(h:((List.range (mask+1)).all λi=>(List.range (mask+1)).all λe=>(Gx mask (mask+1) i).contains e)=true):Cz mask:=by
 intro i hi e he;rw[List.all_eq_true]at h;have h1:=h i (List.mem_range.mpr (by omega));rw[List.all_eq_true]at h1;have h2:=h1 e (List.mem_range.mpr (by omega));obtain⟨k,hk,q⟩:=xh mask (mask+1) i e (List.contains_iff_mem.mp h2);exact⟨k,by omega,q⟩
theorem Ih:Cz 7:=AY (by decide+kernel)
theorem Db:Cz 31:=AY (by decide+kernel)
theorem CA(h:Int):SetTable.bits h<32 ^ 13:=by
 unfold SetTable.bits;have h1:h % (2 ^ 64:Int)<2 ^ 64:=Int.emod_lt_of_pos _ (by decide);have h2:0<=h % (2 ^ 64:Int):=Int.emod_nonneg _ (by decide);have :(h % (2 ^ 64:Int)).toNat<2 ^ 64:=by omega
 exact Nat.lt_of_lt_of_le this (by decide)
theorem ur{mask:Nat}(hc:Cz mask)(h:Int){e:Nat}(he:e<=mask):e∈cj mask h:=by
 have hi:SetTable.bits h % (mask+1)<=mask:=Nat.le_of_lt_succ (Nat.mod_lt _ (Nat.succ_pos _));obtain⟨k,hk,ek⟩:=hc _ (xg mask 13 (SetTable.bits h % (mask+1),SetTable.bits h) hi) e he
 have h13:dU mask 13 (SetTable.bits h % (mask+1),SetTable.bits h)=((dU mask 13 (SetTable.bits h % (mask+1),SetTable.bits h)).1,0):=by
  refine Prod.ext rfl ?_;rw[xf];exact Nat.div_eq_of_lt (CA h)
 have :=uq mask (SetTable.turns mask) (13+k) (SetTable.bits h % (mask+1)) (SetTable.bits h) (by unfold SetTable.turns;omega);rw[qN,h13,qO,ek]at this;exact this
def xj(t:SetTable):Nat->SetTable.Probe->List Nat
 |0,_=>[]
 |m+1,p=>p.j::xj t m (t.advance p)
def gz(mask i q:Nat):SetTable.Probe:={j:=i,more:=SetTable.runEnd mask i-i,i:=i,perturb:=q,dummy:=none}
theorem xk(t:SetTable):∀(m r:Nat) (p:SetTable.Probe),p.more=m->p.dummy=none->xj t (m+1+r) p=(List.range (m+1)).map (p.j+ ·)++xj t r (gz t.mask (SetTable.leap t.mask p.i p.perturb).1 (SetTable.leap t.mask p.i p.perturb).2)
 |0,r,p,hm,hd=>by
  rw[show 0+1+r=r+1 by omega,xj]
  have e:t.advance p=gz t.mask (SetTable.leap t.mask p.i p.perturb).1 (SetTable.leap t.mask p.i p.perturb).2:=by
   unfold SetTable.advance gz;rw[if_neg (by omega)];show SetTable.Probe.mk _ _ _ _ _=SetTable.Probe.mk _ _ _ _ _;rw[hd];rfl
  rw[e];rfl
 |m+1,r,p,hm,hd=>by
  rw[show m+1+1+r=(m+1+r)+1 by omega,xj]
  have e:t.advance p={p with j:=p.j+1,more:=p.more-1}:=by
   unfold SetTable.advance;rw[if_pos (by omega)]
  rw[e,xk t m r {p with j:=p.j+1,more:=p.more-1} (by show p.more-1=m;omega) hd]
  have e2:(List.range (m+1+1)).map (p.j+ ·)=p.j::(List.range (m+1)).map (p.j+1+ ·):=by
   rw[List.range_succ_eq_map,List.map_cons,List.map_map];refine congrArg (List.cons _) (List.map_congr_left λk _=> ?_);show p.j+(k+1)=p.j+1+k;omega
  rw[e2];rfl
theorem ut(t:SetTable):∀(n i q:Nat),xj t (dS t.mask n i q).length (gz t.mask i q)=dS t.mask n i q
 |0,_,_=>rfl
 |n+1,i,q=>by
  have h2:=mi t.mask i;have e:SetTable.runEnd t.mask i+1-i=(SetTable.runEnd t.mask i-i)+1:=by omega
  rw[dS,List.length_append,List.length_map,List.length_range,e,xk t (SetTable.runEnd t.mask i-i) _ (gz t.mask i q) rfl rfl];show _++xj t _ (gz t.mask (SetTable.leap t.mask i q).1 (SetTable.leap t.mask i q).2)=_;rw[ut t n];rfl
theorem yD(t:SetTable)(h:Int):xj t (cj t.mask h).length (t.probeStart h)=cj t.mask h:=ut t _ _ _
end Cr
namespace Cr
open PySem
theorem yE(t:SetTable)(p:SetTable.Probe):(t.advance p).dummy=p.dummy:=by
 unfold SetTable.advance;split<;>rfl
theorem xl{t:SetTable}(hd:t.dummies=#[])(hr:sn t.place){hashAt:Nat->Int}{h:Int}:∀(L:List Nat) (p:SetTable.Probe) (fuel:Nat),xj t L.length p=L->p.dummy=none->L.length<=fuel->(∃j∈L,j∉t.place.toList)->
  (∃pre j post,L=pre++j::post/\j∉t.place.toList/\(∀j'∈pre,j'∈t.place.toList/\∀i,t.place[i]? =some j'->(hashAt i==h)=false)/\SetTable.probe.go t hashAt h fuel p=some (.empty j none))\/
  (∃pre j post i nx,L=pre++j::post/\t.place[i]? =some j/\(hashAt i==h)=true/\(∀j'∈pre,j'∈t.place.toList/\∀i,t.place[i]? =some j'->(hashAt i==h)=false)/\SetTable.probe.go t hashAt h fuel p=some (.candidate j i nx)/\xj t post.length nx=post/\nx.dummy=none)
 |[],p,fuel,hf,hdm,hl,⟨j,hj,_⟩=>by simp at hj
 |j::r,p,fuel,hf,hdm,hl,hex=>by
  obtain⟨fuel,rfl⟩:∃f,fuel=f+1:=⟨fuel-1,by simp at hl;omega⟩
  have hj:p.j=j:=by
   have :=congrArg List.head? hf;simpa [xj]using this
  have hrest:xj t r.length (t.advance p)=r:=by
   have :=congrArg List.tail hf;simpa [xj]using this
  have hdm':(t.advance p).dummy=none:=by rw[yE];exact hdm
  rcases wg hr j with⟨hs,hni⟩|⟨i,hi,hs⟩
  ·left;refine⟨[],j,r,rfl,hni,by simp,?_⟩
   rw[SetTable.probe.go,hj,nF hd,hs,hdm]
  ·by_cases c:(hashAt i==h)=true
   ·right;refine⟨[],j,r,i,t.advance p,rfl,hi,c,by simp,?_,hrest,hdm'⟩
    rw[SetTable.probe.go,hj,nF hd,hs];dsimp only;rw[if_pos c]
   ·have c':(hashAt i==h)=false:=by simpa using c
    have hjm:j∈t.place.toList:=by rw[<-Array.getElem?_toList]at hi;exact List.mem_of_getElem? hi
    have hpre:∀i',t.place[i']? =some j->(hashAt i'==h)=false:=λi' hi'=>by
     have :=je hr hi';rw[je hr hi]at this;rw[<-this];exact c'
    have ego:SetTable.probe.go t hashAt h (fuel+1) p=SetTable.probe.go t hashAt h fuel (t.advance p):=by
     rw[SetTable.probe.go,hj,nF hd,hs];dsimp only;rw[if_neg c]
    have hex':∃j∈r,j∉t.place.toList:=by
     obtain⟨j',hj',hn⟩:=hex;rcases List.mem_cons.mp hj' with rfl|hj'
     ·exact absurd hjm hn
     ·exact⟨j',hj',hn⟩
    rcases xl hd hr r (t.advance p) fuel hrest hdm' (by simp at hl;omega) hex' with⟨pre,j2,post,e1,e2,e3,e4⟩|⟨pre,j2,post,i2,nx,e1,e2,e3,e4,e5,e6,e7⟩
    ·left;refine⟨j::pre,j2,post,by rw[e1];rfl,e2,λj' hj'=> ?_,by rw[ego];exact e4⟩
     rcases List.mem_cons.mp hj' with rfl|hj'
     ·exact⟨hjm,hpre⟩
     ·exact e3 j' hj'
    ·right;refine⟨j::pre,j2,post,i2,nx,by rw[e1];rfl,e2,e3,λj' hj'=> ?_,by rw[ego];exact e5,e6,e7⟩
     rcases List.mem_cons.mp hj' with rfl|hj'
     ·exact⟨hjm,hpre⟩
     ·exact e4 j' hj'
def uu(mask:Nat)(place:List Nat)(j:Nat)(h:Int):Prop:=∃pre post,cj mask h=pre++j::post/\∀j'∈pre,j'∈place
structure jM(t:SetTable)(hs:List Int):Prop where
 dm:t.dummies=#[]
 ri:sn t.place
 ps:t.place.size=hs.length
 pl:∀j∈t.place.toList,j<=t.mask
 sm:(t.mask=7/\hs.length<=4)\/(t.mask=31/\hs.length<=16)
 re:∀x∈t.place.toList.zip hs,uu t.mask t.place.toList x.1 x.2
theorem pp{xs:Array Nat}:sn xs↔xs.toList.Pairwise (· < ·):=by
 rw[List.pairwise_iff_getElem];constructor
 ·intro h i j hi hj hij;have :=h i j (by simpa using hi) (by simpa using hj) hij;simpa only[Array.getElem_toList]using this
 ·intro h i j hi hj hij;have :=h i j (by simpa using hi) (by simpa using hj) hij;simpa only[Array.getElem_toList]using this
section
variable{t:SetTable}{hs:List Int}
theorem jM.cy(k:jM t hs):Cz t.mask:=by
 rcases k.sm with⟨e,_⟩|⟨e,_⟩
 ·rw[e];exact Ih
 ·rw[e];exact Db
theorem jM.fits(k:jM t hs):t.fits hs.length=true:=by
 unfold SetTable.fits SetTable.fill;rw[k.dm,k.ps];rcases k.sm with⟨e,h⟩|⟨e,h⟩<;>simp[e]<;>omega
theorem jM.free(k:jM t hs)(h:Int):∃j∈cj t.mask h,j∉t.place.toList:=by
 have hlt:hs.length<t.mask+1:=by rcases k.sm with⟨e,h⟩|⟨e,h⟩<;>omega
 have :∃j,j<=t.mask/\j∉t.place.toList:=by
  apply Classical.byContradiction
  intro hno;have hall:∀j,j<=t.mask->j∈t.place.toList:=λj hj=>Classical.byContradiction λq=>hno ⟨j,hj,q⟩
  have h1:(List.range (t.mask+1)).length<=t.place.toList.length:=List.Nodup.length_le_of_subset List.nodup_range λj hj=>hall j (by have :=List.mem_range.mp hj;omega)
  rw[List.length_range,Array.length_toList,k.ps]at h1;omega
 obtain⟨j,hj,hn⟩:=this;exact⟨j,ur k.cy h hj,hn⟩
end
theorem px(mask:Nat)(h:Int):(cj mask h).length<=10*SetTable.turns mask:=um mask _ _ _
theorem kj(mask:Nat)(h:Int):∀j∈cj mask h,j<=mask:=xc mask _ _ _ (Nat.le_of_lt_succ (Nat.mod_lt _ (Nat.succ_pos _)))
structure wj(t:SetTable)(hs:List Int):Prop where
 dm:t.dummies=#[]
 ri:sn t.place
 ps:t.place.size=hs.length
 pl:∀j∈t.place.toList,j<=t.mask
 re:∀x∈t.place.toList.zip hs,uu t.mask t.place.toList x.1 x.2
def dW{α:Type}(l:List α)(p:Nat)(x:α):List α:=l.take p++x::l.drop p
theorem jf{α:Type}{l:List α}{p:Nat}{x y:α}:y∈dW l p x↔y=x\/y∈l:=by
 unfold dW;rw[List.mem_append,List.mem_cons];constructor
 ·rintro (h|h|h)
  ·exact .inr (List.mem_of_mem_take h)
  ·exact .inl h
  ·exact .inr (List.mem_of_mem_drop h)
 ·rintro (h|h)
  ·exact .inr (.inl h)
  ·rw[<-List.take_append_drop p l,List.mem_append]at h;exact h.elim .inl λz=> .inr (.inr z)
theorem pA{α:Type}{l:List α}{p:Nat}{x:α}(h:p<=l.length):(dW l p x).length=l.length+1:=by
 unfold dW;rw[List.length_append,List.length_cons,List.length_take,List.length_drop];omega
theorem uv{α β:Type}{l:List α}{p:Nat}{x:α}(f:α->β):(dW l p x).map f=dW (l.map f) p (f x):=by
 unfold dW;simp[List.map_take,List.map_drop]
theorem uw{α β:Type}:∀(p:Nat) (l:List α) (m:List β),(l.take p).zip (m.take p)=(l.zip m).take p
 |0,l,m=>by simp
 |p+1,[],m=>by simp
 |p+1,l,[]=>by simp
 |p+1,a::l,b::m=>by simp[uw p l m]
theorem ux{α β:Type}:∀(p:Nat) (l:List α) (m:List β),(l.drop p).zip (m.drop p)=(l.zip m).drop p
 |0,l,m=>by simp
 |p+1,[],m=>by simp
 |p+1,l,[]=>by simp
 |p+1,a::l,b::m=>by simp[ux p l m]
theorem AZ{α β:Type}{l:List α}{m:List β}{p:Nat}{x:α}{y:β}(h:l.length=m.length)(hp:p<=l.length):(dW l p x).zip (dW m p y)=dW (l.zip m) p (x,y):=by
 unfold dW;rw[List.zip_append (by simp[List.length_take];omega),List.zip_cons_cons,uw,ux]
theorem uy{α:Type}(xs:Array α)(p:Nat)(x:α):(SetTable.insertAt xs p x).toList=dW xs.toList p x:=SetTable.toList_insertAt xs p x
theorem jM.put{t:SetTable}{hs:List Int}(k:jM t hs){h:Int}{j:Nat}{pre post:List Nat}(hp:cj t.mask h=pre++j::post)(hj:j∉t.place.toList)(hpre:∀j'∈pre,j'∈t.place.toList)(pl:Bool):
  wj {(t.put j).1 with plain:=pl} (dW hs (SetTable.below t.place j) h)/\(t.put j).2=SetTable.below t.place j/\(t.put j).1.mask=t.mask/\SetTable.below t.place j<=hs.length:=by
 obtain⟨b1,b2,b3⟩:=uk k.ri j;have hle:SetTable.below t.place j<=hs.length:=by rw[<-k.ps];exact b1
 have epl:(t.put j).1.place.toList=dW t.place.toList (SetTable.below t.place j) j:=uy _ _ _
 have edm:(t.put j).1.dummies=#[]:=by
  show(if SetTable.has t.dummies j=true then _ else t.dummies)=#[]
  rw[k.dm,if_neg (by unfold SetTable.has;simp)]
 have hreach:∀{j':Nat} {h':Int},uu t.mask t.place.toList j' h'->uu t.mask (dW t.place.toList (SetTable.below t.place j) j) j' h':=λ⟨a,b,e1,e2⟩=>⟨a,b,e1,λz hz=>jf.mpr (.inr (e2 z hz))⟩
 refine⟨⟨edm,?_,?_,?_,?_⟩,rfl,rfl,hle⟩
 ·rw[pp];show(t.put j).1.place.toList.Pairwise _;rw[epl];have hpw:=pp.mp k.ri;unfold dW;rw[List.pairwise_append,List.pairwise_cons]
  have hlt:∀a∈t.place.toList.take (SetTable.below t.place j),a<j:=λa ha=>by
   obtain⟨i,hi⟩:=List.mem_iff_getElem?.mp ha;have hib:i<SetTable.below t.place j:=by have :=(List.getElem?_eq_some_iff.mp hi).1;rw[List.length_take]at this;omega
   rw[List.getElem?_take_of_lt hib,Array.getElem?_toList]at hi;obtain⟨hl,e⟩:=Array.getElem?_eq_some_iff.mp hi;rw[<-e];exact b2 i hl hib
  have hgt:∀a∈t.place.toList.drop (SetTable.below t.place j),j<a:=λa ha=>by
   obtain⟨i,hi⟩:=List.mem_iff_getElem?.mp ha;rw[List.getElem?_drop,Array.getElem?_toList]at hi;obtain⟨hl,e⟩:=Array.getElem?_eq_some_iff.mp hi;have h1:=b3 _ hl (by omega);rw[e]at h1;rcases Nat.lt_or_eq_of_le h1 with c|c
   ·exact c
   ·exact absurd (List.mem_of_mem_drop (show j∈_ by rw[c];exact ha)) hj
  refine⟨hpw.sublist (List.take_sublist _ _),⟨hgt,hpw.sublist (List.drop_sublist _ _)⟩,λa ha b hb=> ?_⟩;rcases List.mem_cons.mp hb with rfl|hb
  ·exact hlt a ha
  ·exact Nat.lt_trans (hlt a ha) (hgt b hb)
 ·show(t.put j).1.place.size=_
  rw[<-Array.length_toList,epl,pA (by rw[Array.length_toList];exact b1),pA hle,Array.length_toList,k.ps]
 ·intro a ha;have ha:a∈(t.put j).1.place.toList:=ha;rw[epl]at ha;rcases jf.mp ha with rfl|ha
  ·exact kj t.mask h a (by rw[hp];simp)
  ·exact k.pl a ha
 ·intro x hx;have hx:x∈(t.put j).1.place.toList.zip (dW hs (SetTable.below t.place j) h):=hx;show uu t.mask (t.put j).1.place.toList x.1 x.2;rw[epl]at hx⊢;rw[AZ (by rw[Array.length_toList,k.ps]) (by rw[Array.length_toList];exact b1)]at hx;rcases jf.mp hx with rfl|hx
  ·exact⟨pre,post,hp,λz hz=>jf.mpr (.inr (hpre z hz))⟩
  ·exact hreach (k.re x hx)
end Cr
namespace Cr
open PySem
theorem qP(mask:Nat)(owner:Array (Option Nat)):∀n i q,SetTable.layClean.free mask owner n i q=(dS mask n i q).find? λj=>(owner.getD j (some 0)).isNone
 |0,_,_=>rfl
 |n+1,i,q=>by
  rw[SetTable.layClean.free,dS,List.find?_append,List.find?_map];show(match(List.range (SetTable.runEnd mask i+1-i)).find? ((λj=>(owner.getD j (some 0)).isNone)∘λx=>i+x)with |some k=>some (i+k)|none=>_)=_;cases(List.range (SetTable.runEnd mask i+1-i)).find? ((λj=>(owner.getD j (some 0)).isNone)∘λx=>i+x)with
  |some k=>rfl
  |none=>exact qP mask owner n _ _
def pM(owner:Array (Option Nat))(j i:Nat):Prop:=owner[j]? =some (some i)
structure hU(mask:Nat)(hs:List Int)(owner:Array (Option Nat))(k:Nat):Prop where
 sz:owner.size=mask+1
 lt:∀{j i},pM owner j i->i<k
 inj:∀{j j' i},pM owner j i->pM owner j' i->j=j'
 ex:∀{i},i<k->∃j h,pM owner j i/\hs[i]? =some h/\∃pre post,cj mask h=pre++j::post/\∀j'∈pre,∃i',pM owner j' i'
theorem wk{mask:Nat}{hs:List Int}{owner:Array (Option Nat)}{k:Nat}(I:hU mask hs owner k){j:Nat}(hj:j<=mask):owner[j]? =some none\/∃i,pM owner j i:=by
 have hlt:j<owner.size:=by rw[I.sz];omega
 unfold pM;rw[Array.getElem?_eq_getElem hlt];cases owner[j]with
 |none=>exact .inl rfl
 |some i=>exact .inr ⟨i,rfl⟩
theorem A0{mask:Nat}{hs:List Int}{owner:Array (Option Nat)}{k:Nat}(I:hU mask hs owner k)(hk:k<=mask):∃j,j<=mask/\owner[j]? =some none:=by
 apply Classical.byContradiction
 intro hno;have hall:∀j,j<=mask->∃i,pM owner j i:=λj hj=>(wk I hj).resolve_left λq=>hno ⟨j,hj,q⟩
 have hv:∀{j i},pM owner j i->((owner[j]?).getD none).getD 0=i:=λh=>by unfold pM at h;rw[h];rfl
 have hnd:((List.range (mask+1)).map λj=>((owner[j]?).getD none).getD 0).Nodup:=by
  rw[List.Nodup,List.pairwise_map];refine List.Pairwise.imp_of_mem ?_ (List.nodup_range (n:=mask+1));intro a b ha hb hab e;obtain⟨i,hi⟩:=hall a (by have :=List.mem_range.mp ha;omega);obtain⟨i',hi'⟩:=hall b (by have :=List.mem_range.mp hb;omega);rw[hv hi,hv hi']at e;subst e;exact hab (I.inj hi hi')
 have :=hnd.length_le_of_subset (l₂:=List.range k) λx hx=>by
  obtain⟨j,hj,rfl⟩:=List.mem_map.mp hx;obtain⟨i,hi⟩:=hall j (by have :=List.mem_range.mp hj;omega);rw[hv hi];exact List.mem_range.mpr (I.lt hi)
 rw[List.length_map,List.length_range,List.length_range]at this;omega
theorem jt{owner:Array (Option Nat)}{j k:Nat}(hj:j<owner.size){j' i:Nat}:pM (owner.setIfInBounds j (some k)) j' i↔(j'=j/\i=k)\/(j'≠j/\pM owner j' i):=by
 unfold pM;rw[Array.getElem?_setIfInBounds];by_cases c:j=j'
 ·subst c;rw[if_pos rfl,if_pos hj];simp;exact eq_comm
 ·rw[if_neg c];have :j'≠j:=λq=>c q.symm
  simp[this]
theorem A1{mask:Nat}(hc:Cz mask){hs:List Int}{owner:Array (Option Nat)}{k:Nat}(I:hU mask hs owner k)(hk:k<=mask){h:Int}(hh:hs[k]? =some h):
  ∃j,SetTable.layClean.free mask owner (SetTable.turns mask) (SetTable.bits h % (mask+1)) (SetTable.bits h)=some j/\hU mask hs (owner.setIfInBounds j (some k)) (k+1):=by
 obtain⟨j0,hj0,hn0⟩:=A0 I hk
 have hget:∀j,j<=mask->owner.getD j (some 0)=(owner[j]?).getD none:=λj hj=>by
  have hlt:j<owner.size:=by rw[I.sz];omega
  rw[Array.getD_eq_getD_getElem?,Array.getElem?_eq_getElem hlt];rfl
 rw[qP];have hpath:dS mask (SetTable.turns mask) (SetTable.bits h % (mask+1)) (SetTable.bits h)=cj mask h:=rfl;rw[hpath];cases hf:(cj mask h).find? λj=>(owner.getD j (some 0)).isNone with
 |none=>
  have :=List.find?_eq_none.mp hf j0 (ur hc h hj0);rw[hget j0 hj0,hn0]at this;simp at this
 |some j=>
  obtain⟨hjn,pre,post,ep,hpre⟩:=List.find?_eq_some_iff_append.mp hf;have hjm:j<=mask:=kj mask h j (by rw[ep];simp);have hlt:j<owner.size:=by rw[I.sz];omega
  have hjnone:owner[j]? =some none:=by
   rcases wk I hjm with c|⟨i,c⟩
   ·exact c
   ·rw[hget j hjm,c]at hjn;simp at hjn
  have hnocc:∀{i},¬pM owner j i:=λq=>by unfold pM at q;rw[hjnone]at q;simp at q
  refine⟨j,rfl,?_⟩;refine{sz:=by rw[Array.size_setIfInBounds];exact I.sz,lt:= ?_,inj:= ?_,ex:= ?_}
  ·intro j' i q;rcases(jt hlt).mp q with⟨_,rfl⟩|⟨_,q⟩
   ·omega
   ·have :=I.lt q;omega
  ·intro j1 j2 i q1 q2;rcases(jt hlt).mp q1 with⟨e1,e2⟩|⟨_,q1⟩<;>rcases(jt hlt).mp q2 with⟨e3,e4⟩|⟨_,q2⟩
   ·rw[e1,e3]
   ·exact absurd (I.lt q2) (by omega)
   ·exact absurd (I.lt q1) (by omega)
   ·exact I.inj q1 q2
  ·have hup:∀{j'},(∃i',pM owner j' i')->∃i',pM (owner.setIfInBounds j (some k)) j' i':=λ{j'} ⟨i',q⟩=>⟨i',(jt hlt).mpr (.inr ⟨λe=>hnocc (e▸q),q⟩)⟩
   intro i hi;by_cases c:i=k
   ·subst c;refine⟨j,h,(jt hlt).mpr (.inl ⟨rfl,rfl⟩),hh,pre,post,ep,λj' hj'=>hup ?_⟩;have hm':j'<=mask:=kj mask h j' (by rw[ep];simp[hj']);rcases wk I hm' with q|q
    ·have :=hpre j' hj';rw[hget j' hm',q]at this;simp at this
    ·exact q
   ·obtain⟨j1,h1,q1,q2,p1,p2,q3,q4⟩:=I.ex (show i<k by omega);exact⟨j1,h1,(jt hlt).mpr (.inr ⟨λe=>hnocc (e▸q1),q1⟩),q2,p1,p2,q3,λj' hj'=>hup (q4 j' hj')⟩
theorem uz{mask:Nat}(hc:Cz mask){hs:List Int}(hl:hs.length<=mask+1):∀(br done:List Int) (owner:Array (Option Nat)),hs=done++br->hU mask hs owner done.length->
  ∃owner',br.foldl (λ(acc:Option (Array (Option Nat)×Nat)) h=>acc.bind λx=>(SetTable.layClean.free mask x.1 (SetTable.turns mask) (SetTable.bits h % (mask+1)) (SetTable.bits h)).bind λj=>some (x.1.setIfInBounds j (some x.2),x.2+1)) (some (owner,done.length))=some (owner',hs.length)/\hU mask hs owner' hs.length
 |[],done,owner,e,I=>by
  rw[List.append_nil]at e;subst e;exact⟨owner,rfl,I⟩
 |h::br,done,owner,e,I=>by
  have hlen:done.length<=mask:=by have :=congrArg List.length e;simp at this;omega
  obtain⟨j,ej,I'⟩:=A1 hc I hlen (h:=h) (by rw[e,List.getElem?_append_right (Nat.le_refl _)];simp);rw[List.foldl_cons];have hd:(done++[h]).length=done.length+1:=by simp
  have :=uz hc hl br (done++[h]) (owner.setIfInBounds j (some done.length)) (by rw[e];simp) (by rw[hd];exact I');rw[hd]at this;dsimp only[Option.bind];rw[ej];exact this
theorem yF{mask:Nat}(hc:Cz mask){hs:Array Int}(hl:hs.size<=mask+1):∃owner,SetTable.layClean mask hs=some owner/\hU mask hs.toList owner hs.size:=by
 have I0:hU mask hs.toList (Array.replicate (mask+1) none) ([]:List Int).length:=by
  have hno:∀{j i},¬pM (Array.replicate (mask+1) (none:Option Nat)) j i:=λq=>by
   unfold pM at q;rw[Array.getElem?_replicate]at q;split at q<;>simp at q
  exact{sz:=Array.size_replicate,lt:=λq=>absurd q hno,inj:=λq=>absurd q hno,ex:=λq=>absurd q (Nat.not_lt_zero _)}
 obtain⟨owner,e,I⟩:=uz hc (by rw[Array.length_toList];exact hl) hs.toList [] _ rfl I0;rw[Array.length_toList]at e I;refine⟨owner,?_,I⟩;unfold SetTable.layClean;rw[<-Array.foldl_toList]
 have e':hs.toList.foldl (λ(acc:Option (Array (Option Nat)×Nat)) h=>do
   let(owner,k)<-acc
   let j<-SetTable.layClean.free mask owner (SetTable.turns mask) (SetTable.bits h % (mask+1)) (SetTable.bits h)
   pure (owner.setIfInBounds j (some k),k+1)) (some (Array.replicate (mask+1) none,0))=some (owner,hs.size):=e
 rw[e'];rfl
def eW(mask:Nat)(owner:Array (Option Nat)):List (Nat×Nat):=(List.range (mask+1)).filterMap λj=>(owner.getD j none).map (j,·)
theorem dX{mask:Nat}{hs:List Int}{owner:Array (Option Nat)}{k:Nat}(I:hU mask hs owner k){x:Nat×Nat}:x∈eW mask owner↔pM owner x.1 x.2:=by
 have hg:∀j,owner.getD j none=(owner[j]?).getD none:=λj=>Array.getD_eq_getD_getElem? ..
 unfold eW pM;rw[List.mem_filterMap];constructor
 ·rintro ⟨j,hj,e⟩
  rw[hg]at e;have hlt:j<owner.size:=by rw[I.sz];exact List.mem_range.mp hj
  rw[Array.getElem?_eq_getElem hlt]at e;cases ho:owner[j]with
  |none=>rw[ho]at e;simp at e
  |some i=>
   rw[ho]at e;simp at e;subst e;rw[Array.getElem?_eq_getElem hlt,ho]
 ·intro q;have hlt:=(Array.getElem?_eq_some_iff.mp q).1;refine⟨x.1,List.mem_range.mpr (by rw[I.sz]at hlt;exact hlt),?_⟩;rw[hg,q];rfl
theorem qQ(mask:Nat)(owner:Array (Option Nat)):(eW mask owner).Pairwise λx y=>x.1<y.1:=by
 unfold eW;rw[List.pairwise_filterMap];refine List.Pairwise.imp ?_ (List.pairwise_lt_range (n:=mask+1));intro a b hab x hx y hy;rw[Option.map_eq_some_iff]at hx hy;obtain⟨_,_,rfl⟩:=hx;obtain⟨_,_,rfl⟩:=hy;exact hab
theorem CB{mask:Nat}(hc:Cz mask)(finger moves:Nat)(led plain:Bool){hs:Array Int}(hl:hs.size<=mask+1):
  ∃t order,SetTable.laid mask finger moves led plain hs=some (t,order)/\t.mask=mask/\wj t (order.toList.filterMap (hs[·]?))/\order.toList.Perm (List.range hs.size):=by
 obtain⟨owner,e,I⟩:=yF hc hl;refine⟨{mask,place:=((eW mask owner).map (·.1)).toArray,dummies:=#[],finger,led,moves,plain},((eW mask owner).map (·.2)).toArray,?_,rfl,?_,?_⟩
 ·unfold SetTable.laid;rw[e];rfl
 ·have hall:∀x∈eW mask owner,∃h,hs[x.2]? =some h:=λx hx=>by
   have :=I.lt ((dX I).mp hx);exact⟨_,Array.getElem?_eq_getElem this⟩
  have hlist:∀(l:List (Nat×Nat)),(∀x∈l,∃h,hs[x.2]? =some h)->((l.map (·.2)).filterMap (hs[·]?)).length=l.length/\∀z∈(l.map (·.1)).zip ((l.map (·.2)).filterMap (hs[·]?)),∃x∈l,z.1=x.1/\hs[x.2]? =some z.2:=by
   intro l;induction l with
   |nil=>intro _;exact⟨rfl,by simp⟩
   |cons x l ih=>
    intro hx;obtain⟨h,eh⟩:=hx x List.mem_cons_self;obtain⟨i1,i2⟩:=ih λy hy=>hx y (List.mem_cons_of_mem _ hy)
    rw[List.map_cons,List.map_cons,List.filterMap_cons,eh];dsimp only;refine⟨by rw[List.length_cons,i1,List.length_cons],λz hz=> ?_⟩;rw[List.zip_cons_cons]at hz;rcases List.mem_cons.mp hz with rfl|hz
    ·exact⟨x,List.mem_cons_self,rfl,eh⟩
    ·obtain⟨y,hy,q⟩:=i2 z hz;exact⟨y,List.mem_cons_of_mem _ hy,q⟩
  obtain⟨l1,l2⟩:=hlist _ hall;refine{dm:=rfl,ri:= ?_,ps:= ?_,pl:= ?_,re:= ?_}
  ·rw[pp];show((eW mask owner).map (·.1)).Pairwise (· < ·);rw[List.pairwise_map];exact qQ mask owner
  ·show((eW mask owner).map (·.1)).toArray.size=_
   rw[l1];simp
  ·intro j hj;have hj:j∈(eW mask owner).map (·.1):=hj;obtain⟨x,hx,rfl⟩:=List.mem_map.mp hj;have :=(Array.getElem?_eq_some_iff.mp ((dX I).mp hx)).1;rw[I.sz]at this;exact Nat.le_of_lt_succ this
  ·intro z hz;obtain⟨x,hx,e1,e2⟩:=l2 z hz;have ho:=(dX I).mp hx;obtain⟨j,h,q1,q2,pre,post,q3,q4⟩:=I.ex (I.lt ho);have ej:j=x.1:=I.inj q1 ho;rw[Array.getElem?_toList,e2]at q2;have eh:z.2=h:=Option.some.inj q2;refine⟨pre,post,by rw[e1,<-ej,eh];exact q3,λj' hj'=> ?_⟩;obtain⟨i',hi'⟩:=q4 j' hj';exact List.mem_map.mpr ⟨(j',i'),(dX I).mpr hi',rfl⟩
 ·show((eW mask owner).map (·.2)).Perm _
  refine(List.perm_ext_iff_of_nodup ?_ List.nodup_range).mpr λi=> ?_
  ·rw[List.Nodup,List.pairwise_map];refine List.Pairwise.imp_of_mem ?_ (qQ mask owner);intro a b ha hb hab q;have h1:=(dX I).mp ha;have h2:=(dX I).mp hb;rw[q]at h1;have :=I.inj h1 h2;omega
  ·rw[List.mem_map,List.mem_range];constructor
   ·rintro ⟨x,hx,rfl⟩
    exact I.lt ((dX I).mp hx)
   ·intro hi;obtain⟨j,h,q1,_⟩:=I.ex hi;exact⟨(j,i),(dX I).mpr q1,rfl⟩
end Cr
namespace Cr
open PySem
section
variable{prog:Program}{w:World}{L:Type}[DecidableEq L]{knd:KeyKind prog w L}{A:Around}{E:Value->Shared->Prop}{s:Shared}
theorem wl{α:Type}{c:Prop}{d:Decidable c}{m1 m2:Sem α}{M:Model}{Q:α->Shared->Prop}(h1:c->wpAny M A m1 Q E s)(h2:¬c->wpAny M A m2 Q E s):wpAny M A (@ite _ c d m1 m2) Q E s:=by
 by_cases q:c
 ·rw[if_pos q];exact h1 q
 ·rw[if_neg q];exact h2 q
theorem pN(d:Nat){v:Value}(h:carriedByValue v=true):ofAClassStatement d v=pure false:=by
 cases v with
 |ref a=>cases h
 |_=>cases d<;>rfl
theorem mQ{k:List L}{a:Addr}{Q:Bool->Shared->Prop}(hk:IsTupleKey knd s.heap k a)(h:Q false s):wpAny (model prog w) A (ofAClassStatement 8 (.ref a)) Q E s:=by
 have ty:=hk.typeIs;obtain⟨ob,its,m,hob,hcl,hdt,hit⟩:=hk;unfold ofAClassStatement;refine wpAny_bind (wpAny_typeOf ty ?_);dsimp only;rw[if_pos (show("tuple"=="tuple")=true by decide)];refine wpAny_bind (wpAny_pure ?_);simp only[Bool.not_true,Bool.false_eq_true,if_false];refine wpAny_bind (wpAny_seqItems hob hdt ?_);dsimp only;refine wpAny_bind ?_;rw[<-Array.forIn_toList];refine wpAny_forIn_list _ (λbr r s'=>r.1=none/\s'=s/\∀v∈br,carriedByValue v=true) _ (λv br r s' q=> ?_) (λr s' q=> ?_) _ _ ⟨rfl,rfl,hit.byValue⟩
 ·obtain⟨q1,rfl,q3⟩:=q;rw[pN _ (q3 v List.mem_cons_self)];refine wpAny_bind (wpAny_pure ?_);simp only[Bool.false_eq_true,if_false];exact wpAny_pure ⟨rfl,rfl,λu hu=>q3 u (List.mem_cons_of_mem _ hu)⟩
 ·obtain⟨q1,rfl,_⟩:=q;obtain⟨r1,r2⟩:=r;dsimp only at q1;subst q1;exact wpAny_pure h
theorem uA(d:Nat){v:Value}(h:carriedByValue v=true):∃b,hashByValue d v=pure b:=by
 cases v with
 |ref a=>cases h
 |_=>cases d<;>exact⟨_,rfl⟩
theorem uB{k:List L}{a:Addr}{Q:Bool->Shared->Prop}(hk:IsTupleKey knd s.heap k a)(h:∀b,Q b s):wpAny (model prog w) A (hashByValue 8 (.ref a)) Q E s:=by
 have ty:=hk.typeIs;obtain⟨ob,its,m,hob,hcl,hdt,hit⟩:=hk;unfold hashByValue;refine wpAny_bind (wpAny_specialOf ty PySem.F.slot_tuple_hash.lookup ?_);show wpAny _ _ (seqItems? (.ref a)>>= _) _ _ _;refine wpAny_bind (wpAny_seqItems hob hdt ?_);dsimp only[Option.getD];refine wpAny_bind ?_;rw[<-Array.forIn_toList];refine wpAny_forIn_list _ (λbr r s'=>r.1=none/\s'=s/\∀v∈br,carriedByValue v=true) _ (λv br r s' q=> ?_) (λr s' q=> ?_) _ _ ⟨rfl,rfl,hit.byValue⟩
 ·obtain⟨q1,rfl,q3⟩:=q;obtain⟨b,eb⟩:=uA 7 (q3 v List.mem_cons_self);rw[eb];refine wpAny_bind (wpAny_pure ?_);cases b
  ·simp only[Bool.not_false,if_true];exact wpAny_pure (wpAny_pure (h _))
  ·simp only[Bool.not_true,Bool.false_eq_true,if_false];exact wpAny_pure ⟨rfl,rfl,λu hu=>q3 u (List.mem_cons_of_mem _ hu)⟩
 ·obtain⟨q1,rfl,_⟩:=q;obtain⟨r1,r2⟩:=r;dsimp only at q1;subst q1;exact wpAny_pure (h _)
theorem EN{k:List L}{b:Addr}(hk:IsTupleKey knd s.heap k b){ys:List Value}(hys:∀y∈ys,∃k' a,y= .ref a/\IsTupleKey knd s.heap k' a){Q:Bool->Shared->Prop}(h:Q false s):
  wpAny (model prog w) A (searchCouldBeSeen (.ref b) ys) Q E s:=by
 unfold searchCouldBeSeen;refine wpAny_bind ?_;refine wpAny_forIn_list _ (λbr r s'=>r.1=none/\s'=s/\∀y∈br,∃k' a,y= .ref a/\IsTupleKey knd s.heap k' a) _ (λv br r s' q=> ?_) (λr s' q=> ?_) _ _ ⟨rfl,rfl,hys⟩
 ·obtain⟨q1,rfl,q3⟩:=q;have q4:∀y∈br,∃k' a,y= .ref a/\IsTupleKey knd s'.heap k' a:=λu hu=>q3 u (List.mem_cons_of_mem _ hu)
  obtain⟨k',a,rfl,ha⟩:=q3 _ List.mem_cons_self;dsimp only[carriedByValue];refine wl (λ_=> ?_) (λ_=> ?_)
  ·exact wpAny_pure ⟨rfl,rfl,q4⟩
  ·refine wpAny_bind (wpAny_eqIsQuiet_tuple hk ?_);simp only[Bool.not_true,Bool.false_eq_true,if_false];refine wpAny_bind (wpAny_eqIsQuiet_tuple ha ?_);simp only[Bool.not_true,Bool.false_eq_true,if_false];refine wpAny_bind (mQ hk ?_);simp only[Bool.false_eq_true,if_false];refine wpAny_bind (mQ ha ?_);simp only[Bool.false_eq_true,if_false];exact wpAny_pure ⟨rfl,rfl,q4⟩
 ·obtain⟨q1,rfl,_⟩:=q;obtain⟨r1,r2⟩:=r;dsimp only at q1;subst q1;exact wpAny_pure h
abbrev pB(L:Type):=List (List L×Addr)
def sr(knd:KeyKind prog w L)(x:List L×Addr):Int×Value:=(tupleKeyHash knd x.1,.ref x.2)
def eY(knd:KeyKind prog w L)(xs:pB L):List Int:=xs.map λx=>tupleKeyHash knd x.1
structure cq(knd:KeyKind prog w L)(h:Heap)(a:Addr)(xs:pB L)(o:Obj)(es:Array (Int×Value))(ep:Nat)(t:SetTable):Prop where
 get:h.get? a=some o
 ex:o.ExactSet
 data:o.data= .set es ep t
 eq:es.toList=xs.map (sr knd)
 is:∀x∈xs,IsTupleKey knd h x.1 x.2
 nd:(xs.map (·.1)).Nodup
 tab:jM t (eY knd xs)
theorem cq.fits{h:Heap}{a:Addr}{xs:pB L}{o:Obj}{es:Array (Int×Value)}{ep:Nat}{t:SetTable}(I:cq knd h a xs o es ep t):t.fits es.size=true:=by
 have :=I.tab.fits;have e:es.size=(eY knd xs).length:=by rw[<-Array.length_toList,I.eq];simp[eY]
 rw[e];exact this
theorem mR{α:Type}{j j':α}:∀{P Q P' Q':List α},P++j::Q=P'++j'::Q'->j∉P'->j≠j'->j'∈P
 |[],Q,[],Q',e,_,hn=>by simp at e;exact absurd e.1 hn
 |[],Q,b::P',Q',e,hj,_=>by simp at e;exact absurd (by simp[e.1]) hj
 |a::P,Q,[],Q',e,_,_=>by simp at e;simp[e.1]
 |a::P,Q,b::P',Q',e,hj,hn=>by
  simp at e
  exact List.mem_cons_of_mem _ (mR e.2 (λq=>hj (List.mem_cons_of_mem _ q)) hn)
theorem cq.miss{h:Heap}{a:Addr}{xs:pB L}{o:Obj}{es:Array (Int×Value)}{ep:Nat}{t:SetTable}(I:cq knd h a xs o es ep t){k:List L}{P Q:List Nat}{j:Nat}(hp:cj t.mask (tupleKeyHash knd k)=P++j::Q)(hj:j∉t.place.toList)
  (hP:∀j'∈P,∀(i:Nat) (x:List L×Addr),t.place[i]? =some j'->xs[i]? =some x->x.1≠k):∀x∈xs,x.1≠k:=by
 intro x hx ek;obtain⟨i,hi⟩:=List.mem_iff_getElem?.mp hx;have hil:=(List.getElem?_eq_some_iff.mp hi).1;have hlen:t.place.size=xs.length:=by rw[I.tab.ps];simp[eY]
 have hpl:t.place[i]? =some t.place[i]:=Array.getElem?_eq_getElem (by omega)
 have hz:(t.place[i],tupleKeyHash knd x.1)∈t.place.toList.zip (eY knd xs):=by
  refine List.mem_iff_getElem?.mpr ⟨i,?_⟩;rw[List.getElem?_zip_eq_some];refine⟨by rw[Array.getElem?_toList];exact hpl,?_⟩;unfold eY;rw[List.getElem?_map,hi];rfl
 obtain⟨P',Q',e,hP'⟩:=I.tab.re _ hz;dsimp only at e;rw[ek,hp]at e;have hin:t.place[i]∈t.place.toList:=by rw[<-Array.getElem_toList];exact List.getElem_mem _
 have :=mR e (λq=>hj (hP' _ q)) (λq=>hj (by rw[q];exact hin));exact hP _ this i x hpl hi ek
end
end Cr
namespace Cr
open PySem
section
variable{prog:Program}{w:World}{L:Type}[DecidableEq L]{knd:KeyKind prog w L}{A:Around}{E:Value->Shared->Prop}{s:Shared}
variable{a:Addr}{xs:pB L}{o:Obj}{es:Array (Int×Value)}{ep:Nat}{t:SetTable}{k:List L}{b:Addr}
def jg(es:Array (Int×Value)):Nat->Int:=λi=>(es[i]?.map (·.1)).getD 0
theorem cq.hash{h:Heap}(I:cq knd h a xs o es ep t){i:Nat}{x:List L×Addr}(hx:xs[i]? =some x):es[i]? =some (sr knd x)/\jg es i=tupleKeyHash knd x.1:=by
 have e:es[i]? =some (sr knd x):=by rw[<-Array.getElem?_toList,I.eq,List.getElem?_map,hx];rfl
 refine⟨e,?_⟩;unfold jg;rw[e];rfl
theorem cq.at{h:Heap}(I:cq knd h a xs o es ep t){i j:Nat}(hp:t.place[i]? =some j):∃x,xs[i]? =some x:=by
 have h1:=(Array.getElem?_eq_some_iff.mp hp).1;have hlen:t.place.size=xs.length:=by rw[I.tab.ps];simp[eY]
 exact⟨_,List.getElem?_eq_getElem (by omega)⟩
theorem cq.odd{h:Heap}(I:cq knd h a xs o es ep t):t.gaveWay=false:=by
 unfold SetTable.gaveWay;rcases I.tab.sm with⟨e,_⟩|⟨e,_⟩<;>rw[e]<;>rfl
def EO(t:SetTable)(xs:pB L)(k:List L)(j:Nat):Prop:=j∈t.place.toList/\∀(i:Nat) (x:List L×Addr),t.place[i]? =some j->xs[i]? =some x->x.1≠k
theorem EQ(I:cq knd s.heap a xs o es ep t)(hu:A.units<cLine)(hk:IsTupleKey knd s.heap k b){Q:SetFound->Shared->Prop}(q1:(∃x∈xs,x.1=k)->Q (.there none) s)
  (q2:(∀x∈xs,x.1≠k)->∀P j R,cj t.mask (tupleKeyHash knd k)=P++j::R->j∉t.place.toList->(∀j'∈P,j'∈t.place.toList)->Q (.free j false) s):
  ∀(n:Nat) (Lp done:List Nat) (fuel:Nat) (stand:Option SetTable.Probe),Lp.length<=n->n<fuel->cj t.mask (tupleKeyHash knd k)=done++Lp->xj t Lp.length (stand.getD (t.probeStart (tupleKeyHash knd k)))=Lp->(stand.getD (t.probeStart (tupleKeyHash knd k))).dummy=none->(∀j∈done,EO t xs k j)->
   wpAny (model prog w) A (setSearchFrom a (.ref b) (tupleKeyHash knd k) true fuel stand) Q E s:=by
 intro n;induction n with
 |zero=>
  intro Lp done fuel stand hn hf hp hfut hdm hdone;have :Lp=[]:=List.eq_nil_of_length_eq_zero (by omega);subst this;obtain⟨j,hj,hjn⟩:=I.tab.free (tupleKeyHash knd k);rw[hp,List.append_nil]at hj;exact absurd (hdone j hj).1 hjn
 |succ n ih=>
  intro Lp done fuel stand hn hf hp hfut hdm hdone;obtain⟨fuel,rfl⟩:∃f,fuel=f+1:=⟨fuel-1,by omega⟩
  have hex:∃j∈Lp,j∉t.place.toList:=by
   obtain⟨j,hj,hjn⟩:=I.tab.free (tupleKeyHash knd k);rw[hp,List.mem_append]at hj;exact⟨j,hj.resolve_left λq=>hjn (hdone j q).1,hjn⟩
  have hLl:Lp.length<=10*SetTable.turns t.mask:=by
   have :=px t.mask (tupleKeyHash knd k);rw[hp,List.length_append]at this;omega
  have hpast:∀{j':Nat},(j'∈t.place.toList/\∀i,t.place[i]? =some j'->(jg es i==tupleKeyHash knd k)=false)->EO t xs k j':=λ{j'} ⟨h1,h2⟩=>⟨h1,λi x hi hx ek=>by
   have :=h2 i hi;rw[(I.hash hx).2,ek]at this
   simp at this⟩
  unfold setSearchFrom;refine wpAny_bind (wpAny_setState_of I.get I.data I.fits ?_);dsimp only;rw[I.odd];simp only[Bool.false_eq_true,if_false];generalize hr:SetTable.probe t _ _ _=r;have hr':SetTable.probe.go t (jg es) (tupleKeyHash knd k) (10*SetTable.turns t.mask) (stand.getD (t.probeStart (tupleKeyHash knd k)))=r:=hr;rcases xl (hashAt:=jg es) (h:=tupleKeyHash knd k) I.tab.dm I.tab.ri Lp _ (10*SetTable.turns t.mask) hfut hdm hLl hex with⟨pre,j,post,e1,e2,e3,e4⟩|⟨pre,j,post,i,nx,e1,e2,e3,e4,e5,e6,e7⟩
  ·rw[e4]at hr';subst hr';have hp':cj t.mask (tupleKeyHash knd k)=(done++pre)++j::post:=by rw[hp,e1,List.append_assoc]
   have hP:∀j'∈done++pre,EO t xs k j':=λj' hj'=>(List.mem_append.mp hj').elim (hdone j') λq=>hpast (e3 j' q)
   exact wpAny_pure (q2 (I.miss hp' e2 λj' hj'=>(hP j' hj').2) _ j post hp' e2 λj' hj'=>(hP j' hj').1)
  ·rw[e5]at hr';subst hr';obtain⟨y,hy⟩:=I.at e2;obtain⟨hes,hhash⟩:=I.hash hy;have hyI:=I.is y (List.mem_of_getElem? hy);dsimp only
   have br:wpAny (model prog w) A (do
     let some (_,y):=es[i]? |unsupported "internal:set-entry"
     let equal<-holding [y] (eqBool y (.ref b))
     let(es',_,t')<-setState a
     if true&&equal then return .there none
     let some same:=t'.sameMemory t.moves t.mask|unsupported "set.changed-during-lookup:is-the-new-block-at-the-old-address"
     let still<-match(if same then t'.slot j else .empty)with
      | .live i'=>match es'[i']? with
       |some (_,y')=>do pure (if <-isSame y' y then some i' else none)
       |none=>pure none
      |_=>pure none
     match still with
     |none=>rule "set.search.anew";setSearchFrom a (.ref b) (tupleKeyHash knd k) true fuel none
     |some i'=>if equal then return .there (some i')else setSearchFrom a (.ref b) (tupleKeyHash knd k) true fuel (some nx)) Q E s:=by
    rw[hes];dsimp only[sr];refine wpAny_bind (wpAny_holding (wpAny_eqBool_tuple hu hyI hk ?_));refine wpAny_bind (wpAny_setState_of I.get I.data I.fits ?_);dsimp only;by_cases c:y.1=k
    ·simp only[c,decide_true,Bool.and_true,if_true];exact wpAny_pure (q1 ⟨y,List.mem_of_getElem? hy,c⟩)
    ·simp only[c,decide_false,Bool.and_false,Bool.false_eq_true,if_false];have hsm:t.sameMemory t.moves t.mask=some true:=by unfold SetTable.sameMemory;simp
     rw[hsm];dsimp only;rw[if_pos rfl,nF I.tab.dm,qM I.tab.ri e2];dsimp only;rw[hes];dsimp only[sr];refine wpAny_bind (wpAny_isSame_ref_self (wpAny_bind (wpAny_pure ?_)));simp only[if_true];refine ih post (done++pre++[j]) fuel (some nx) ?_ (by omega) ?_ e6 e7 λj' hj'=> ?_
     ·rw[e1]at hn;simp at hn;omega
     ·rw[hp,e1];simp
     ·rcases List.mem_append.mp hj' with hj'|hj'
      ·exact(List.mem_append.mp hj').elim (hdone j') λq=>hpast (e4 j' q)
      ·obtain rfl:=List.mem_singleton.mp hj';refine⟨by rw[<-Array.getElem?_toList]at e2;exact List.mem_of_getElem? e2,λi' x hi' hx=> ?_⟩;have :i'=i:=by have h1:=je I.tab.ri hi';rw[je I.tab.ri e2]at h1;exact h1.symm
       subst this;rw[hy]at hx;obtain rfl:=Option.some.inj hx;exact c
   refine wl (λ_=> ?_) (λ_=>br);refine wpAny_bind (EN hk (λv hv=> ?_) ?_)
   ·obtain⟨e,he,rfl⟩:=List.mem_map.mp hv;rw[Array.toList_filter,List.mem_filter,I.eq]at he;obtain⟨x,hx,rfl⟩:=List.mem_map.mp he.1;exact⟨x.1,x.2,rfl,I.is x hx⟩
   ·simp only[Bool.false_eq_true,if_false];exact br
theorem CC(I:cq knd s.heap a xs o es ep t)(hu:A.units<cLine)(hk:IsTupleKey knd s.heap k b){Q:SetFound->Shared->Prop}(q1:(∃x∈xs,x.1=k)->Q (.there none) s)
  (q2:(∀x∈xs,x.1≠k)->∀P j R,cj t.mask (tupleKeyHash knd k)=P++j::R->j∉t.place.toList->(∀j'∈P,j'∈t.place.toList)->Q (.free j false) s):
  wpAny (model prog w) A (setSearch a (.ref b) (tupleKeyHash knd k) true) Q E s:=by
 unfold setSearch
 have hlen:(cj t.mask (tupleKeyHash knd k)).length<100000:=by
  have h1:=px t.mask (tupleKeyHash knd k);have h2:t.mask<=31:=by rcases I.tab.sm with⟨e,_⟩|⟨e,_⟩<;>omega
  unfold SetTable.turns at h1;omega
 exact EQ I hu hk q1 q2 _ (cj t.mask (tupleKeyHash knd k)) [] _ none (Nat.le_refl _) hlen rfl (yD t _) rfl λj hj=>by simp at hj
end
end Cr
namespace Cr
open PySem
theorem uC{α:Type}:∀l:List α,(List.range l.length).filterMap (λi=>l[i]?)=l
 |[]=>rfl
 |a::l=>by
  rw[List.length_cons,List.range_succ_eq_map,List.filterMap_cons];simp only[List.getElem?_cons_zero,List.filterMap_map];congr 1;have e:((λi=>(a::l)[i]?)∘Nat.succ)=λi=>l[i]? :=by funext i;simp
  rw[e];exact uC l
section
variable{prog:Program}{w:World}{L:Type}[DecidableEq L]{knd:KeyKind prog w L}{A:Around}{E:Value->Shared->Prop}{s:Shared}
variable{a:Addr}{xs:pB L}{o:Obj}{es:Array (Int×Value)}{ep:Nat}{t:SetTable}{k:List L}{b:Addr}
theorem pC{h h':Heap}{c:Addr}(x:IsTupleKey knd h k c)(ho:h.get? a=some o)(hd:o.data= .set es ep t)(hs:Heap.SameBut a h h'):IsTupleKey knd h' k c:=by
 obtain⟨p,its,m,p1,p2,p3,p4⟩:=x
 have :c≠a:=by
  rintro rfl
  rw[p1]at ho;obtain rfl:=Option.some.inj ho;rw[p3]at hd;cases hd
 exact⟨p,its,m,by rw[hs.2 c this];exact p1,p2,p3,p4⟩
theorem cq.store{h:Heap}(I:cq knd h a xs o es ep t){xs':pB L}{es':Array (Int×Value)}{t':SetTable}(e:es'.toList=xs'.map (sr knd))(hi:∀x∈xs',IsTupleKey knd h x.1 x.2)(nd:(xs'.map (·.1)).Nodup)(tb:jM t' (eY knd xs')):
  cq knd (h.update a (Obj.putSet es' t')) a xs' {o with data:= .set es' (ep+1) t'} es' (ep+1) t':=
 {get:=by
   have :=Heap.get?_update_self (Obj.putSet es' t') I.get (by rw[putSet_of es' t' I.data];rfl);rw[putSet_of es' t' I.data]at this;exact this
  ex:=I.ex,data:=rfl,eq:=e,nd:=nd,tab:=tb
  is:=λx hx=>pC (hi x hx) I.get I.data (Heap.SameBut.update h a _)}
theorem yG(h:Heap)(ho:s.heap=h.update a (Obj.putSet es t)){o0:Obj}{es0:Array (Int×Value)}{ep0:Nat}{t0:SetTable}(hg:h.get? a=some o0)(hex:o0.ExactSet)(hd:o0.data= .set es0 ep0 t0)
  (e:es.toList=xs.map (sr knd))(hi:∀x∈xs,IsTupleKey knd s.heap x.1 x.2)(nd:(xs.map (·.1)).Nodup)(tb:wj t (eY knd xs))(hm:t.mask=7)(hl:xs.length=5)
  {Q:Unit->Shared->Prop}(q:∀h' xs' o' es' ep' t',Heap.SameBut a s.heap h'->cq knd h' a xs' o' es' ep' t'->xs'.Perm xs->Q () {s with heap:=h'}):
  wpAny (model prog w) A (setRelay a (SetTable.grown 5)) Q E s:=by
 have hget:s.heap.get? a=some {o0 with data:= .set es (ep0+1) t}:=by
  have :=Heap.get?_update_self (Obj.putSet es t) hg (by rw[putSet_of es t hd];rfl);rw[putSet_of es t hd]at this;rw[ho];exact this
 have hes:es.size=5:=by rw[<-Array.length_toList,e,List.length_map,hl]
 have hfit:t.fits es.size=true:=by
  unfold SetTable.fits SetTable.fill;rw[tb.dm,tb.ps,hes,hm];simp[eY,hl]
 unfold setRelay;refine wpAny_bind (wpAny_setState_of hget rfl hfit ?_);dsimp only;have hsz:SetTable.sizeAbove (SetTable.grown 5)=32:=by decide
 rw[hsz,if_neg (by rw[sizeLine_eq];decide)];obtain⟨t',order,l1,l2,l3,l4⟩:=CB Db t.finger (t.movedTo 31) t.led t.plain (hs:=es.map (·.1)) (by rw[Array.size_map,hes];decide)
 have hrel:t.relaid (es.map (·.1)) (SetTable.grown 5)=some (t',order):=by
  unfold SetTable.relaid;rw[hsz];exact l1
 rw[hrel];rw[Array.size_map,hes]at l4
 have hlist:(order.filterMap (es[·]?)).toList=(order.toList.filterMap λi=>xs[i]?).map (sr knd):=by
  rw[Array.toList_filterMap,List.map_filterMap];congr 1;funext i;rw[<-Array.getElem?_toList,e,List.getElem?_map]
 have hperm:(order.toList.filterMap λi=>xs[i]?).Perm xs:=by
  have h1:=l4.filterMap λi=>xs[i]?
  rw[<-hl,uC xs]at h1;exact h1
 have hsize:(order.filterMap (es[·]?)).size=es.size:=by
  rw[<-Array.length_toList,hlist,List.length_map,hperm.length_eq,hl,hes]
 have hh:order.toList.filterMap ((es.map (·.1))[·]?)=eY knd (order.toList.filterMap λi=>xs[i]?):=by
  unfold eY;rw[List.map_filterMap];congr 1;funext i;rw[Array.getElem?_map,<-Array.getElem?_toList,e,List.getElem?_map,Option.map_map];rfl
 rw[hh]at l3;have hlen5:(eY knd (order.toList.filterMap λi=>xs[i]?)).length=5:=by unfold eY;rw[List.length_map,hperm.length_eq,hl]
 have I0:cq knd (s.heap.update a (Obj.putSet (order.filterMap (es[·]?)) t')) a (order.toList.filterMap λi=>xs[i]?) {o0 with data:= .set (order.filterMap (es[·]?)) (ep0+1+1) t'} (order.filterMap (es[·]?)) (ep0+1+1) t':=
  {get:=by
    have :=Heap.get?_update_self (Obj.putSet (order.filterMap (es[·]?)) t') hget (by rw[putSet_of _ _ rfl];rfl);rw[putSet_of _ _ rfl]at this;exact this
   ex:=hex,data:=rfl,eq:=hlist,nd:=(hperm.map _).nodup_iff.mpr nd
   tab:={dm:=l3.dm,ri:=l3.ri,ps:=l3.ps,pl:=l3.pl,re:=l3.re,sm:= .inr ⟨l2,by omega⟩}
   is:=λx hx=>pC (hi x (hperm.mem_iff.mp hx)) hget rfl (Heap.SameBut.update _ a _)}
 refine wpAny_bind ?_;show wpAny _ _ (@ite _ ((Array.size (Array.filterMap _ _) !=_)=true) _ _ _) _ _ _;rw[hsize];simp only[bne_self_eq_false,Bool.false_eq_true,if_false];refine wpAny_pure ?_;dsimp only;exact wpAny_storeSet_of hget rfl (q _ _ _ _ _ _ (Heap.SameBut.update _ a _) I0 hperm) (by rw[hsize,hes,sizeLine_eq];decide)
end
end Cr
namespace Cr
open PySem
section
variable{prog:Program}{w:World}{L:Type}[DecidableEq L]{knd:KeyKind prog w L}{A:Around}{E:Value->Shared->Prop}{s:Shared}
variable{a:Addr}{xs:pB L}{o:Obj}{es:Array (Int×Value)}{ep:Nat}{t:SetTable}{k:List L}{b:Addr}
theorem yH{α:Type}(l:List α)(p:Nat)(x:α):(dW l p x).Perm (x::l):=by
 unfold dW;refine List.perm_middle.trans ?_;rw[List.take_append_drop]
theorem A2(I:cq knd s.heap a xs o es ep t)(hk:IsTupleKey knd s.heap k b)(hnew:∀x∈xs,x.1≠k)(hl:xs.length<16){P R:List Nat}{j:Nat}(hp:cj t.mask (tupleKeyHash knd k)=P++j::R)(hj:j∉t.place.toList)(hP:∀j'∈P,j'∈t.place.toList)(pl:Bool)
  {Q:Bool->Shared->Prop}(q:∀h' xs' o' es' ep' t',Heap.SameBut a s.heap h'->cq knd h' a xs' o' es' ep' t'->xs'.Perm ((k,b)::xs)->Q true {s with heap:=h'}):
  wpAny (model prog w) A (do
   storeSet a (SetTable.insertAt es (t.put j).2 (tupleKeyHash knd k,.ref b)) {(t.put j).1 with plain:=pl}
   if(!false&&SetTable.tooFull {(t.put j).1 with plain:=pl})=true then do
    setRelay a (SetTable.grown (es.size+1))
    pure true
   else pure true) Q E s:=by
 obtain⟨tp,e2,e3,hle⟩:=I.tab.put hp hj hP pl;have hlen:(eY knd xs).length=xs.length:=by simp[eY]
 rw[hlen]at hle;have hesz:es.size=xs.length:=by rw[<-Array.length_toList,I.eq];simp
 have hps:dW (eY knd xs) (SetTable.below t.place j) (tupleKeyHash knd k)=eY knd (dW xs (SetTable.below t.place j) (k,b)):=by
  unfold eY;rw[uv]
 rw[hps]at tp;have hxl:(dW xs (SetTable.below t.place j) (k,b)).length=xs.length+1:=pA hle;have hperm:=yH xs (SetTable.below t.place j) (k,b)
 have hlist:(SetTable.insertAt es (t.put j).2 (tupleKeyHash knd k,.ref b)).toList=(dW xs (SetTable.below t.place j) (k,b)).map (sr knd):=by
  rw[uy,e2,I.eq,uv];rfl
 have hnd:((dW xs (SetTable.below t.place j) (k,b)).map (·.1)).Nodup:=by
  rw[(hperm.map _).nodup_iff,List.map_cons,List.nodup_cons];refine⟨λq=> ?_,I.nd⟩;obtain⟨x,hx,ex⟩:=List.mem_map.mp q;exact hnew x hx ex
 have his:∀x∈dW xs (SetTable.below t.place j) (k,b),IsTupleKey knd s.heap x.1 x.2:=λx hx=>by
  rcases jf.mp hx with rfl|hx
  ·exact hk
  ·exact I.is x hx
 have hsm:t.mask=7/\xs.length<=4\/t.mask=31/\xs.length<=16:=by have :=I.tab.sm;rw[hlen]at this;exact this
 have hfill:SetTable.fill {(t.put j).1 with plain:=pl}=xs.length+1:=by
  unfold SetTable.fill;rw[tp.dm,tp.ps];simp[eY,hxl]
 have hmask:SetTable.mask {(t.put j).1 with plain:=pl}=t.mask:=e3;refine wpAny_bind (wpAny_storeSet_of I.get I.data ?_ ?_)
 ·by_cases c:(!false&&SetTable.tooFull {(t.put j).1 with plain:=pl})=true
  ·rw[if_pos c]
   have h5:t.mask=7/\xs.length=4:=by
    unfold SetTable.tooFull at c;rw[hfill,hmask]at c;simp at c;omega
   rw[hesz,h5.2];refine wpAny_bind (yG (es:=SetTable.insertAt es (t.put j).2 (tupleKeyHash knd k,.ref b)) (t:={(t.put j).1 with plain:=pl}) s.heap rfl I.get I.ex I.data hlist ?_ hnd tp (by rw[hmask];exact h5.1) (by rw[hxl,h5.2]) ?_)
   ·exact λx hx=>pC (his x hx) I.get I.data (Heap.SameBut.update _ a _)
   ·intro h' xs' o' es' ep' t' hs hI hp';exact wpAny_pure (q h' xs' o' es' ep' t' ((Heap.SameBut.update _ a _).trans hs) hI (hp'.trans hperm))
  ·rw[if_neg c];refine wpAny_pure (q _ _ _ _ _ _ (Heap.SameBut.update _ a _) (I.store hlist his hnd {dm:=tp.dm,ri:=tp.ri,ps:=tp.ps,pl:=tp.pl,re:=tp.re,sm:= ?_}) hperm);rw[hmask];have :(eY knd (dW xs (SetTable.below t.place j) (k,b))).length=xs.length+1:=by simp[eY,hxl]
   rw[this];unfold SetTable.tooFull at c;rw[hfill,hmask]at c;simp at c;omega
 ·rw[<-Array.length_toList,hlist,List.length_map,hxl,sizeLine_eq];omega
theorem wm(I:cq knd s.heap a xs o es ep t)(hu:A.units<cLine)(hk:IsTupleKey knd s.heap k b)(hl:xs.length<16){Q:Bool->Shared->Prop}(q1:(∃x∈xs,x.1=k)->Q false s)
  (q2:(∀x∈xs,x.1≠k)->∀h' xs' o' es' ep' t',Heap.SameBut a s.heap h'->cq knd h' a xs' o' es' ep' t'->xs'.Perm ((k,b)::xs)->Q true {s with heap:=h'}):
  wpAny (model prog w) A (setAddHashed a (.ref b) (tupleKeyHash knd k)) Q E s:=by
 unfold setAddHashed;refine wpAny_holding ?_;unfold setAddHashedIn;refine wpAny_bind (wpAny_setState_of I.get I.data I.fits ?_);dsimp only;rw[if_neg (show¬byScan (.ref b) es=true by unfold byScan;simp[Value.scannable])];refine wpAny_bind (CC I hu hk (λh=>wpAny_pure (q1 h)) λhno P j R hp hj hP=> ?_);dsimp only;refine wpAny_bind (wpAny_setState_of I.get I.data I.fits ?_);dsimp only;have tail:=λpl=>A2 (A:=A) (E:=E) I hk hno hl hp hj hP pl (q2 hno)
 refine wl (λ_=> ?_) (λ_=> ?_)
 ·refine wpAny_bind (uB hk λbb=> ?_);cases bb
  ·exact tail false
  ·exact tail _
 ·exact wpAny_bind (wpAny_pure (tail _))
end
end Cr
namespace Cr
open PySem PyProof PyProof.Rows
section
variable{prog:Program}{w:World}{L:Type}[DecidableEq L]{knd:KeyKind prog w L}{A:Around}{E:Value->Shared->Prop}{s:Shared}
theorem lC{h h':Heap}{k:List L}{c:Addr}(x:IsTupleKey knd h k c)(hs:∀o,h.get? c=some o->h'.get? c=some o):IsTupleKey knd h' k c:=by
 obtain⟨p,its,m,p1,p2,p3,p4⟩:=x;exact⟨p,its,m,hs _ p1,p2,p3,p4⟩
theorem cq.move{h h':Heap}{a:Addr}{xs:pB L}{o:Obj}{es:Array (Int×Value)}{ep:Nat}{t:SetTable}(I:cq knd h a xs o es ep t)(h1:h'.get? a=some o)(h2:∀x∈xs,∀o,h.get? x.2=some o->h'.get? x.2=some o):cq knd h' a xs o es ep t:=
 {get:=h1,ex:=I.ex,data:=I.data,eq:=I.eq,is:=λx hx=>lC (I.is x hx) (h2 x hx),nd:=I.nd,tab:=I.tab}
def CD(knd:KeyKind prog w L)(h:Heap)(S:Addr)(key:Nat->List L)(adr:Nat->Addr)(i:Nat):Prop:=
 ∃xs o es ep t,cq knd h S xs o es ep t/\(∀x∈xs,∃j,j<i/\x=(key j,adr j))/\∀j,j<i->∃x∈xs,x.1=key j
theorem xm{xs:pB L}{key:Nat->List L}{adr:Nat->Addr}{i:Nat}(nd:(xs.map (·.1)).Nodup)(h:∀x∈xs,∃j,j<i/\x=(key j,adr j)):xs.length<=i:=by
 have :=nd.length_le_of_subset (l₂:=(List.range i).map key) λk hk=>by
  obtain⟨x,hx,rfl⟩:=List.mem_map.mp hk;obtain⟨j,hj,rfl⟩:=h x hx;exact List.mem_map.mpr ⟨j,List.mem_range.mpr hj,rfl⟩
 simpa using this
variable{R:Result->Shared->Prop}{I:Addr}{fp wr:List Addr}{G:Array GenState->Array GenState->Prop}{n:Nat}{P:Nat->Value->Prop}{St:Nat->Shared->Prop}
theorem A3(W:WalksS prog w A.in1 I fp wr G n P St)(S:Addr)(hSf:S∉fp)(hu:A.units+1<cLine)(key:Nat->List L)(adr:Nat->Addr)(hval:∀i v,P i v->v= .ref (adr i))(hadr:∀i,i<n->adr i∉wr/\adr i≠S)(hn:n<=16):
  ∀(m i:Nat) (s:Shared),n-i=m->i<=n->St i s->(∀j,j<n->IsTupleKey knd s.heap (key j) (adr j))->CD knd s.heap S key adr i->
   (∀s',Moved (S::wr) G s s'->CD knd s'.heap S key adr n->R (.ok (.ret .none)) s')->
   codeAny (model prog w) A (.builtin "set.update.loop" ⟨[.ref S,.ref I],[]⟩) R s:=by
 have nS:S∉wr:=λq=>hSf (W.sub _ q)
 have sw:∀c∈wr,c∈S::wr:=λc hc=>List.mem_cons_of_mem _ hc
 have mv:∀{s s':Shared} {i:Nat},i<=n->Moved wr G s s'->CD knd s.heap S key adr i->CD knd s'.heap S key adr i:=by
  intro s s' i hi hm ⟨xs,o,es,ep,t,q,q1,q2⟩;refine⟨xs,o,es,ep,t,q.move (hm.heap S _ nS q.get) (λx hx o ho=> ?_),q1,q2⟩;obtain⟨j,hj,rfl⟩:=q1 x hx;exact hm.heap _ _ (hadr j (by omega)).1 ho
 intro m;induction m with
 |zero=>
  intro i s em hi st hk hM hR;obtain rfl:i=n:=by omega
  refine codeAny_builtin F.entry_set_update_loop ?_;rw[Around.under_plainId F.plain_set_update_loop _];show wpAny _ A.in1 (pyNext (.ref I)>>= _) _ _ s;refine wpAny_bind (W.done s _ _ st λs1 hm=> ?_);show wpAny _ A.in1 (ret Value.none) _ _ s1;exact wpAny_pure (hR s1 (hm.mono sw) (mv hi hm hM))
 |succ m ih=>
  intro i s em hi st hk hM hR;have hlt:i<n:=by omega
  refine codeAny_builtin F.entry_set_update_loop ?_;rw[Around.under_plainId F.plain_set_update_loop _];show wpAny _ A.in1 (pyNext (.ref I)>>= _) _ _ s;refine wpAny_bind (W.item i s _ _ hlt st λv s1 hv st1 hm=> ?_);obtain rfl:=hval i v hv;have hk1:∀j,j<n->IsTupleKey knd s1.heap (key j) (adr j):=λj hj=>lC (hk j hj) λo ho=>hm.heap _ _ (hadr j hj).1 ho
  obtain⟨xs,o,es,ep,t,q,q1,q2⟩:=mv hi hm hM;have hxl:xs.length<16:=by have :=xm q.nd q1;omega
  show wpAny _ A.in1 (holding [Value.ref (adr i)] (setAdd S (.ref (adr i)))>>= _) _ _ s1;refine wpAny_bind (wpAny_holding ?_);unfold setAdd;refine wpAny_holding ?_;have hu1:A.in1.units<cLine:=hu;refine wpAny_bind (wpAny_pyHash_tuple hu1 (hk1 i hlt) ?_)
  have go:∀(h':Heap) (bb:Bool),Heap.SameBut S s1.heap h'->CD knd h' S key adr (i+1)->∀tk,s1.toks<=tk->∀(Q:Prop),(codeAny (model prog w) A (.builtin "set.update.loop" ⟨[.ref S,.ref I],[]⟩) R {s1 with heap:=h',toks:=tk}->Q)->Q:=by
   intro h' bb sb hM' tk htk Q hQ;refine hQ (ih (i+1) _ (by omega) hlt (W.frame _ s1 _ _ st1 htk λc hc o ho=> ?_) (λj hj=> ?_) hM' λs2 hm2 hM2=> ?_)
   ·rw[sb.2 c λe=>hSf (by rw[<-e];exact hc)];exact ho
   ·exact lC (hk1 j hj) λo ho=>by rw[sb.2 _ (hadr j hj).2];exact ho
   ·refine hR s2 (Moved.trans W.gtrans ((hm.mono sw).then_heap htk λc o hc ho=> ?_) hm2) hM2;rw[sb.2 c λe=>hc (by rw[e];exact List.mem_cons_self)];exact ho
  refine wm (s:={s1 with toks:=s1.toks+((key i).length+1)}) q hu1 (hk1 i hlt) hxl (λhin=> ?_) (λhno h' xs' o' es' ep' t' sb q' hp=> ?_)
  ·refine go s1.heap false (Heap.SameBut.refl _ _) ⟨xs,o,es,ep,t,q,λx hx=> ?_,λj hj=> ?_⟩ (s1.toks+((key i).length+1)) (by omega) _ λhc=>wpAny_pure ⟨plainId_quiet F.plain_set_update_loop _,hc⟩
   ·obtain⟨j,hj,e⟩:=q1 x hx;exact⟨j,by omega,e⟩
   ·by_cases c:j=i
    ·subst c;exact hin
    ·exact q2 j (by omega)
  ·refine go h' true sb ⟨xs',o',es',ep',t',q',λx hx=> ?_,λj hj=> ?_⟩ (s1.toks+((key i).length+1)) (by omega) _ λhc=>wpAny_pure ⟨plainId_quiet F.plain_set_update_loop _,hc⟩
   ·rcases List.mem_cons.mp (hp.mem_iff.mp hx)with rfl|hx
    ·exact⟨i,by omega,rfl⟩
    ·obtain⟨j,hj,e⟩:=q1 x hx;exact⟨j,by omega,e⟩
   ·by_cases c:j=i
    ·subst c;exact⟨_,hp.mem_iff.mpr List.mem_cons_self,rfl⟩
    ·obtain⟨x,hx,e⟩:=q2 j (by omega);exact⟨x,hp.mem_iff.mpr (List.mem_cons_of_mem _ hx),e⟩
end
end Cr
namespace Cr
open PySem PyProof PyProof.Rows
section
variable{prog:Program}{w:World}{L:Type}[DecidableEq L]{knd:KeyKind prog w L}{A:Around}{E:Value->Shared->Prop}{s:Shared}
abbrev cS(led:Bool):Obj:={cls:= .type "set",dict:=none,data:= .set #[] 0 (.fresh 0 0 led)}
theorem yI{h:Heap}{a:Addr}{led:Bool}(ho:h.get? a=some (cS led))(key:Nat->List L)(adr:Nat->Addr):CD knd h a key adr 0:=by
 refine⟨[],_,_,_,_,{get:=ho,ex:=⟨rfl,rfl,rfl⟩,data:=rfl,eq:=rfl,is:=λx hx=>(nomatch hx),nd:=List.Pairwise.nil,tab:= ?_},λx hx=>(nomatch hx),λj hj=>absurd hj (Nat.not_lt_zero _)⟩;exact{dm:=rfl,ri:=λi j hi=>absurd hi (Nat.not_lt_zero _),ps:=rfl,pl:=λj hj=>(nomatch hj),sm:= .inl ⟨rfl,Nat.zero_le _⟩,re:=λx hx=>(nomatch hx)}
theorem uD{c:Addr}{its:Array Value}{key:Nat->List L}{adr:Nat->Addr}{Q:Value->Shared->Prop}(hh:A.handled=none)(hu:A.units+8<cLine)(hl:s.heap.IsList c its)(hv:∀(i:Nat) (v:Value),its[i]? =some v->v=Value.ref (adr i))
  (hk:∀i,i<its.size->IsTupleKey knd s.heap (key i) (adr i))(hn:its.size<=16)
  (q:∀(h':Heap) (tk:Nat),CD knd h' s.heap.objs.size key adr its.size->(∀b o,b<s.heap.objs.size->s.heap.get? b=some o->h'.get? b=some o)->s.toks<=tk->Q (.ref s.heap.objs.size) {s with heap:=h',toks:=tk}):
  wpAny (model prog w) A (call (.type "set") [.ref c]) Q E s:=by
 obtain⟨c0,tl,hmro⟩:=PySem.F.called_set.mro;have k1:=PySem.F.called_set.made;have k2:=PySem.F.called_set.sub;refine wpAny_call (codeAny_of_tree ?_);show wpAny _ _ (callAny (.type "set") _) _ _ _;refine wpAny_pure ⟨Code.quiet_builtin _ (by decide+kernel),codeAny_builtin PySem.F.entry_type_call ?_⟩;rw[Around.under_plain (weight_type_call_type "set" [.ref c] []) rfl];have k3:=PySem.F.called_set.notType;have k4:=PySem.F.called_set.canCreate;have k5:=PySem.F.typeCall_set_1 (.ref c);repeat any_goals first|assumption|wp_step
 refine codeAny_mono (code_set_new_1 (.ref c) (E:=E) (Q₁:=λob s1=>∃led:Bool,ob= .ref s.heap.objs.size/\s1={s with heap:=s.heap.push (cS led)}) λled=>⟨led,rfl,rfl⟩) λr s1 hr=> ?_
 cases r with
 |error e=>exact hr
 |ok fl=>
  cases fl with
  |ret ob=>
   obtain⟨led,rfl,rfl⟩:=hr;have g0:(s.heap.push (cS led)).get? s.heap.objs.size=some (cS led):=Heap.get?_push_size _ rfl;have ty:Shared.TypeIs {s with heap:=s.heap.push (cS led)} (.ref s.heap.objs.size) "set":=⟨_,g0,rfl⟩;have k6:=PySem.F.called_set.init.lookup;have k7:=PySem.F.called_set.init.bind (.ref s.heap.objs.size);repeat any_goals first|assumption|wp_step
   refine codeAny_mono (codeAny_call_builtin (R:=wants (λr s2=>r= .none/\∃h' tk,s2={s with heap:=h',toks:=tk}/\CD knd h' s.heap.objs.size key adr its.size/\(∀b o,b<s.heap.objs.size->s.heap.get? b=some o->h'.get? b=some o)/\s.toks<=tk) E)
    PySem.F.called_set.init.plain PySem.F.entry_set_init (check_set_init_1 ty ?_)) λr2 s2 hr2=> ?_
   ·obtain⟨ol,hol,hcl,nl,hdl⟩:=hl;obtain⟨ocls,odict,odata,oslots⟩:=ol;dsimp only at hcl hdl;subst hcl hdl;have g1:(s.heap.push (cS led)).get? c=some {cls:= .type "list",dict:=odict,data:= .seq its nl,slots:=oslots}:=Heap.get?_push_of_some _ hol;have k8:=PySem.F.sub_list_set;have k9:=PySem.F.sub_list_frozenset;have k10:(Value.type "list"==Value.type "dict")=false:=by decide
    have l1:(s.heap.push (cS led)).IsList c its:=⟨_,g1,rfl,nl,rfl⟩;unfold Builtin.«set.__init__» noKeywords Builtin.Frozenset.updateFrom;generalize hPI:pyIter=PI;wp_walk;subst hPI;refine wpAny_pyIter_list l1 ?_;refine wpAny_bind (wpAny_runValue ?_);have lc:c<s.heap.objs.size:=Heap.lt_size hol;have h3:A.in1.in1.in1.handled=none:=by simp[hh]
    have e1:(s.heap.push (cS led)).objs.size=s.heap.objs.size+1:=Heap.size_push ..;have n1:c≠(s.heap.push (cS led)).objs.size:=by rw[e1];exact Nat.ne_of_lt (Nat.lt_succ_of_lt lc)
    have n2:s.heap.objs.size∉[(s.heap.push (cS led)).objs.size,c]:=by
     rw[e1];intro z;rcases List.mem_cons.mp z with z|z
     ·exact Nat.ne_of_lt (Nat.lt_succ_self _) z
     ·exact Nat.ne_of_gt lc (List.mem_singleton.mp z)
    refine A3 (knd:=knd) ((Walks.list h3 _ c n1 its).toS) s.heap.objs.size n2 (by simp only[Around.in1_units];omega) key adr (λi v hv'=>hv i v hv') ?hadr hn (its.size-0) 0 _ (by omega) (Nat.zero_le _) ⟨⟨_,Heap.get?_push_size _ rfl,rfl,rfl⟩,l1.push _⟩ ?hkeys ?hS ?hR
    case hadr=>
     intro i hi;obtain⟨p,_,_,p1,_⟩:=hk i hi;have :=Heap.lt_size p1;rw[e1];constructor
     ·intro z;exact Nat.ne_of_lt (Nat.lt_succ_of_lt this) (List.mem_singleton.mp z)
     ·exact Nat.ne_of_lt this
    case hkeys=>exact λj hj=>lC (hk j hj) λo ho=>Heap.get?_push_of_some _ (Heap.get?_push_of_some _ ho)
    case hS=>exact yI (Heap.get?_push_of_some _ g0) key adr
    case hR=>
     intro s' hm hS';obtain⟨h',g',d',tk',os'⟩:=s';obtain rfl:g'=s.gens:=hm.gens;obtain rfl:d'=s.drawn:=hm.drawn;obtain rfl:os'=s.os:=hm.os;show wpAny _ _ _ _ _ _;refine wpAny_pure ?_;show wpAny _ _ (ret Value.none) _ _ _;refine wpAny_pure ⟨rfl,h',tk',rfl,hS',λb o hb ho=> ?_,hm.toks⟩;refine hm.heap b o ?_ (Heap.get?_push_of_some _ (Heap.get?_push_of_some _ ho));rw[e1];intro z;rcases List.mem_cons.mp z with z|z
     ·exact Nat.ne_of_lt hb z
     ·exact Nat.ne_of_lt (Nat.lt_succ_of_lt hb) (List.mem_singleton.mp z)
   ·cases r2 with
    |error e=>exact hr2
    |ok fl2=>
     cases fl2 with
     |ret r=>
      obtain⟨rfl,h',tk,rfl,hS',hk',ht⟩:=hr2;repeat any_goals first|assumption|wp_step
      exact q _ _ hS' hk' ht
     |_=>exact hr2.elim
  |_=>exact hr.elim
end
end Cr
namespace Cr
open PySem PySem.Spec PyProof.Rows L2
def uE(p:Addr)(n:Nat):HO:=HO.ext λh=>∃o es ep t,h.get? p=some o/\o.ExactSet/\o.data= .set es ep t/\t.fits es.size=true/\es.size=n/\n<=16
section
variable{X:Cx}{e:Expr}{pos:Pos}{te:TE}{pins:List (Addr×Obj)}{σ:St}{H:Hp}{s:Shared}
theorem CF{P:Program}{w:World}{H:Hp}{h:Heap}{p:Addr}{key:Nat->List bG}{adr:Nat->Addr}{m:Nat}(hM:CD (bz P w) h p key adr m)(hm:m<=16):
  ∃ms:List (List bG),ms.Nodup/\(∀k,k∈ms↔ ∃j,j<m/\k=key j)/\bK P w H h p (uE p ms.length):=by
 obtain⟨xs,o,es,ep,t,q,q1,q2⟩:=hM;have hl:=xm q.nd q1;refine⟨xs.map (·.1),q.nd,λk=>⟨λhk=> ?_,λ⟨j,hj,e⟩=> ?_⟩,⟨o,es,ep,t,q.get,q.ex,q.data,q.fits,?_,?_⟩,⟨o,q.get⟩,λh1 h2 ⟨o',es',ep',t',a1,a2,a3,a4,a5,a6⟩ st=>⟨o',es',ep',t',st _ a1,a2,a3,a4,a5,a6⟩⟩
 ·obtain⟨x,hx,rfl⟩:=List.mem_map.mp hk;obtain⟨j,hj,rfl⟩:=q1 x hx;exact⟨j,hj,rfl⟩
 ·obtain⟨x,hx,e'⟩:=q2 j hj;exact List.mem_map.mpr ⟨x,hx,by rw[e',e]⟩
 ·rw[<-Array.length_toList,q.eq];simp
 ·rw[List.length_map];omega
def Gy:V->Hp->VK->Prop:=λx H Q=>∃(a:Addr) (xs:List V) (ks:List (List bG)),x= .ref a/\H a=some (.lst xs)/\xs.length<=16/\Paired (λv k=>∃b,v=V.ref b/\H b=some (.tup (k.map kV))) xs ks/\
 ∀(p:Addr) (ms:List (List bG)),H p=none->ms.Nodup->(∀k,k∈ms↔k∈ks)->Q (.ref p) (aJ H p (uE p ms.length))
theorem A4(I:aO X pins σ H s):∀{xs:List V} {us:List Value} {ks:List (List bG)},aW xs us->Paired (λv k=>∃b,v=V.ref b/\H b=some (.tup (k.map kV))) xs ks->
  ∃adr:Nat->Addr,(∀(i:Nat) (v:Value),us[i]? =some v->v=Value.ref (adr i))/\∀(i:Nat),i<us.length->∃k,ks[i]? =some k/\IsTupleKey (bz X.prog X.w) s.heap k (adr i)
 |_,_,_,.nil,.nil=>⟨λ_=>0,λi v h=>by simp at h,λi h=>absurd h (Nat.not_lt_zero _)⟩
 |_,_,_,.cons r t,.cons ⟨b,e,hb⟩ q=>by
  subst e;obtain rfl:=(show _=Value.ref b from r);obtain⟨adr,a1,a2⟩:=A4 I t q;refine⟨λi=>match i with |0=>b|i+1=>adr i,λi v h=> ?_,λi h=> ?_⟩
  ·cases i with
   |zero=>simp at h;exact h.symm
   |succ i=>simp at h;exact a1 i v h
  ·cases i with
   |zero=>exact⟨_,rfl,iI I.hok hb⟩
   |succ i=>exact a2 i (by simpa using h)
theorem ER{j:Nat}(hr:Room j X.A):dB X (.type "set") (λvs H Q=>∃x,vs=[x]/\Gy x H Q):=by
 intro pins s σ H xs us Q I r h;obtain⟨x,rfl,a,xs,ks,rfl,ha,hl,hp,q⟩:=h;obtain⟨u,rfl,ru⟩:=iz r;cases ru;obtain⟨z,its,n,rv,hlen,oa⟩:=I.lstM ha;obtain⟨adr,a1,a2⟩:=A4 I rv hp;have hsz:its.toArray.size=xs.length:=by rw[List.size_toArray];exact hlen.symm
 have hks:ks.length=xs.length:=(Paired.length hp).symm;refine uD (knd:=bz X.prog X.w) (its:=its.toArray) (key:=λi=>(ks[i]?).getD []) (adr:=adr) hr.hd (by have :=hr.un;omega) ⟨_,oa,rfl,n,rfl⟩ (λi v hv=>a1 i v (by simpa using hv)) (λi hi=> ?_) (by omega) λh' tk hM hk ht=> ?_
 ·obtain⟨k,hk,q⟩:=a2 i (by simpa using hi);rw[hk];exact q
 ·obtain⟨ms,m1,m2,m3⟩:=CF (H:=aJ H s.heap.objs.size (uE s.heap.objs.size 0)) hM (by omega);refine⟨.ref _,aJ H s.heap.objs.size (uE s.heap.objs.size ms.length),I.laid (t':=tk) (λb o ho=>hk b o (Heap.lt_size ho) ho) (Nat.le_refl _) m3,rfl,q _ ms (I.hok.fresh (Nat.le_refl _)) m1 λk=> ?_⟩;rw[m2 k];constructor
  ·rintro ⟨j,hj,rfl⟩
   have :j<ks.length:=by omega
   rw[List.getElem?_eq_getElem this];exact List.getElem_mem _
  ·intro hk;obtain⟨j,hj,e⟩:=List.mem_iff_getElem.mp hk;exact⟨j,by omega,by rw[List.getElem?_eq_getElem hj,e];rfl⟩
def Dc:V->Hp->VK->Prop:=λx H Q=>∃p n,x= .ref p/\H p=some (uE p n)/\Q (.int n) H
theorem CG:dB X (.builtin "len") (λxs H Q=>∃x,xs=[x]/\Dc x H Q):=by
 intro pins s σ H xs us Q I r h;obtain⟨x,rfl,p,n,rfl,hp,q⟩:=h;obtain⟨u,rfl,ru⟩:=iz r;cases ru;obtain⟨⟨o,es,ep,t,h1,h2,h3,h4,h5,h6⟩,_⟩:=(show bK X.prog X.w H s.heap p (uE p n)from I.hok p _ hp);exact call_len_set h1 h2 h3 h4 (by omega) ⟨.int n,H,I.tok _ |>.tok _,⟨_,by rw[h5]⟩,q⟩
theorem ES:bootBuiltins "set"=some (.type "set"):=by decide+kernel
theorem ET{j:Nat}{p}(hr:Room j X.A)(hm:X.mg "set"=none)(he:PE X e te)(hg:Gl X "set":=by rfl)(hs:starEach [e] X.env=(false,eval e X.env)::starEach [] X.env:=by rfl)(hpl:(backTo pos (starEach [] X.env)).any (·.1)=false:=by rfl):
  PE X (.Call (.Name "set" p) [e] [] pos) (uJ Gy te):=zH (ER hr) (λv H Q h=>⟨v,rfl,h⟩) hm ES he hg (by decide) (by decide) hs hpl
theorem CH{p}(hm:X.mg "len"=none)(he:PE X e te)(hg:Gl X "len":=by rfl)(hs:starEach [e] X.env=(false,eval e X.env)::starEach [] X.env:=by rfl)(hpl:(backTo pos (starEach [] X.env)).any (·.1)=false:=by rfl):
  PE X (.Call (.Name "len" p) [e] [] pos) (uJ Dc te):=iK CG (λv H Q h=>⟨v,rfl,h⟩) hm PySem.boot_len he hg (by decide) (by decide) hs hpl
end
theorem mS{α:Type}[DecidableEq α]:∀{ks ms:List α},ms.Nodup->(∀k∈ms,k∈ks)->ks.length<=ms.length->ks.Nodup
 |[],_,_,_,_=>List.Pairwise.nil
 |k::ks,ms,h1,h2,h3=>by
  have hk:k∉ks:=λq=>by
   have :=h1.length_le_of_subset (l₂:=ks) λx hx=>by
    rcases List.mem_cons.mp (h2 x hx)with rfl|h
    ·exact q
    ·exact h
   simp at h3
   omega
  refine List.nodup_cons.mpr ⟨hk,mS (h1.erase k) (λx hx=> ?_) ?_⟩
  ·have hx:=h1.mem_erase_iff.mp hx;exact(List.mem_cons.mp (h2 x hx.2)).resolve_left hx.1
  ·have :(ms.erase k).length>=ms.length-1:=by rw[List.length_erase];split<;>omega
   simp at h3
   omega
theorem yJ{α:Type}[DecidableEq α]{ms ks:List α}(h1:ms.Nodup)(h2:∀k,k∈ms↔k∈ks):(ms.length=ks.length)↔ks.Nodup:=by
 constructor
 ·exact λe=>mS h1 (λk hk=>(h2 k).mp hk) (by omega)
 ·exact λh=>((List.perm_ext_iff_of_nodup h1 h).mpr h2).length_eq
section
variable{P:Program}{w:World}{K:PySem.W.Frag}{mg:Str->Option Value}{base:Heap}{C:Cs}
abbrev Gz:List Str:=["arguments","inputs","outputs","argument"]
theorem A5:aC Gz ["arguments","inputs","outputs"] (ao fM):=⟨rfl,rfl,rfl,by decide+kernel,rfl,by decide+kernel,by decide+kernel⟩
def mX(a i o:List ai):Bool:=decide (4<a.length)||a.any (λx=>decide (64<x.length))||decide (8<i.length)||decide (8<o.length)||o.isEmpty
theorem dY{a i o:List ai}:mX a i o=true↔(4<a.length\/a.any (λx=>decide (64<x.length))=true\/8<i.length\/8<o.length\/o.isEmpty=true):=by
 unfold mX;simp only[Bool.or_eq_true,decide_eq_true_eq,or_assoc]
def GA:Sp:=λvs H Q _=>∃(F:Hp) (va vi vo:V) (a i o:List ai),vs=[va,vi,vo]/\cW F va a/\cW F vi i/\cW F vo o/\aH F H/\Rt F H Q λ_ u=>u= .bl (mX a i o)
theorem GB(T:Tx K mg C):Ok P w K mg base "past_limits" ["arguments","inputs","outputs"] 1 GA:=by
 refine T.d_past_limits.ok A5 (λvs H Q E h=>by obtain⟨_,_,_,_,_,_,_,e,_⟩:=h;rw[e];rfl) (λf cdv A outer s H vs Q E hr h=> ?_);obtain⟨F,va,vi,vo,a,i,o,rfl,⟨la,xa,rfl,hla,hpa⟩,⟨li,xi,rfl,hli,hpi⟩,⟨lo,xo,rfl,hlo,hpo⟩,f0,k⟩:=h
 refine⟨_,ae (aN (aK iw (bp T.b_len (pv 0)) (aV T.g_MOST_ARGUMENTS) (aP _)) (ah (aq jy)) aE)
  (ae (aN (bI (u6 rfl T.b_any (fj rfl A5.nd (bj (pv 0)) (blk (own:=[("argument",3)]) Gz (ao fM) rfl rfl (by decide+kernel)) (λ_ _ _ _ _=>aS (i:=3) A5.nd rfl (Or.inl rfl)) (λ_ _ _ _ _=>b4)
   (λ_ _ _ _ _=>m5 iw (bp T.b_len (pv 3)) (aV T.g_MOST_ARGUMENT_BYTES) (aP _))))) (ah (aq jy)) aE)
  (ah (aq (E7 (m5 iw (bp T.b_len (pv 1)) (aV T.g_MOST_INPUTS) (aP _)) (yR (Dq (lN cP cP aG (bp T.b_len (pv 2)) (aV T.g_MOST_OUTPUTS)))))))),?_⟩
 have e_a:=Paired.length hpa;have e_i:=Paired.length hpi;have e_o:=Paired.length hpo;refine⟨_,rfl,la,_,rfl,f0 _ _ hla,_,_,rfl,rfl,_,rfl,bY (λhb=> ?_) (λhb=> ?_)⟩
 ·refine k _ F H (bo.refl f0) ?_;have hb:=of_decide_eq_true hb;have :mX a i o=true:=dY.mpr (.inl (by omega));rw[this]
 have hb:=of_decide_eq_false hb;refine⟨_,rfl,la,rfl,⟨_,aZ.of (f0 _ _ hla)⟩,λD hD=> ?_⟩;refine bV (ds:=a) (dk F) (λ_ v b=>v=V.bl b) (λt=>some (decide (64<t.length))) (λ_ _ _ _ _ h=>h) (bo.refl f0) hD (aZ.of hla) hpa (by omega) ?_ ?_
 ·rintro x t F2 H2 Y N ⟨at',rfl,hat⟩ ht e2 s2 hY hN
  refine⟨rfl,_,rfl,at',_,rfl,e2.fh _ _ (s2 _ _ hat),_,_,rfl,rfl,hY _ F2 H2 _ rfl (bo.refl e2.fh) ?_⟩;rw[aM,V.bl.injEq,Bool.eq_iff_iff,decide_eq_true_eq,decide_eq_true_eq];omega
 rintro F2 H2 ys e2 s2 hAc fD pz
 rw[cQ pz]at hAc;refine⟨D,_,rfl,hAc,_,rfl,?_⟩;rw[List.any_map];refine bY (λhb2=> ?_) (λhb2=> ?_)
 ·refine k _ F2 H2 e2 ?_;have :mX a i o=true:=dY.mpr (.inr (.inl hb2));rw[this]
 have hb2:(a.any λt=>decide (64<t.length))=false:=hb2;refine⟨_,rfl,li,_,rfl,e2.fh _ _ (s2 _ _ hli),_,_,rfl,rfl,_,rfl,bY (λhb3=> ?_) (λhb3=> ?_)⟩
 ·refine k _ F2 H2 e2 ?_;have hb3:=of_decide_eq_true hb3;have :mX a i o=true:=dY.mpr (.inr (.inr (.inl (by omega))));rw[this]
 have hb3:=of_decide_eq_false hb3;refine⟨_,rfl,lo,_,rfl,e2.fh _ _ (s2 _ _ hlo),_,_,_,rfl,rfl,λQ' q=>q,_,rfl,k _ F2 H2 e2 ?_⟩;show V.bl (!(decide ((1:Int)<=xo.length)&&decide ((xo.length:Int)<=8)))=V.bl (mX a i o);rw[V.bl.injEq,Bool.eq_iff_iff,dY,hb2,List.isEmpty_iff,<-List.length_eq_zero_iff];simp only[Bool.not_eq_true',Bool.and_eq_false_iff,decide_eq_false_iff_not,Bool.false_eq_true,false_or];omega
end
theorem hX:∀l:List ai,Vabldi.distinct l=true↔l.Nodup
 |[]=>by simp[Vabldi.distinct]
 |x::r=>by
  rw[Vabldi.distinct,List.nodup_cons,Bool.and_eq_true,hX r];simp
theorem A6{l:List ai}:(l.map nk).Nodup↔l.Nodup:=by
 rw[List.Nodup,List.pairwise_map];constructor
 ·exact λh=>h.imp λq e=>q (by rw[e])
 ·exact λh=>h.imp λq e=>q (gZ e)
theorem qR{F:Hp}:∀{xs:List V} {l:List ai},Paired (gI F) xs l->Paired (λv k=>∃b,v=V.ref b/\F b=some (.tup (k.map kV))) xs (l.map nk)
 |_,_,.nil=> .nil
 |_,_,.cons ⟨b,e,hb⟩ t=> .cons ⟨b,e,by rw[bX];exact hb⟩ (qR t)
theorem eB{α:Type}:∀l:List α,l.filterMap (λt=>some t)=l
 |[]=>rfl
 |a::l=>by rw[List.filterMap_cons];simp[eB l]
section
variable{P:Program}{w:World}{K:PySem.W.Frag}{mg:Str->Option Value}{base:Heap}{C:Cs}
abbrev EU:List Str:=["inputs","outputs","names","name"]
theorem qS:aC EU ["inputs","outputs"] (ao b7):=⟨rfl,rfl,rfl,by decide+kernel,rfl,by decide+kernel,by decide+kernel⟩
def wn(l:List ai):Int:=if l.all Vabldi.isName=false then -1 else if Vabldi.distinct l=false then -7 else 0
def GC:Sp:=λvs H Q _=>∃(F:Hp) (vi vo:V) (i o:List ai),vs=[vi,vo]/\cW F vi i/\cW F vo o/\i.length<=8/\o.length<=8/\aH F H/\Rt F H Q λ_ u=>u= .int (wn (i++o))
theorem GD(T:Tx K mg C):Ok P w K mg base "refusal_of_names" ["inputs","outputs"] 3 GC:=by
 refine T.d_refusal_of_names.ok qS (λvs H Q E h=>by obtain⟨_,_,_,_,_,e,_⟩:=h;rw[e];rfl) (λf cdv A outer s H vs Q E hr h=> ?_);obtain⟨F,vi,vo,i,o,rfl,⟨li,xi,rfl,hli,hpi⟩,⟨lo,xo,rfl,hlo,hpo⟩,h8,h9,f0,k⟩:=h
 refine⟨_,ae (aF (i:=2) qS.nd rfl (Or.inl rfl) (bD cC (pv 0) (pv 1)))
  (ae (aN (bR (bI (rH rfl T.b_all (fj rfl qS.nd (bj (pv 2)) (blk (own:=[("name",3)]) EU (ao b7) rfl rfl (by decide+kernel)) (λ_ _ _ _ _=>aS (i:=3) qS.nd rfl (Or.inl rfl)) (λ_ _ _ _ _=>b4)
   (λ_ _ _ _ _=>aB (cX T) hr (ab (pv 3) af)))))) (ah (aq (aV T.g_NAME))) aE)
  (ae (aN (aK dI (CH T.b_len (ET hr T.b_set (fj rfl qS.nd (bj (pv 2)) (blk (own:=[("name",3)]) EU (ao b7) rfl rfl (by decide+kernel)) (λ_ _ _ _ _=>aS (i:=3) qS.nd rfl (Or.inl rfl)) (λ_ _ _ _ _=>b4)
   (λ_ _ _ _ _=>bB T.b_tuple (pv 3))))) (bp T.b_len (pv 2)) (aP _)) (ah (aq (aV T.g_TWICE))) aE)
  (ah (aq aG)))),?_⟩
 have e_i:=Paired.length hpi;have e_o:=Paired.length hpo;have hsz:(16:Nat)<sizeLine:=by decide
 refine⟨_,rfl,_,rfl,li,lo,_,_,rfl,rfl,f0 _ _ hli,f0 _ _ hlo,by omega,λq hq=> ?_⟩;have e1:=(bo.refl f0).newF (o:= .lst (xi++xo)) hq;have s1:=aI (o:=HO.lst (xi++xo)) (f0.free hq);have hnames:Paired (dk (aJ F q (.lst (xi++xo)))) (xi++xo) (i++o):=Paired.mapP (j3 hpi hpo) λv t ht=>ht.mono s1
 refine⟨_,rfl,q,rfl,⟨_,aZ.of aa⟩,λD hD=> ?_⟩;refine bV (ds:=i++o) (dk (aJ F q (.lst (xi++xo)))) (λ_ v b=>v=V.bl b) (λt=>some (Vabldi.isName t)) (λ_ _ _ _ _ h=>h) e1 hD (aZ.of aa) hnames (by rw[List.length_append];omega) ?_ ?_
 ·rintro x t F2 H2 Y N ⟨at',rfl,hat⟩ ht e2 s2 hY hN
  exact⟨rfl,_,rfl,F2,_,t,rfl,⟨at',rfl,s2 _ _ hat⟩,e2.fh,λu F3 H3 e3 eu=>hY _ F3 H3 _ rfl e3 eu⟩
 rintro F2 H2 ys e2 s2 hAc fD pz
 rw[cQ pz]at hAc;refine⟨D,_,rfl,hAc,_,rfl,?_⟩;rw[List.all_map];refine bY (λhb=> ?_) (λhb=> ?_)
 ·refine k _ F2 H2 e2 ?_;have hb:(!(i++o).all Vabldi.isName)=true:=hb;have hb:(i++o).all Vabldi.isName=false:=by simpa only[Bool.not_eq_true']using hb
  unfold wn;rw[if_pos hb]
 have hb:(!(i++o).all Vabldi.isName)=false:=hb;have hb:(i++o).all Vabldi.isName=true:=by simpa only[Bool.not_eq_false']using hb
 have hln:F2 q=some (.lst (xi++xo)):=s2 _ _ aa;refine⟨_,rfl,q,rfl,⟨_,aZ.of (e2.fh _ _ hln)⟩,λD2 hD2=> ?_⟩;refine bV (ds:=i++o) (dk F2) (λF v t=>gI F v t) (λt=>some t) (λF F' v b e h=>h.mono e) e2 hD2 (aZ.of hln) (Paired.mapP hnames λv t ht=>ht.mono s2) (by rw[List.length_append];omega) ?_ ?_
 ·rintro x t F3 H3 Y N ⟨at',rfl,hat⟩ ht e3 s3 hY hN
  exact⟨rfl,_,rfl,at',_,rfl,e3.fh _ _ (s3 _ _ hat),λl hl=>hY _ (aJ F3 l (.tup ((zs t).map V.int))) _ t rfl ((bo.refl e3.fh).newF hl) ⟨l,rfl,aa⟩⟩
 rintro F3 H3 ys e3 s3 hAc fD2 pz
 rw[eB]at pz;have hyl:=Paired.length pz;rw[List.length_append]at hyl;refine⟨D2,ys,(i++o).map nk,rfl,hAc,by omega,Paired.mapP (qR pz) λv k ⟨b,e,hb⟩=>⟨b,e,e3.fh _ _ hb⟩,λp ms hp nd hm=> ?_⟩;have e4:=e3.newF (o:=uE p ms.length) hp;have hq4:=((bo.refl e3.fh).newF (o:=uE p ms.length) hp).hh _ _ (e3.fh _ _ (s3 _ _ hln));refine⟨p,_,rfl,aa,_,rfl,q,_,rfl,hq4,rfl,_,rfl,?_⟩;have hnl:=yJ nd hm;rw[List.length_map,A6,<-hX]at hnl;have hxl:(xi++xo).length=(i++o).length:=by rw[List.length_append,List.length_append];omega
 unfold wn at k;rw[if_neg (by rw[hb];decide)]at k;refine bY (λhb2=> ?_) (λhb2=> ?_)
 ·have :Vabldi.distinct (i++o)=false:=by
   cases q:Vabldi.distinct (i++o)with
   |false=>rfl
   |true=>
    have :=hnl.mpr q;rw[hxl,<-this]at hb2;simp at hb2
  rw[if_pos this]at k;exact k _ _ _ e4 rfl
 ·have hb2:V.int ms.length=V.int (xi++xo).length:=by simpa only[Bool.not_eq_false',decide_eq_true_eq]using hb2
  have :ms.length=(i++o).length:=by injection hb2 with z;rw[hxl]at z;omega
  rw[if_neg (by rw[hnl.mp this];decide)]at k;exact k _ _ _ e4 rfl
theorem GE:aC ["arguments","inputs","outputs"] ["arguments","inputs","outputs"] (ao eF):=⟨rfl,rfl,rfl,by decide+kernel,rfl,by decide+kernel,by decide+kernel⟩
def pO(a i o:Option (List ai)):Int:=match a,i,o with
 |some a,some i,some o=>if mX a i o=true then -6 else wn (i++o)
 |_,_,_=> -4
def GF:Sp:=λvs H Q _=>∃(F:Hp) (va vi vo:V) (a i o:Option (List ai)),vs=[va,vi,vo]/\lU F va a/\lU F vi i/\lU F vo o/\aH F H/\Rt F H Q λ_ u=>u= .int (pO a i o)
theorem wt{i o}:pO none i o= -4:=by cases i<;>cases o<;>rfl
theorem wu{a o}:pO a none o= -4:=by cases a<;>cases o<;>rfl
theorem wv{a i}:pO a i none= -4:=by cases a<;>cases i<;>rfl
theorem ss{F:Hp}{v:V}{t:List ai}(h:cW F v t):decide (v=V.non)=false:=by
 obtain⟨l,xs,rfl,_⟩:=h;exact decide_eq_false (λe=>nomatch e)
theorem GG(T:Tx K mg C):Ok P w K mg base "refusal_of_lists" ["arguments","inputs","outputs"] 4 GF:=by
 refine T.d_refusal_of_lists.ok GE (λvs H Q E h=>by obtain⟨_,_,_,_,_,_,_,e,_⟩:=h;rw[e];rfl) (λf cdv A outer s H vs Q E hr h=> ?_);obtain⟨F,va,vi,vo,a,i,o,rfl,ha,hi,ho,f0,k⟩:=h
 refine⟨_,ae (aN (PW.pt (km (fJ (lE (pv 0))) (km (fJ (lE (pv 1))) (lF (fJ (lE (pv 2))))))) (ah (aq (aV T.g_LIST))) aE)
  (ae (aN (bI (aB (GB T) hr (ab (pv 0) (ab (pv 1) (ab (pv 2) af))))) (ah (aq (aV T.g_LIMIT))) aE)
  (ah (aq (aB (GD T) hr (ab (pv 1) (ab (pv 2) af)))))),?_⟩
 cases a with
 |none=>
  obtain rfl:va= .non:=ha;exact⟨_,rfl,_,rfl,iq (iq (k _ F H (bo.refl f0) (by rw[wt])))⟩
 |some a=>
  have ha:cW F va a:=ha;refine⟨_,rfl,_,rfl,?_⟩;rw[ss ha];refine jw ⟨_,rfl,_,rfl,?_⟩;cases i with
  |none=>
   obtain rfl:vi= .non:=hi;exact iq (iq (k _ F H (bo.refl f0) (by rw[wu])))
  |some i=>
   have hi:cW F vi i:=hi;rw[ss hi];refine jw ⟨_,rfl,_,rfl,?_⟩;cases o with
   |none=>
    obtain rfl:vo= .non:=ho;exact iq (k _ F H (bo.refl f0) (by rw[wv]))
   |some o=>
    have ho:cW F vo o:=ho;rw[ss ho];refine jw ⟨_,rfl,_,rfl,_,rfl,F,_,_,_,a,i,o,rfl,ha,hi,ho,f0,λu F1 H1 e1 eu=> ?_⟩;subst eu;have k:Rt F H Q λ_ u=>u= .int (if mX a i o=true then -6 else wn (i++o)):=k
    refine⟨_,rfl,bY (λhb=> ?_) (λhb=> ?_)⟩
    ·rw[if_pos hb]at k;exact k _ _ _ e1 rfl
    ·rw[if_neg (by rw[hb];decide)]at k;have hlim:¬(mX a i o=true):=by rw[hb];decide
     rw[dY]at hlim;have s1:aH F F1:=e1.ff;exact⟨_,rfl,_,rfl,F1,_,_,i,o,rfl,bW hi s1,bW ho s1,by omega,by omega,e1.fh,λu F2 H2 e2 eu=>k _ _ _ (e1.trans e2) eu⟩
end
section
variable{X:Cx}{e:Expr}{pos:Pos}{te:TE}
def GH(K:PySem.W.Frag):V->Hp->VK->Prop:=λx H Q=>∃p ys,x= .ref p/\jN K H p ys/\Q (.int ys.length) H
theorem CI{p}(hm:X.mg "len"=none)(he:PE X e te)(hg:Gl X "len":=by rfl)(hs:starEach [e] X.env=(false,eval e X.env)::starEach [] X.env:=by rfl)(hpl:(backTo pos (starEach [] X.env)).any (·.1)=false:=by rfl):
  PE X (.Call (.Name "len" p) [e] [] pos) (uJ (GH X.K) te):=iK d9 (λv H Q ⟨p,ys,e,h,q⟩=>by subst e;exact⟨p,ys,rfl,.inr h,q⟩) hm PySem.boot_len he hg (by decide) (by decide) hs hpl
end
section
variable{s:Vabldi.State}{t:Int}{n:ai}{as is os:List Int}
theorem EV(h1:Vabldi.isName n=true)(h2:¬(t<0\/13<t))(h3:pO (Vabldi.textsOf as) (Vabldi.textsOf is) (Vabldi.textsOf os)≠0):
  Vabldi.actionCall s t n as is os=(s,Vabldi.no (pO (Vabldi.textsOf as) (Vabldi.textsOf is) (Vabldi.textsOf os))):=by
 unfold Vabldi.actionCall;rw[if_neg (by rw[h1];decide),if_neg h2];cases q1:Vabldi.textsOf as with
 |none=>rw[wt];rfl
 |some a=>
  cases q2:Vabldi.textsOf is with
  |none=>rw[wu];rfl
  |some i=>
   cases q3:Vabldi.textsOf os with
   |none=>rw[wv];rfl
   |some o=>
    rw[q1,q2,q3]at h3;dsimp only[pO]at h3⊢;by_cases c:mX a i o=true
    ·rw[if_pos (dY.mp c),if_pos c];rfl
    ·rw[if_neg c]at h3⊢;rw[if_neg λz=>c (dY.mpr z)];unfold wn at h3⊢;by_cases c2:(i++o).all Vabldi.isName=false
     ·rw[if_pos c2,if_pos c2];rfl
     ·rw[if_neg c2]at h3⊢;rw[if_neg c2];by_cases c3:Vabldi.distinct (i++o)=false
      ·rw[if_pos c3,if_pos c3];rfl
      ·rw[if_neg c3]at h3;exact absurd rfl h3
theorem CJ(h1:Vabldi.isName n=true)(h2:¬(t<0\/13<t))(h3:pO (Vabldi.textsOf as) (Vabldi.textsOf is) (Vabldi.textsOf os)=0):
  ∃a i o,Vabldi.textsOf as=some a/\Vabldi.textsOf is=some i/\Vabldi.textsOf os=some o/\eQ {name:=n,tool:=t.toNat,arguments:=a,inputs:=i,outputs:=o}/\
   Vabldi.actionCall s t n as is os=if(Vabldi.actionOf s n).isNone=true/\32<=s.actions.length then(s,Vabldi.no Vabldi.FULL)
    else({s with actions:={name:=n,tool:=t.toNat,arguments:=a,inputs:=i,outputs:=o}::s.actions.filter λx=>x.name !=n},Vabldi.num (if(Vabldi.actionOf s n).isNone=true then 1 else 0) []):=by
 cases q1:Vabldi.textsOf as with
 |none=>rw[q1,wt]at h3;cases h3
 |some a=>
  cases q2:Vabldi.textsOf is with
  |none=>rw[q2,wu]at h3;cases h3
  |some i=>
   cases q3:Vabldi.textsOf os with
   |none=>rw[q3,wv]at h3;cases h3
   |some o=>
    rw[q1,q2,q3]at h3;dsimp only[pO]at h3;by_cases c:mX a i o=true
    ·rw[if_pos c]at h3;cases h3
    rw[if_neg c]at h3;unfold wn at h3;by_cases c2:(i++o).all Vabldi.isName=false
    ·rw[if_pos c2]at h3;cases h3
    rw[if_neg c2]at h3;by_cases c3:Vabldi.distinct (i++o)=false
    ·rw[if_pos c3]at h3;cases h3
    have c4:(i++o).all Vabldi.isName=true:=by simpa only[Bool.not_eq_false]using c2
    have c5:Vabldi.distinct (i++o)=true:=by simpa only[Bool.not_eq_false]using c3
    rw[dY]at c;refine⟨a,i,o,rfl,rfl,rfl,?_,?_⟩
    ·have hany:¬(a.any (λx=>decide (64<x.length))=true):=λz=>c (.inr (.inl z))
     have hoe:¬(o.isEmpty=true):=λz=>c (.inr (.inr (.inr (.inr z))))
     rw[List.isEmpty_iff,<-List.length_eq_zero_iff]at hoe;refine{nm:=h1,tl:= ?_,ar:= ?_,al:=λx hx=> ?_,il:= ?_,ol:= ?_,o1:= ?_,nn:= ?_,nd:=(hX _).mp c5}
     ·show t.toNat<14;omega
     ·show a.length<=4;omega
     ·apply Classical.byContradiction
      intro z;exact hany (List.any_eq_true.mpr ⟨x,hx,decide_eq_true (by omega)⟩)
     ·show i.length<=8;omega
     ·show o.length<=8;omega
     ·show 1<=o.length;omega
     ·exact λx hx=>(List.all_eq_true.mp c4) x hx
    ·unfold Vabldi.actionCall;rw[if_neg (by rw[h1];decide),if_neg h2,q1,q2,q3];dsimp only;rw[if_neg c,if_neg c2,if_neg c3]
end
theorem mT{F F':Hp}{u:V}{o:Option (List ai)}(h:lU F u o)(e:aH F F'):lU F' u o:=by
 cases o with
 |none=>exact h
 |some ts=>exact bW h e
section
variable{P:Program}{w:World}{K:PySem.W.Frag}{mg:Str->Option Value}{base:Heap}{C:Cs}
abbrev EW:List Str:=["room","tool","name","argument_numbers","input_numbers","output_numbers","arguments","inputs","outputs","refusal","key","fresh","input_names","output_names","text"]
theorem jh:aC EW ["room","tool","name","argument_numbers","input_numbers","output_numbers"] (ao ed):=⟨rfl,rfl,rfl,by decide+kernel,rfl,by decide+kernel,by decide+kernel⟩
def GI(C:Cs):Sp:=λvs H Q _=>∃(F:Hp) (R df da:Addr) (s:Vabldi.State) (t:Int) (vn va vi vo:V) (n:ai) (as is os:List Int),vs=[.ref R,.int t,vn,va,vi,vo]/\aQ C F H R df da s/\dk F vn n/\(ZL F va as/\ZL F vi is/\ZL F vo os)/\(as.length<=1000000/\is.length<=1000000/\os.length<=1000000)/\aH F H/\
 ∀u F1 H1,bc [df,da] F H F1 H1->aQ C F1 H1 R df da (Vabldi.actionCall s t n as is os).1->pK F1 u (Vabldi.actionCall s t n as is os).2->Q u H1
theorem GJ(T:Tx K mg C):Ok P w K mg base "set_action" ["room","tool","name","argument_numbers","input_numbers","output_numbers"] 5 (GI C):=by
 refine T.d_set_action.ok jh (λvs H Q E h=>by obtain⟨_,_,_,_,_,_,_,_,_,_,_,_,_,_,e,_⟩:=h;rw[e];rfl) (λf cdv A outer s H vs Q E hr h=> ?_);obtain⟨F,R,df,da,st,t,vn,va,vi,vo,n,as,is,os,rfl,ra,⟨an,rfl,han⟩,⟨hva,hvi,hvo⟩,⟨l1,l2,l3⟩,f0,k⟩:=h;obtain⟨dR,hR⟩:=ra.dx;obtain⟨ta,fs,hmg,hkt,hfns⟩:=T.t_TOOLS;have hfl:(fs.map V.ref).length=14:=by rw[List.length_map,Paired.length hfns];rfl
 refine⟨_,ae (aN (bR (bI (aB (cX T) hr (ab (pv 2) af)))) (ah (aq (aL (ab (aV T.g_NAME) af)))) aE)
  (ae (aN (bR (oh cP yV aG (pv 1) (CI T.b_len (mZ (v:= .ref ta) rfl hmg rfl)))) (ah (aq (aL (ab (aV T.g_TOOL) af)))) aE)
  (ae (aF (i:=6) jh.nd rfl (Or.inl rfl) (aB (iX T) hr (ab (pv 3) af)))
  (ae (aF (i:=7) jh.nd rfl (Or.inl rfl) (aB (iX T) hr (ab (pv 4) af)))
  (ae (aF (i:=8) jh.nd rfl (Or.inl rfl) (aB (iX T) hr (ab (pv 5) af)))
  (ae (aF (i:=9) jh.nd rfl (Or.inl rfl) (aB (GG T) hr (ab (pv 6) (ab (pv 7) (ab (pv 8) af)))))
  (ae (aN (aK dI (pv 9) aG (aP _)) (ah (aq (aL (ab (pv 9) af)))) aE)
  (ae (aF (i:=10) jh.nd rfl (Or.inl rfl) (bB T.b_tuple (pv 2)))
  (ae (aF (i:=11) jh.nd rfl (Or.inl rfl) (aB (vW T) hr (ab (pv 10) (ab (aD (pv 0) rfl) af))))
  (ae (aN (aK iw (bD fK (ni T.b_len (aD (pv 0) rfl)) (pv 11)) (aV T.g_MOST_ACTIONS) (aP _)) (ah (aq (aL (ab (aV T.g_FULL) af)))) aE)
  (ae (kC rfl jh.nd (i:=12) rfl rfl (m7 rfl rfl rfl (by decide+kernel)) (bj (pv 7)) (blk (own:=[("text",14)]) EW (ao ed) rfl rfl (by decide+kernel)) (λ_ _ _ _ _=>aS (i:=14) jh.nd rfl (Or.inl rfl)) (λ_ _ _ _ _=>b4) (λ_ _ _ _ _=>bB T.b_tuple (pv 14)))
  (ae (kC rfl jh.nd (i:=13) rfl rfl (m7 rfl rfl rfl (by decide+kernel)) (bj (pv 8)) (blk (own:=[("text",14)]) EW (ao ed) rfl rfl (by decide+kernel)) (λ_ _ _ _ _=>aS (i:=14) jh.nd rfl (Or.inl rfl)) (λ_ _ _ _ _=>b4) (λ_ _ _ _ _=>bB T.b_tuple (pv 14)))
  (ae (kE (bT hr) (aD (pv 0) rfl) (pv 10) (og T.k_Action (yc T) hr (ab (pv 1) (ab (pv 6) (ab (pv 12) (ab (pv 13) af))))) rfl)
  (ah (aq (aL (ab (pv 11) af)))))))))))))))),?_⟩
 refine⟨_,rfl,F,_,n,rfl,⟨an,rfl,han⟩,f0,λu F1 H1 e1 eu=> ?_⟩;subst eu;refine⟨_,rfl,bY (λhb=> ?_) (λhb=> ?_)⟩
 ·have hb:Vabldi.isName n=false:=by simpa using hb
  refine⟨aX _,λq hq=> ?_⟩;unfold Vabldi.actionCall at k;rw[if_pos hb]at k;have e2:=e1.newF (o:= .lst [.int (-1)]) hq;exact k _ _ _ e2.x (ra.keep e2) (cK aa)
 have hb:Vabldi.isName n=true:=by simpa using hb
 refine⟨_,rfl,_,t,14,rfl,rfl,λQ' q=>⟨_,_,rfl,hkt.sq _,by rw[hfl];exact q⟩,_,rfl,bY (λhb2=> ?_) (λhb2=> ?_)⟩
 ·have hb2:(!(decide ((0:Int)<=t)&&decide (t<14)))=true:=hb2
  have hb2:t<0\/13<t:=by
   simp only[Bool.not_eq_true',Bool.and_eq_false_iff,decide_eq_false_iff_not]at hb2;omega
  refine⟨aX _,λq hq=> ?_⟩;unfold Vabldi.actionCall at k;rw[if_neg (by rw[hb];decide),if_pos hb2]at k;have e2:=e1.newF (o:= .lst [.int (-5)]) hq;exact k _ _ _ e2.x (ra.keep e2) (cK aa)
 have hb2:(!(decide ((0:Int)<=t)&&decide (t<14)))=false:=hb2
 have hb2:¬(t<0\/13<t):=by
  simp only[Bool.not_eq_false',Bool.and_eq_true,decide_eq_true_eq]at hb2;omega
 refine⟨_,rfl,F1,_,as,rfl,hva.mono e1.ff,l1,e1.fh,λua F2 H2 e2 hua=> ?_⟩;refine⟨_,rfl,F2,_,is,rfl,hvi.mono (e1.ff.trans e2.ff),l2,e2.fh,λui F3 H3 e3 hui=> ?_⟩;refine⟨_,rfl,F3,_,os,rfl,hvo.mono ((e1.ff.trans e2.ff).trans e3.ff),l3,e3.fh,λuo F4 H4 e4 huo=> ?_⟩;have hua:=mT hua (e3.ff.trans e4.ff);have hui:=mT hui e4.ff;have e14:=((e1.trans e2).trans e3).trans e4;refine⟨_,rfl,_,rfl,_,rfl,F4,_,_,_,_,_,_,rfl,hua,hui,huo,e4.fh,λu F5 H5 e5 eu=> ?_⟩;subst eu;have e15:=e14.trans e5;refine⟨_,rfl,rfl,_,rfl,bY (λhb3=> ?_) (λhb3=> ?_)⟩
 ·rw[EV hb hb2 (g9 hb3)]at k;refine⟨_,rfl,aX _,λq hq=> ?_⟩;have e6:=e15.newF (o:= .lst [.int (pO (Vabldi.textsOf as) (Vabldi.textsOf is) (Vabldi.textsOf os))]) hq;exact k _ _ _ e6.x (ra.keep e6) (cK aa)
 obtain⟨a,i,o,q1,q2,q3,ga,hcall⟩:=CJ (s:=st) hb hb2 (hC hb3);rw[hcall]at k;rw[q1]at hua;rw[q2]at hui;rw[q3]at huo;have hua:cW F4 ua a:=hua;obtain⟨li,xi,rfl,hli,hpi⟩:cW F4 ui i:=hui;obtain⟨lo,xo,rfl,hlo,hpo⟩:cW F4 uo o:=huo;refine⟨_,rfl,an,_,rfl,e15.hh _ _ (f0 _ _ han),λq hq=> ?_⟩;have e6:=e15.newF (o:= .tup ((zs n).map V.int)) hq;have s46:aH F4 (aJ F5 q (.tup ((zs n).map V.int))):=e5.ff.trans (aI (e15.fh.free hq));have ra6:=ra.keep e6;obtain⟨kvs,hda,hkl,hcase⟩:=ra6.act n;have hsz:=ra.gd.al;refine⟨_,rfl,_,rfl,R,C.Room,dR,_,_,rfl,e6.hh _ _ (f0 _ _ hR),T.k_Room.cl,T.n_Room_actions,rfl,q,da,n,kvs,rfl,aa,hda,?_⟩;refine⟨_,rfl,R,C.Room,dR,_,_,rfl,e6.hh _ _ (f0 _ _ hR),T.k_Room.cl,T.n_Room_actions,rfl,da,kvs,rfl,hda,_,rfl,_,_,rfl,rfl,_,_,rfl,rfl,_,rfl,?_⟩
 have hnone:(cB kvs (nk n)).isSome=(Vabldi.actionOf st n).isSome:=by
  rcases hcase with⟨h1,h2⟩|⟨fl,v,h1,h2,_⟩
  ·rw[h1,h2];rfl
  ·rw[h1,h2];rfl
 rw[hnone]
 have hlen:({name:=n,tool:=t.toNat,arguments:=a,inputs:=i,outputs:=o}::st.actions.filter λx=>x.name !=n).length=st.actions.length+(if(Vabldi.actionOf st n).isSome=true then 0 else 1):=by
  rw[List.length_cons];have fl:=kh (nm:=λf:Vabldi.Action=>f.name) (n:=n) ra.gd.an;have e:Vabldi.actionOf st n=st.actions.find? λd=>d.name==n:=rfl
  cases q:(Vabldi.actionOf st n).isSome with
  |true=>
   rw[if_pos rfl];exact fl.2 (by rw[<-e];exact q)
  |false=>
   rw[if_neg (by decide)];have :=fl.1 (by rw[<-e];simpa using q);rw[this]
 refine bY (λhb4=> ?_) (λhb4=> ?_)
 ·refine⟨aX _,λq3 hq3=> ?_⟩;rw[if_pos]at k
  ·have e7:=e6.newF (o:= .lst [.int (-3)]) hq3;exact k _ _ _ e7.x (ra.keep e7) (cK aa)
  ·have hb4:=of_decide_eq_true hb4;cases q:Vabldi.actionOf st n with
   |none=>rw[q]at hb4;refine⟨rfl,?_⟩;simp at hb4;omega
   |some fl=>rw[q]at hb4;simp at hb4;omega
 have hb4:=of_decide_eq_false hb4
 have hneg:¬((Vabldi.actionOf st n).isNone=true/\32<=st.actions.length):=by
  rintro ⟨h1,h2⟩
  have h1:Vabldi.actionOf st n=none:=by simpa using h1
  rw[h1]at hb4;simp at hb4;omega
 rw[if_neg hneg]at k;have hil:=ga.il;have hol:=ga.ol;dsimp only at hil hol;refine⟨_,rfl,li,rfl,⟨_,aZ.of (e6.fh _ _ (s46 _ _ hli))⟩,λD1 hD1=> ?_⟩;refine bV (ds:=i) (dk (aJ F5 q (.tup ((zs n).map V.int)))) (λF v t=>gI F v t) (λt=>some t) (λF F' v b e h=>h.mono e) e6 hD1 (aZ.of (s46 _ _ hli)) (Paired.mapP hpi λv t ht=>ht.mono s46) (by omega) ?_ ?_
 ·rintro x t F3 H3 Y N ⟨at',rfl,hat⟩ ht e3 s3 hY hN
  exact⟨rfl,_,rfl,at',_,rfl,e3.fh _ _ (s3 _ _ hat),λl hl=>hY _ (aJ F3 l (.tup ((zs t).map V.int))) _ t rfl ((bo.refl e3.fh).newF hl) ⟨l,rfl,aa⟩⟩
 rintro F7 H7 yi e7 s7 hA7 f7 p7
 rw[eB]at p7;have e8:=e7.frz (e6.hh.free hD1) hA7 f7;have s78:=aI (o:=HO.lst yi) f7;have hlo8:aJ F7 D1 (.lst yi) lo=some (.lst xo):=s78 _ _ (s7 _ _ (s46 _ _ hlo));refine⟨_,rfl,lo,rfl,⟨_,aZ.of (e8.fh _ _ hlo8)⟩,λD2 hD2=> ?_⟩;refine bV (ds:=o) (dk (aJ F7 D1 (.lst yi))) (λF v t=>gI F v t) (λt=>some t) (λF F' v b e h=>h.mono e) e8 hD2 (aZ.of hlo8) (Paired.mapP hpo λv t ht=>ht.mono ((s46.trans s7).trans s78)) (by omega) ?_ ?_
 ·rintro x t F3 H3 Y N ⟨at',rfl,hat⟩ ht e3 s3 hY hN
  exact⟨rfl,_,rfl,at',_,rfl,e3.fh _ _ (s3 _ _ hat),λl hl=>hY _ (aJ F3 l (.tup ((zs t).map V.int))) _ t rfl ((bo.refl e3.fh).newF hl) ⟨l,rfl,aa⟩⟩
 rintro F9 H9 yo e9 s9 hA9 f9 p9
 rw[eB]at p9;have e10:=e9.frz (e8.hh.free hD2) hA9 f9;have s910:=aI (o:=HO.lst yo) f9;have s810:aH (aJ F7 D1 (.lst yi)) (aJ F9 D2 (.lst yo)):=s9.trans s910;have s410:aH F4 (aJ F9 D2 (.lst yo)):=((s46.trans s7).trans s78).trans s810;refine⟨_,rfl,_,rfl,_,rfl,_,rfl,λx dx nx nd ne=>⟨x,dx,_,rfl,rfl,aa,rfl,?_⟩⟩;have e11:=e10.newI (D:=C.Action) (fs:=[("tool",.int t),("arguments",ua),("inputs",.ref D1),("outputs",.ref D2)]) nx nd ne;have s11:=aI (o:= .ins C.Action dx [("tool",.int t),("arguments",ua),("inputs",.ref D1),("outputs",.ref D2)]) (e10.fh.free nx);have ra11:=ra.keep e11;obtain⟨kvs3,hda3,hkl3,_⟩:=ra11.act n;have hqk:aJ F9 D2 (.lst yo) q=some (.tup ((zs n).map V.int)):=s810 _ _ (s78 _ _ (s7 _ _ aa));refine⟨_,rfl,R,C.Room,dR,_,_,rfl,e11.hh _ _ (f0 _ _ hR),T.k_Room.cl,T.n_Room_actions,rfl,_,rfl,da,_,rfl,rD.t (k:=nk n) hda3 (by rw[bX];exact e11.fh _ _ (s11 _ _ hqk)) ?_,?_⟩
 ·rw[hkl3];have :(64:Nat)<sizeLine:=by decide
  omega
 have htn:t=((t.toNat:Nat):Int):=by omega
 have hact:lV C (aJ (aJ F9 D2 (.lst yo)) x (.ins C.Action dx [("tool",.int t),("arguments",ua),("inputs",.ref D1),("outputs",.ref D2)])) (.ref x) {name:=n,tool:=t.toNat,arguments:=a,inputs:=i,outputs:=o}:=by
  refine⟨x,dx,ua,.ref D1,.ref D2,rfl,?_,bW hua (s410.trans s11),⟨D1,yi,rfl,s11 _ _ (s810 _ _ aa),Paired.mapP p7 λv t ht=>ht.mono ((s78.trans s810).trans s11)⟩,⟨D2,yo,rfl,s11 _ _ aa,Paired.mapP p9 λv t ht=>ht.mono (s910.trans s11)⟩⟩;dsimp only;rw[<-htn];exact aa
 have ra12:=ra11.putA hda3 hact ga (by
  dsimp only;rw[hlen];cases q:(Vabldi.actionOf st n).isSome with
  |true=>rw[if_pos rfl];omega
  |false=>rw[q]at hb4;rw[if_neg (by decide)];simp at hb4;omega)
 have e12:bc [df,da] F H _ _:=e11.x.wr (o:= .dT (eX kvs3 (nk n) (.ref x))) (.inl (by simp)) ra11.fa;refine⟨_,rfl,aX _,λq5 hq5=> ?_⟩;have e13:=e12.newF (o:= .lst [.int (if(Vabldi.actionOf st n).isSome=true then 0 else 1)]) hq5;have ra13:=ra12.keep ((bo.refl e12.fh).newF (o:= .lst [.int (if(Vabldi.actionOf st n).isSome=true then 0 else 1)]) hq5);refine k _ _ _ e13 ra13 ?_;cases q:Vabldi.actionOf st n with
 |none=>exact cV (n:=1) (t:=[]) aa (by decide)
 |some fl=>exact cV (n:=0) (t:=[]) aa (by decide)
end
section
variable{X:Cx}{o:Expr}{ta:TE}{D:Addr}{m:Str}{ps:List Str}{k j:Nat}{sp:Sp}{apos pos:Pos}
theorem cu{pl:Sem Bool}(he:PE X o ta)(c:zb X.K D)(O:FE X.prog X.w X.K X.mg X.base D m ps k sp)(hr:Room j X.A)(hj:k<=j:=by decide)
  (ht:eval (.Call (.Attribute o m apos) [] [] pos) X.env=(do
   let ov<-eval o X.env
   standAt apos.atName
   let(f,first)<-holding [ov] (getMethod ov m pl)
   callWith pos f first (backTo pos (starEach [] X.env)) (backToKw pos (keywordEach [] X.env))):=by rfl):
  PE X (.Call (.Attribute o m apos) [] [] pos) (CW D m sp [] E0 ta sG):=by
 obtain⟨f,fd,M,bi,G⟩:=O;exact zf he c M G (hr.mono hj) bi .nil sV ht
end
theorem gA{K:PySem.W.Frag}{H H':Hp}{a:Addr}{xs:List V}(e:aH H H')(h:aZ K H a xs):aZ K H' a xs:=by
 rcases h with(h|⟨o,h⟩)|h
 ·exact .inl (.inl (e _ _ h))
 ·exact .inl (.inr ⟨o,e _ _ h⟩)
 ·exact .inr h
section
variable{X:Cx}{e:Expr}{pos:Pos}{te:TE}
def GK(K:PySem.W.Frag):V->Hp->VK->Prop:=λx H Q=>∃p ys,x= .ref p/\aZ K H p ys/\Q (.int ys.length) H
theorem CK{p}(hm:X.mg "len"=none)(he:PE X e te)(hg:Gl X "len":=by rfl)(hs:starEach [e] X.env=(false,eval e X.env)::starEach [] X.env:=by rfl)(hpl:(backTo pos (starEach [] X.env)).any (·.1)=false:=by rfl):
  PE X (.Call (.Name "len" p) [e] [] pos) (uJ (GK X.K) te):=iK d9 (λv H Q ⟨p,ys,e,h,q⟩=>by subst e;exact⟨p,ys,rfl,.inl h,q⟩) hm PySem.boot_len he hg (by decide) (by decide) hs hpl
end
def fS(K:PySem.W.Frag)(C:Cs)(F H:Hp)(r:Addr)(rs:List Int):Prop:=∃(dx ln:Addr) (l:List Int) (p:Nat),H r=some (.ins C.Reader dx [("numbers",.ref ln),("place",.int p)])/\F r=none/\aZ K F ln (l.map V.int)/\p<=l.length/\l.drop p=rs
theorem fS.keepX{K:PySem.W.Frag}{C:Cs}{F H F1 H1:Hp}{r:Addr}{rs:List Int}{S:List Addr}(d:fS K C F H r rs)(e:bc S F H F1 H1)(h:r∉S):fS K C F1 H1 r rs:=by
 obtain⟨dx,ln,l,p,h1,h2,h3,h4,h5⟩:=d;exact⟨dx,ln,l,p,e.hx _ _ h1 h,e.sp _ _ h1 h2,gA e.ff h3,h4,h5⟩
section
variable{P:Program}{w:World}{K:PySem.W.Frag}{mg:Str->Option Value}{base:Heap}{C:Cs}
theorem GL:aC ["self"] ["self"] (ao d5):=⟨rfl,rfl,rfl,by decide+kernel,rfl,by decide+kernel,by decide+kernel⟩
def GM(K:PySem.W.Frag)(C:Cs):Sp:=λvs H Q _=>∃(F:Hp) (r:Addr) (rs:List Int),vs=[.ref r]/\fS K C F H r rs/\aH F H/\Q (.bl (decide (rs=[]))) H
theorem GN(T:Tx K mg C):FE P w K mg base C.Reader "at_end" ["self"] 1 (GM K C):=by
 refine T.m_Reader_at_end.ok GL (λvs H Q E h=>by obtain⟨_,_,_,e,_⟩:=h;rw[e];rfl) (λf cdv A outer s H vs Q E hr h=> ?_);obtain⟨F,r,rs,rfl,⟨dx,ln,l,p,h1,h2,h3,h4,h5⟩,f0,k⟩:=h;refine⟨_,ah (aq (m5 CT (aD (pv 0) rfl) (CK T.b_len (aD (pv 0) rfl)) (aP _))),?_⟩;refine⟨_,rfl,r,C.Reader,dx,_,_,rfl,h1,T.k_Reader.cl,T.n_Reader_place,rfl,_,rfl,r,C.Reader,dx,_,_,rfl,h1,T.k_Reader.cl,T.n_Reader_numbers,rfl,ln,_,rfl,gA f0 h3,_,_,rfl,rfl,?_⟩
 have e:decide ((p:Int)>=((l.map V.int).length:Nat))=decide (rs=[]):=by
  rw[<-h5,List.length_map,Bool.eq_iff_iff,decide_eq_true_eq,decide_eq_true_eq,List.drop_eq_nil_iff];omega
 rw[<-e]at k;exact k
abbrev Ii:List Str:=["self","number"]
theorem Dd:aC Ii ["self"] (ao cE):=⟨rfl,rfl,rfl,by decide+kernel,rfl,by decide+kernel,by decide+kernel⟩
def GO(K:PySem.W.Frag)(C:Cs):Sp:=λvs H Q _=>∃(F:Hp) (r:Addr) (z:Int) (rs:List Int),vs=[.ref r]/\fS K C F H r (z::rs)/\aH F H/\∀F1 H1,bc [r] F H F1 H1->fS K C F1 H1 r rs->Q (.int z) H1
theorem CL{α:Type}{l:List α}{p:Nat}{z:α}{rs:List α}(h:l.drop p=z::rs):p<l.length/\l[p]? =some z/\l.drop (p+1)=rs:=by
 have hlt:p<l.length:=by
  apply Classical.byContradiction
  intro q;rw[List.drop_eq_nil_of_le (by omega)]at h;cases h
 rw[List.drop_eq_getElem_cons hlt]at h;injection h with h1 h2
 exact⟨hlt,by rw[List.getElem?_eq_getElem hlt,h1],h2⟩
theorem A7(T:Tx K mg C):FE P w K mg base C.Reader "take_number" ["self"] 1 (GO K C):=by
 refine T.m_Reader_take_number.ok Dd (λvs H Q E h=>by obtain⟨_,_,_,_,e,_⟩:=h;rw[e];rfl) (λf cdv A outer s H vs Q E hr h=> ?_);obtain⟨F,r,z,rs,rfl,⟨dx,ln,l,p,h1,h2,h3,h4,h5⟩,f0,k⟩:=h;obtain⟨d1,d2,d3⟩:=CL h5
 refine⟨_,ae (aF (i:=1) Dd.nd rfl (Or.inl rfl) (bx bn (aD (pv 0) rfl) (aD (pv 0) rfl) (λ_ _=>rfl)))
  (ae (pS (pv 0) aG zd) (ah (aq (pv 1)))),?_⟩
 refine⟨_,rfl,r,C.Reader,dx,_,_,rfl,h1,T.k_Reader.cl,T.n_Reader_numbers,rfl,_,rfl,r,C.Reader,dx,_,_,rfl,h1,T.k_Reader.cl,T.n_Reader_place,rfl,ln,_,_,.int z,rfl,rfl,gA f0 h3,bd (by rw[List.getElem?_map,d2];rfl),?_⟩;refine⟨_,rfl,r,C.Reader,dx,_,_,rfl,h1,T.k_Reader.cl,T.n_Reader_place,rfl,_,_,rfl,rfl,dx,_,h1,(show(2:Nat)<1000 by decide),_,rfl,?_⟩;have e1:bc [r] F H F (aJ H r (.ins C.Reader dx [("numbers",.ref ln),("place",.int ((p:Int)+1))])):=(bc.refl f0).wr (.inl (by simp)) h2;refine k F _ e1 ⟨dx,ln,l,p+1,?_,h2,h3,by omega,d3⟩;rw[aa];rfl
abbrev Ij:List Str:=["self","length","row"]
theorem A8:aC Ij ["self"] (ao dt):=⟨rfl,rfl,rfl,by decide+kernel,rfl,by decide+kernel,by decide+kernel⟩
def De(K:PySem.W.Frag)(C:Cs):Sp:=λvs H Q _=>∃(F:Hp) (r:Addr) (rs x t:List Int),vs=[.ref r]/\fS K C F H r rs/\PyFlat.row rs=some (x,t)/\aH F H/\∀u F1 H1,bc [r] F H F1 H1->fS K C F1 H1 r t->ZL F1 u x->Q u H1
theorem A9{rs x t:List Int}(h:PyFlat.row rs=some (x,t)):∃(n:Nat) (r:List Int),rs=(n:Int)::r/\n<=r.length/\x=r.take n/\t=r.drop n:=by
 cases rs with
 |nil=>cases h
 |cons z r=>
  rw[PyFlat.row]at h;by_cases c:0<=z/\z.toNat<=r.length
  ·rw[if_pos c]at h;injection h with h
   injection h with h1 h2
   exact⟨z.toNat,r,by congr 1;omega,c.2,h1.symm,h2.symm⟩
  ·rw[if_neg c]at h;cases h
theorem fI(T:Tx K mg C):FE P w K mg base C.Reader "take_row" ["self"] 2 (De K C):=by
 refine T.m_Reader_take_row.ok A8 (λvs H Q E h=>by obtain⟨_,_,_,_,_,e,_⟩:=h;rw[e];rfl) (λf cdv A outer s H vs Q E hr h=> ?_);obtain⟨F,r,rs,x,t,rfl,hrd,hrow,f0,k⟩:=h;obtain⟨n,br,rfl,hn,rfl,rfl⟩:=A9 hrow;obtain⟨dx0,_,_,_,h0,_⟩:=id hrd
 refine⟨_,ae (aF (i:=1) A8.nd rfl (Or.inl rfl) (cu (pv 0) T.k_Reader.cl (A7 T) hr))
  (ae (aF (i:=2) A8.nd rfl (Or.inl rfl) (dJ fb (aD (pv 0) rfl) (cT (aD (pv 0) rfl)) (cT (bD fK (aD (pv 0) rfl) (pv 1)))))
  (ae (pS (pv 0) (pv 1) zd) (ah (aq (pv 2))))),?_⟩
 refine⟨_,rfl,r,dx0,_,rfl,h0,rfl,F,r,n,br,rfl,hrd,f0,λF1 H1 e1 hrd1=> ?_⟩;obtain⟨dx,ln,l,p,h1,h2,h3,h4,h5⟩:=hrd1;have hH3:aZ K H1 ln (l.map V.int):=gA e1.fh h3;refine⟨_,rfl,r,C.Reader,dx,_,_,rfl,h1,T.k_Reader.cl,T.n_Reader_numbers,rfl,_,rfl,r,C.Reader,dx,_,_,rfl,h1,T.k_Reader.cl,T.n_Reader_place,rfl,?_⟩;refine⟨_,rfl,_,rfl,r,C.Reader,dx,_,_,rfl,h1,T.k_Reader.cl,T.n_Reader_place,rfl,_,rfl,_,_,rfl,rfl,_,rfl,ln,_,rfl,hH3,λq hq=> ?_⟩
 have hcut:iA (l.map V.int) (some (p:Int)) (some ((p:Int)+(n:Int)))=(br.take n).map V.int:=by
  rw[show(p:Int)+(n:Int)=((p+n:Nat):Int) by omega,kI,<-h5,List.map_take,List.map_drop];congr 1;omega
 have hcut':iA (l.map V.int) (some (p:Int)) (some ((λi j:Int=>i+j) (p:Int) (n:Int)))=(br.take n).map V.int:=hcut;first|rw[hcut']|rw[hcut]
 have e2:=e1.newF (o:= .lst ((br.take n).map V.int)) hq;have nr:r≠q:=az h1 hq;have h1':aJ H1 q (.lst ((br.take n).map V.int)) r=some (.ins C.Reader dx [("numbers",.ref ln),("place",.int p)]):=by rw[aj nr];exact h1
 refine⟨_,rfl,r,C.Reader,dx,_,_,rfl,h1',T.k_Reader.cl,T.n_Reader_place,rfl,_,rfl,_,_,rfl,rfl,dx,_,h1',(show(2:Nat)<1000 by decide),_,rfl,?_⟩;have fr:aJ F1 q (.lst ((br.take n).map V.int)) r=none:=by rw[aj nr];exact h2
 have e3:bc [r] F H (aJ F1 q (.lst ((br.take n).map V.int))) (aJ (aJ H1 q (.lst ((br.take n).map V.int))) r (.ins C.Reader dx [("numbers",.ref ln),("place",.int ((p:Int)+n))])):=e2.wr (.inl (by simp)) fr;have hlen:(l.drop p).length=l.length-p:=List.length_drop ..;rw[h5]at hlen;refine k (.ref q) _ _ e3 ⟨dx,ln,l,p+n,?_,fr,gA (aI (e1.fh.free hq)) h3,by omega,?_⟩ ⟨q,rfl,aa⟩
 ·rw[aa];rfl
 ·rw[<-List.drop_drop,h5]
end
theorem CM{l:List Int}{x:ai}(h:VabldiNeutral.text l=some x):l=zs x:=by
 unfold VabldiNeutral.text at h;by_cases c:NeutralIO.bytes l=true
 ·rw[if_pos c]at h;injection h with h
  subst h;unfold NeutralIO.bytes at c;rw[List.all_eq_true]at c;unfold zs;rw[List.map_map];conv=>lhs;rw[<-List.map_id l]
  refine List.map_congr_left λz hz=> ?_
  have :=c z hz;simp at this;show z=((z.toNat:Nat):Int);omega
 ·rw[if_neg c]at h;cases h
theorem nG{F:Hp}{u:V}{l:List Int}{x:ai}(h:ZL F u l)(t:VabldiNeutral.text l=some x):dk F u x:=by
 obtain⟨a,e,q⟩:=h;rw[CM t]at q;exact⟨a,e,q⟩
theorem de{k:Nat}{rs x t:List Int}{xs:List (List Int)}(h:PyFlat.rows (k+1) rs=some (x::xs,t)):∃s,PyFlat.row rs=some (x,s)/\PyFlat.rows k s=some (xs,t):=by
 rw[PyFlat.rows]at h;cases q:PyFlat.row rs with
 |none=>rw[q]at h;cases h
 |some y=>
  obtain⟨y,s⟩:=y;rw[q]at h;dsimp only at h;cases q2:PyFlat.rows k s with
  |none=>rw[q2]at h;cases h
  |some z=>
   obtain⟨ys,t'⟩:=z;rw[q2]at h;dsimp only at h;injection h with h
   injection h with h1 h2
   injection h1 with h3 h4
   subst h2 h3 h4;exact⟨s,rfl,q2⟩
theorem gB{rs t:List Int}{xs:List (List Int)}(h:PyFlat.rows 0 rs=some (xs,t)):xs=[]/\t=rs:=by
 rw[PyFlat.rows]at h;injection h with h
 injection h with h1 h2
 exact⟨h1.symm,h2.symm⟩
theorem dz:∀{k:Nat} {rs t:List Int} {xs:List (List Int)},PyFlat.rows k rs=some (xs,t)->xs.length=k
 |0,_,_,_,h=>by rw[(gB h).1];rfl
 |k+1,rs,t,[],h=>by
  rw[PyFlat.rows]at h;cases q:PyFlat.row rs with
  |none=>rw[q]at h;cases h
  |some y=>
   rw[q]at h;dsimp only at h;cases q2:PyFlat.rows k y.2 with
   |none=>rw[q2]at h;cases h
   |some z=>rw[q2]at h;cases h
 |k+1,rs,t,x::xs,h=>by
  obtain⟨s,_,h2⟩:=de h;rw[List.length_cons,dz h2]
section
variable{P:Program}{w:World}{K:PySem.W.Frag}{mg:Str->Option Value}{base:Heap}{C:Cs}
def ip(K:PySem.W.Frag)(C:Cs)(F H:Hp)(Q:VK)(R df da r:Addr)(t:List Int)(x:Vabldi.State×Vabldi.Answer):Prop:=
 ∀u F1 H1,bc [df,da,r] F H F1 H1->aQ C F1 H1 R df da x.1->fS K C F1 H1 r t->pK F1 u x.2->Q u H1
theorem xn{F H:Hp}{R df da r:Addr}{s:Vabldi.State}{rs:List Int}(ra:aQ C F H R df da s)(rd:fS K C F H r rs):r≠df/\r≠da:=by
 obtain⟨dx,ln,l,p,h1,_⟩:=rd;obtain⟨kf,h5,_⟩:=ra.fs;obtain⟨ka,h6,_⟩:=ra.as;constructor
 ·rintro rfl;rw[h1]at h5;cases h5
 ·rintro rfl;rw[h1]at h6;cases h6
theorem aQ.rd{F H F1 H1:Hp}{R df da r:Addr}{s:Vabldi.State}{rs:List Int}(ra:aQ C F H R df da s)(rd:fS K C F H r rs)(e:bc [r] F H F1 H1):aQ C F1 H1 R df da s:=
 ra.keepX e (λz=>(xn ra rd).1 (List.mem_singleton.mp z).symm) (λz=>(xn ra rd).2 (List.mem_singleton.mp z).symm)
theorem fS.rm{F H F1 H1:Hp}{R df da r:Addr}{s:Vabldi.State}{rs:List Int}(ra:aQ C F H R df da s)(rd:fS K C F H r rs)(e:bc [df,da] F H F1 H1):fS K C F1 H1 r rs:=
 rd.keepX e λz=>by
  rcases List.mem_cons.mp z with z|z
  ·exact(xn ra rd).1 z
  ·exact(xn ra rd).2 (List.mem_singleton.mp z)
theorem bc.r3{F H F1 H1:Hp}{df da r:Addr}(e:bc [r] F H F1 H1):bc [df,da,r] F H F1 H1:=e.mono λx hx=>by rw[List.mem_singleton.mp hx];simp
theorem bc.d3{F H F1 H1:Hp}{df da r:Addr}(e:bc [df,da] F H F1 H1):bc [df,da,r] F H F1 H1:=e.mono λx hx=>by
 rcases List.mem_cons.mp hx with rfl|hx
 ·simp
 ·rw[List.mem_singleton.mp hx];simp
abbrev Ik:List Str:=["room","reader","name","data"]
theorem Ba:aC Ik ["room","reader"] (ao kU):=⟨rfl,rfl,rfl,by decide+kernel,rfl,by decide+kernel,by decide+kernel⟩
def GP(K:PySem.W.Frag)(C:Cs):Sp:=λvs H Q _=>∃(F:Hp) (R df da r:Addr) (s:Vabldi.State) (rs n d t:List Int) (x y:ai),vs=[.ref R,.ref r]/\aQ C F H R df da s/\fS K C F H r rs/\PyFlat.rows 2 rs=some ([n,d],t)/\VabldiNeutral.text n=some x/\VabldiNeutral.text d=some y/\aH F H/\
 ip K C F H Q R df da r t (Vabldi.putCall s x y)
theorem fU{F H:Hp}{r:Addr}{rs:List Int}(rd:fS K C F H r rs):∃(dx ln:Addr) (p:Int),H r=some (.ins C.Reader dx [("numbers",.ref ln),("place",.int p)]):=by
 obtain⟨dx,ln,l,p,h1,_⟩:=rd;exact⟨dx,ln,p,h1⟩
theorem GQ(T:Tx K mg C):Ok P w K mg base "answer_put" ["room","reader"] 4 (GP K C):=by
 refine T.d_answer_put.ok Ba (λvs H Q E h=>by obtain⟨_,_,_,_,_,_,_,_,_,_,_,_,e,_⟩:=h;rw[e];rfl) (λf cdv A outer s H vs Q E hr h=> ?_);obtain⟨F,R,df,da,r,st,rs,n,d,t,x,y,rfl,ra,rd,hrows,hx,hy,f0,k⟩:=h;obtain⟨s1,r1,hrows⟩:=de hrows;obtain⟨s2,r2,hrows⟩:=de hrows;obtain⟨_,rfl⟩:=gB hrows
 refine⟨_,ae (aF (i:=2) Ba.nd rfl (Or.inl rfl) (cu (pv 1) T.k_Reader.cl (fI T) hr))
  (ae (aF (i:=3) Ba.nd rfl (Or.inl rfl) (cu (pv 1) T.k_Reader.cl (fI T) hr))
  (ah (aq (aB (Ey T) hr (ab (pv 0) (ab (pv 2) (ab (pv 3) af))))))),?_⟩
 obtain⟨dx,_,_,h0⟩:=fU rd;refine⟨_,rfl,r,dx,_,rfl,h0,rfl,F,r,_,n,_,rfl,rd,r1,f0,λun F1 H1 e1 rd1 hn=> ?_⟩;have ra1:=ra.rd rd e1;obtain⟨dx,_,_,h0⟩:=fU rd1;refine⟨_,rfl,r,dx,_,rfl,h0,rfl,F1,r,_,d,_,rfl,rd1,r2,e1.fh,λud F2 H2 e2 rd2 hd=> ?_⟩;have ra2:=ra1.rd rd1 e2;refine⟨_,rfl,_,rfl,_,rfl,F2,R,df,da,st,_,_,x,y,rfl,ra2,nG (hn.mono e2.ff) hx,nG hd hy,e2.fh,λu F3 H3 e3 ra3 ha=> ?_⟩;exact k u F3 H3 ((e1.trans e2).r3.trans e3.d3) ra3 (rd2.rm ra2 e3) ha
end
section
variable{P:Program}{w:World}{K:PySem.W.Frag}{mg:Str->Option Value}{base:Heap}{C:Cs}
abbrev Il:List Str:=["room","reader","tool","name","arguments","inputs","outputs"]
theorem qT:aC Il ["room","reader"] (ao im):=⟨rfl,rfl,rfl,by decide+kernel,rfl,by decide+kernel,by decide+kernel⟩
def GR(K:PySem.W.Frag)(C:Cs):Sp:=λvs H Q _=>∃(F:Hp) (R df da r:Addr) (s:Vabldi.State) (z:Int) (rs n a i o t:List Int) (x:ai),vs=[.ref R,.ref r]/\aQ C F H R df da s/\fS K C F H r (z::rs)/\PyFlat.rows 4 rs=some ([n,a,i,o],t)/\VabldiNeutral.text n=some x/\(a.length<=1000000/\i.length<=1000000/\o.length<=1000000)/\aH F H/\
 ip K C F H Q R df da r t (Vabldi.actionCall s z x a i o)
theorem GS(T:Tx K mg C):Ok P w K mg base "answer_action" ["room","reader"] 6 (GR K C):=by
 refine T.d_answer_action.ok qT (λvs H Q E h=>by obtain⟨_,_,_,_,_,_,_,_,_,_,_,_,_,_,e,_⟩:=h;rw[e];rfl) (λf cdv A outer s H vs Q E hr h=> ?_);obtain⟨F,R,df,da,r,st,z,rs,n,a,i,o,t,x,rfl,ra,rd,hrows,hx,hl,f0,k⟩:=h;obtain⟨s1,r1,hrows⟩:=de hrows;obtain⟨s2,r2,hrows⟩:=de hrows;obtain⟨s3,r3,hrows⟩:=de hrows;obtain⟨s4,r4,hrows⟩:=de hrows;obtain⟨_,rfl⟩:=gB hrows
 refine⟨_,ae (aF (i:=2) qT.nd rfl (Or.inl rfl) (cu (pv 1) T.k_Reader.cl (A7 T) hr))
  (ae (aF (i:=3) qT.nd rfl (Or.inl rfl) (cu (pv 1) T.k_Reader.cl (fI T) hr))
  (ae (aF (i:=4) qT.nd rfl (Or.inl rfl) (cu (pv 1) T.k_Reader.cl (fI T) hr))
  (ae (aF (i:=5) qT.nd rfl (Or.inl rfl) (cu (pv 1) T.k_Reader.cl (fI T) hr))
  (ae (aF (i:=6) qT.nd rfl (Or.inl rfl) (cu (pv 1) T.k_Reader.cl (fI T) hr))
  (ah (aq (aB (GJ T) hr (ab (pv 0) (ab (pv 2) (ab (pv 3) (ab (pv 4) (ab (pv 5) (ab (pv 6) af))))))))))))),?_⟩
 obtain⟨dx,_,_,h0⟩:=fU rd;refine⟨_,rfl,r,dx,_,rfl,h0,rfl,F,r,z,rs,rfl,rd,f0,λF0 H0 e0 rd0=> ?_⟩;have ra0:=ra.rd rd e0;obtain⟨dx,_,_,h0⟩:=fU rd0;refine⟨_,rfl,r,dx,_,rfl,h0,rfl,F0,r,_,n,_,rfl,rd0,r1,e0.fh,λun F1 H1 e1 rd1 hn=> ?_⟩;have ra1:=ra0.rd rd0 e1;obtain⟨dx,_,_,h0⟩:=fU rd1;refine⟨_,rfl,r,dx,_,rfl,h0,rfl,F1,r,_,a,_,rfl,rd1,r2,e1.fh,λua F2 H2 e2 rd2 ha=> ?_⟩;have ra2:=ra1.rd rd1 e2;obtain⟨dx,_,_,h0⟩:=fU rd2;refine⟨_,rfl,r,dx,_,rfl,h0,rfl,F2,r,_,i,_,rfl,rd2,r3,e2.fh,λui F3 H3 e3 rd3 hi=> ?_⟩;have ra3:=ra2.rd rd2 e3;obtain⟨dx,_,_,h0⟩:=fU rd3;refine⟨_,rfl,r,dx,_,rfl,h0,rfl,F3,r,_,o,_,rfl,rd3,r4,e3.fh,λuo F4 H4 e4 rd4 ho=> ?_⟩;have ra4:=ra3.rd rd3 e4;refine⟨_,rfl,_,rfl,_,rfl,_,rfl,_,rfl,_,rfl,F4,R,df,da,st,z,_,_,_,_,x,a,i,o,rfl,ra4,nG (((hn.mono e2.ff).mono e3.ff).mono e4.ff) hx,⟨(ha.mono e3.ff).mono e4.ff,hi.mono e4.ff,ho⟩,hl,e4.fh,λu F5 H5 e5 ra5 hans=> ?_⟩;exact k u F5 H5 (((((e0.trans e1).trans e2).trans e3).trans e4).r3.trans e5.d3) ra5 (rd4.rm ra4 e5) hans
end
theorem xq{sh:Int->Option (Nat×Nat)}{p:Int}{r t:List Int}{c:List (List Int)}(h:PyFlat.call sh (p::r)=some (c,t)):∃nn kk xs,sh p=some (nn,kk)/\nn<=r.length/\PyFlat.rows kk (r.drop nn)=some (xs,t)/\c=(p::r.take nn)::xs:=by
 rw[PyFlat.call]at h;cases q:sh p with
 |none=>rw[q]at h;cases h
 |some y=>
  obtain⟨nn,kk⟩:=y;rw[q]at h;dsimp only at h;by_cases c1:r.length<nn
  ·rw[if_pos c1]at h;cases h
  ·rw[if_neg c1]at h;cases q2:PyFlat.rows kk (r.drop nn)with
   |none=>rw[q2]at h;cases h
   |some z=>
    obtain⟨xs,t'⟩:=z;rw[q2]at h;dsimp only at h;injection h with h
    injection h with h1 h2
    exact⟨nn,kk,xs,rfl,by omega,by rw[h2]at q2;exact q2,h1.symm⟩
theorem uF{sh:Int->Option (Nat×Nat)}{t:List Int}{c:List (List Int)}:PyFlat.call sh []≠some (c,t):=λh=>by cases h
theorem uG{p:Int}{nn kk:Nat}(h:PyVabldi.shape p=some (nn,kk)):(p=0/\nn=0/\kk=2)\/(p=1/\nn=1/\kk=4)\/((p=2\/p=3\/p=4\/p=5\/p=6\/p=7\/p=8\/p=10)/\nn=0/\kk=1)\/((p=9\/p=11)/\nn=0/\kk=0):=by
 unfold PyVabldi.shape at h;by_cases c0:p=0
 ·rw[if_pos c0]at h;cases h;exact .inl ⟨c0,rfl,rfl⟩
 rw[if_neg c0]at h;by_cases c1:p=1
 ·rw[if_pos c1]at h;cases h;exact .inr (.inl ⟨c1,rfl,rfl⟩)
 rw[if_neg c1]at h;by_cases c2:p=2
 ·rw[if_pos c2]at h;cases h;exact .inr (.inr (.inl ⟨by rw[c2];decide,rfl,rfl⟩))
 rw[if_neg c2]at h;by_cases c3:p=3
 ·rw[if_pos c3]at h;cases h;exact .inr (.inr (.inl ⟨by rw[c3];decide,rfl,rfl⟩))
 rw[if_neg c3]at h;by_cases c4:p=4
 ·rw[if_pos c4]at h;cases h;exact .inr (.inr (.inl ⟨by rw[c4];decide,rfl,rfl⟩))
 rw[if_neg c4]at h;by_cases c5:p=5
 ·rw[if_pos c5]at h;cases h;exact .inr (.inr (.inl ⟨by rw[c5];decide,rfl,rfl⟩))
 rw[if_neg c5]at h;by_cases c6:p=6
 ·rw[if_pos c6]at h;cases h;exact .inr (.inr (.inl ⟨by rw[c6];decide,rfl,rfl⟩))
 rw[if_neg c6]at h;by_cases c7:p=7
 ·rw[if_pos c7]at h;cases h;exact .inr (.inr (.inl ⟨by rw[c7];decide,rfl,rfl⟩))
 rw[if_neg c7]at h;by_cases c8:p=8
 ·rw[if_pos c8]at h;cases h;exact .inr (.inr (.inl ⟨by rw[c8];decide,rfl,rfl⟩))
 rw[if_neg c8]at h;by_cases c9:p=9
 ·rw[if_pos c9]at h;cases h;exact .inr (.inr (.inr ⟨by rw[c9];decide,rfl,rfl⟩))
 rw[if_neg c9]at h;by_cases c10:p=10
 ·rw[if_pos c10]at h;cases h;exact .inr (.inr (.inl ⟨by rw[c10];decide,rfl,rfl⟩))
 rw[if_neg c10]at h;by_cases c11:p=11
 ·rw[if_pos c11]at h;cases h;exact .inr (.inr (.inr ⟨by rw[c11];decide,rfl,rfl⟩))
 rw[if_neg c11]at h;cases h
theorem Df{p:Int}{q:Int}{a b:Prop}(h:p≠q)(hb:b):if decide (V.int p=V.int q)=true then a else b:=by
 rw[if_neg]
 ·exact hb
 ·intro e;have :=of_decide_eq_true e;injection this with this
  exact h this
theorem d6{p:Int}{a b:Prop}(ha:a):if decide (V.int p=V.int p)=true then a else b:=by
 rw[if_pos]
 ·exact ha
 ·exact decide_eq_true rfl
section
variable{P:Program}{w:World}{K:PySem.W.Frag}{mg:Str->Option Value}{base:Heap}{C:Cs}
theorem dg{g:Vabldi.State->ai->Vabldi.State×Vabldi.Answer}{F H F1 H1:Hp}{Q:VK}{E:XK}{R df da r:Addr}{s:Vabldi.State}{rs n t:List Int}{x:ai}(ra:aQ C F1 H1 R df da s)(rd:fS K C F1 H1 r rs)(hrow:PyFlat.row rs=some (n,t))(hx:VabldiNeutral.text n=some x)
  (e:bc [r] F H F1 H1)(k:ip K C F H Q R df da r t (g s x)):De K C [.ref r] H1 (λu H2=>dG C g [.ref R,u] H2 Q E0) E:=
 ⟨F1,r,rs,n,t,rfl,rd,hrow,e.fh,λu F2 H2 e2 rd2 hn=>⟨F2,R,df,da,s,u,x,rfl,ra.rd rd e2,nG hn hx,e2.fh,λv F3 H3 e3 ra3 ha=>k v F3 H3 ((e.trans e2).r3.trans e3.d3) ra3 (rd2.rm (ra.rd rd e2) e3) ha⟩⟩
end
end Cr
namespace Cr
local macro_rules | `(tactic| walk_at "nxt") => `(tactic| refine ⟨_, rfl, rfl, _, rfl, Df (by decide) ?_⟩)
open PySem PySem.Spec PyProof.Rows L2
section
variable{P:Program}{w:World}{K:PySem.W.Frag}{mg:Str->Option Value}{base:Heap}{C:Cs}
abbrev Im:List Str:=["room","reader","call"]
theorem Dg:aC Im ["room","reader"] (ao jH):=⟨rfl,rfl,rfl,by decide+kernel,rfl,by decide+kernel,by decide+kernel⟩
def GT(K:PySem.W.Frag)(C:Cs):Sp:=λvs H Q _=>∃(F:Hp) (R df da r:Addr) (s:Vabldi.State) (rs t:List Int) (c:List (List Int)) (kc:Vabldi.Call),vs=[.ref R,.ref r]/\aQ C F H R df da s/\fS K C F H r rs/\PyFlat.call PyVabldi.shape rs=some (c,t)/\VabldiNeutral.callOf c=some kc/\(∀x∈c,x.length<=1000000)/\aH F H/\
 ip K C F H Q R df da r t (Vabldi.step s kc)
theorem GU(T:Tx K mg C):Ok P w K mg base "answer_call" ["room","reader"] 10 (GT K C):=by
 refine T.d_answer_call.ok Dg (λvs H Q E h=>by obtain⟨_,_,_,_,_,_,_,_,_,_,e,_⟩:=h;rw[e];rfl) (λf cdv A outer s H vs Q E hr h=> ?_);obtain⟨F,R,df,da,r,st,rs,t,c,kc,rfl,ra,rd,hcall,hkc,hlen,f0,k⟩:=h
 refine⟨_,ae (aF (i:=2) Dg.nd rfl (Or.inl rfl) (cu (pv 1) T.k_Reader.cl (A7 T) hr))
  (ae (aN (aK eZ (pv 2) (aV T.g_PUT) (aP _)) (ah (aq (aB (GQ T) hr (ab (pv 0) (ab (pv 1) af))))) aE)
  (ae (aN (aK eZ (pv 2) (aV T.g_ACTION) (aP _)) (ah (aq (aB (GS T) hr (ab (pv 0) (ab (pv 1) af))))) aE)
  (ae (aN (aK eZ (pv 2) (aV T.g_RUN) (aP _)) (ah (aq (aB (EG T) hr (ab (pv 0) (ab (cu (pv 1) T.k_Reader.cl (fI T) hr) af))))) aE)
  (ae (aN (aK eZ (pv 2) (aV T.g_WOULD) (aP _)) (ah (aq (aB (AA T) hr (ab (pv 0) (ab (cu (pv 1) T.k_Reader.cl (fI T) hr) af))))) aE)
  (ae (aN (aK eZ (pv 2) (aV T.g_GET) (aP _)) (ah (aq (aB (EB T) hr (ab (pv 0) (ab (cu (pv 1) T.k_Reader.cl (fI T) hr) af))))) aE)
  (ae (aN (aK eZ (pv 2) (aV T.g_MAKER) (aP _)) (ah (aq (aB (Aw T) hr (ab (pv 0) (ab (cu (pv 1) T.k_Reader.cl (fI T) hr) af))))) aE)
  (ae (aN (aK eZ (pv 2) (aV T.g_READS) (aP _)) (ah (aq (aB (Gg T) hr (ab (pv 0) (ab (cu (pv 1) T.k_Reader.cl (fI T) hr) af))))) aE)
  (ae (aN (aK eZ (pv 2) (aV T.g_VAIN) (aP _)) (ah (aq (aB (Cw T) hr (ab (pv 0) (ab (cu (pv 1) T.k_Reader.cl (fI T) hr) af))))) aE)
  (ae (aN (aK eZ (pv 2) (aV T.g_FORGET) (aP _)) (ah (aq (aB (yu T) hr (ab (pv 0) (ab (cu (pv 1) T.k_Reader.cl (fI T) hr) af))))) aE)
  (ae (aN (aK eZ (pv 2) (aV T.g_CLASHES) (aP _)) (ah (aq (aB (Gu T) hr (ab (pv 0) af)))) aE)
  (ae (aN (aK eZ (pv 2) (aV T.g_KEY) (aP _)) (ah (aq (aB (EI T) hr (ab (pv 0) (ab (cu (pv 1) T.k_Reader.cl (fI T) hr) af))))) aE)
  (ae (aN (aK eZ (pv 2) (aV T.g_FILES) (aP _)) (ah (aq (aB (Gq T) hr (ab (pv 0) af)))) aE)
  xz)))))))))))),?_⟩
 cases rs with
 |nil=>exact absurd hcall uF
 |cons p br=>
 obtain⟨nn,kk,xs,hsh,hnn,hrows,rfl⟩:=xq hcall;obtain⟨dx,_,_,h0⟩:=fU rd;refine⟨_,rfl,r,dx,_,rfl,h0,rfl,F,r,p,br,rfl,rd,f0,λF1 H1 e1 rd1=> ?_⟩;have ra1:=ra.rd rd e1;obtain⟨dx,_,_,h0⟩:=fU rd1;have nx:∀{q:Int} {a b:Prop},p≠q->b->if decide (V.int p=V.int q)=true then a else b:=λh hb=>Df h hb
 rcases uG hsh with⟨rfl,rfl,rfl⟩|⟨rfl,rfl,rfl⟩|⟨hp,rfl,rfl⟩|⟨hp,rfl,rfl⟩
 ·match xs,dz hrows with
  |[n,d],_=>
   have hkc:(VabldiNeutral.text n).bind (λx=>(VabldiNeutral.text d).map (.put x))=some kc:=hkc;cases hn:VabldiNeutral.text n with
   |none=>rw[hn]at hkc;cases hkc
   |some x=>
    rw[hn]at hkc;replace hkc:(VabldiNeutral.text d).map (.put x)=some kc:=hkc;cases hd:VabldiNeutral.text d with
    |none=>rw[hd]at hkc;cases hkc
    |some y=>
     rw[hd]at hkc;obtain rfl:=Option.some.inj hkc;refine⟨_,rfl,rfl,_,rfl,d6 ⟨_,rfl,_,rfl,F1,R,df,da,r,st,br,n,d,t,x,y,rfl,ra1,rd1,hrows,hn,hd,e1.fh,λu F2 H2 e2 ra2 rd2 ha=>k u F2 H2 (e1.r3.trans e2) ra2 rd2 ha⟩⟩
 ·match br,hnn with
  |z::br,_=>
   match xs,dz hrows with
   |[n,a,i,o],_=>
    have hrows:PyFlat.rows 4 br=some ([n,a,i,o],t):=hrows;have hkc:(VabldiNeutral.text n).map (λx=>Vabldi.Call.action z x a i o)=some kc:=hkc;cases hn:VabldiNeutral.text n with
    |none=>rw[hn]at hkc;cases hkc
    |some x=>
     rw[hn]at hkc;have hkc:Vabldi.Call.action z x a i o=kc:=Option.some.inj hkc;subst hkc;walk_at "nxt";refine⟨_,rfl,rfl,_,rfl,d6 ⟨_,rfl,_,rfl,F1,R,df,da,r,st,z,br,n,a,i,o,t,x,rfl,ra1,rd1,hrows,hn,⟨hlen a (by simp),hlen i (by simp),hlen o (by simp)⟩,e1.fh,λu F2 H2 e2 ra2 rd2 ha=>k u F2 H2 (e1.r3.trans e2) ra2 rd2 ha⟩⟩
 ·match xs,dz hrows with
  |[n],_=>
   have hrows:PyFlat.rows 1 br=some ([n],t):=hrows;obtain⟨s1,hrow,hrows⟩:=de hrows;obtain⟨_,rfl⟩:=gB hrows;cases hn:VabldiNeutral.text n with
   |none=>
    exfalso;rcases hp with rfl|rfl|rfl|rfl|rfl|rfl|rfl|rfl<;>(replace hkc:Option.map _ (VabldiNeutral.text n)=_:=hkc;rw[hn]at hkc;cases hkc)
   |some x=>
    rcases hp with rfl|rfl|rfl|rfl|rfl|rfl|rfl|rfl
    ·have hkc:(VabldiNeutral.text n).map Vabldi.Call.run=some kc:=hkc;rw[hn]at hkc;have hkc:Vabldi.Call.run x=kc:=Option.some.inj hkc;subst hkc;walk_at "nxt";walk_at "nxt";exact⟨_,rfl,rfl,_,rfl,d6 ⟨_,rfl,_,rfl,r,dx,_,rfl,h0,rfl,dg (E:=E0) ra1 rd1 hrow hn e1 k⟩⟩
    ·have hkc:(VabldiNeutral.text n).map Vabldi.Call.would=some kc:=hkc;rw[hn]at hkc;have hkc:Vabldi.Call.would x=kc:=Option.some.inj hkc;subst hkc;walk_at "nxt";walk_at "nxt";walk_at "nxt";exact⟨_,rfl,rfl,_,rfl,d6 ⟨_,rfl,_,rfl,r,dx,_,rfl,h0,rfl,dg (E:=E0) ra1 rd1 hrow hn e1 k⟩⟩
    ·have hkc:(VabldiNeutral.text n).map Vabldi.Call.get=some kc:=hkc;rw[hn]at hkc;have hkc:Vabldi.Call.get x=kc:=Option.some.inj hkc;subst hkc;walk_at "nxt";walk_at "nxt";walk_at "nxt";walk_at "nxt";exact⟨_,rfl,rfl,_,rfl,d6 ⟨_,rfl,_,rfl,r,dx,_,rfl,h0,rfl,dg (E:=E0) ra1 rd1 hrow hn e1 k⟩⟩
    ·have hkc:(VabldiNeutral.text n).map Vabldi.Call.maker=some kc:=hkc;rw[hn]at hkc;have hkc:Vabldi.Call.maker x=kc:=Option.some.inj hkc;subst hkc;walk_at "nxt";walk_at "nxt";walk_at "nxt";walk_at "nxt";walk_at "nxt";exact⟨_,rfl,rfl,_,rfl,d6 ⟨_,rfl,_,rfl,r,dx,_,rfl,h0,rfl,dg (E:=E0) ra1 rd1 hrow hn e1 k⟩⟩
    ·have hkc:(VabldiNeutral.text n).map Vabldi.Call.reads=some kc:=hkc;rw[hn]at hkc;have hkc:Vabldi.Call.reads x=kc:=Option.some.inj hkc;subst hkc;walk_at "nxt";walk_at "nxt";walk_at "nxt";walk_at "nxt";walk_at "nxt";walk_at "nxt";exact⟨_,rfl,rfl,_,rfl,d6 ⟨_,rfl,_,rfl,r,dx,_,rfl,h0,rfl,dg (E:=E0) ra1 rd1 hrow hn e1 k⟩⟩
    ·have hkc:(VabldiNeutral.text n).map Vabldi.Call.vain=some kc:=hkc;rw[hn]at hkc;have hkc:Vabldi.Call.vain x=kc:=Option.some.inj hkc;subst hkc;walk_at "nxt";walk_at "nxt";walk_at "nxt";walk_at "nxt";walk_at "nxt";walk_at "nxt";walk_at "nxt";exact⟨_,rfl,rfl,_,rfl,d6 ⟨_,rfl,_,rfl,r,dx,_,rfl,h0,rfl,dg (E:=E0) ra1 rd1 hrow hn e1 k⟩⟩
    ·have hkc:(VabldiNeutral.text n).map Vabldi.Call.forget=some kc:=hkc;rw[hn]at hkc;have hkc:Vabldi.Call.forget x=kc:=Option.some.inj hkc;subst hkc;walk_at "nxt";walk_at "nxt";walk_at "nxt";walk_at "nxt";walk_at "nxt";walk_at "nxt";walk_at "nxt";walk_at "nxt";exact⟨_,rfl,rfl,_,rfl,d6 ⟨_,rfl,_,rfl,r,dx,_,rfl,h0,rfl,dg (E:=E0) ra1 rd1 hrow hn e1 k⟩⟩
    ·have hkc:(VabldiNeutral.text n).map Vabldi.Call.key=some kc:=hkc;rw[hn]at hkc;have hkc:Vabldi.Call.key x=kc:=Option.some.inj hkc;subst hkc;walk_at "nxt";walk_at "nxt";walk_at "nxt";walk_at "nxt";walk_at "nxt";walk_at "nxt";walk_at "nxt";walk_at "nxt";walk_at "nxt";walk_at "nxt";exact⟨_,rfl,rfl,_,rfl,d6 ⟨_,rfl,_,rfl,r,dx,_,rfl,h0,rfl,dg (E:=E0) ra1 rd1 hrow hn e1 k⟩⟩
 ·match xs,dz hrows with
  |[],_=>
   have hrows:PyFlat.rows 0 br=some ([],t):=hrows;obtain⟨_,rfl⟩:=gB hrows;rcases hp with rfl|rfl
   ·have hkc:Vabldi.Call.clashes=kc:=Option.some.inj hkc;subst hkc;walk_at "nxt";walk_at "nxt";walk_at "nxt";walk_at "nxt";walk_at "nxt";walk_at "nxt";walk_at "nxt";walk_at "nxt";walk_at "nxt";exact⟨_,rfl,rfl,_,rfl,d6 ⟨_,rfl,F1,R,df,da,st,rfl,ra1,e1.fh,λu F2 H2 e2 ra2 ha=>k u F2 H2 (e1.r3.trans e2.d3) ra2 (rd1.rm ra1 e2) ha⟩⟩
   ·have hkc:Vabldi.Call.files=kc:=Option.some.inj hkc;subst hkc;walk_at "nxt";walk_at "nxt";walk_at "nxt";walk_at "nxt";walk_at "nxt";walk_at "nxt";walk_at "nxt";walk_at "nxt";walk_at "nxt";walk_at "nxt";walk_at "nxt";exact⟨_,rfl,rfl,_,rfl,d6 ⟨_,rfl,F1,R,df,da,st,rfl,ra1,e1.fh,λu F2 H2 e2 ra2 ha=>k u F2 H2 (e1.r3.trans e2.d3) ra2 (rd1.rm ra1 e2) ha⟩⟩
end
end Cr
namespace Cr
open PySem PySem.Spec PyProof.Rows L2
theorem uH{rs t:List Int}{c:List (List Int)}(h:PyFlat.call PyVabldi.shape rs=some (c,t)):(∃n d,c=[[0],n,d])\/(∃z n a i o,c=[[1,z],n,a,i,o])\/(∃p n,(p=2\/p=3\/p=4\/p=5\/p=6\/p=7\/p=8\/p=10)/\c=[[p],n])\/c=[[9]]\/c=[[11]]:=by
 cases rs with
 |nil=>exact absurd h uF
 |cons p br=>
  obtain⟨nn,kk,xs,hsh,hnn,hrows,rfl⟩:=xq h;rcases uG hsh with⟨rfl,rfl,rfl⟩|⟨rfl,rfl,rfl⟩|⟨hp,rfl,rfl⟩|⟨hp,rfl,rfl⟩
  ·match xs,dz hrows with
   |[n,d],_=>exact .inl ⟨n,d,rfl⟩
  ·match br,hnn with
   |z::br,_=>
    match xs,dz hrows with
    |[n,a,i,o],_=>exact .inr (.inl ⟨z,n,a,i,o,rfl⟩)
  ·match xs,dz hrows with
   |[n],_=>exact .inr (.inr (.inl ⟨p,n,hp,rfl⟩))
  ·match xs,dz hrows with
   |[],_=>rcases hp with rfl|rfl;exact .inr (.inr (.inr (.inl rfl)));exact .inr (.inr (.inr (.inr rfl)))
theorem CN{rs t:List Int}{c:List (List Int)}(h:PyFlat.call PyVabldi.shape rs=some (c,t)):PyVabldi.whole c=c:=by
 rcases uH h with⟨n,d,rfl⟩|⟨z,n,a,i,o,rfl⟩|⟨p,n,hp,rfl⟩|rfl|rfl
 ·rfl
 ·rfl
 ·rcases hp with rfl|rfl|rfl|rfl|rfl|rfl|rfl|rfl<;>rfl
 ·rfl
 ·rfl
theorem ju{l:List Int}(h:(l.all λz=>VabldiNeutral.natural z 8)=true):∃x,VabldiNeutral.text l=some x:=by
 refine⟨_,if_pos ?_⟩;unfold NeutralIO.bytes;rw[List.all_eq_true]at h⊢;intro z hz;have :=h z hz;unfold VabldiNeutral.natural at this;simp only[Bool.and_eq_true,decide_eq_true_eq]at this⊢;have h8:(2:Int) ^ 8=256:=by decide
 rw[h8]at this;omega
theorem yK{n:List Int}{p:Int}(h:((n.all λz=>VabldiNeutral.natural z 8)&&decide (n.length<=10000))=true):(∃x,VabldiNeutral.text n=some x)/\∀z∈[[p],n],z.length<=1000000:=by
 simp only[Bool.and_eq_true,decide_eq_true_eq]at h;refine⟨ju h.1,λz hz=> ?_⟩;simp only[List.mem_cons,List.not_mem_nil,or_false]at hz;rcases hz with rfl|rfl
 ·simp
 ·omega
theorem ww{rs t:List Int}{c:List (List Int)}(hc:PyFlat.call PyVabldi.shape rs=some (c,t))(h:VabldiNeutral.asked1 c=true):(∃kc,VabldiNeutral.callOf c=some kc)/\∀x∈c,x.length<=1000000:=by
 rcases uH hc with⟨n,d,rfl⟩|⟨z,n,a,i,o,rfl⟩|⟨p,n,hp,rfl⟩|rfl|rfl
 ·have h:((_&&decide _)&&(_&&decide _))=true:=h;simp only[Bool.and_eq_true,decide_eq_true_eq]at h;obtain⟨x,hx⟩:=ju h.1.1;obtain⟨y,hy⟩:=ju h.2.1;refine⟨⟨_,by show(VabldiNeutral.text _).bind (λx=>(VabldiNeutral.text _).map (Vabldi.Call.put x))=_;rw[hx];show(VabldiNeutral.text _).map _=_;rw[hy];rfl⟩,λz hz=> ?_⟩;simp only[List.mem_cons,List.not_mem_nil,or_false]at hz;rcases hz with rfl|rfl|rfl
  ·simp
  ·omega
  ·omega
 ·have h:(_&&((_&&decide _)&&_))=true:=h;simp only[Bool.and_eq_true,decide_eq_true_eq]at h;obtain⟨x,hx⟩:=ju h.2.1.1;refine⟨⟨_,by show Option.map _ (VabldiNeutral.text _)=_;rw[hx];rfl⟩,λz hz=> ?_⟩;simp only[List.mem_cons,List.not_mem_nil,or_false]at hz;rcases hz with rfl|rfl|rfl|rfl|rfl
  ·simp
  all_goals omega
 ·have h:((n.all λz=>VabldiNeutral.natural z 8)&&decide (n.length<=10000))=true:=by rcases hp with rfl|rfl|rfl|rfl|rfl|rfl|rfl|rfl<;>exact h
  obtain⟨⟨x,hx⟩,hl⟩:=yK (p:=p) h;refine⟨?_,hl⟩;rcases hp with rfl|rfl|rfl|rfl|rfl|rfl|rfl|rfl<;>exact⟨_,(congrArg (Option.map _) hx:Option.map _ (VabldiNeutral.text n)=_)⟩
 ·exact⟨⟨_,rfl⟩,by simp⟩
 ·exact⟨⟨_,rfl⟩,by simp⟩
theorem pD{sh:Int->Option (Nat×Nat)}{f:Nat}{rs:List Int}{c:List (List Int)}{cs:List (List (List Int))}(h:PyFlat.calls sh f rs=some (c::cs)):∃f' t,PyFlat.call sh rs=some (c,t)/\PyFlat.calls sh f' t=some cs/\rs≠[]:=by
 cases rs with
 |nil=>cases f<;>(rw[PyFlat.calls]at h;cases h)
 |cons p r=>
  cases f with
  |zero=>rw[PyFlat.calls]at h;cases h
  |succ f=>
   rw[PyFlat.calls]at h;cases q:PyFlat.call sh (p::r)with
   |none=>rw[q]at h;cases h
   |some y=>
    obtain⟨d,t⟩:=y;rw[q]at h;dsimp only at h;cases q2:PyFlat.calls sh f t with
    |none=>rw[q2]at h;cases h
    |some ds=>
     rw[q2]at h;dsimp only at h;injection h with h
     injection h with h1 h2
     subst h1 h2;exact⟨f,t,rfl,q2,by simp⟩
theorem qU{sh:Int->Option (Nat×Nat)}:∀{cs:List (List (List Int))} {f:Nat} {rs:List Int},PyFlat.calls sh f rs=some cs->∀c∈cs,∃rs,∃t,PyFlat.call sh rs=some (c,t)
 |[],_,_,_,_,h=>nomatch h
 |d::cs,_,rs,h,c,hc=>by
  obtain⟨f',t,h1,h2,_⟩:=pD h;cases hc with
  |head=>exact⟨rs,t,h1⟩
  |tail _ h3=>exact qU h2 c h3
theorem yL{sh:Int->Option (Nat×Nat)}{f:Nat}{rs:List Int}(h:PyFlat.calls sh f rs=some []):rs=[]:=by
 cases rs with
 |nil=>rfl
 |cons p r=>
  cases f with
  |zero=>rw[PyFlat.calls]at h;cases h
  |succ f=>
   rw[PyFlat.calls]at h;cases q:PyFlat.call sh (p::r)with
   |none=>rw[q]at h;cases h
   |some y=>
    rw[q]at h;dsimp only at h;cases q2:PyFlat.calls sh f y.2 with
    |none=>rw[q2]at h;cases h
    |some ds=>rw[q2]at h;cases h
theorem bc.fresh{S:List Addr}{F H F1 H1 F2 H2:Hp}(a:bo F H F1 H1)(b:bc S F1 H1 F2 H2)(h:∀x∈S,H x=none):bo F H F2 H2:=
 ⟨a.f0,a.ff.trans b.ff,b.fh,λc u q=>b.hx c u (a.hh c u q) (λz=>by rw[h c z]at q;cases q),λc u q n=>b.sp c u (a.hh c u q) (a.sp c u q n)⟩
section
variable{P:Program}{w:World}{K:PySem.W.Frag}{mg:Str->Option Value}{base:Heap}{C:Cs}
abbrev GV:List Str:=["calls","room","reader","answered","answer"]
theorem uI:aC GV ["calls"] (ao gh):=⟨rfl,rfl,rfl,by decide+kernel,rfl,by decide+kernel,by decide+kernel⟩
def xt(K:PySem.W.Frag):Sp:=λvs H Q _=>∃(F:Hp) (a:Addr) (l:List Int),vs=[.ref a]/\aZ K F a (l.map V.int)/\PyVabldi.answers_asked l=true/\aH F H/\Rt F H Q λF1 u=>ZL F1 u (PyVabldi.answers l)
theorem wx:Ef Vabldi.start:=⟨λf hf=>(nomatch hf),List.Pairwise.nil,Nat.zero_le _,λf hf=>(nomatch hf),List.Pairwise.nil,Nat.zero_le _⟩
theorem CO(T:Tx K mg C):BG P w K mg base "answers" gh GV 11 (xt K):=by
 intro f cdv A outer s H vs Q E hr h;obtain⟨F,ln,l,rfl,hln,hask,f0,k⟩:=h
 have hdec:∃cs,PyFlat.calls PyVabldi.shape l.length l=some cs/\cs.length<=70/\(∀c∈cs,VabldiNeutral.asked1 c=true)/\PyVabldi.answers l=PyFlat.told (PyFlat.played VabldiNeutral.step VabldiNeutral.start cs):=by
  have hw:∀cs:List (List (List Int)),PyFlat.calls PyVabldi.shape l.length l=some cs->cs.map PyVabldi.whole=cs:=λcs hc=>by
   conv=>rhs;rw[<-List.map_id cs]
   exact List.map_congr_left λc hm=>let⟨_,_,h⟩:=qU hc c hm;CN h
  unfold PyVabldi.answers_asked at hask;unfold PyVabldi.answers;unfold PyVabldi.calls at hask⊢;cases q:PyFlat.calls PyVabldi.shape l.length l with
  |none=>rw[q]at hask;cases hask
  |some cs=>
   rw[q]at hask;dsimp only at hask⊢;rw[hw cs q]at hask⊢;unfold PyFlat.atMost VabldiNeutral.asked at hask;simp only[Bool.and_eq_true,decide_eq_true_eq]at hask;exact⟨cs,rfl,hask.1,λc hc=>List.all_eq_true.mp hask.2.1 c hc,rfl⟩
 obtain⟨cs0,hcs0,hl70,hasked,hans⟩:=hdec
 refine⟨_,ae (aF (i:=1) uI.nd rfl (Or.inl rfl) (DW T.k_Room (B1 T) hr))
  (ae (aF (i:=2) uI.nd rfl (Or.inl rfl) (og T.k_Reader (yf T) hr (ab (pv 0) af)))
  (ae (aF (i:=3) uI.nd rfl (Or.inl rfl) (aL af))
  (ae (kr PassesOwn.never (bR (bI (cu (pv 2) T.k_Reader.cl (GN T) hr)))
   (ae (aF (i:=4) uI.nd rfl (Or.inl rfl) (aB (GU T) hr (ab (pv 1) (ab (pv 2) af))))
   (ae (cD (pv 3) (bp T.b_len (pv 4)))
   (ah (eC (pv 3) (pv 4))))))
  (ah (aq (pv 3)))))),?_⟩
 refine λR dR nR ndR neR=>⟨R,dR,rfl,aa,λdf da hdf hda nda ndf ndaR=> ?_⟩
 have n1:df≠dR:=by rintro rfl;rw[aj (by exact ndf),aa]at hdf;cases hdf
 have n2:da≠dR:=by rintro rfl;rw[aj (by exact ndaR),aa]at hda;cases hda
 rw[i3 (a:=R) (b:=df) ndf.symm,i3 (a:=R) (b:=da) ndaR.symm,bN];have hdf0:aJ H dR (.own R) df=none:=by rw[aj ndf]at hdf;exact hdf
 have hda0:aJ (aJ H dR (.own R)) df (.dT []) da=none:=by rw[aj ndaR]at hda;rw[aj nda.symm];exact hda
 have x1:bo F H F (aJ (aJ (aJ H dR (.own R)) df (.dT [])) da (.dT [])):=(((bo.refl f0).new ndR).new hdf0).new hda0;have hR0:aJ (aJ (aJ H dR (.own R)) df (.dT [])) da (.dT []) R=none:=by rw[aj ndaR.symm,aj ndf.symm,aj neR.symm];exact nR
 have x2:=x1.newF (o:= .ins C.Room dR [("files",.ref df),("actions",.ref da)]) hR0;have hfd:F df=none:=f0.free (by rw[aj n1]at hdf0;exact hdf0);have hfa:F da=none:=f0.free (by rw[aj nda.symm,aj n2]at hda0;exact hda0)
 have ra:aQ C (aJ F R (.ins C.Room dR [("files",.ref df),("actions",.ref da)])) (aJ (aJ (aJ (aJ H dR (.own R)) df (.dT [])) da (.dT [])) R (.ins C.Room dR [("files",.ref df),("actions",.ref da)])) R df da Vabldi.start:=
  {dx:=⟨dR,aa⟩,ff:=by rw[aj ndf];exact hfd,fa:=by rw[aj ndaR];exact hfa,ne:=nda
   fs:=⟨[],by rw[aj ndf,aj nda,aa],[],.nil,List.Perm.refl _⟩
   as:=⟨[],by rw[aj ndaR,aa],[],.nil,List.Perm.refl _⟩
   gd:=wx}
 generalize hF2:aJ F R (.ins C.Room dR [("files",.ref df),("actions",.ref da)])=F2 at x2 ra
 generalize hH2:aJ (aJ (aJ (aJ H dR (.own R)) df (.dT [])) da (.dT [])) R (.ins C.Room dR [("files",.ref df),("actions",.ref da)])=H2 at x2 ra⊢
 refine⟨rfl,_,rfl,λr dr nr ndr ner=>⟨r,dr,_,rfl,aa,?_⟩⟩;rw[bN];have x3:bo F H F2 (aJ (aJ H2 dr (.own r)) r (.ins C.Reader dr [("numbers",.ref ln),("place",.int 0)])):=(x2.new ndr).new (by rw[aj ner.symm];exact nr);have ra3:=ra.keep (((bo.refl x2.fh).new (o:= .own r) ndr).new (o:= .ins C.Reader dr [("numbers",.ref ln),("place",.int 0)]) (by rw[aj ner.symm];exact nr));have hln2:aZ K F2 ln (l.map V.int):=gA x2.ff hln;have rd3:fS K C F2 (aJ (aJ H2 dr (.own r)) r (.ins C.Reader dr [("numbers",.ref ln),("place",.int 0)])) r l:=⟨dr,ln,l,0,aa,x2.fh.free nr,hln2,Nat.zero_le _,by simp⟩;generalize hH3:aJ (aJ H2 dr (.own r)) r (.ins C.Reader dr [("numbers",.ref ln),("place",.int 0)])=H3 at x3 ra3 rd3⊢;refine⟨rfl,Nat.zero_le _,λL hL=> ?_⟩;have x4:bo F H F2 (aJ H3 L (.lst [])):=x3.new hL;have y4:bo F2 H3 F2 (aJ H3 L (.lst [])):=(bo.refl x3.fh).new hL;have hHr:H r=none:=x2.hh.free nr;have hHL:H L=none:=x3.hh.free hL;have hHdf:H df=none:=by rw[aj n1]at hdf0;exact hdf0
 have hHda:H da=none:=by rw[aj nda.symm,aj n2]at hda0;exact hda0
 have hfree:∀x∈[df,da,r,L],H x=none:=by
  intro x hx;simp only[List.mem_cons,List.not_mem_nil,or_false]at hx;rcases hx with rfl|rfl|rfl|rfl<;>assumption
 refine zZ (S:=[df,da,r,L]) (F0:=F2) (H0:=aJ H3 L (.lst [])) (F:=F2) (λm σ1 F1 H1=>∃(b:Option V) (st:Vabldi.State) (rs:List Int) (cs:List (List (List Int))) (fu:Nat) (acc:List Int),σ1=[some (.ref ln),some (.ref R),some (.ref r),some (.ref L),b]/\m=cs.length/\cs.length<=70/\
  aQ C F1 H1 R df da st/\fS K C F1 H1 r rs/\PyFlat.calls PyVabldi.shape fu rs=some cs/\(∀c∈cs,VabldiNeutral.asked1 c=true)/\H1 L=some (.lst (acc.map V.int))/\F1 L=none/\acc.length<=50001*(70-cs.length)/\
  acc++PyFlat.told (PyFlat.played VabldiNeutral.step st cs)=PyVabldi.answers l) (bc.refl x4.fh) ⟨_,none,Vabldi.start,l,cs0,l.length,[],rfl,rfl,hl70,ra3.keep y4,rd3.keepX y4.x (S:=[]) (by simp),hcs0,hasked,aa,x3.fh.free hL,Nat.zero_le _,by rw[hans];rfl⟩ ?_
 rintro m σ1 F1 H1 e1 s1 ⟨b,st,rs,cs,fu,acc,rfl,rfl,h70,ra1,rd1,hcs,hak,hHL1,fL1,hacc,htold⟩
 obtain⟨dx,_,_,h0⟩:=fU rd1;refine⟨_,rfl,r,dx,_,rfl,h0,rfl,F1,r,rs,rfl,rd1,e1.fh,_,rfl,?_⟩;cases cs with
 |nil=>
  have hrs:=yL hcs;subst hrs;refine jw ⟨_,rfl,?_⟩;have y1:bo F H F1 H1:=bc.fresh x4 e1 hfree;have htold:acc++[]=PyVabldi.answers l:=htold;rw[List.append_nil]at htold;rw[<-htold]at k;exact k (.ref L) _ H1 (y1.frz hHL hHL1 fL1) ⟨L,rfl,aa⟩
 |cons c cs=>
  obtain⟨fu',t,hc,hcs',hne⟩:=pD hcs;obtain⟨⟨kc,hkc⟩,hlen⟩:=ww hc (hak c List.mem_cons_self);have hdec:decide (rs=[])=false:=decide_eq_false hne;rw[hdec];refine iq ⟨_,λ_ _ h=>h,?_⟩
  have nL:L∉[df,da,r]:=by
   intro z;simp only[List.mem_cons,List.not_mem_nil,or_false]at z;obtain⟨kf,h5,_⟩:=ra1.fs;obtain⟨ka,h6,_⟩:=ra1.as;rcases z with rfl|rfl|rfl
   ·rw[hHL1]at h5;cases h5
   ·rw[hHL1]at h6;cases h6
   ·rw[hHL1]at h0;cases h0
  refine⟨_,rfl,_,rfl,F1,R,df,da,r,st,rs,t,c,kc,rfl,ra1,rd1,hc,hkc,hlen,e1.fh,λu F5 H5 e5 ra5 rd5 hans5=> ?_⟩;obtain⟨⟨au,rfl,hau⟩,hal⟩:=hans5;have hL5:H5 L=some (.lst (acc.map V.int)):=e5.hx _ _ hHL1 nL;have fL5:F5 L=none:=e5.sp _ _ hHL1 fL1;have nau:au≠L:=by rintro rfl;rw[fL5]at hau;cases hau
  have hsz:(16000000:Nat)<sizeLine:=by decide
  rw[List.length_cons]at h70 hacc
  have hacc2:acc.length+50001<=50001*(70-cs.length):=by
   have :70-cs.length=(70-(cs.length+1))+1:=by omega
   rw[this,Nat.mul_add];omega
  have hacc3:50001*(70-cs.length)<=3500070:=by
   have :70-cs.length<=70:=by omega
   exact Nat.mul_le_mul_left 50001 this
  refine⟨_,rfl,L,_,rfl,hL5,_,rfl,au,_,rfl,e5.fh _ _ hau,_,hL5,?_,?_⟩
  ·rw[List.length_map];omega
  refine⟨_,rfl,L,_,rfl,aa,_,rfl,au,_,_,rfl,aa,.inl (by rw[aj nau];exact e5.fh _ _ hau),?_,?_⟩
  ·rw[List.length_append,List.length_map,List.length_map,List.length_singleton];omega
  rw[bN]
  have e15:bc [df,da,r,L] F1 H1 F5 H5:=e5.mono λx hx=>by
   simp only[List.mem_cons,List.not_mem_nil,or_false]at hx⊢;rcases hx with rfl|rfl|rfl<;>simp
  have y5:bo F5 H5 F5 H5:=bo.refl e5.fh
  have hstep:VabldiNeutral.step st c=((Vabldi.step st kc).1,VabldiNeutral.encode (Vabldi.step st kc).2):=by
   unfold VabldiNeutral.step;rw[hkc]
  have hlst:(acc.map V.int++[V.int ((VabldiNeutral.encode (Vabldi.step st kc).2).map V.int).length])++(VabldiNeutral.encode (Vabldi.step st kc).2).map V.int=(acc++((VabldiNeutral.encode (Vabldi.step st kc).2).length:Int)::VabldiNeutral.encode (Vabldi.step st kc).2).map V.int:=by
   rw[List.length_map,List.map_append,List.map_cons,List.append_assoc];rfl
  rw[hlst];have eL:bc [L] F5 H5 F5 (aJ H5 L (.lst ((acc++((VabldiNeutral.encode (Vabldi.step st kc).2).length:Int)::VabldiNeutral.encode (Vabldi.step st kc).2).map V.int))):=(bc.refl e5.fh).wr (.inl (by simp)) fL5
  have n3:df≠L/\da≠L/\r≠L:=by
   refine⟨?_,?_,?_⟩<;>(rintro rfl;simp at nL)
  refine⟨cs.length,Nat.lt_succ_self _,F5,(e1.trans e15).wr (.inl (by simp)) fL5,s1.trans e5.ff,some (.ref au),_,t,cs,fu',_,rfl,rfl,by omega,ra5.keepX eL (λz=>n3.1 (List.mem_singleton.mp z)) (λz=>n3.2.1 (List.mem_singleton.mp z)),rd5.keepX eL (λz=>n3.2.2 (List.mem_singleton.mp z)),hcs',λc hc=>hak c (List.mem_cons_of_mem _ hc),aa,fL5,?_,?_⟩
  ·rw[List.length_append,List.length_cons];omega
  ·rw[<-htold];show _=acc++PyFlat.told ((VabldiNeutral.step st c).2::PyFlat.played VabldiNeutral.step (VabldiNeutral.step st c).1 cs);rw[hstep];unfold PyFlat.told;rw[List.flatMap_cons,List.append_assoc]
end
section
variable{P:Program}{w:World}{K:PySem.W.Frag}{mg:Str->Option Value}{C:Cs}{x:Str}{st:Stmt}{ps:List Str}
def Io(K:PySem.W.Frag)(mg:Str->Option Value)(x:Str)(st:Stmt)(ps:List Str):Prop:=∃f fd,BC K x x st f fd/\mg x=some (.ref f)/\∀us:List Value,us.length=ps.length->bindArgs fd ⟨us,[]⟩=pure (ps.zip us)
theorem EX{h:Heap}{f:Addr}{oc:Value}{od an:Option Addr}{osl:Array (Option Value)}{kV doc pm cdv ct:Value}(X:K.In h)(G:h.Ns mainGlobals mg)(a:PySem.W.nsIn K mainGlobals x=some (some (.ref f)))
  (l:K.lookup f=some ⟨oc,od,.func (PySem.W.fnOf x x (cU st) (cw st) (ao st) .none kV doc pm an cdv ct),osl⟩)(c:PySem.W.codeIn K cdv x=true)(k:PySem.W.keepIn K (.ref f)=true)
  (hb:∀(kV doc pm:Value) (an:Option Addr) (cdv ct:Value) (us:List Value),us.length=ps.length->bindArgs (PySem.W.fnOf x x (cU st) (cw st) (ao st) .none kV doc pm an cdv ct) ⟨us,[]⟩=pure (ps.zip us)):Io K mg x st ps:=
 ⟨f,_,jX l c k,PySem.W.mg_of X G a,λus h=>hb _ _ _ _ _ _ us h⟩
theorem CP(T:Tx K mg C)(D:Io K mg "answers" gh ["calls"]){fa:Addr}(hmg:mg "answers"=some (.ref fa)):
  ∃fd:FuncData,(∀(s:Shared) (us:List Value),us.length=(["calls"]:List Str).length->BindsTo s fd ⟨us,[]⟩ ((["calls"]:List Str).zip us))/\∀base:Heap,K.In base->base.Ns mainGlobals mg->jv P w K mg base Bb 12 fa fd ["calls"] (xt K):=by
 obtain⟨f,fd,F,gl,bi⟩:=D;rw[hmg]at gl;cases gl;exact⟨fd,λs us hl=> .of_eq (bi us hl),λbase _ _=>F.ok uI (λvs H Q E h=>by obtain⟨_,_,_,e,_⟩:=h;rw[e];rfl) (CO T fa)⟩
theorem CQ{H:Hp}{a:Addr}{l:List Int}{Q:VK}{E:XK}(hs:aZ K H a (l.map V.int))(hask:PyVabldi.answers_asked l=true)(hQ:∀(H':Hp) (p:Addr),H' p=some (.lst ((PyVabldi.answers l).map V.int))->Q (.ref p) H'):xt K [.ref a] H Q E:=
 ⟨H,a,l,rfl,hs,hask,aH.refl _,λu F1 H1 e1 ⟨p,eu,hp⟩=>by subst eu;exact hQ H1 p (e1.fh _ _ hp)⟩
end
end Cr
namespace PySem.W.Fast
def tw14100327916178966917:=0
def tw17985022965444612374:=0
def tw18257057425808632534:=0
def tw12815771968841378924:=0
def tw18090193029552028133:=0
def tw2507020972601555609:=0
def tw3530293383242592302:=0
def tw15769685143868219173:=0
def tw7673106995321614348:=0
def tw12489954438256896418:=0
def tw3096817543146415810:=0
def tw603234524811324718:=0
def tw12149183514210341093:=0
def tw8253013601654561994:=0
def tw9199033453181251768:=0
def tw9142218610152980922:=0
def tw7504077160222513313:=0
def tw2277366243532910972:=0
def tw1240769458401791326:=0
def tw7542382342522068535:=0
def tw8837897699650705819:=0
def tw8967096915964637601:=0
def tw3532390102834152489:=0
def tw18381024233686786552:=0
def tw16339227793825510926:=0
def tw10230672444373045756:=0
def tw10853479115125463254:=0
def tw1654147509790441846:=0
def tw12136127919516582167:=0
def tw6762217362150075687:=0
def tw15389496546408062844:=0
def tw13548653746059866210:=0
def tw428654826593368102:=0
def tw16287418885553841211:=0
def tw9077998274764297241:=0
def tw12932447309915366522:=0
def tw10435019415092535967:=0
def tw16825643687397130290:=0
def tw2574154364103107277:=0
def tw12518906515333780689:=0
def tw10584303636837441379:=0
def tw6785948295463810855:=0
def tw1490126760322987178:=0
def tw16406171646192115816:=0
def tw1690409051899425200:=0
def tw10684782355191418270:=0
def tw17295582858368197060:=0
def tw9365928109221679381:=0
def tw16654528426120844632:=0
def tw11108638793084399288:=0
def tw7330749279234643173:=0
def tw10495049969883225734:=0
def tw14555627327086177332:=0
def tw8847241702590650452:=0
def tw16184463777691676383:=0
def tw8152399422420023821:=0
def tw5962434818335078204:=0
def tw2451080514668991425:=0
def tw12715868144736226955:=0
def tw6341540808929661313:=0
def tw11850516972338148651:=0
def tw11372540277644174604:=0
def tw3480491621144347840:=0
def tw8380239164471500338:=0
def tw16032458743485401445:=0
def tw3665032598359381455:=0
def tw1675630555174596412:=0
def tw9972651573298982485:=0
def tw12477360495769450955:=0
def tw2082349901038387768:=0
def tw4929639262627628810:=0
def tw9024157932279563510:=0
def tw11678209465762592149:=0
def tw10980402485080027045:=0
def tw6050299120222500745:=0
def tw3589679522251658939:=0
def tw2844088591681055925:=0
def tw12514931117748347174:=0
def tw4198351251257144102:=0
def tw16474314656682572972:=0
def tw14179674619082896760:=0
def tw2397688997174091709:=0
def tw5069169159510421530:=0
def tw631682987880521060:=0
def tw16850107102595733033:=0
def tw13059463418265439445:=0
def tw2692061788782538806:=0
def tw2070117346568706521:=0
def tw948900288396714021:=0
def tw17786575176117976474:=0
def tw6128152685614460429:=0
def tw8261651015484375865:=0
def tw4555349056157965578:=0
def tw314670421297811571:=0
def tw16576495054140865205:=0
def tw10745992267256607416:=0
def tw4152859086610528455:=0
def tw10260482341980320776:=0
def tw662913826231787046:=0
def tw15683529690836880895:=0
def tw14792051756876794821:=0
def tw8818200866200890186:=0
def tw14968017079082558600:=0
def tw15818948685406016387:=0
def tw2043104689936654654:=0
def tw14444891710517886478:=0
def tw4107091953831269677:=0
def tw10805152427891516759:=0
def tw8407081093087237088:=0
def tw6127142244793286433:=0
def tw11424568388517758199:=0
def tw10484449000024176577:=0
def tw9680271103187685480:=0
def tw3919162842429549994:=0
def tw18379077232539397404:=0
def tw9558942781917776222:=0
def tw12417140953024586421:=0
def tw16962027427734960256:=0
def tw8924896180846133595:=0
def tw2654713259104992488:=0
def tw17171375532976244508:=0
def tw5517957550734231434:=0
def tw3495402875132736447:=0
def tw14576182266236636667:=0
def tw5405930160002685886:=0
def tw3899172408115966045:=0
def tw13682222826153907973:=0
def tw3898365237279875405:=0
def tw679454942508111149:=0
def tw12925405054635037751:=0
def tw9337105458121724924:=0
def tw8062518467459910377:=0
def tw5716135725546834259:=0
def tw15078886396516393082:=0
def tw4415480327519166355:=0
def tw2473528601114068557:=0
def tw16120953107004053949:=0
def tw13403344835597695435:=0
def tw4550091014041785977:=0
def tw5119756386342822039:=0
def tw4992327408199308780:=0
def tw12465864949482747096:=0
def tw2249601244973605487:=0
def tw15913803011373296334:=0
def tw678001135757325364:=0
def tw17153941913347724988:=0
def tw12441139464619079062:=0
def tw3065006209794051692:=0
def tw2051764000841281694:=0
def tw6400625843401725960:=0
def tw12219891801257924769:=0
def tw14067591773873914578:=0
def tw8186738893517139245:=0
def tw16377723671243453222:=0
def tw13486626291661859662:=0
def tw10699309194275806444:=0
def tw870092794110081974:=0
def tw16519786136771265650:=0
def tw9697801537721810617:=0
def tw346884553093751136:=0
def tw532581692187615444:=0
def tw3139477591772865554:=0
def tw14292632360293275653:=0
def tw18302637705436228070:=0
def tw17520197210026740632:=0
def tw10768039914370331956:=0
def tw5726493865076512680:=0
def tw9903746084592557319:=0
end PySem.W.Fast
open PySem PySem.W PyProof.Rows
set_option hygiene false
local macro_rules | `(tactic| walk_at "cr_f") => `(tactic| first
 | (refine' Cr.FF KX G ?a ?r; (case a => k_is); (case r => first | exact ⟨_, rfl⟩ | rfl))
 | (refine' PySem.W.mg_none_of KX G ?a; (case a => k_is))
 | (dsimp only [L2.gC]; refine' Cr.FG KX G ?a ?l ?c ?k ?b; (case a => k_is); (case l => k_is); (case c => k_is); (case k => k_is); (case b => first
   | (exact fun _ _ _ _ _ _ us hl => match us, hl with | [_], _ => rfl)
   | (exact fun _ _ _ _ _ _ us hl => match us, hl with | [_, _], _ => rfl)
   | (exact fun _ _ _ _ _ _ us hl => match us, hl with | [_, _, _], _ => rfl)
   | (exact fun _ _ _ _ _ _ us hl => match us, hl with | [_, _, _, _], _ => rfl)
   | (exact fun _ _ _ _ _ _ us hl => match us, hl with | [_, _, _, _, _], _ => rfl)
   | (exact fun _ _ _ _ _ _ us hl => match us, hl with | [_, _, _, _, _, _], _ => rfl)
   | (exact fun _ _ _ _ _ _ us hl => match us, hl with | [], _ => rfl)))
 | assumption)
set_option hygiene true
set_option maxRecDepth 100000 in
set_option maxHeartbeats 0 in
theorem PySem.Challenge.cw_closedroom_s01_answers_holds : PySem.Challenge.rw_closedroom_s01_answers.Holds := by
 w_on;k_headS;(case hw=>exact⟨[.list [.int 11]],by decide+kernel,by decide+kernel⟩)
 k_fillS
 refine L2.u5 (r:=PySem.Challenge.rw_closedroom_s01_answers) (k:=12) (CX:=L2.Bb) (ps:=["calls"]) (sp:=Cr.xt) (by decide+kernel) rfl rfl ⟨rfl,by decide,by decide⟩ (λw h Y=>PySem.W.kIn_of Y) ?F ?S (λ_ _ _ _ z=>z)
 case F=>
  intro w mg fa h Y KX G hmg
  have z_answers:Cr.Io (L2.gC KX) mg "answers" Cr.gh ["calls"]:=by
   dsimp only[L2.gC];refine' Cr.EX KX G ?a ?l ?c ?k (λ_ _ _ _ _ _ us hl=>match us,hl with |[_],_=>rfl);(case a=>k_is);(case l=>k_is);(case c=>k_is);(case k=>k_is)
  have t_TOOLS:Cr.FD (L2.gC KX) mg "TOOLS" ["join_inputs","copy_inputs","upper_input","sort_lines","take_lines","find_lines","replace_places","include_lines","split_pieces","compare_inputs","count_input","name_inputs","pick_input","sum_lines"]:=by
   dsimp only[L2.gC];refine' ⟨_,[_,_,_,_,_,_,_,_,_,_,_,_,_,_],PySem.W.mg_of KX G ?a,Cr.bU ?l ?v ?s,.cons (PySem.W.mg_of KX G ?l0) (.cons (PySem.W.mg_of KX G ?l1) (.cons (PySem.W.mg_of KX G ?l2) (.cons (PySem.W.mg_of KX G ?l3) (.cons (PySem.W.mg_of KX G ?l4) (.cons (PySem.W.mg_of KX G ?l5) (.cons (PySem.W.mg_of KX G ?l6) (.cons (PySem.W.mg_of KX G ?l7) (.cons (PySem.W.mg_of KX G ?l8) (.cons (PySem.W.mg_of KX G ?l9) (.cons (PySem.W.mg_of KX G ?l10) (.cons (PySem.W.mg_of KX G ?l11) (.cons (PySem.W.mg_of KX G ?l12) (.cons (PySem.W.mg_of KX G ?l13) (.nil))))))))))))))⟩;(case a=>k_is);(case l0=>k_is);(case l1=>k_is);(case l2=>k_is);(case l3=>k_is);(case l4=>k_is);(case l5=>k_is);(case l6=>k_is);(case l7=>k_is);(case l8=>k_is);(case l9=>k_is);(case l10=>k_is);(case l11=>k_is);(case l12=>k_is);(case l13=>k_is);(case l=>k_is);(case v=>repeat first|exact .nil|refine .cons rfl ?_);(case s=>decide)
  have t_ASKED:Cr.C3 (L2.gC KX) mg "ASKED" [[1,0,8,1,1],[0,0,8,1,8],[0,1,1,1,1],[1,1,1,1,1],[1,1,1,1,1],[1,1,1,1,1],[2,1,1,1,1],[0,1,8,1,1],[0,1,1,1,8],[0,2,2,1,1],[0,1,1,1,1],[0,0,8,1,1],[1,0,8,1,1],[0,0,8,1,1]]:=by
   dsimp only[L2.gC];refine' ⟨_,[_,_,_,_,_,_,_,_,_,_,_,_,_,_],PySem.W.mg_of KX G ?a,Cr.bU ?l ?v ?s,.cons (Cr.bU ?l0 ?v0 ?s0) (.cons (Cr.bU ?l1 ?v1 ?s1) (.cons (Cr.bU ?l2 ?v2 ?s2) (.cons (Cr.bU ?l3 ?v3 ?s3) (.cons (Cr.bU ?l4 ?v4 ?s4) (.cons (Cr.bU ?l5 ?v5 ?s5) (.cons (Cr.bU ?l6 ?v6 ?s6) (.cons (Cr.bU ?l7 ?v7 ?s7) (.cons (Cr.bU ?l8 ?v8 ?s8) (.cons (Cr.bU ?l9 ?v9 ?s9) (.cons (Cr.bU ?l10 ?v10 ?s10) (.cons (Cr.bU ?l11 ?v11 ?s11) (.cons (Cr.bU ?l12 ?v12 ?s12) (.cons (Cr.bU ?l13 ?v13 ?s13) (.nil))))))))))))))⟩;(case a=>k_is);(case l=>k_is);(case v=>repeat first|exact .nil|refine .cons rfl ?_);(case s=>decide);(case l0=>k_is);(case v0=>repeat first|exact .nil|refine .cons ⟨_,rfl⟩ ?_);(case s0=>decide);(case l1=>k_is);(case v1=>repeat first|exact .nil|refine .cons ⟨_,rfl⟩ ?_);(case s1=>decide);(case l2=>k_is);(case v2=>repeat first|exact .nil|refine .cons ⟨_,rfl⟩ ?_);(case s2=>decide);(case l3=>k_is);(case v3=>repeat first|exact .nil|refine .cons ⟨_,rfl⟩ ?_);(case s3=>decide);(case l4=>k_is);(case v4=>repeat first|exact .nil|refine .cons ⟨_,rfl⟩ ?_);(case s4=>decide);(case l5=>k_is);(case v5=>repeat first|exact .nil|refine .cons ⟨_,rfl⟩ ?_);(case s5=>decide);(case l6=>k_is);(case v6=>repeat first|exact .nil|refine .cons ⟨_,rfl⟩ ?_);(case s6=>decide);(case l7=>k_is);(case v7=>repeat first|exact .nil|refine .cons ⟨_,rfl⟩ ?_);(case s7=>decide);(case l8=>k_is);(case v8=>repeat first|exact .nil|refine .cons ⟨_,rfl⟩ ?_);(case s8=>decide);(case l9=>k_is);(case v9=>repeat first|exact .nil|refine .cons ⟨_,rfl⟩ ?_);(case s9=>decide);(case l10=>k_is);(case v10=>repeat first|exact .nil|refine .cons ⟨_,rfl⟩ ?_);(case s10=>decide);(case l11=>k_is);(case v11=>repeat first|exact .nil|refine .cons ⟨_,rfl⟩ ?_);(case s11=>decide);(case l12=>k_is);(case v12=>repeat first|exact .nil|refine .cons ⟨_,rfl⟩ ?_);(case s12=>decide);(case l13=>k_is);(case v13=>repeat first|exact .nil|refine .cons ⟨_,rfl⟩ ?_);(case s13=>decide)
  obtain⟨c_File,k_File,n_File_data,n_File_made_by,i_File⟩:∃C,Cr.Cl (L2.gC KX) mg "File" C/\L2.bf (L2.gC KX) C "data"/\L2.bf (L2.gC KX) C "made_by"/\Cr.In (L2.gC KX) "File.__init__" Cr.iS C ["self","data","made_by"]:=by
   dsimp only[L2.gC,L2.bf];refine' ⟨_,Cr.tj KX G ?a ?pg ?hd ?po ?sa,?ndata,?nmade_by,Cr.tu ?ia ?ii ?il ?ic ?ik ?imk ?ikc (λ_ _ _ _ _ _ us hl=>match us,hl with |[_,_,_],_=>rfl)⟩;(case a=>k_is);(case pg=>k_is);(case hd=>k_is);(case po=>k_is);(case sa=>k_is);(case ndata=>k_is);(case nmade_by=>k_is);(case ia=>k_is);(case ii=>k_is);(case il=>k_is);(case ic=>k_is);(case ik=>k_is);(case imk=>k_is);(case ikc=>k_is)
  obtain⟨c_Action,k_Action,n_Action_tool,n_Action_arguments,n_Action_inputs,n_Action_outputs,i_Action⟩:∃C,Cr.Cl (L2.gC KX) mg "Action" C/\L2.bf (L2.gC KX) C "tool"/\L2.bf (L2.gC KX) C "arguments"/\L2.bf (L2.gC KX) C "inputs"/\L2.bf (L2.gC KX) C "outputs"/\Cr.In (L2.gC KX) "Action.__init__" Cr.fN C ["self","tool","arguments","inputs","outputs"]:=by
   dsimp only[L2.gC,L2.bf];refine' ⟨_,Cr.tj KX G ?a ?pg ?hd ?po ?sa,?ntool,?narguments,?ninputs,?noutputs,Cr.tu ?ia ?ii ?il ?ic ?ik ?imk ?ikc (λ_ _ _ _ _ _ us hl=>match us,hl with |[_,_,_,_,_],_=>rfl)⟩;(case a=>k_is);(case pg=>k_is);(case hd=>k_is);(case po=>k_is);(case sa=>k_is);(case ntool=>k_is);(case narguments=>k_is);(case ninputs=>k_is);(case noutputs=>k_is);(case ia=>k_is);(case ii=>k_is);(case il=>k_is);(case ic=>k_is);(case ik=>k_is);(case imk=>k_is);(case ikc=>k_is)
  obtain⟨c_Room,k_Room,n_Room_files,n_Room_actions,i_Room⟩:∃C,Cr.Cl (L2.gC KX) mg "Room" C/\L2.bf (L2.gC KX) C "files"/\L2.bf (L2.gC KX) C "actions"/\Cr.In (L2.gC KX) "Room.__init__" Cr.iU C ["self"]:=by
   dsimp only[L2.gC,L2.bf];refine' ⟨_,Cr.tj KX G ?a ?pg ?hd ?po ?sa,?nfiles,?nactions,Cr.tu ?ia ?ii ?il ?ic ?ik ?imk ?ikc (λ_ _ _ _ _ _ us hl=>match us,hl with |[_],_=>rfl)⟩;(case a=>k_is);(case pg=>k_is);(case hd=>k_is);(case po=>k_is);(case sa=>k_is);(case nfiles=>k_is);(case nactions=>k_is);(case ia=>k_is);(case ii=>k_is);(case il=>k_is);(case ic=>k_is);(case ik=>k_is);(case imk=>k_is);(case ikc=>k_is)
  obtain⟨c_Outcome,k_Outcome,n_Outcome_code,n_Outcome_undeclared,n_Outcome_outputs,n_Outcome_read,i_Outcome⟩:∃C,Cr.Cl (L2.gC KX) mg "Outcome" C/\L2.bf (L2.gC KX) C "code"/\L2.bf (L2.gC KX) C "undeclared"/\L2.bf (L2.gC KX) C "outputs"/\L2.bf (L2.gC KX) C "read"/\Cr.In (L2.gC KX) "Outcome.__init__" Cr.eI C ["self","code","undeclared","outputs","read"]:=by
   dsimp only[L2.gC,L2.bf];refine' ⟨_,Cr.tj KX G ?a ?pg ?hd ?po ?sa,?ncode,?nundeclared,?noutputs,?nread,Cr.tu ?ia ?ii ?il ?ic ?ik ?imk ?ikc (λ_ _ _ _ _ _ us hl=>match us,hl with |[_,_,_,_,_],_=>rfl)⟩;(case a=>k_is);(case pg=>k_is);(case hd=>k_is);(case po=>k_is);(case sa=>k_is);(case ncode=>k_is);(case nundeclared=>k_is);(case noutputs=>k_is);(case nread=>k_is);(case ia=>k_is);(case ii=>k_is);(case il=>k_is);(case ic=>k_is);(case ik=>k_is);(case imk=>k_is);(case ikc=>k_is)
  obtain⟨c_Reader,k_Reader,n_Reader_numbers,n_Reader_place,i_Reader,m_Reader_at_end,m_Reader_take_number,m_Reader_take_row⟩:∃C,Cr.Cl (L2.gC KX) mg "Reader" C/\L2.bf (L2.gC KX) C "numbers"/\L2.bf (L2.gC KX) C "place"/\Cr.In (L2.gC KX) "Reader.__init__" Cr.fO C ["self","numbers"]/\Cr.Mn (L2.gC KX) "at_end" "Reader.at_end" Cr.d5 C ["self"]/\Cr.Mn (L2.gC KX) "take_number" "Reader.take_number" Cr.cE C ["self"]/\Cr.Mn (L2.gC KX) "take_row" "Reader.take_row" Cr.dt C ["self"]:=by
   dsimp only[L2.gC,L2.bf];refine' ⟨_,Cr.tj KX G ?a ?pg ?hd ?po ?sa,?nnumbers,?nplace,Cr.tu ?ia ?ii ?il ?ic ?ik ?imk ?ikc (λ_ _ _ _ _ _ us hl=>match us,hl with |[_,_],_=>rfl),Cr.zE ?at_enda ?at_endi ?at_endl ?at_endc ?at_endk (λ_ _ _ _ _ _ us hl=>match us,hl with |[_],_=>rfl),Cr.zE ?take_numbera ?take_numberi ?take_numberl ?take_numberc ?take_numberk (λ_ _ _ _ _ _ us hl=>match us,hl with |[_],_=>rfl),Cr.zE ?take_rowa ?take_rowi ?take_rowl ?take_rowc ?take_rowk (λ_ _ _ _ _ _ us hl=>match us,hl with |[_],_=>rfl)⟩;(case a=>k_is);(case pg=>k_is);(case hd=>k_is);(case po=>k_is);(case sa=>k_is);(case nnumbers=>k_is);(case nplace=>k_is);(case ia=>k_is);(case ii=>k_is);(case il=>k_is);(case ic=>k_is);(case ik=>k_is);(case imk=>k_is);(case ikc=>k_is);(case at_enda=>k_is);(case at_endi=>k_is);(case at_endl=>k_is);(case at_endc=>k_is);(case at_endk=>k_is);(case take_numbera=>k_is);(case take_numberi=>k_is);(case take_numberl=>k_is);(case take_numberc=>k_is);(case take_numberk=>k_is);(case take_rowa=>k_is);(case take_rowi=>k_is);(case take_rowl=>k_is);(case take_rowc=>k_is);(case take_rowk=>k_is)
  have T:Cr.Tx (L2.gC KX) mg ⟨c_File,c_Action,c_Room,c_Outcome,c_Reader⟩:=by
   constructor<;>walk_at "cr_f"
  exact Cr.CP T z_answers hmg
 case S=>
  intro K H xs a hO hwi hask hx;cases hx with
  |cons h1 h2=>
   cases h2;cases h1 with
   |lst hs ha=>
    have e:=L2.wH a.1 _ ha;subst e;exact Cr.CQ hs hask λH' p hp=> .lst (L2.aZ.of hp) (L2.wG _)
