import PyProof.Rows.All
import Wide.All
import OpenK.AllK
import Wide.FinOn
import Lean
import PyProof.EqAt
import PyProof.EqKinds
import PyProof.TupleCall
import PyProof.NeKinds
import PyProof.StrLawsIn
import PyProof.Draws
import PyProof.ZipIter
import PyProof.EnumMake
import PyProof.EnumFor
import KE.KRevIter
import PyProof.CollectWalk
import KE.KItemsList
import PyProof.AttrMissSeq
import PyProof.WalksMore
import KE.KDictOf
import KE.KSortTup
import KE.KDictList
import PyProof.DictIter
import PyProof.DictWalks
import KE.KEqDict
import PyProof.Rows.StrGen4
import PyProof.StrBlockI
import PyProof.Rows.SetFrom
import PyProof.StrCalls6
import PyProof.ReprRoads
import PyProof.SetRoads
import PyProof.DictValues
import PySem.Challenge.RW_webstore_k22_whole_ways_of_twelve
set_option Elab.async false
set_option linter.all false
set_option maxRecDepth 100000
namespace L2
open PySem PySem.Spec PyProof.Rows
abbrev BC:=Sum Int Str
def Q1:BC→Value→Bool
 | .inl k,v=>Value.isInt k v
 | .inr x,v=>Value.isStrOf x v
def y1 (w:World):BC→Int
 | .inl k=>hashInt k
 | .inr x=>hashStr w x
theorem C5:∀{k:BC} {v:Value},Q1 k v=true→(∃i t,k=Sum.inl i∧v=Value.int i t)∨(∃x t,k=Sum.inr x∧v=Value.str x t)
 | .inl i,v,h=>by
   obtain⟨t,e⟩:=Value.isInt_shape (k:=i) (v:=v) h
   exact .inl ⟨i,t,rfl,e⟩
 | .inr x,v,h=>by
   obtain⟨t,e⟩:=Value.isStrOf_shape (x:=x) (v:=v) h
   exact .inr ⟨x,t,rfl,e⟩
theorem aH (i:Int) (t:Tok):Q1 (.inl i) (.int i t)=true:=by simp[Q1,Value.isInt]
theorem ZB (x:Str) (t:Tok):Q1 (.inr x) (.str x t)=true:=by simp[Q1,Value.isStrOf]
theorem rE (a b:Int):decide ((Sum.inl a:BC)=Sum.inl b)=(a==b):=by
 by_cases e:a=b
 ·subst e;simp
 ·have h:¬(Sum.inl a:BC)=Sum.inl b:=fun q=>e (Sum.inl.inj q)
  rw[decide_eq_false h]
  exact(beq_eq_false_iff_ne.mpr e).symm
theorem sE (a b:Str):decide ((Sum.inr a:BC)=Sum.inr b)=decide (a=b):=by
 by_cases e:a=b
 ·subst e;simp
 ·have h:¬(Sum.inr a:BC)=Sum.inr b:=fun q=>e (Sum.inr.inj q)
  rw[decide_eq_false h,decide_eq_false e]
theorem qP (a:Int) (b:Str):decide ((Sum.inl a:BC)=Sum.inr b)=false:=decide_eq_false (fun q=>nomatch q)
theorem nE (a:Str) (b:Int):decide ((Sum.inr a:BC)=Sum.inl b)=false:=decide_eq_false (fun q=>nomatch q)
def BE (prog:Program) (w:World):PySem.KeyKind prog w BC where
 is:=Q1
 hash:=y1 w
 inj:=fun v a b ha hb=>by
  rcases C5 ha with⟨i,t,rfl,rfl⟩|⟨x,t,rfl,rfl⟩
  ·rcases C5 hb with⟨j,u,rfl,e⟩|⟨y,u,rfl,e⟩
   ·injection e with e1 _;rw[e1]
   ·exact nomatch e
  ·rcases C5 hb with⟨j,u,rfl,e⟩|⟨y,u,rfl,e⟩
   ·exact nomatch e
   ·injection e with e1 _;rw[e1]
 byValue:=fun k v h=>by
  rcases C5 h with⟨i,t,rfl,rfl⟩|⟨x,t,rfl,rfl⟩<;>rfl
 pyHash:=fun hv h=>by
  rcases C5 hv with⟨i,t,rfl,rfl⟩|⟨x,t,rfl,rfl⟩
  ·exact wpAny_pyHash_int h
  ·exact wpAny_pyHash_str h
 eqBool:=fun hu hv h=>by
  rcases C5 hu with⟨i,t,rfl,rfl⟩|⟨x,t,rfl,rfl⟩
  ·rcases C5 hv with⟨j,u,rfl,rfl⟩|⟨y,u,rfl,rfl⟩
   ·rw[rE]at h;exact wpAny_eqBool_int h
   ·rw[qP]at h;exact SeqAt.EqAt.int_str i t y u _ _ _ _ h
  ·rcases C5 hv with⟨j,u,rfl,rfl⟩|⟨y,u,rfl,rfl⟩
   ·rw[nE]at h;exact SeqAt.EqAt.str_int x t j u _ _ _ _ h
   ·rw[sE]at h;exact wpAny_eqBool_str h
 «strs»:=fun k x t v h=>by
  rcases C5 h with⟨i,u,rfl,e⟩|⟨y,u,rfl,e⟩
  ·exact nomatch e
  ·injection e with e1 _
   subst e1
   cases v<;>rfl
theorem UC (prog:Program) (w:World) (i:Int) (t:Tok):(BE prog w).is (.inl i) (.int i t)=true:=aH i t
theorem II (prog:Program) (w:World) (x:Str) (t:Tok):(BE prog w).is (.inr x) (.str x t)=true:=ZB x t
end L2
namespace L2
open PySem PySem.Spec PyProof.Rows
inductive V where
 |non|bl (b:Bool)|int (i:Int)|str (x:Str)|byt (b:Array UInt8)|flt (b:UInt64)|ref (a:Addr)|ty (n:String)
 deriving DecidableEq
def RelV:V→Value→Prop
 | .non,u=>u=Value.none
 | .bl b,u=>u=Value.bool b
 | .int i,u=>∃t,u=Value.int i t
 | .str x,u=>∃t,u=Value.str x t
 | .byt b,u=>∃t,u=Value.bytes b t
 | .flt b,u=>∃t,u=Value.float b t
 | .ref a,u=>u=Value.ref a
 | .ty n,u=>u=Value.type n
abbrev Vals:List V→List Value→Prop:=Paired RelV
theorem Vals.length {xs:List V} {us:List Value} (r:Vals xs us):xs.length=us.length:=Paired.length r
theorem Vals.get:∀{xs:List V} {us:List Value} {i:Nat} {x:V},Vals xs us→xs[i]? =some x→∃u,us[i]? =some u∧RelV x u
 |_,_,_,_, .nil,e=>by simp at e
 |_,_,0,_, .cons r _,e=>by simp at e;subst e;exact⟨_,rfl,r⟩
 |_,_,i+1,x, .cons _ t,e=>by
  obtain⟨u,h1,h2⟩:=Vals.get (i:=i) (x:=x) t (by simpa using e)
  exact⟨u,by simpa using h1,h2⟩
theorem Vals.set {x:V} {u:Value} (r:RelV x u):∀{xs:List V} {us:List Value} (i:Nat),Vals xs us→Vals (xs.set i x) (us.set i u)
 |_,_,_, .nil=> .nil
 |_,_,0, .cons _ t=> .cons r t
 |_,_,i+1, .cons q t=> .cons q (Vals.set r i t)
theorem Vals.append:∀{xs ys:List V} {us ws:List Value},Vals xs us→Vals ys ws→Vals (xs++ys) (us++ws)
 |_,_,_,_, .nil,s=>s
 |_,_,_,_, .cons r t,s=> .cons r (Vals.append t s)
theorem Vals.take:∀{xs:List V} {us:List Value} (n:Nat),Vals xs us→Vals (xs.take n) (us.take n)
 |_,_,0,_=> .nil
 |_,_,_+1, .nil=> .nil
 |_,_,n+1, .cons r t=> .cons r (Vals.take n t)
theorem Vals.drop:∀{xs:List V} {us:List Value} (n:Nat),Vals xs us→Vals (xs.drop n) (us.drop n)
 |_,_,0,r=>r
 |_,_,_+1, .nil=> .nil
 |_,_,n+1, .cons _ t=>Vals.drop n t
def RelO:Option V→Option Value→Prop
 |some v,some u=>RelV v u
 |none,none=>True
 |_,_=>False
def KV {κ:Type}:List (κ×V)→List (κ×Value)→Prop:=Paired fun(p:κ×V) (q:κ×Value)=>p.1=q.1∧RelV p.2 q.2
def kV:BC→V
 | .inl i=> .int i
 | .inr x=> .str x
def rW (o:Obj):Prop:=o.cls= .type "tuple"∧o.dict=none
def IsTupX (h:Heap) (a:Addr) (items:Array Value):Prop:=∃o,h.get? a=some o∧rW o∧∃n,o.data= .seq items n
theorem IsTupX.tup {h:Heap} {a:Addr} {items:Array Value} (x:IsTupX h a items):IsTup h a items:=let⟨o,h1,h2,h3⟩:=x;⟨o,h1,h2.1,h3⟩
theorem IsTupX.lt {h:Heap} {a:Addr} {items:Array Value} (x:IsTupX h a items):a<h.objs.size:=x.tup.lt
theorem IsTupX.new (h:Heap) (items:Array Value):IsTupX (h.push {cls:= .type "tuple",data:= .seq items}) h.objs.size items:=⟨_,Heap.get?_push_size _ rfl,⟨rfl,rfl⟩,_,rfl⟩
inductive HO where
 |lst (xs:List V)
 |tup (xs:List V)
 |dK (kvs:List (BC×V))|dT (kvs:List (List BC×V))
 |set (S:Int→Bool) (n:Nat)
 |ins (C dx:Addr) (fs:List (Str×V))
 |own (x:Addr)
 |xd (fs:List (Str×V))
 |met (f x:Addr)
 |rng (lo hi:Int)
 |frz (o:Obj) (u:HO)
 |tbl (ps:Array Value)
 |ext (φ:Heap→Prop)
abbrev Hp:=Addr→Option HO
def BT (H:Hp) (a:Addr) (o:HO):Hp:=fun b=>if b=a then some o else H b
theorem B3 {H:Hp} {a:Addr} {o:HO}:BT H a o a=some o:=by unfold BT;rw[if_pos rfl]
theorem AR {H:Hp} {a b:Addr} {o:HO} (h:b≠a):BT H a o b=H b:=by unfold BT;rw[if_neg h]
theorem xA {H:Hp} {a b:Addr} {o u:HO} (h:H a=some o) (h':H b=some u) (d:o≠u):a≠b:=by
 intro e;subst e;rw[h]at h';exact d (Option.some.inj h')
theorem DJ {H:Hp} {a b:Addr} {o:HO} (h:H a=some o) (h':H b=none):a≠b:=by
 intro e;subst e;rw[h]at h';cases h'
section
variable (P:Program) (w:World)
def ObjOk (H:Hp) (h:Heap) (a:Addr):HO→Prop
 | .lst xs=>xs.length≤sizeLine∧∃(its:List Value) (n:Nat),Vals xs its∧h.get? a=some {cls:= .type "list",data:= .seq its.toArray n}
 | .tup xs=>xs.length≤sizeLine∧∃its:List Value,Vals xs its∧IsTupX h a its.toArray
 | .dK kvs=>kvs.length≤sizeLine∧(a==sysModules)=false∧∃vs,KV kvs vs∧h.DictOf (BE P w) a vs
 | .dT kvs=>kvs.length≤sizeLine∧(a==sysModules)=false∧∃xs:List (List BC×Addr×Value),
     Paired (fun(p:List BC×V) (q:List BC×Addr×Value)=>p.1=q.1∧H q.2.1=some (.tup (p.1.map kV))∧RelV p.2 q.2.2) kvs xs∧
     ∃o es ep,h.get? a=some o∧o.ExactDict∧o.data= .dict es ep∧es.toList=xs.map (entryOfKey (tupleKind (BE P w)))∧(xs.map (·.1)).Nodup
 | .set S n=>h.SetOf (intKind P w) a S n
 | .ins C dx fs=>H dx=some (.own a)∧fs.length≤1000∧dx≠a∧h.get? a=some (PySem.W.instObj C dx)∧
     ∃mA,h.Ns1 dx mA∧(∀f,RelO (fs.lookup f) (mA f))∧PySem.Within mA (fs.map (·.1))
 | .own _=>∃o,h.get? a=some o
 | .xd fs=>∃mA,h.Ns1 a mA∧∀f,RelO (fs.lookup f) (mA f)
 | .rng lo hi=>∃t u v,h.get? a=some {cls:= .type "range",data:= .fields #[.int lo t, .int hi u, .int 1 v]}
 | .frz o u=>h.get? a=some o∧ObjOk H h a u
 | .tbl ps=>h.get? a=some {cls:= .none,data:= .fields ps}
 | .met f x=>h.get? a=some (PySem.W.methodObj (.ref f) (.ref x))
 | .ext φ=>φ h∧(∃o,h.get? a=some o)∧∀h1 h2:Heap,φ h1→(∀o,h1.get? a=some o→h2.get? a=some o)→φ h2
def HOk (H:Hp) (h:Heap):Prop:=∀a o,H a=some o→ObjOk P w H h a o
end
section
variable {P:Program} {w:World} {H H':Hp} {h h':Heap} {a:Addr} {o:HO}
theorem ObjOk.lt (x:ObjOk P w H h a o):a<h.objs.size:=by
 cases o with
 |lst xs=>obtain⟨_,_,_,_,e⟩:=x;exact Heap.lt_size e
 |tup xs=>obtain⟨_,_,_,p⟩:=x;exact p.lt
 |dK kvs=>obtain⟨_,_,_,_,o,_,_,e,_⟩:=x;exact Heap.lt_size e
 |dT kvs=>obtain⟨_,_,_,_,o,_,_,e,_⟩:=x;exact Heap.lt_size e
 |set S n=>obtain⟨o,_,_,_,e,_⟩:=x;exact Heap.lt_size e
 |ins C dx fs=>obtain⟨_,_,_,e,_⟩:=x;exact Heap.lt_size e
 |own y=>obtain⟨_,e⟩:=x;exact Heap.lt_size e
 |xd fs=>obtain⟨_,⟨_,_,_,e,_⟩,_⟩:=x;exact Heap.lt_size e
 |rng lo hi=>obtain⟨_,_,_,e⟩:=x;exact Heap.lt_size e
 |frz ob u=>obtain⟨e,_⟩:=x;exact Heap.lt_size e
 |tbl ps=>exact Heap.lt_size (show h.get? a=some _ from x)
 |met f y=>exact Heap.lt_size (show h.get? a=some _ from x)
 |ext φ=>obtain⟨_,⟨_,e⟩,_⟩:=x;exact Heap.lt_size e
theorem Paired.mapP {α β:Type} {F G:α→β→Prop}:∀{l₁:List α} {l₂:List β},Paired F l₁ l₂→(∀a b,F a b→G a b)→Paired G l₁ l₂
 |_,_, .nil,_=> .nil
 |_,_, .cons r t,f=> .cons (f _ _ r) (Paired.mapP t f)
theorem ObjOk.stay (x:ObjOk P w H h a o) (k:∀b u,(b=a∨H b=some (.own a))→h.get? b=some u→h'.get? b=some u)
 (ho:∀b,H b=some (.own a)→H' b=some (.own a)) (ht:∀b xs,H b=some (.tup xs)→H' b=some (.tup xs)):ObjOk P w H' h' a o:=by
 induction o with
 |lst xs=>obtain⟨z,its,n,r,e⟩:=x;exact⟨z,its,n,r,k _ _ (.inl rfl) e⟩
 |tup xs=>obtain⟨z,its,r,ob,e,c⟩:=x;exact⟨z,its,r,ob,k _ _ (.inl rfl) e,c⟩
 |dK kvs=>obtain⟨z,y,vs,r,ob,es,ep,e,c⟩:=x;exact⟨z,y,vs,r,ob,es,ep,k _ _ (.inl rfl) e,c⟩
 |dT kvs=>
  obtain⟨z,y,xs,r,ob,es,ep,e,c⟩:=x
  exact⟨z,y,xs,Paired.mapP r fun p q z=>⟨z.1,ht _ _ z.2.1,z.2.2⟩,ob,es,ep,k _ _ (.inl rfl) e,c⟩
 |set S n=>obtain⟨ob,es,ep,t,e,c⟩:=x;exact⟨ob,es,ep,t,k _ _ (.inl rfl) e,c⟩
 |ins C dx fs=>
  obtain⟨d,z,ne,e,mA,⟨od,es,ep,e2,c⟩,r⟩:=x
  exact⟨ho _ d,z,ne,k _ _ (.inl rfl) e,mA,⟨od,es,ep,k _ _ (.inr d) e2,c⟩,r⟩
 |own y=>obtain⟨ob,e⟩:=x;exact⟨ob,k _ _ (.inl rfl) e⟩
 |xd fs=>obtain⟨mA,⟨od,es,ep,e,c⟩,r⟩:=x;exact⟨mA,⟨od,es,ep,k _ _ (.inl rfl) e,c⟩,r⟩
 |rng lo hi=>obtain⟨t,u,v,e⟩:=x;exact⟨t,u,v,k _ _ (.inl rfl) e⟩
 |frz ob u ih=>obtain⟨e,q⟩:=x;exact⟨k _ _ (.inl rfl) e,ih q⟩
 |tbl ps=>
  have e:h.get? a=some {cls:= .none,data:= .fields ps}:=x
  show h'.get? a=some {cls:= .none,data:= .fields ps}
  exact k a _ (.inl rfl) e
 |met f y=>
  have e:h.get? a=some (PySem.W.methodObj (.ref f) (.ref y)):=x
  show h'.get? a=some (PySem.W.methodObj (.ref f) (.ref y))
  exact k a _ (.inl rfl) e
 |ext φ=>obtain⟨p,⟨o,e⟩,st⟩:=x;exact⟨st _ _ p fun o q=>k _ _ (.inl rfl) q,⟨o,k _ _ (.inl rfl) e⟩,st⟩
theorem HOk.lt (x:HOk P w H h) (e:H a=some o):a<h.objs.size:=(x a o e).lt
theorem HOk.fresh (x:HOk P w H h) (e:h.objs.size≤a):H a=none:=by
 cases q:H a with
 |none=>rfl
 |some u=>exact absurd (Nat.lt_of_lt_of_le (x.lt q) e) (Nat.lt_irrefl _)
theorem HOk.kept (x:HOk P w H h) (k:∀b u,h.get? b=some u→h'.get? b=some u):HOk P w H h':=fun a o e=>
 (x a o e).stay (fun b u _ q=>k b u q) (fun _ q=>q) fun _ _ q=>q
theorem HOk.laid (x:HOk P w H h) (k:∀b u,h.get? b=some u→h'.get? b=some u) (hp:h.objs.size≤a) (new:ObjOk P w (BT H a o) h' a o):HOk P w (BT H a o) h':=fun b u e=>by
 have hn:=x.fresh hp
 by_cases hb:b=a
 ·subst hb;rw[B3]at e;cases e;exact new
 ·rw[AR hb]at e
  exact(x b u e).stay (fun c v _ q=>k c v q) (fun c q=>by rw[AR (DJ q hn)];exact q) fun c xs q=>by rw[AR (DJ q hn)];exact q
end
def Rd (H:Hp) (a:Addr) (u:HO):Prop:=H a=some u∨∃o,H a=some (.frz o u)
theorem Rd.ok {P:Program} {w:World} {H:Hp} {h:Heap} {a:Addr} {u:HO} (r:Rd H a u) (x:HOk P w H h):ObjOk P w H h a u:=by
 rcases r with r|⟨o,r⟩
 ·exact x a u r
 ·obtain⟨_,q⟩:=x a _ r
  exact q
def vW:Option HO→Prop
 |some (.lst _)=>True
 |some (.dK _)=>True
 |some (.dT _)=>True
 |some (.set _ _)=>True
 |some (.ins _ _ _)=>True
 |some (.ext _)=>True
 |_=>False
section
variable {P:Program} {w:World} {H:Hp} {h h':Heap} {x e:Addr} {o':HO}
theorem HOk.write (ok:HOk P w H h) (mu:vW (H x)) (he:e=x∨H e=some (.own x)) (k:∀b u,b≠e→h.get? b=some u→h'.get? b=some u) (heo:∃u,h'.get? e=some u)
 (new:ObjOk P w (BT H x o') h' x o'):HOk P w (BT H x o') h':=fun b u q=>by
 have nown:∀c y,H c=some (.own y)→c≠x:=fun c y r z=>by subst z;rw[r]at mu;exact mu
 have ntup:∀c xs,H c=some (.tup xs)→c≠x:=fun c xs r z=>by subst z;rw[r]at mu;exact mu
 by_cases hb:b=x
 ·subst hb;rw[B3]at q;cases q;exact new
 ·rw[AR hb]at q
  by_cases hbe:b=e
  ·have q':H b=some (.own x):=by
    rcases he with z|z
    ·exact absurd (hbe.trans z) hb
    ·rw[hbe];exact z
   rw[q]at q';cases q'
   obtain⟨v,hv⟩:=heo
   exact⟨v,by rw[hbe];exact hv⟩
  ·refine(ok b u q).stay (fun c v hc r=>k c v ?_ r) (fun c r=>by rw[AR (nown c b r)];exact r) fun c xs r=>by rw[AR (ntup c xs r)];exact r
   rcases hc with rfl|hc
   ·exact hbe
   ·rintro rfl
    rcases he with z|z
    ·exact nown c b hc z
    ·rw[hc]at z;cases z;exact hb rfl
end
structure Un (fs ex:List Addr) (H H':Hp) (h h':Heap):Prop where
 keep:∀b o,h.get? b=some o→H b=none→b∉fs→b∉ex→h'.get? b=some o
 slot:∀b o,h.get? b=some o→H b=none→b∈fs→b∉ex→∃sl,h'.get? b=some {o with slots:=sl}
 free:∀b o,h.get? b=some o→H b=none→b∉ex→H' b=none
 there:∀b o,h.get? b=some o→b∉ex→∃o',h'.get? b=some o'
 tups:∀b xs,H b=some (.tup xs)→H' b=some (.tup xs)
 frzs:∀b o u,H b=some (.frz o u)→H' b=some (.frz o u)
 tbls:∀b ps,H b=some (.tbl ps)→∃more,H' b=some (.tbl (ps++more))
section
variable {fs fs' ex ex':List Addr} {H H1 H2:Hp} {h h1 h2 h':Heap} {a x e:Addr} {o:HO}
theorem Un.any (u:Un fs ex H H1 h h1) {b:Addr} {ob:Obj} (q:h.get? b=some ob) (n:H b=none) (hx:b∉ex):∃sl,h1.get? b=some {ob with slots:=sl}:=by
 by_cases hb:b∈fs
 ·exact u.slot b ob q n hb hx
 ·exact⟨ob.slots,u.keep b ob q n hb hx⟩
theorem Un.trans (a:Un fs ex H H1 h h1) (b:Un fs ex H1 H2 h1 h2):Un fs ex H H2 h h2 where
 keep:=fun c ob q n hc hx=>b.keep c ob (a.keep c ob q n hc hx) (a.free c ob q n hx) hc hx
 slot:=fun c ob q n hc hx=>by
  obtain⟨sl,e1⟩:=a.slot c ob q n hc hx
  obtain⟨sl',e2⟩:=b.slot c _ e1 (a.free c ob q n hx) hc hx
  exact⟨sl',e2⟩
 free:=fun c ob q n hx=>by
  obtain⟨o',e1⟩:=a.there c ob q hx
  exact b.free c o' e1 (a.free c ob q n hx) hx
 there:=fun c ob q hx=>by
  obtain⟨o',e1⟩:=a.there c ob q hx
  exact b.there c o' e1 hx
 tups:=fun c xs q=>b.tups c xs (a.tups c xs q)
 frzs:=fun c ob xs q=>b.frzs c ob xs (a.frzs c ob xs q)
 tbls:=fun c ps q=>by
  obtain⟨m1,e1⟩:=a.tbls c ps q
  obtain⟨m2,e2⟩:=b.tbls c _ e1
  exact⟨m1++m2,by rw[e2,Array.append_assoc]⟩
theorem Un.kept (k:∀b u,h.get? b=some u→h'.get? b=some u):Un fs ex H H h h':=
 ⟨fun b ob q _ _ _=>k b ob q,fun b ob q _ _ _=>⟨ob.slots,k b ob q⟩,fun _ _ _ n _=>n,fun b ob q _=>⟨ob,k b ob q⟩,fun _ _ q=>q,fun _ _ _ q=>q,fun _ ps q=>⟨#[],by rw[q];simp⟩⟩
theorem Un.refl:Un fs ex H H h h:=Un.kept fun _ _ q=>q
theorem Un.laid (k:∀b u,h.get? b=some u→h'.get? b=some u) (hp:h.objs.size≤a) (hn:H a=none):Un fs ex H (BT H a o) h h' where
 keep:=fun b u q _ _ _=>k b u q
 slot:=fun b u q _ _ _=>⟨u.slots,k b u q⟩
 free:=fun b u q n _=>by rw[AR (Nat.ne_of_lt (Nat.lt_of_lt_of_le (Heap.lt_size q) hp))];exact n
 there:=fun b u q _=>⟨u,k b u q⟩
 tups:=fun b xs q=>by rw[AR (DJ q hn)];exact q
 frzs:=fun b u xs q=>by rw[AR (DJ q hn)];exact q
 tbls:=fun b ps q=>⟨#[],by rw[AR (DJ q hn),q];simp⟩
theorem Un.write (mu:vW (H x)) (he:e=x∨H e=some (.own x)) (k:∀b u,b≠e→h.get? b=some u→h'.get? b=some u) (heo:∃u,h'.get? e=some u):Un fs ex H (BT H x o) h h':=by
 have hx:∀b,H b=none→b≠x:=fun b n z=>by subst z;rw[n]at mu;exact mu
 have hb:∀b,H b=none→b≠e:=fun b n z=>by
  subst z
  rcases he with r|r
  ·exact hx b n r
  ·rw[n]at r;cases r
 have hm:∀b u,H b=some u→¬vW (some u)→b≠x:=fun b u q nm z=>by subst z;rw[q]at mu;exact nm mu
 refine⟨fun b u q n _ _=>k b u (hb b n) q,fun b u q n _ _=>⟨u.slots,k b u (hb b n) q⟩,fun b u q n _=>by rw[AR (hx b n)];exact n,fun b u q _=> ?_,
  fun b xs q=>by rw[AR (hm b _ q fun z=>z)];exact q,fun b u xs q=>by rw[AR (hm b _ q fun z=>z)];exact q,fun b ps q=>⟨#[],by rw[AR (hm b _ q fun z=>z),q];simp⟩⟩
 by_cases hbe:b=e
 ·subst hbe;exact heo
 ·exact⟨u,k b u hbe q⟩
end
def yN (h:Heap) (H:Hp):List Addr:=(List.range h.objs.size).filter fun a=>(H a).isSome
def S3 (h:Heap) (H:Hp):Heap:=PySem.W.hideAll h (yN h H)
theorem ZP (h:Heap) (H:Hp):(S3 h H).objs.size=h.objs.size:=PySem.W.hideAll_size _ _
theorem cX {h:Heap} {H:Hp} {b:Addr} {o:Obj} (e:h.get? b=some o) (n:H b=none):(S3 h H).get? b=some o:=
 PySem.W.hideAll_get _ e fun hm=>by
  have q:(H b).isSome=true:=(List.mem_filter.mp hm).2
  rw[n]at q;simp at q
theorem jU {h:Heap} {H:Hp} {b:Addr} {o:Obj} (e:(S3 h H).get? b=some o):h.get? b=some o∧H b=none:=by
 have e':h.get? b=some o:=PySem.W.of_hideAll (yN h H) e
 refine⟨e',?_⟩
 cases q:H b with
 |none=>rfl
 |some x=>
  have hm:b∈yN h H:=List.mem_filter.mpr ⟨List.mem_range.mpr (Heap.lt_size e'),by simp[q]⟩
  have z:(S3 h H).get? b=none:=PySem.W.hideAll_none (yN h H) hm
  rw[z]at e;cases e
end L2
namespace L2
open PySem PySem.Spec PyProof.Rows
structure Mod (K:PySem.W.Frag) (mg:Str→Option Value) (base:Heap):Prop where
 kin:K.In base
 glob:base.Ns mainGlobals mg
 blt:∃mb,base.Ns builtinsNs mb∧∀x:Str,x≠ "__name__"→mb x=bootBuiltins x
 nolimit:base.NoLimit
structure Cx where
 prog:Program
 w:World
 K:PySem.W.Frag
 mg:Str→Option Value
 base:Heap
 A:Around
 N:List Str
 s₀:Shared
 H₀:Hp
 env:Env
 outer:List Env
 stack:List Env
 ex:List Addr
 fn:Str→Bool
 calm:Bool
 pn:List (Addr×Obj)
 xe:Value→Shared→Prop
def aW (l:List Env):List Addr:=l.filterMap (·.frame)
abbrev Cx.fs (X:Cx):List Addr:=aW X.outer
def Vis (sc:Scope) (x:Str):Prop:=sc.names.lookup x=some .local∨sc.names.lookup x=some .cell∨sc.names.lookup x=some .free
def sZ (sc:Scope) (x:Str):Prop:=sc.names.lookup x=some .local∨sc.names.lookup x=some .cell
def zS (env:Env) (h:Heap) (m:Str→Option Value) (x:Str) (u:Value):Prop:=
 (env.kindOf x=some .local∧m x=some u)∨((env.kindOf x=some .cell∨env.kindOf x=some .free)∧∃c,env.cells.lookup x=some c∧h.IsCell c (some u))
structure Cx.Ok (X:Cx):Prop where
 mod:Mod X.K X.mg X.base
 kind:X.env.scope.kind= .function
 glob:X.env.globals=mainGlobals
 blt:X.env.builtins=builtinsNs
 above:X.s₀.heap.objs.size≤X.env.locals
 inj:∀x y c,X.env.cells.lookup x=some c→X.env.cells.lookup y=some c→x=y
 has:∀x,(X.env.kindOf x=some .cell∨X.env.kindOf x=some .free)→∃c,X.env.cells.lookup x=some c
 cab:∀x c,X.fn x=true→X.env.cells.lookup x=some c→X.s₀.heap.objs.size≤c
 hd:X.calm=true→X.A.handled=none
 frames:X.A.frames=some X.stack
 stk:X.stack=X.outer∨(X.stack=X.env::X.outer∧X.env.frame=some X.env.locals)
 exf:∀b∈X.ex,b≠X.env.locals∧∀x c,X.env.cells.lookup x=some c→c≠b
 bs:∀b o,X.base.get? b=some o→X.s₀.heap.get? b=some o∧X.H₀ b=none
 bsz:X.base.objs.size≤X.s₀.heap.objs.size
 noex:∀b o,X.base.get? b=some o→b∉X.ex
 exfs:∀b∈X.ex,b∉X.fs
 funs:X.s₀.heap.FunFrames X.base X.outer
 frf:∀b∈X.fs,X.H₀ b=none
structure Inv (X:Cx) (pins:List (Addr×Obj)) (σ:List (Option V)) (H:Hp) (s:Shared):Prop where
 ok:X.Ok
 os:s.os=X.s₀.os
 bare:AllBare s.gens
 base:Un X.fs X.ex X.H₀ H X.s₀.heap s.heap
 loc:∃m,s.heap.Ns X.env.locals m∧∀(i:Nat) (x:Str) (v:V),X.N[i]? =some x→σ[i]? =some (some v)→Vis X.env.scope x→∃u,RelV v u∧zS X.env s.heap m x u
 cell:∀x c,X.env.cells.lookup x=some c→∃v,s.heap.IsCell c v
 free:H X.env.locals=none
 freeC:∀x c,X.env.cells.lookup x=some c→H c=none
 pin:∀p∈X.pn++pins,s.heap.get? p.1=some p.2∧H p.1=none∧p.1≠X.env.locals∧p.1∉X.fs∧∀v,p.2.data≠ .cell v
 hok:HOk X.prog X.w H s.heap
 len:σ.length=X.N.length
section
variable {X:Cx} {pins:List (Addr×Obj)} {σ:List (Option V)} {H H':Hp} {s:Shared} {h':Heap}
theorem Cx.Ok.nofr (ok:X.Ok) {b:Addr} {o:Obj} (e:X.base.get? b=some o):b∉X.fs:=fun hb=>by
 have:=(ok.funs.mem hb).1
 rw[e]at this;cases this
theorem Inv.bs (I:Inv X pins σ H s):∀b o,X.base.get? b=some o→s.heap.get? b=some o∧H b=none:=fun b o e=>
 ⟨I.base.keep b o (I.ok.bs b o e).1 (I.ok.bs b o e).2 (I.ok.nofr e) (I.ok.noex b o e),I.base.free b o (I.ok.bs b o e).1 (I.ok.bs b o e).2 (I.ok.noex b o e)⟩
theorem Inv.bk (I:Inv X pins σ H s):∀b o,X.base.get? b=some o→s.heap.get? b=some o:=fun b o e=>(I.bs b o e).1
theorem Inv.mod (I:Inv X pins σ H s):Mod X.K X.mg X.base:=I.ok.mod
theorem Inv.kIn (I:Inv X pins σ H s):X.K.In s.heap:=I.ok.mod.kin.keeps I.bk
theorem Inv.lt (I:Inv X pins σ H s):X.env.locals<s.heap.objs.size:=let⟨_,hn,_⟩:=I.loc;hn.lt
theorem Inv.sz (I:Inv X pins σ H s):X.s₀.heap.objs.size≤s.heap.objs.size:=Nat.le_trans I.ok.above (Nat.le_of_lt I.lt)
theorem Inv.nofs (I:Inv X pins σ H s) {a:Addr} (h:s.heap.objs.size≤a):a∉X.fs:=fun hb=>by
 obtain⟨_,o,ho,_⟩:=I.ok.funs.mem hb
 exact absurd (Nat.lt_of_lt_of_le (Heap.lt_size ho) (Nat.le_trans I.sz h)) (Nat.lt_irrefl _)
theorem Inv.cne (I:Inv X pins σ H s):∀x c,X.env.cells.lookup x=some c→c≠X.env.locals:=fun x c e z=>by
 obtain⟨v,o,ho,hd⟩:=I.cell x c e
 obtain⟨m,⟨o',es,ep,ho',hd',_⟩,_⟩:=I.loc
 rw[z,ho']at ho;cases ho;rw[hd']at hd;cases hd
theorem Inv.funs (I:Inv X pins σ H s):s.heap.FunFrames X.base X.outer:=by
 have all:∀(l:List Env),(∀b∈aW l,b∈X.fs)→X.s₀.heap.FunFrames X.base l→s.heap.FunFrames X.base l:=by
  intro l
  induction l with
  |nil=>intro _ _;trivial
  |cons env r ih=>
   intro hs hl
   obtain⟨hk,⟨L,o,hf,hn,ho,hd⟩,hr⟩:=hl
   have hL:L∈X.fs:=hs L (by unfold aW;rw[List.filterMap_cons,hf];exact List.mem_cons_self)
   obtain⟨sl,e⟩:=I.base.slot L o ho (I.ok.frf L hL) hL fun z=>I.ok.exfs L z hL
   exact⟨hk,⟨L,_,hf,hn,e,hd⟩,ih (fun b hb=>hs b (by unfold aW;rw[List.filterMap_cons,hf];exact List.mem_cons_of_mem _ hb)) hr⟩
 exact all X.outer (fun _ hb=>hb) I.ok.funs
theorem Inv.stack (I:Inv X pins σ H s):s.heap.FunFrames X.base X.stack:=by
 rcases I.ok.stk with e|⟨e,hf⟩
 ·rw[e];exact I.funs
 ·rw[e]
  obtain⟨m,hn,_⟩:=I.loc
  refine .cons (by rw[I.ok.kind];decide) hf hn ?_ I.funs
  exact Heap.get?_none_of_le (Nat.le_trans I.ok.bsz I.ok.above)
theorem Inv.stkSub (I:Inv X pins σ H s):∀b∈aW X.stack,b∈X.env.locals::X.fs:=fun b hb=>by
 rcases I.ok.stk with e|⟨e,hf⟩
 ·rw[e]at hb;exact List.mem_cons_of_mem _ hb
 ·rw[e]at hb
  unfold aW at hb
  rw[List.filterMap_cons,hf]at hb
  exact hb
theorem Inv.stkFree (I:Inv X pins σ H s):∀b∈aW X.stack,H b=none:=fun b hb=>by
 rcases List.mem_cons.mp (I.stkSub b hb) with e|hb
 ·rw[e];exact I.free
 ·obtain⟨_,o,ho,_⟩:=I.ok.funs.mem hb
  exact I.base.free b o ho (I.ok.frf b hb) fun z=>I.ok.exfs b z hb
theorem Inv.step {g':Array GenState} {t':Nat} {d':Drawn} {ch:List Addr} (I:Inv X pins σ H s)
 (hch:∀b∈ch,(b∈X.ex∨X.s₀.heap.objs.size≤b)∧b≠X.env.locals∧(∀x c,X.env.cells.lookup x=some c→c≠b)∧∀p∈X.pn++pins,p.1≠b)
 (keep:∀b o,b≠X.env.locals→b∉X.fs→b∉ch→s.heap.get? b=some o→H b=none→h'.get? b=some o)
 (slot:∀b o,b≠X.env.locals→b∈X.fs→b∉ch→s.heap.get? b=some o→H b=none→∃sl,h'.get? b=some {o with slots:=sl}) (free:∀b o,b∉ch→s.heap.get? b=some o→H b=none→H' b=none)
 (there:∀b o,b∉ch→s.heap.get? b=some o→∃o',h'.get? b=some o')
 (tups:∀b xs,H b=some (.tup xs)→H' b=some (.tup xs)) (frzs:∀b o u,H b=some (.frz o u)→H' b=some (.frz o u)) (tbls:∀b ps,H b=some (.tbl ps)→∃more,H' b=some (.tbl (ps++more)))
 (ns:∀m,s.heap.Ns X.env.locals m→h'.Ns X.env.locals m) (hok:HOk X.prog X.w H' h') (hg:AllBare g'):
 Inv X pins σ H' {s with heap:=h',gens:=g',drawn:=d',toks:=t'}:=by
 have neL:∀b o,X.s₀.heap.get? b=some o→b≠X.env.locals:=fun b o e=>Nat.ne_of_lt (Nat.lt_of_lt_of_le (Heap.lt_size e) I.ok.above)
 have neC:∀b o,X.s₀.heap.get? b=some o→b∉X.ex→b∉ch:=fun b o e hx hb=>by
  rcases(hch b hb).1 with z|z
  ·exact hx z
  ·exact absurd (Nat.lt_of_lt_of_le (Heap.lt_size e) z) (Nat.lt_irrefl _)
 have cellK:∀x c,X.env.cells.lookup x=some c→∀v,s.heap.IsCell c v→h'.IsCell c v:=fun x c e v ⟨o,ho,hd⟩=>by
  have nch:c∉ch:=fun z=>(hch c z).2.2.1 x c e rfl
  by_cases hc:c∈X.fs
  ·obtain⟨sl,q⟩:=slot c o (I.cne x c e) hc nch ho (I.freeC x c e)
   exact⟨_,q,hd⟩
  ·exact⟨o,keep c o (I.cne x c e) hc nch ho (I.freeC x c e),hd⟩
 refine⟨I.ok,I.os,hg,⟨fun b o e n hb hx=> ?_,fun b o e n hb hx=> ?_,fun b o e n hx=> ?_,fun b o e hx=> ?_,fun b xs e=>tups b xs (I.base.tups b xs e),fun b o xs e=>frzs b o xs (I.base.frzs b o xs e),fun b ps e=> ?_⟩,?_,fun x c e=> ?_,?_,fun x c e=> ?_,fun p hp=> ?_,hok,I.len⟩
 ·exact keep b o (neL b o e) hb (neC b o e hx) (I.base.keep b o e n hb hx) (I.base.free b o e n hx)
 ·obtain⟨sl,e1⟩:=I.base.slot b o e n hb hx
  obtain⟨sl',e2⟩:=slot b _ (neL b o e) hb (neC b o e hx) e1 (I.base.free b o e n hx)
  exact⟨sl',e2⟩
 ·obtain⟨o',e1⟩:=I.base.there b o e hx
  exact free b o' (neC b o e hx) e1 (I.base.free b o e n hx)
 ·obtain⟨o',e1⟩:=I.base.there b o e hx
  exact there b o' (neC b o e hx) e1
 ·obtain⟨m1,e1⟩:=I.base.tbls b ps e
  obtain⟨m2,e2⟩:=tbls b _ e1
  exact⟨m1++m2,by rw[e2,Array.append_assoc]⟩
 ·obtain⟨m,hn,hl⟩:=I.loc
  refine⟨m,ns m hn,fun i x v e1 e2 e3=> ?_⟩
  obtain⟨u,r,l⟩:=hl i x v e1 e2 e3
  refine⟨u,r,?_⟩
  rcases l with l|⟨k,c,e,z⟩
  ·exact .inl l
  ·exact .inr ⟨k,c,e,cellK x c e _ z⟩
 ·obtain⟨v,z⟩:=I.cell x c e
  exact⟨v,cellK x c e v z⟩
 ·obtain⟨m,⟨o,_,_,ho,_⟩,_⟩:=I.loc
  exact free _ o (fun z=>(hch _ z).2.1 rfl) ho I.free
 ·obtain⟨v,o,ho,hd⟩:=I.cell x c e
  exact free c o (fun z=>(hch c z).2.2.1 x c e rfl) ho (I.freeC x c e)
 ·obtain⟨e,n,ne,nf,d⟩:=I.pin p hp
  have nch:p.1∉ch:=fun z=>(hch p.1 z).2.2.2 p hp rfl
  exact⟨keep p.1 p.2 ne nf nch e n,free p.1 p.2 nch e n,ne,nf,d⟩
theorem Inv.un {t':Nat} (I:Inv X pins σ H s) (u:Un X.fs [] H H' s.heap h') (hok:HOk X.prog X.w H' h'):Inv X pins σ H' {s with heap:=h',toks:=t'}:=by
 obtain⟨m,⟨o,es,ep,ho,r⟩,_⟩:=id I.loc
 obtain⟨sl,hL⟩:=u.any ho I.free (by simp)
 exact I.step (g':=s.gens) (d':=s.drawn) (ch:=[]) (fun _ z=>nomatch z) (fun b o _ hb _ e n=>u.keep b o e n hb (by simp)) (fun b o _ hb _ e n=>u.slot b o e n hb (by simp)) (fun b o _ e n=>u.free b o e n (by simp)) (fun b o _ e=>u.there b o e (by simp)) u.tups u.frzs u.tbls (fun m' hm=>by
  obtain⟨o',es',ep',ho',r'⟩:=hm
  rw[ho]at ho';cases ho'
  exact⟨_,es',ep',hL,r'⟩) hok I.bare
theorem Inv.call {g':Array GenState} {t':Nat} {d':Drawn} {ch:List Addr} (I:Inv X pins σ H s) (u:Un (aW X.stack) ch H H' s.heap h') (hok:HOk X.prog X.w H' h') (hg:AllBare g')
 (hch:∀b∈ch,(b∈X.ex∨X.s₀.heap.objs.size≤b)∧b≠X.env.locals∧(∀x c,X.env.cells.lookup x=some c→c≠b)∧∀p∈X.pn++pins,p.1≠b):
 Inv X pins σ H' {s with heap:=h',gens:=g',drawn:=d',toks:=t'}:=by
 obtain⟨m,⟨o,es,ep,ho,r⟩,_⟩:=id I.loc
 obtain⟨sl,hL⟩:=u.any ho I.free fun z=>(hch _ z).2.1 rfl
 exact I.step (ch:=ch) hch (fun b o hL hb hc e n=>u.keep b o e n (fun z=>(List.mem_cons.mp (I.stkSub b z)).elim hL hb) hc) (fun b o _ _ hc e n=>u.any e n hc) (fun b o hc e n=>u.free b o e n hc) (fun b o hc e=>u.there b o e hc) u.tups u.frzs u.tbls (fun m' hm=>by
  obtain⟨o',es',ep',ho',r'⟩:=hm
  rw[ho]at ho';cases ho'
  exact⟨_,es',ep',hL,r'⟩) hok hg
theorem Inv.turned {t':Nat} {it:Addr} (I:Inv X pins σ H s) (k:∀b o,b≠it→s.heap.get? b=some o→h'.get? b=some o) (hn:H it=none) (hL:it≠X.env.locals)
 (h1:it∈X.ex∨X.s₀.heap.objs.size≤it) (h2:∀x c,X.env.cells.lookup x=some c→c≠it) (h3:∀p∈X.pn++pins,p.1≠it):Inv X pins σ H {s with heap:=h',toks:=t'}:=by
 have nit:∀b u,H b=some u→b≠it:=fun b u e z=>by rw[z,hn]at e;cases e
 refine I.step (g':=s.gens) (d':=s.drawn) (ch:=[it]) (fun b hb=> ?_) (fun b o _ _ hc e _=>k b o (fun z=>hc (by simp[z])) e) (fun b o _ _ hc e _=>⟨o.slots,k b o (fun z=>hc (by simp[z])) e⟩) (fun _ _ _ _ n=>n)
  (fun b o hc e=>⟨o,k b o (fun z=>hc (by simp[z])) e⟩) (fun _ _ e=>e) (fun _ _ _ e=>e) (fun b ps e=>⟨#[],by rw[e];simp⟩) (fun m hm=> ?_) (fun b u e=> ?_) I.bare
 ·have e:b=it:=by simpa using hb
  subst e
  exact⟨h1,hL,h2,h3⟩
 ·obtain⟨o,es,ep,ho,r⟩:=hm
  exact⟨o,es,ep,k _ o (Ne.symm hL) ho,r⟩
 ·refine(I.hok b u e).stay (fun c v hc q=>k c v ?_ q) (fun _ q=>q) fun _ _ q=>q
  rcases hc with z|z
  ·rw[z];exact nit b u e
  ·exact nit c _ z
theorem Inv.tok (I:Inv X pins σ H s) (t:Nat):Inv X pins σ H {s with toks:=t}:=I.un (h':=s.heap) (t':=t) Un.refl I.hok
theorem Inv.kept {t':Nat} (I:Inv X pins σ H s) (k:∀b u,s.heap.get? b=some u→h'.get? b=some u):Inv X pins σ H {s with heap:=h',toks:=t'}:=I.un (Un.kept k) (I.hok.kept k)
theorem Inv.laid {a:Addr} {o:HO} {t':Nat} (I:Inv X pins σ H s) (k:∀b u,s.heap.get? b=some u→h'.get? b=some u) (hp:s.heap.objs.size≤a) (new:ObjOk X.prog X.w (BT H a o) h' a o):
 Inv X pins σ (BT H a o) {s with heap:=h',toks:=t'}:=I.un (Un.laid k hp (I.hok.fresh hp)) (I.hok.laid k hp new)
theorem Inv.write {x e:Addr} {o:HO} {t':Nat} (I:Inv X pins σ H s) (mu:vW (H x)) (he:e=x∨H e=some (.own x)) (k:∀b u,b≠e→s.heap.get? b=some u→h'.get? b=some u) (heo:∃u,h'.get? e=some u)
 (new:ObjOk X.prog X.w (BT H x o) h' x o):Inv X pins σ (BT H x o) {s with heap:=h',toks:=t'}:=I.un (Un.write mu he k heo) (I.hok.write mu he k heo new)
theorem Inv.weak {σ':List (Option V)} (I:Inv X pins σ H s) (hl:σ'.length=σ.length) (w:∀(i:Nat) v,σ'[i]? =some (some v)→σ[i]? =some (some v)):Inv X pins σ' H s:=
 ⟨I.ok,I.os,I.bare,I.base,let⟨m,hn,hl'⟩:=I.loc;⟨m,hn,fun i x v e1 e2 e3=>hl' i x v e1 (w i v e2) e3⟩,I.cell,I.free,I.freeC,I.pin,I.hok,hl.trans I.len⟩
theorem Inv.pins_of {pins':List (Addr×Obj)} (I:Inv X pins σ H s) (h:∀p∈pins',s.heap.get? p.1=some p.2∧H p.1=none∧p.1≠X.env.locals∧p.1∉X.fs∧∀v,p.2.data≠ .cell v):Inv X pins' σ H s:=
 ⟨I.ok,I.os,I.bare,I.base,I.loc,I.cell,I.free,I.freeC,fun p hp=>(List.mem_append.mp hp).elim (fun z=>I.pin p (List.mem_append_left _ z)) (h p),I.hok,I.len⟩
theorem UK {N:List Str} (hN:N.Nodup) {i j:Nat} {x:Str} (a:N[i]? =some x) (b:N[j]? =some x):i=j:=by
 obtain⟨h1,e1⟩:=List.getElem?_eq_some_iff.mp a
 obtain⟨h2,e2⟩:=List.getElem?_eq_some_iff.mp b
 exact(List.getElem_inj hN).mp (e1.trans e2.symm)
theorem PB {M:Model} {A:Around} {E:Value→Shared→Prop} {i:Nat} {x:Str} {v:V} {u:Value} {Q:Unit→Shared→Prop} (I:Inv X pins σ H s) (hN:X.N.Nodup) (hi:X.N[i]? =some x) (hx:sZ X.env.scope x) (r:RelV v u)
 (h:∀s',Inv X pins (σ.set i (some v)) H s'→(∃a,Heap.SameBut a s.heap s'.heap∧(a=X.env.locals∨X.env.cells.lookup x=some a))→Q () s') (hf:X.fn x=true∨X.env.scope.names.lookup x=some .local:=by first|exact .inl rfl|exact .inr rfl|assumption):wpAny M A (storeName X.env x u) Q E s:=by
 obtain⟨m,hn,hl⟩:=id I.loc
 have hcls:(X.env.scope.kind== .class||(X.env.scope.kind== .module&&X.env.locals !=X.env.globals))=false:=by rw[I.ok.kind];rfl
 have hiσ:i<σ.length:=by rw[I.len];exact(List.getElem?_eq_some_iff.mp hi).1
 have cne:=I.cne
 have tracked:∀{a:Addr} {h':Heap},(∃o,s.heap.get? a=some o∧H a=none)→Heap.SameBut a s.heap h'→HOk X.prog X.w H h':=fun{a h'} ha hs b ob e=>by
  obtain⟨_,_,hfree⟩:=ha
  refine(I.hok b ob e).stay (fun c w' hc q=>(hs.2 c ?_).trans q) (fun _ q=>q) fun _ _ q=>q
  rintro rfl
  rcases hc with rfl|hc
  ·rw[hfree]at e;cases e
  ·rw[hfree]at hc;cases hc
 rcases hx with hk|hk
 ·refine wpAny_storeName_local hk hn (fun h' hn' hs=> ?_) hcls
  obtain⟨oL,_,_,hoL,_⟩:=id hn
  refine h _ ⟨I.ok,I.os,I.bare,⟨fun b o e n hb hx=> ?_,fun b o e n hb hx=> ?_,I.base.free,fun b o e hx=> ?_,I.base.tups,I.base.frzs,I.base.tbls⟩,⟨_,hn',fun j y v' e1 e2 e3=> ?_⟩,fun y c e=> ?_,I.free,I.freeC,fun p hp=> ?_,tracked ⟨oL,hoL,I.free⟩ hs,by simpa using I.len⟩ ⟨_,hs, .inl rfl⟩
  ·exact(hs.2 b (Nat.ne_of_lt (Nat.lt_of_lt_of_le (Heap.lt_size e) I.ok.above))).trans (I.base.keep b o e n hb hx)
  ·obtain⟨sl,e1⟩:=I.base.slot b o e n hb hx
   exact⟨sl,(hs.2 b (Nat.ne_of_lt (Nat.lt_of_lt_of_le (Heap.lt_size e) I.ok.above))).trans e1⟩
  ·obtain⟨o',e1⟩:=I.base.there b o e hx
   exact⟨o',(hs.2 b (Nat.ne_of_lt (Nat.lt_of_lt_of_le (Heap.lt_size e) I.ok.above))).trans e1⟩
  ·by_cases hj:j=i
   ·subst hj
    rw[hi]at e1;cases e1
    rw[List.getElem?_set_self hiσ]at e2
    cases e2
    exact⟨u,r, .inl ⟨hk,by simp⟩⟩
   ·rw[List.getElem?_set_ne (Ne.symm hj)]at e2
    obtain⟨u',r',q⟩:=hl j y v' e1 e2 e3
    refine⟨u',r',?_⟩
    rcases q with⟨k,e⟩|⟨k,c,e,z⟩
    ·refine .inl ⟨k,?_⟩
     have:y≠x:=fun e=>hj (UK hN e1 (e▸hi))
     simp[this,e]
    ·exact .inr ⟨k,c,e,z.sameBut hs (cne y c e)⟩
  ·obtain⟨w',z⟩:=I.cell y c e
   exact⟨w',z.sameBut hs (cne y c e)⟩
  ·obtain⟨e,n,ne,nf,d⟩:=I.pin p hp
   exact⟨(hs.2 p.1 ne).trans e,n,ne,nf,d⟩
 ·have hfn:X.fn x=true:=by
   rcases hf with z|z
   ·exact z
   ·rw[z]at hk;cases hk
  obtain⟨c,hc⟩:=I.ok.has x (.inl hk)
  obtain⟨w',z⟩:=I.cell x c hc
  refine wpAny_storeName_cell I.ok.kind hk hc z (fun h' hc' hs=> ?_)
  obtain⟨oc,hoc,hocd⟩:=id z
  refine h {s with heap:=h'} ⟨I.ok,I.os,I.bare,⟨fun b o e n hb hx=> ?_,fun b o e n hb hx=> ?_,I.base.free,fun b o e hx=> ?_,I.base.tups,I.base.frzs,I.base.tbls⟩,⟨m,hn.sameBut hs (Ne.symm (cne x c hc)),fun j y v' e1 e2 e3=> ?_⟩,fun y c' e=> ?_,I.free,I.freeC,fun p hp=> ?_,tracked ⟨oc,hoc,I.freeC x c hc⟩ hs,by simpa using I.len⟩ ⟨c,hs, .inr hc⟩
  ·exact(hs.2 b (Nat.ne_of_lt (Nat.lt_of_lt_of_le (Heap.lt_size e) (I.ok.cab x c hfn hc)))).trans (I.base.keep b o e n hb hx)
  ·obtain⟨sl,e1⟩:=I.base.slot b o e n hb hx
   exact⟨sl,(hs.2 b (Nat.ne_of_lt (Nat.lt_of_lt_of_le (Heap.lt_size e) (I.ok.cab x c hfn hc)))).trans e1⟩
  ·obtain⟨o',e1⟩:=I.base.there b o e hx
   exact⟨o',(hs.2 b (Nat.ne_of_lt (Nat.lt_of_lt_of_le (Heap.lt_size e) (I.ok.cab x c hfn hc)))).trans e1⟩
  ·by_cases hj:j=i
   ·subst hj
    rw[hi]at e1;cases e1
    rw[List.getElem?_set_self hiσ]at e2
    cases e2
    exact⟨u,r, .inr ⟨.inl hk,c,hc,hc'⟩⟩
   ·rw[List.getElem?_set_ne (Ne.symm hj)]at e2
    obtain⟨u',r',q⟩:=hl j y v' e1 e2 e3
    refine⟨u',r',?_⟩
    rcases q with q|⟨k,c',e,z'⟩
    ·exact .inl q
    ·refine .inr ⟨k,c',e,z'.sameBut hs ?_⟩
     rintro rfl
     exact hj (UK hN e1 (I.ok.inj _ _ _ e hc▸hi))
  ·by_cases hcc:c'=c
   ·subst hcc;exact⟨_,hc'⟩
   ·obtain⟨w2,z2⟩:=I.cell y c' e
    exact⟨w2,z2.sameBut hs hcc⟩
  ·obtain⟨e,n,ne,nf,d⟩:=I.pin p hp
   refine⟨(hs.2 p.1 ?_).trans e,n,ne,nf,d⟩
   intro q
   rw[q,hoc]at e
   have q':oc=p.2:=Option.some.inj e
   exact d w' (by rw[←q'];exact hocd)
theorem L7 {M:Model} {A:Around} {E:Value→Shared→Prop} {i:Nat} {x:Str} {v:V} {u:Value} {Q:Unit→Shared→Prop} (I:Inv X pins σ H s) (hN:X.N.Nodup) (hi:X.N[i]? =some x) (hx:sZ X.env.scope x) (r:RelV v u)
 (h:∀s',Inv X pins (σ.set i (some v)) H s'→Q () s') (hf:X.fn x=true∨X.env.scope.names.lookup x=some .local:=by first|exact .inl rfl|exact .inr rfl|assumption):wpAny M A (storeName X.env x u) Q E s:=
 PB I hN hi hx r (fun s' I' _=>h s' I') hf
theorem Inv.call' {s':Shared} {ch:List Addr} (I:Inv X pins σ H s) (ho:s'.os=s.os) (u:Un (aW X.stack) ch H H' s.heap s'.heap) (hok:HOk X.prog X.w H' s'.heap) (hg:AllBare s'.gens)
 (hch:∀b∈ch,(b∈X.ex∨X.s₀.heap.objs.size≤b)∧b≠X.env.locals∧(∀x c,X.env.cells.lookup x=some c→c≠b)∧∀p∈X.pn++pins,p.1≠b):Inv X pins σ H' s':=by
 obtain⟨h',g',d',t',o'⟩:=s'
 have e:o'=s.os:=ho
 subst e
 exact I.call (g':=g') (t':=t') (d':=d') u hok hg hch
end
abbrev XK:=Value→Option Addr→Hp→Prop
abbrev St:=List (Option V)
abbrev VK:=V→Hp→Prop
abbrev TE:=St→Hp→VK→Prop
abbrev TT:=St→Hp→(Bool→Hp→Prop)→Prop
abbrev TA:=St→Hp→(List V→Hp→Prop)→Prop
structure Ends where
 nx:St→Hp→Prop
 rt:VK
 bk:St→Hp→Prop:=fun _ _=>False
 ct:St→Hp→Prop:=fun _ _=>False
abbrev TS:=Ends→St→Hp→Prop
def EP (X:Cx) (pins:List (Addr×Obj)) (σ:St) (Q:VK) (u:Value) (s':Shared):Prop:=∃v H',Inv X pins σ H' s'∧RelV v u∧Q v H'
def TP (X:Cx) (pins:List (Addr×Obj)) (σ:St) (Q:Bool→Hp→Prop) (b:Bool) (s':Shared):Prop:=∃H',Inv X pins σ H' s'∧Q b H'
def AP (X:Cx) (pins:List (Addr×Obj)) (σ:St) (Q:List V→Hp→Prop) (us:List Value) (s':Shared):Prop:=∃vs H',Inv X pins σ H' s'∧Vals vs us∧Q vs H'
def SP (X:Cx) (pins:List (Addr×Obj)) (D:Ends) (f:Flow) (s':Shared):Prop:=
 match f with
 | .next=>∃σ' H',Inv X pins σ' H' s'∧D.nx σ' H'
 | .brk=>∃σ' H',Inv X pins σ' H' s'∧D.bk σ' H'
 | .cont=>∃σ' H',Inv X pins σ' H' s'∧D.ct σ' H'
 | .ret u=>∃v σ' H',Inv X pins σ' H' s'∧RelV v u∧D.rt v H'
def PE (X:Cx) (e:Expr) (t:TE):Prop:=
 ∀(pins:List (Addr×Obj)) (s:Shared) (σ:St) (H:Hp) (Q:VK),Inv X pins σ H s→t σ H Q→wpAny (model X.prog X.w) X.A (eval e X.env) (EP X pins σ Q) X.xe s
def PT (X:Cx) (e:Expr) (t:TT):Prop:=
 ∀(pins:List (Addr×Obj)) (s:Shared) (σ:St) (H:Hp) (Q:Bool→Hp→Prop),Inv X pins σ H s→t σ H Q→wpAny (model X.prog X.w) X.A (isTrue e X.env (eval e X.env)) (TP X pins σ Q) X.xe s
def PW (X:Cx) (e:Expr) (t:TT):Prop:=
 ∀(whole:Sem Value) (pins:List (Addr×Obj)) (s:Shared) (σ:St) (H:Hp) (Q:Bool→Hp→Prop),Inv X pins σ H s→t σ H Q→wpAny (model X.prog X.w) X.A (isTrue e X.env whole) (TP X pins σ Q) X.xe s
theorem PW.pt {X:Cx} {e:Expr} {t:TT} (h:PW X e t):PT X e t:=h _
def PA (X:Cx) (es:List Expr) (t:TA):Prop:=
 ∀(pos:Pos) (pins:List (Addr×Obj)) (s:Shared) (σ:St) (H:Hp) (Q:List V→Hp→Prop),Inv X pins σ H s→t σ H Q→wpAny (model X.prog X.w) X.A (spliced (backTo pos (starEach es X.env))) (AP X pins σ Q) X.xe s
def PS (X:Cx) (st:Stmt) (t:TS):Prop:=
 ∀(pins:List (Addr×Obj)) (s:Shared) (σ:St) (H:Hp) (D:Ends),Inv X pins σ H s→t D σ H→wpAny (model X.prog X.w) X.A (exec st X.env) (SP X pins D) X.xe s
def PSs (X:Cx) (st:List Stmt) (t:TS):Prop:=
 ∀(pins:List (Addr×Obj)) (s:Shared) (σ:St) (H:Hp) (D:Ends),Inv X pins σ H s→t D σ H→wpAny (model X.prog X.w) X.A (execs st X.env) (SP X pins D) X.xe s
theorem thn {α:Type} {t:Sem α} {Q Q':α→Shared→Prop} {M:Model} {A:Around} {E:Value→Shared→Prop} {s:Shared} (h:wpAny M A t Q E s) (hQ:∀a s,Q a s→Q' a s):wpAny M A t Q' E s:=wpAny_mono h hQ fun _ _ x=>x
end L2
namespace L2
open PySem PySem.Spec PyProof.Rows
section
variable {X:Cx}
def kN (i:Nat):TE:=fun σ H Q=>∃v,σ[i]? =some (some v)∧Q v H
def tC (v:V):TE:=fun _ H Q=>Q v H
theorem bK {i:Nat} {x:Str} {pos:Pos} (hN:X.N[i]? =some x) (hv:Vis X.env.scope x) (hd:(x==("__debug__":Str))=false:=by decide) (hcd:(x==("__classdict__":Str))=false:=by decide):PE X (.Name x pos) (kN i):=by
 intro pins s σ H Q I h
 obtain⟨v,e,h⟩:=h
 obtain⟨m,hn,hl⟩:=I.loc
 obtain⟨u,r,l⟩:=hl i x v hN e hv
 have fin:EP X pins σ Q u s:=⟨v,H,I,r,h⟩
 rcases l with⟨hk,hm⟩|⟨hk,c,hc,hcell⟩
 ·exact wpAny_Name (wpAny_loadName_local I.ok.kind hk hn hm fin) hd
 ·rcases hk with hk|hk
  ·exact wpAny_Name (wpAny_loadName_cell I.ok.kind hk hc hcell fin) hd
  ·exact wpAny_Name (wpAny_loadName_free I.ok.kind hk hc hcell fin hcd) hd
theorem nQ {i j pos}:PE X (.Constant (.int i) j pos) (tC (.int i)):=fun _ _ _ H _ I h=>wpAny_Constant_int ⟨.int i,H,I.tok _,⟨_,rfl⟩,h⟩
theorem uR {b j pos}:PE X (.Constant (.bool b) j pos) (tC (.bl b)):=fun _ _ _ H _ I h=>Constant_bool ⟨.bl b,H,I,rfl,h⟩
theorem pW {j pos}:PE X (.Constant .none j pos) (tC .non):=fun _ _ _ H _ I h=>Constant_none ⟨.non,H,I,rfl,h⟩
theorem qQ {x j pos}:PE X (.Constant (.str x) j pos) (tC (.str x)):=fun _ _ _ H _ I h=>Calls.Constant_str ⟨.str x,H,I.tok _,⟨_,rfl⟩,h⟩
def Gl (X:Cx) (x:Str):Prop:=X.env.kindOf x=some .globalImplicit
theorem XZ {E:Value→Shared→Prop} {pins:List (Addr×Obj)} {s:Shared} {σ:St} {H:Hp} {x:Str} {u:Value} {pos:Pos} {Q:Value→Shared→Prop} (I:Inv X pins σ H s) (hg:Gl X x) (hm:X.mg x=some u) (h:Q u s)
 (hd:(x==("__debug__":Str))=false:=by decide):wpAny (model X.prog X.w) X.A (eval (.Name x pos) X.env) Q E s:=
 Calls.Name_function_global I.ok.kind hg (Calls.loadGlobal_global (by rw[I.ok.glob];exact I.mod.glob.keeps I.bk) hm h) hd
theorem KC {E:Value→Shared→Prop} {pins:List (Addr×Obj)} {s:Shared} {σ:St} {H:Hp} {x:Str} {u:Value} {pos:Pos} {Q:Value→Shared→Prop} (I:Inv X pins σ H s) (hg:Gl X x) (hm:X.mg x=none) (hv:bootBuiltins x=some u) (h:Q u s)
 (hn:x≠ "__name__":=by decide) (hd:(x==("__debug__":Str))=false:=by decide):wpAny (model X.prog X.w) X.A (eval (.Name x pos) X.env) Q E s:=by
 obtain⟨mb,h1,h2⟩:=I.mod.blt
 exact Calls.Name_function_global I.ok.kind hg (Calls.loadGlobal_builtin (by rw[I.ok.glob];exact I.mod.glob.keeps I.bk) hm (by rw[I.ok.blt];exact h1.keeps I.bk) ((h2 x hn).trans hv) h) hd
theorem kK {x:Str} {v:V} {u:Value} {pos:Pos} (hg:Gl X x) (hm:X.mg x=some u) (r:RelV v u) (hd:(x==("__debug__":Str))=false:=by decide):PE X (.Name x pos) (tC v):=
 fun _ _ _ H _ I h=>XZ I hg hm ⟨v,H,I,r,h⟩ hd
theorem kJ {x:Str} {v:V} {u:Value} {pos:Pos} (hg:Gl X x) (hm:X.mg x=none) (hv:bootBuiltins x=some u) (r:RelV v u) (hn:x≠ "__name__":=by decide) (hd:(x==("__debug__":Str))=false:=by decide):PE X (.Name x pos) (tC v):=
 fun _ _ _ H _ I h=>KC I hg hm hv ⟨v,H,I,r,h⟩ hn hd
variable {a b:Expr} {ta tb:TE} {pos:Pos}
def tB (t:TE):TT:=fun σ H Q=>t σ H fun x H1=>∃c,x= .bl c∧Q c H1
theorem nW {e:Expr} {t:TE} (h:PE X e t) (he:∀whole,isTrue e X.env whole=(do let v←whole;standAt e.pos;holding [v] (truthy v)):=by intro _;rfl):PT X e (tB t):=by
 intro pins s σ H Q I hw
 refine isTrue_plain (thn (h pins s σ H _ I hw) fun v s1 ⟨x,H1,I1,r1,q1⟩=> ?_) (he _)
 obtain⟨d,rfl,q⟩:=q1
 cases r1
 exact wpAny_truthy_bool ⟨H1,I1,q⟩
variable {tA tB':TT} {rest:List Expr}
def A04 (t u:TT):TT:=fun σ H Q=>t σ H fun c H1=>if c=true then u σ H1 Q else Q false H1
def tOr (t u:TT):TT:=fun σ H Q=>t σ H fun c H1=>if c=true then Q true H1 else u σ H1 Q
def z3 (t:TT):TT:=fun σ H Q=>t σ H fun c H1=>Q (!c) H1
theorem lJ (ha:PT X a tA):PW X (.BoolOp .And [a] pos) tA:=by
 intro wh pins s σ H Q I h
 refine isTrue_and (thn (ha pins s σ H Q I h) fun c s1 e=> ?_)
 cases c with
 |true=>exact isTrue_and_nil e
 |false=>exact e
theorem rX (ha:PT X a tA):PW X (.BoolOp .Or [a] pos) tA:=by
 intro wh pins s σ H Q I h
 refine isTrue_or (thn (ha pins s σ H Q I h) fun c s1 e=> ?_)
 cases c with
 |false=>exact isTrue_or_nil e
 |true=>exact e
theorem pZ (ha:PT X a tA) (hb:PW X (.BoolOp .And (b::rest) pos) tB'):PW X (.BoolOp .And (a::b::rest) pos) (A04 tA tB'):=by
 intro wh pins s σ H Q I h
 refine isTrue_and (thn (ha pins s σ H _ I h) fun c s1 ⟨H1,I1,q1⟩=> ?_)
 cases c with
 |true=>exact hb wh pins s1 σ H1 Q I1 q1
 |false=>exact⟨H1,I1,q1⟩
theorem vB (ha:PT X a tA) (hb:PW X (.BoolOp .Or (b::rest) pos) tB'):PW X (.BoolOp .Or (a::b::rest) pos) (tOr tA tB'):=by
 intro wh pins s σ H Q I h
 refine isTrue_or (thn (ha pins s σ H _ I h) fun c s1 ⟨H1,I1,q1⟩=> ?_)
 cases c with
 |true=>exact⟨H1,I1,q1⟩
 |false=>exact hb wh pins s1 σ H1 Q I1 q1
theorem nU (ha:PT X a tA):PT X (.UnaryOp .Not a pos) (z3 tA):=by
 intro pins s σ H Q I h
 exact isTrue_not (ha pins s σ H (fun c H1=>Q (!c) H1) I h)
def xX (ta tb:TE):TE:=fun σ H Q=>ta σ H fun x H1=>∃c,x= .bl c∧if c=true then tb σ H1 Q else Q (.bl false) H1
def A03 (ta tb:TE):TE:=fun σ H Q=>ta σ H fun x H1=>∃c,x= .bl c∧if c=true then Q (.bl true) H1 else tb σ H1 Q
def wF (ta:TE):TE:=fun σ H Q=>ta σ H fun x H1=>∃c,x= .bl c∧Q (.bl (!c)) H1
theorem qK {op} {t:TE} (h:PE X a t):PE X (.BoolOp op [a] pos) t:=fun pins s σ H Q I hw=>BoolOp_one (h pins s σ H Q I hw)
theorem sR (ha:PE X a ta) (hb:PE X (.BoolOp .And (b::rest) pos) tb):PE X (.BoolOp .And (a::b::rest) pos) (xX ta tb):=by
 intro pins s σ H Q I h
 refine BoolOp_and (thn (ha pins s σ H _ I h) fun v s1 ⟨x,H1,I1,r1,q1⟩=> ?_)
 obtain⟨c,rfl,q1⟩:=q1
 cases r1
 refine wpAny_truthy_bool ?_
 cases c with
 |true=>exact hb pins s1 σ H1 Q I1 q1
 |false=>exact⟨.bl false,H1,I1,rfl,q1⟩
theorem uK (ha:PE X a ta) (hb:PE X (.BoolOp .Or (b::rest) pos) tb):PE X (.BoolOp .Or (a::b::rest) pos) (A03 ta tb):=by
 intro pins s σ H Q I h
 refine BoolOp_or (thn (ha pins s σ H _ I h) fun v s1 ⟨x,H1,I1,r1,q1⟩=> ?_)
 obtain⟨c,rfl,q1⟩:=q1
 cases r1
 refine wpAny_truthy_bool ?_
 cases c with
 |false=>exact hb pins s1 σ H1 Q I1 q1
 |true=>exact⟨.bl true,H1,I1,rfl,q1⟩
theorem nV (ha:PE X a ta):PE X (.UnaryOp .Not a pos) (wF ta):=by
 intro pins s σ H Q I h
 refine UnaryOp_ (thn (ha pins s σ H _ I h) fun v s1 ⟨x,H1,I1,r1,q1⟩=> ?_)
 obtain⟨c,rfl,q1⟩:=q1
 cases r1
 exact not_of (wpAny_truthy_bool ⟨.bl (!c),H1,I1,rfl,q1⟩)
def tIf (t:TT) (ta tb:TE):TE:=fun σ H Q=>t σ H fun c H1=>if c=true then ta σ H1 Q else tb σ H1 Q
theorem eL {c:Expr} (hc:PT X c tA) (ha:PE X a ta) (hb:PE X b tb):PE X (.IfExp c a b pos) (tIf tA ta tb):=by
 intro pins s σ H Q I h
 refine wpAny_IfExp (thn (hc pins s σ H _ I h) fun d s1 ⟨H1,I1,q1⟩=> ?_)
 cases d with
 |true=>exact ha pins s1 σ H1 Q I1 q1
 |false=>exact hb pins s1 σ H1 Q I1 q1
end
end L2
namespace L2
open PySem PySem.Spec PyProof.Rows
def SqL (K:PySem.W.Frag) (H:Hp) (a:Addr) (xs:List V):Prop:=
 Rd H a (.lst xs)∨
  ∃(o:Obj) (its:Array Value) (n:Nat),K.lookup a=some o∧o.cls= .type "list"∧o.dict=none∧o.data= .seq its n∧its.size≤sizeLine∧Vals xs its.toList
def GO (K:PySem.W.Frag) (H:Hp) (a:Addr) (xs:List V):Prop:=
 Rd H a (.tup xs)∨
  ∃(o:Obj) (its:Array Value) (n:Nat),K.lookup a=some o∧rW o∧o.data= .seq its n∧its.size≤sizeLine∧Vals xs its.toList
def zZ:Value→Option V
 | .none=>some .non
 | .bool b=>some (.bl b)
 | .int i _=>some (.int i)
 | .str x _=>some (.str x)
 | .bytes b _=>some (.byt b)
 | .float b _=>some (.flt b)
 | .ref a=>some (.ref a)
 | .type n=>some (.ty n)
 |_=>none
theorem RelV.abs {x:V} {u:Value} (r:RelV x u):zZ u=some x:=by
 cases x with
 |non=>cases r;rfl
 |bl _=>cases r;rfl
 |int _=>obtain⟨t,rfl⟩:=r;rfl
 |str _=>obtain⟨t,rfl⟩:=r;rfl
 |byt _=>obtain⟨t,rfl⟩:=r;rfl
 |flt _=>obtain⟨t,rfl⟩:=r;rfl
 |ref _=>cases r;rfl
 |ty _=>cases r;rfl
theorem RelV.inj {x y:V} {u:Value} (r:RelV x u) (q:RelV y u):x=y:=Option.some.inj (r.abs.symm.trans q.abs)
theorem Vals.inj:∀{xs ys:List V} {us:List Value},Vals xs us→Vals ys us→xs=ys
 |_,_,_, .nil, .nil=>rfl
 |_,_,_, .cons r t, .cons r' t'=>by rw[r.inj r',Vals.inj t t']
section
variable {X:Cx} {pins:List (Addr×Obj)} {σ:St} {H:Hp} {s:Shared} {a:Addr} {xs ys:List V}
theorem SqL.of {K:PySem.W.Frag} (h:H a=some (.lst xs)):SqL K H a xs:= .inl (.inl h)
theorem Inv.list (I:Inv X pins σ H s) (h:SqL X.K H a xs):∃its:List Value,Vals xs its∧PlainL s.heap a its.toArray∧xs.length≤sizeLine:=by
 rcases h with h|⟨o,its,n,hk,hc,hd,hs,hz,r⟩
 ·obtain⟨z,its,n,r,e⟩:=h.ok I.hok
  exact⟨its,r,⟨_,n,e,rfl,rfl,rfl⟩,z⟩
 ·refine⟨its.toList,r,⟨o,n,I.kIn a o hk,hc,hd,by simpa using hs⟩,?_⟩
  have e:=r.length
  simp only[Array.length_toList]at e
  omega
theorem Inv.tuple (I:Inv X pins σ H s) (h:GO X.K H a xs):∃its:List Value,Vals xs its∧IsTup s.heap a its.toArray∧xs.length≤sizeLine:=by
 rcases h with h|⟨o,its,n,hk,hc,hs,hz,r⟩
 ·obtain⟨z,its,r,p⟩:=h.ok I.hok
  exact⟨its,r,p.tup,z⟩
 ·refine⟨its.toList,r,⟨o,I.kIn a o hk,hc.1,n,by simpa using hs⟩,?_⟩
  have e:=r.length
  simp only[Array.length_toList]at e
  omega
theorem Inv.tupleX (I:Inv X pins σ H s) (h:GO X.K H a xs):∃its:List Value,Vals xs its∧IsTupX s.heap a its.toArray∧xs.length≤sizeLine:=by
 rcases h with h|⟨o,its,n,hk,hc,hs,hz,r⟩
 ·obtain⟨z,its,r,p⟩:=h.ok I.hok
  exact⟨its,r,p,z⟩
 ·refine⟨its.toList,r,⟨o,I.kIn a o hk,hc,n,by simpa using hs⟩,?_⟩
  have e:=r.length
  simp only[Array.length_toList]at e
  omega
theorem Inv.list_inj (I:Inv X pins σ H s) (h:SqL X.K H a xs) (h':SqL X.K H a ys):xs=ys:=by
 obtain⟨its,r,⟨o,n,e,_,_,d⟩,_⟩:=I.list h
 obtain⟨its',r',⟨o',n',e',_,_,d'⟩,_⟩:=I.list h'
 rw[e]at e';cases e'
 rw[d]at d'
 injection d' with d1 _
 have:its=its':=by simpa using congrArg Array.toList d1
 subst this
 exact r.inj r'
theorem Inv.tuple_inj (I:Inv X pins σ H s) (h:GO X.K H a xs) (h':GO X.K H a ys):xs=ys:=by
 obtain⟨its,r,⟨o,e,_,n,d⟩,_⟩:=I.tuple h
 obtain⟨its',r',⟨o',e',_,n',d'⟩,_⟩:=I.tuple h'
 rw[e]at e';cases e'
 rw[d]at d'
 injection d' with d1 _
 have:its=its':=by simpa using congrArg Array.toList d1
 subst this
 exact r.inj r'
end
abbrev Cx.wish (X:Cx) (E:Value→Shared→Prop):Cx:={X with xe:=E}
abbrev Cx.nox (X:Cx):Cx:=X.wish fun _ _=>False
theorem Cx.Ok.wish {X:Cx} (ok:X.Ok) (E:Value→Shared→Prop):(X.wish E).Ok:=
 ⟨ok.mod,ok.kind,ok.glob,ok.blt,ok.above,ok.inj,ok.has,ok.cab,ok.hd,ok.frames,ok.stk,ok.exf,ok.bs,ok.bsz,ok.noex,ok.exfs,ok.funs,ok.frf⟩
theorem Cx.Ok.unwish {X:Cx} {E:Value→Shared→Prop} (ok:(X.wish E).Ok):X.Ok:=
 ⟨ok.mod,ok.kind,ok.glob,ok.blt,ok.above,ok.inj,ok.has,ok.cab,ok.hd,ok.frames,ok.stk,ok.exf,ok.bs,ok.bsz,ok.noex,ok.exfs,ok.funs,ok.frf⟩
section
variable {X:Cx} {pins:List (Addr×Obj)} {σ:St} {H:Hp} {s:Shared} {E:Value→Shared→Prop}
theorem Inv.wish (I:Inv X pins σ H s) (E:Value→Shared→Prop):Inv (X.wish E) pins σ H s:=⟨I.ok.wish E,I.os,I.bare,I.base,I.loc,I.cell,I.free,I.freeC,I.pin,I.hok,I.len⟩
theorem Inv.unwish (I:Inv (X.wish E) pins σ H s):Inv X pins σ H s:=⟨I.ok.unwish,I.os,I.bare,I.base,I.loc,I.cell,I.free,I.freeC,I.pin,I.hok,I.len⟩
theorem SP.unwish {D:Ends} {f:Flow} {s':Shared} (h:SP (X.wish E) pins D f s'):SP X pins D f s':=by
 cases f with
 |next=>obtain⟨σ',H',I,q⟩:=h;exact⟨σ',H',I.unwish,q⟩
 |brk=>obtain⟨σ',H',I,q⟩:=h;exact⟨σ',H',I.unwish,q⟩
 |cont=>obtain⟨σ',H',I,q⟩:=h;exact⟨σ',H',I.unwish,q⟩
 |ret u=>obtain⟨v,σ',H',I,r,q⟩:=h;exact⟨v,σ',H',I.unwish,r,q⟩
theorem PSs.nox {st:List Stmt} {t:TS} (h:PSs X.nox st t):PSs X st t:=fun pins s σ H D I hw=>
 wpAny_mono (h pins s σ H D (I.wish _) hw) (fun _ _ q=>q.unwish) fun _ _ z=>False.elim z
end
section
variable {X:Cx} {st:Stmt} {rest:List Stmt} {t u:TS} {e:Expr} {te:TE} {pos:Pos}
def wW:TS:=fun D σ H=>D.nx σ H
def A1A (t u:TS):TS:=fun D σ H=>t {D with nx:=u D} σ H
theorem jY:PSs X [] wW:=fun _ _ σ H _ I h=>wpAny_execs_nil ⟨σ,H,I,h⟩
theorem bN (h1:PS X st t) (h2:PSs X rest u):PSs X (st::rest) (A1A t u):=by
 intro pins s σ H D I h
 refine wpAny_execs_cons (thn (h1 pins s σ H {D with nx:=u D} I h) fun f s1 q=> ?_)
 cases f with
 |next=>
  obtain⟨σ',H',I',q⟩:=q
  exact h2 pins s1 σ' H' D I' q
 |ret v=>exact q
 |brk=>exact q
 |cont=>exact q
theorem jZ (h1:PS X st t):PSs X [st] t:=by
 intro pins s σ H D I h
 refine wpAny_execs_cons (thn (h1 pins s σ H D I h) fun f s1 q=> ?_)
 cases f with
 |next=>exact wpAny_execs_nil q
 |ret v=>exact q
 |brk=>exact q
 |cont=>exact q
theorem Inv.quiet {pins:List (Addr×Obj)} {σ:St} {H:Hp} {s:Shared} (I:Inv X pins σ H s):interactive X.env=false:=by simp[interactive,I.ok.kind]
def mZ (te:TE):TS:=fun D σ H=>te σ H fun _ H1=>D.nx σ H1
theorem kP (he:PE X e te) (hs:swapsWith e none pos.line X.env=pure false:=by rfl):PS X (.Expr e pos) (mZ te):=by
 intro pins s σ H D I h
 exact wpAny_Expr_any (thn (he pins s σ H _ I h) fun v s1 ⟨x,H1,I1,r1,q1⟩=>⟨σ,H1,I1,q1⟩) I.quiet hs
def A10 (te:TE):TS:=fun D σ H=>te σ H D.rt
theorem qL (he:PE X e te):PS X (.Return (some e) pos) (A10 te):=by
 intro pins s σ H D I h
 exact wpAny_Return_some (thn (he pins s σ H _ I h) fun v s1 ⟨x,H1,I1,r1,q1⟩=>⟨x,σ,H1,I1,r1,q1⟩)
def A16 (c:TT) (t u:TS):TS:=fun D σ H=>c σ H fun b H1=>if b=true then t D σ H1 else u D σ H1
theorem vF {c:Expr} {a b:List Stmt} {tc:TT} (hc:PT X c tc) (ha:PSs X a t) (hb:PSs X b u):PS X (.If c a b pos) (A16 tc t u):=by
 intro pins s σ H D I h
 refine wpAny_If (thn (hc pins s σ H _ I h) fun d s1 ⟨H1,I1,q1⟩=> ?_)
 cases d with
 |true=>exact ha pins s1 σ H1 D I1 q1
 |false=>exact hb pins s1 σ H1 D I1 q1
end
abbrev TG:=V→St→Hp→(St→Hp→Prop)→Prop
abbrev aV:=List V→St→Hp→(St→Hp→Prop)→Prop
def PG (X:Cx) (target:Expr) (t:TG):Prop:=
 ∀(pins:List (Addr×Obj)) (s:Shared) (σ:St) (H:Hp) (v:V) (u:Value) (Q:St→Hp→Prop),Inv X pins σ H s→RelV v u→t v σ H Q→
  wpAny (model X.prog X.w) X.A (assign target X.env u) (fun _ s'=>∃σ' H',Inv X pins σ' H' s'∧Q σ' H') X.xe s
def PGs (X:Cx) (ts:List Expr) (t:aV):Prop:=
 ∀(pins:List (Addr×Obj)) (s:Shared) (σ:St) (H:Hp) (vs:List V) (us:List Value) (Q:St→Hp→Prop),Inv X pins σ H s→Vals vs us→t vs σ H Q→
  wpAny (model X.prog X.w) X.A (assignInOrder ((assignEach ts X.env).map (·.2)) us) (fun _ s'=>∃σ' H',Inv X pins σ' H' s'∧Q σ' H') X.xe s
abbrev sU:=V→V→V→Hp→(Hp→Prop)→Prop
def vZ (X:Cx) (t:sU):Prop:=
 ∀(pins:List (Addr×Obj)) (s:Shared) (σ:St) (H:Hp) (o i v:V) (ov iv u:Value) (Q:Hp→Prop),Inv X pins σ H s→RelV o ov→RelV i iv→RelV v u→t o i v H Q→
  wpAny (model X.prog X.w) X.A (setItem ov iv u) (fun _ s'=>∃H',Inv X pins σ H' s'∧Q H') X.xe s
section
variable {X:Cx} {pos:Pos}
def MJ (i:Nat):TG:=fun v σ H Q=>Q (σ.set i (some v)) H
theorem C7 {i:Nat} {x:Str} (hN:X.N.Nodup) (hi:X.N[i]? =some x) (hx:sZ X.env.scope x) (hf:X.fn x=true∨X.env.scope.names.lookup x=some .local:=by first|exact .inl rfl|exact .inr rfl|assumption):PG X (.Name x pos) (MJ i):=by
 intro pins s σ H v u Q I r h
 exact wpAny_assign_Name (L7 I hN hi hx r (fun s' I'=>⟨_,H,I',h⟩) hf)
def vS:aV:=fun vs σ H Q=>vs=[]∧Q σ H
def mS (t:TG) (u:aV):aV:=fun vs σ H Q=>∃v r,vs=v::r∧t v σ H fun σ' H'=>u r σ' H' Q
theorem XF:PGs X [] vS:=by
 intro pins s σ H vs us Q I r h
 obtain⟨e,h⟩:=h
 subst e
 cases r
 exact assignInOrder_nil ⟨σ,H,I,h⟩
theorem OJ {e:Expr} {es:List Expr} {t:TG} {u:aV} (h1:PG X e t) (h2:PGs X es u)
 (hs:(assignEach (e::es) X.env).map (·.2)=assign e X.env::(assignEach es X.env).map (·.2):=by rfl):PGs X (e::es) (mS t u):=by
 intro pins s σ H vs us Q I r h
 obtain⟨v,vr,e1,h⟩:=h
 subst e1
 cases r with
 |cons r rr=>
  rw[hs]
  refine assignInOrder_cons (thn (h1 pins s σ H _ _ _ I r h) fun _ s1 ⟨σ1,H1,I1,q1⟩=> ?_)
  exact h2 pins s1 σ1 H1 _ _ Q I1 rr q1
def tN (K:PySem.W.Frag) (n:Nat) (t:aV):TG:=fun v σ H Q=>∃a xs,v= .ref a∧GO K H a xs∧xs.length=n∧t xs σ H Q
theorem bD {es:List Expr} {k:Nat} {t:aV} {n:Nat} (hc:X.calm=true) (h:PGs X es t)
 (hn:(assignEach es X.env).length=n:=by rfl) (hst:(assignEach es X.env).findIdx? (·.1)=none:=by rfl):PG X (.Tuple es k pos) (tN X.K n t):=by
 intro pins s σ H v u Q I r hw
 obtain⟨a,xs,e1,hq,hl,hw⟩:=hw
 subst e1
 cases r
 obtain⟨its,rv,ht,hz⟩:=I.tuple hq
 refine assign_Tuple_tuple (I.ok.hd hc) ht (by simp[hn,←hl,rv.length]) hst fun h' hx=> ?_
 have I1:Inv X pins σ H {s with heap:=h'}:=I.kept (t':=s.toks) fun b o e=>hx b o (Nat.ne_of_lt (Heap.lt_size e)) e
 exact h pins _ σ H xs _ Q I1 (by simpa using rv) hw
def A0L (to ti:TE) (t:sU):TG:=fun v σ H Q=>to σ H fun o H1=>ti σ H1 fun i H2=>t o i v H2 fun H3=>Q σ H3
theorem rN {o i:Expr} {to ti:TE} {t:sU} (ho:PE X o to) (hi:PE X i ti) (hs:vZ X t)
 (ha:∀v,assign (.Subscript o i pos) X.env v=(do
   let ov←holding [v] (eval o X.env)
   let iv←holding [v,ov] (eval i X.env)
   standAt pos
   holding [v,ov,iv] (setItem ov iv v)
   release [v,ov,iv] []):=by intro _;rfl):PG X (.Subscript o i pos) (A0L to ti t):=by
 intro pins s σ H v u Q I r h
 rw[ha]
 refine wpAny_bind (wpAny_holding (thn (ho pins s σ H _ I h) fun ov s1 ⟨x,H1,I1,r1,q1⟩=> ?_))
 refine wpAny_bind (wpAny_holding (thn (hi pins s1 σ H1 _ I1 q1) fun iv s2 ⟨y,H2,I2,r2,q2⟩=> ?_))
 refine wpAny_bind (wpAny_standAt (wpAny_bind (wpAny_holding (thn (hs pins s2 σ H2 x y v ov iv u _ I2 r1 r2 r q2) fun _ s3 ⟨H3,I3,q3⟩=> ?_))))
 exact wpAny_release ⟨σ,H3,I3,q3⟩
def j6 (te:TE) (g:TG):TS:=fun D σ H=>te σ H fun x H1=>g x σ H1 D.nx
theorem nX {tg e:Expr} {te:TE} {g:TG} (he:PE X e te) (hg:PG X tg g) (hs:swapsWithSole [tg] e pos.line X.env=pure false:=by rfl) (hw:swappedStores [tg] e X.env=pure none:=by rfl)
 (h1:(assignEach [tg] X.env).map (·.2)=[assign tg X.env]:=by rfl):PS X (.Assign [tg] e pos) (j6 te g):=by
 intro pins s σ H D I h
 refine wpAny_Assign_stores (thn (he pins s σ H _ I h) fun v s1 ⟨x,H1,I1,r1,q1⟩=> ?_) hs hw
 rw[h1]
 exact thn (hg pins s1 σ H1 x v _ I1 r1 q1) fun _ s2 q=>q
theorem sT {i:Nat} {x:Str} {e:Expr} {te:TE} {pos':Pos} (hN:X.N.Nodup) (hi:X.N[i]? =some x) (hx:sZ X.env.scope x) (he:PE X e te) (hs:swapsWith e (some (.Name x pos')) pos.line X.env=pure false:=by rfl) (hf:X.fn x=true∨X.env.scope.names.lookup x=some .local:=by first|exact .inl rfl|exact .inr rfl|assumption):
 PS X (.Assign [.Name x pos'] e pos) (j6 te (MJ i)):=by
 intro pins s σ H D I h
 refine wpAny_Assign_Name (thn (he pins s σ H _ I h) fun v s1 ⟨y,H1,I1,r1,q1⟩=> ?_) hs
 exact L7 I1 hN hi hx r1 (fun s2 I2=>⟨_,H1,I2,q1⟩) hf
def zJ (i j:Nat) (ta:TA):TS:=fun D σ H=>ta σ H fun vs H1=>∃v w,vs=[v,w]∧D.nx ((σ.set i (some v)).set j (some w)) H1
theorem nN {i j:Nat} {x y:Str} {a b:Expr} {ta:TA} {px py pt:Pos} {kt k2 pt2} (hc:X.calm=true) (hN:X.N.Nodup) (hi:X.N[i]? =some x) (hj:X.N[j]? =some y) (hij:i≠j)
 (hx:X.env.scope.names.lookup x=some .local) (hy:X.env.scope.names.lookup y=some .local) (ha:PA X [a,b] ta)
 (hw:swappedStores [.Tuple [.Name x px, .Name y py] kt pt] (.Tuple [a,b] k2 pt2) X.env=pure (some [x,y]))
 (hs:swapsWithSole [.Tuple [.Name x px, .Name y py] kt pt] (.Tuple [a,b] k2 pt2) pos.line X.env=pure false:=by rfl):
 PS X (.Assign [.Tuple [.Name x px, .Name y py] kt pt] (.Tuple [a,b] k2 pt2) pos) (zJ i j ta):=by
 intro pins s σ H D I h
 rw[exec_Assign_arm]
 refine wpAny_bind (wpAny_standAt ?_)
 rw[hs]
 refine wpAny_bind (wpAny_pure ?_)
 rw[if_neg (by decide)]
 refine wpAny_bind (Tuple_ (thn (ha _ pins s σ H _ I h) fun us s1 ⟨vs,H1,I1,r1,q1⟩=> ?_))
 obtain⟨v,w,e1,q1⟩:=q1
 subst e1
 obtain⟨u1,u2,rfl,rv,rw'⟩:∃u1 u2,us=[u1,u2]∧RelV v u1∧RelV w u2:=by
  cases r1 with
  |cons p q=>
   cases q with
   |cons p' q'=>
    cases q'
    exact⟨_,_,rfl,p,p'⟩
 refine wpAny_newObj_type ?_ (by show 2≤sizeLine;decide)
 have I2:Inv X pins σ H1 {s1 with heap:=s1.heap.push {cls:= .type "tuple",data:= .seq [u1,u2].toArray}}:=I1.kept (t':=s1.toks) fun b o e=>Heap.get?_push_of_some _ e
 rw[hw]
 refine wpAny_bind (wpAny_pure ?_)
 show wpAny (model X.prog X.w) X.A (do rule "assign.swapped-stores";let items←unpackItems (.ref s1.heap.objs.size) 2 none;assignInOrder [fun v=>bindName X.env y v,fun v=>bindName X.env x v] items.reverse;pure Flow.next) _ _ _
 refine wpAny_bind (wpAny_rule (wpAny_bind (unpackItems_tuple (items:= #[u1,u2]) (I.ok.hd hc) (IsTup.new s1.heap _) fun h' hx'=> ?_)))
 have I3:=I2.kept (h':=h') (t':=s1.toks) fun b o e=>hx' b o (Nat.ne_of_lt (Heap.lt_size e)) e
 show wpAny _ _ (assignInOrder [fun v=>bindName X.env y v,fun v=>bindName X.env x v] [u2,u1]>>=fun _=>pure Flow.next) _ _ _
 refine wpAny_bind (assignInOrder_cons (wpAny_bindName (L7 I3 hN hj (.inl hy) rw' (fun s2 I4=> ?_) (.inr hy))))
 refine assignInOrder_cons (wpAny_bindName (L7 I4 hN hi (.inl hx) rv (fun s3 I5=>assignInOrder_nil (wpAny_pure ?_)) (.inr hx)))
 rw[List.set_comm _ _ (Ne.symm hij)]at I5
 exact⟨_,H1,I5,q1⟩
end
section
variable {X:Cx} {pos:Pos}
def qB (c:TT) (tb:TS):TS:=fun D σ H=>∃W:Nat→St→Hp→Prop,(∃m,W m σ H)∧∀m σ H,W m σ H→
 c σ H fun b H1=>if b=true then∃N:St→Hp→Prop,(∀σ' H',N σ' H'→∃m',m'<m∧W m' σ' H')∧tb {D with nx:=N,ct:=N,bk:=D.nx} σ H1 else D.nx σ H1
theorem bO {c:Expr} {body:List Stmt} {tc:TT} {tb:TS} (hp:PassesOwn (model X.prog X.w) X.A X.env X.xe) (hc:PT X c tc) (hb:PSs X body tb):PS X (.While c body [] pos) (qB tc tb):=by
 intro pins s σ H D I h
 obtain⟨W,⟨m0,w0⟩,turn⟩:=h
 refine wpAny_While (codeAny_whileLoop (fun n s'=>∃σ' H',Inv X pins σ' H' s'∧W n σ' H') ?_ m0 ⟨σ,H,I,w0⟩)
 rintro n s1 ⟨σ1,H1,I1,w1⟩
 refine wpAny_passesOwn hp (thn (hc pins s1 σ1 H1 _ I1 (turn n σ1 H1 w1)) fun b s2 ⟨H2,I2,q2⟩=> ?_)
 cases b with
 |true=>
  obtain⟨N,hN,q2⟩:=q2
  rw[if_pos rfl]
  refine wpAny_passesOwn hp (thn (hb pins s2 σ1 H2 _ I2 q2) fun f s3 q3=> ?_)
  cases f with
  |next=>
   obtain⟨σ3,H3,I3,n3⟩:=q3
   obtain⟨m',hm,w3⟩:=hN σ3 H3 n3
   exact⟨m',hm,σ3,H3,I3,w3⟩
  |cont=>
   obtain⟨σ3,H3,I3,n3⟩:=q3
   obtain⟨m',hm,w3⟩:=hN σ3 H3 n3
   exact⟨m',hm,σ3,H3,I3,w3⟩
  |brk=>exact q3
  |ret v=>exact q3
 |false=>
  rw[if_neg Bool.false_ne_true]
  exact wpAny_execs_nil ⟨σ1,H2,I2,q2⟩
end
structure It where
 go:Nat→Hp→Prop
 yld:Nat→Hp→V→Hp→Prop
 stop:Nat→Hp→Prop
def OH (X:Cx) (pins:List (Addr×Obj)) (H:Hp) (b:Addr):Prop:=
 H b=none∧b≠X.env.locals∧b∉X.fs∧(b∈X.ex∨X.s₀.heap.objs.size≤b)∧(∀x c,X.env.cells.lookup x=some c→c≠b)∧∀p∈X.pn++pins,p.1≠b
theorem Inv.fpOk {X:Cx} {pins:List (Addr×Obj)} {σ:St} {H H':Hp} {s:Shared} {b:Addr} (I:Inv X pins σ H s) (hb:s.heap.objs.size≤b) (hn:H' b=none):OH X pins H' b:=by
 refine⟨hn,Nat.ne_of_gt (Nat.lt_of_lt_of_le I.lt hb),I.nofs hb, .inr (Nat.le_trans I.sz hb),fun x c e z=> ?_,fun p hp z=> ?_⟩
 ·obtain⟨v,q⟩:=I.cell x c e
  exact absurd (Nat.lt_of_lt_of_le q.lt (by rw[z];exact hb)) (Nat.lt_irrefl _)
 ·exact absurd (Nat.lt_of_lt_of_le (Heap.lt_size (I.pin p hp).1) (by rw[z];exact hb)) (Nat.lt_irrefl _)
structure Turn (P:Program) (w:World) (K:PySem.W.Frag) (tg:Expr) (J:It) (fp:List Addr) (it:Addr) (tn:Nat→Heap→Prop):Prop where
 mem:it∈fp
 obj:∀i h,tn i h→∀b∈fp,∃o,h.get? b=some o∧∀v,o.data≠ .cell v
 keep:∀i h h',tn i h→(∀b∈fp,∀o,h.get? b=some o→h'.get? b=some o)→tn i h'
 item:∀(X:Cx),X.prog=P→X.w=w→X.K=K→X.calm=true→∀(i:Nat) (pins:List (Addr×Obj)) (s:Shared) (σ:St) (H:Hp) (E:Value→Shared→Prop),Inv X pins σ H s→(∀b∈fp,OH X pins H b)→tn i s.heap→J.go i H→
  wpAny (model P w) X.A (pyNext (.ref it)) (fun r s1=>∃u,r=some u∧
   wpAny (model P w) X.A (letOwnedTupleGo tg (.ref it) u) (fun _ s2=>∃x H',Inv X pins σ H' s2∧RelV x u∧J.yld i H x H'∧tn (i+1) s2.heap∧∀b∈fp,H' b=none) E s1) E s
 done:∀(X:Cx),X.prog=P→X.w=w→X.K=K→X.calm=true→∀(i:Nat) (pins:List (Addr×Obj)) (s:Shared) (σ:St) (H:Hp) (E:Value→Shared→Prop),Inv X pins σ H s→(∀b∈fp,OH X pins H b)→tn i s.heap→J.stop i H→
  wpAny (model P w) X.A (pyNext (.ref it)) (fun r s1=>r=none∧Inv X pins σ H s1) E s
 self:∀(A:Around) (i:Nat) (s:Shared) (Q:Value→Shared→Prop) (E:Value→Shared→Prop),tn i s.heap→Q (.ref it) s→wpAny (model P w) A (pyIter (.ref it)) Q E s
abbrev TI:=St→Hp→(It→Hp→Prop)→Prop
def PIE (X:Cx) (pins:List (Addr×Obj)) (σ:St) (tg:Expr) (R:It→Hp→Prop) (itv:Value) (s2:Shared):Prop:=
 ∃(it:Addr) (fp:List Addr) (tn:Nat→Heap→Prop) (J:It) (H':Hp),itv= .ref it∧Inv X pins σ H' s2∧Turn X.prog X.w X.K tg J fp it tn∧tn 0 s2.heap∧(∀b∈fp,OH X pins H' b)∧R J H'
def PI (X:Cx) (tg iter:Expr) (wi:TI):Prop:=
 ∀(pins:List (Addr×Obj)) (s:Shared) (σ:St) (H:Hp) (R:It→Hp→Prop),Inv X pins σ H s→wi σ H R→
  wpAny (model X.prog X.w) X.A (eval iter X.env) (fun v s1=>wpAny (model X.prog X.w) X.A (pyIter v) (PIE X pins σ tg R) X.xe s1) X.xe s
theorem Y5 {M:Model} {A:Around} {E:Value→Shared→Prop} {s:Shared} {tg:Expr} {it:Addr} {u:Value} {o:Obj} {n:String} {vs:Array Value} {Q:Unit→Shared→Prop} (ho:s.heap.get? it=some o) (hc:o.cls= .type n) (hd:o.data= .fields vs)
 (hn:["enumerate","zip","dict_itemiterator","dict_reverseitemiterator","odict_iterator","itertools.zip_longest","itertools.pairwise"].contains n=false) (hQ:Q () s):wpAny M A (letOwnedTupleGo tg (.ref it) u) Q E s:=by
 unfold letOwnedTupleGo
 cases tg<;>first
  |exact wpAny_pure hQ
  |(cases u<;>first
     |exact wpAny_pure hQ
     |(refine wpAny_bind (wpAny_load ho ?_)
       rw[hc,hd]
       show wpAny M A (if(["enumerate","zip","dict_itemiterator","dict_reverseitemiterator","odict_iterator","itertools.zip_longest","itertools.pairwise"].contains n&&vs[0]? ==some (rawInt _))=true then _ else _) Q E s
       rw[if_neg (by intro h;rw[hn,Bool.false_and]at h;cases h)]
       exact wpAny_pure hQ))
def z8 (K:PySem.W.Frag) (a:Addr):It:=
 ⟨fun i H=>∃xs x,SqL K H a xs∧xs[i]? =some x,fun i H x H'=>H'=H∧∀xs,SqL K H a xs→xs[i]? =some x,fun i H=>∃xs,SqL K H a xs∧xs.length≤i⟩
def zR (K:PySem.W.Frag) (a:Addr):It:=
 ⟨fun i H=>∃xs x,GO K H a xs∧xs[i]? =some x,fun i H x H'=>H'=H∧∀xs,GO K H a xs→xs[i]? =some x,fun i H=>∃xs,GO K H a xs∧xs.length≤i⟩
def yJ (lo:Int) (n:Nat):It:=⟨fun i _=>i<n,fun i H x H'=>H'=H∧x= .int (lo+i),fun i _=>n≤i⟩
theorem YR {P:Program} {w:World} {K:PySem.W.Frag} {tg:Expr} (a it:Addr):Turn P w K tg (z8 K a) [it] it (fun i h=>h.IsListIter it a i) where
 mem:=by simp
 obj:=fun i h st b hb=>by
  have e:b=it:=by simpa using hb
  subst e
  obtain⟨o,e,c,d⟩:=st
  exact⟨o,e,fun v z=>by rw[d]at z;cases z⟩
 keep:=fun i h h' st k=>st.at fun o e=>k it (by simp) o e
 item:=by
  intro X hP hw hK hc i pins s σ H E I hf st hg
  subst hP hw hK
  obtain⟨xs,x,hq,hx⟩:=hg
  obtain⟨its,rv,p,hz⟩:=I.list hq
  obtain⟨u,hu,ru⟩:=rv.get hx
  obtain⟨f0,f1,f2,f3,f4,f5⟩:=hf it (by simp)
  refine wpAny_pyNext_list_item st p.isList (x:=u) (by simpa using hu) fun h' st' sb=> ?_
  have I1:Inv X pins σ H {s with heap:=h'}:=I.turned (t':=s.toks) (fun b o hb e=>(sb.2 b hb).trans e) f0 f1 f3 f4 f5
  obtain⟨o,e,c,d⟩:=id st'
  exact⟨u,rfl,Y5 (s:={s with heap:=h'}) e c d (by decide) ⟨x,H,I1,ru,⟨rfl,fun ys hy=>by rw[I.list_inj hy hq];exact hx⟩,st',fun b hb=>(hf b hb).1⟩⟩
 done:=by
  intro X hP hw hK hc i pins s σ H E I hf st hg
  subst hP hw hK
  obtain⟨xs,hq,hx⟩:=hg
  obtain⟨its,rv,p,hz⟩:=I.list hq
  obtain⟨f0,f1,f2,f3,f4,f5⟩:=hf it (by simp)
  have hl:=rv.length
  exact wpAny_pyNext_list_end (I.ok.hd hc) st p.isList (by simp;omega) fun h' eb=>⟨rfl,I.turned (t':=s.toks) (fun b o hb e=>eb b o hb e) f0 f1 f3 f4 f5⟩
 self:=fun _ _ _ _ _ st h=>wpAny_pyIter_listiter st h
theorem WB {P:Program} {w:World} {K:PySem.W.Frag} {tg:Expr} (a it:Addr):Turn P w K tg (zR K a) [it] it (fun i h=>h.IsTupleIter it a i) where
 mem:=by simp
 obj:=fun i h st b hb=>by
  have e:b=it:=by simpa using hb
  subst e
  obtain⟨o,e,c,d⟩:=st
  exact⟨o,e,fun v z=>by rw[d]at z;cases z⟩
 keep:=fun i h h' st k=>st.at fun o e=>k it (by simp) o e
 item:=by
  intro X hP hw hK hc i pins s σ H E I hf st hg
  subst hP hw hK
  obtain⟨xs,x,hq,hx⟩:=hg
  obtain⟨its,rv,p,hz⟩:=I.tuple hq
  obtain⟨u,hu,ru⟩:=rv.get hx
  obtain⟨f0,f1,f2,f3,f4,f5⟩:=hf it (by simp)
  refine wpAny_pyNext_tuple_item st (show s.heap.IsTuple a its.toArray from p) (x:=u) (by simpa using hu) fun h' st' sb=> ?_
  have I1:Inv X pins σ H {s with heap:=h'}:=I.turned (t':=s.toks) (fun b o hb e=>(sb.2 b hb).trans e) f0 f1 f3 f4 f5
  obtain⟨o,e,c,d⟩:=id st'
  exact⟨u,rfl,Y5 (s:={s with heap:=h'}) e c d (by decide) ⟨x,H,I1,ru,⟨rfl,fun ys hy=>by rw[I.tuple_inj hy hq];exact hx⟩,st',fun b hb=>(hf b hb).1⟩⟩
 done:=by
  intro X hP hw hK hc i pins s σ H E I hf st hg
  subst hP hw hK
  obtain⟨xs,hq,hx⟩:=hg
  obtain⟨its,rv,p,hz⟩:=I.tuple hq
  obtain⟨f0,f1,f2,f3,f4,f5⟩:=hf it (by simp)
  have hl:=rv.length
  exact wpAny_pyNext_tuple_end (I.ok.hd hc) st (show s.heap.IsTuple a its.toArray from p) (by simp;omega) fun h' eb=>⟨rfl,I.turned (t':=s.toks) (fun b o hb e=>eb b o hb e) f0 f1 f3 f4 f5⟩
 self:=fun _ _ _ _ _ st h=>wpAny_pyIter_tupleiter st h
theorem UR {P:Program} {w:World} {K:PySem.W.Frag} {tg:Expr} (it:Addr) (lo:Int) (n:Nat):Turn P w K tg (yJ lo n) [it] it (fun i h=>IsRangeIter h it (lo+(i:Nat)*1) ((n:Int)-(i:Nat)) 1) where
 mem:=by simp
 obj:=fun i h st b hb=>by
  have e:b=it:=by simpa using hb
  subst e
  exact⟨_,st,fun v z=>by
   have z':Data.fields _=Data.cell v:=z
   cases z'⟩
 keep:=fun i h h' st k=>k it (by simp) _ st
 item:=by
  intro X hP hw hK hc i pins s σ H E I hf st hg
  subst hP hw hK
  obtain⟨f0,f1,f2,f3,f4,f5⟩:=hf it (by simp)
  have W:=Walks.range (prog:=X.prog) (w:=X.w) (I.ok.hd hc) it lo 1 n
  refine W.item i s _ _ hg st fun v h' tk hv st' kk=> ?_
  obtain⟨t,rfl⟩:=hv
  have I1:Inv X pins σ H {s with heap:=h',toks:=tk}:=I.turned (fun b o hb e=>kk b o (by simpa using hb) e) f0 f1 f3 f4 f5
  refine⟨_,rfl,Y5 (s:={s with heap:=h',toks:=tk}) (n:= "range_iterator") st' rfl rfl (by decide) ⟨.int (lo+i),H,I1,⟨t,?_⟩,⟨rfl,rfl⟩,st',fun b hb=>(hf b hb).1⟩⟩
  rw[Int.mul_one]
 done:=by
  intro X hP hw hK hc i pins s σ H E I hf st hg
  subst hP hw hK
  obtain⟨f0,f1,f2,f3,f4,f5⟩:=hf it (by simp)
  exact wpAny_pyNext_range_end (I.ok.hd hc) st (by have:n≤i:=hg;omega) fun h' eb=>⟨rfl,I.turned (t':=s.toks) (fun b o hb e=>eb b o hb e) f0 f1 f3 f4 f5⟩
 self:=fun _ _ _ _ _ st h=>wpAny_pyIter_rangeiter st h
end L2
namespace L2
open PySem PySem.Spec PyProof.Rows
section
variable {X:Cx} {tg:Expr}
def uI (K:PySem.W.Frag) (tl:TE):TI:=fun σ H R=>tl σ H fun x H1=>∃a,x= .ref a∧(∃xs,SqL K H1 a xs)∧R (z8 K a) H1
def A0M (K:PySem.W.Frag) (tl:TE):TI:=fun σ H R=>tl σ H fun x H1=>∃a,x= .ref a∧(∃xs,GO K H1 a xs)∧R (zR K a) H1
theorem l8 {l:Expr} {tl:TE} (hl:PE X l tl):PI X tg l (uI X.K tl):=by
 intro pins s σ H R I h
 refine thn (hl pins s σ H _ I h) fun v s1 ⟨x,H1,I1,r1,q1⟩=> ?_
 obtain⟨a,e,⟨xs,hq⟩,q⟩:=q1
 subst e
 cases r1
 obtain⟨its,rv,p,hz⟩:=I1.list hq
 refine wpAny_pyIter_list p.isList ?_
 refine⟨s1.heap.objs.size,[s1.heap.objs.size],_,_,H1,rfl,I1.kept (t':=s1.toks) fun b o e=>Heap.get?_push_of_some _ e,YR a _,⟨_,Heap.get?_push_size _ rfl,rfl,rfl⟩,fun b hb=> ?_,q⟩
 have e:b=s1.heap.objs.size:=by simpa using hb
 subst e
 exact I1.fpOk (Nat.le_refl _) (I1.hok.fresh (Nat.le_refl _))
theorem pR {l:Expr} {tl:TE} (hl:PE X l tl):PI X tg l (A0M X.K tl):=by
 intro pins s σ H R I h
 refine thn (hl pins s σ H _ I h) fun v s1 ⟨x,H1,I1,r1,q1⟩=> ?_
 obtain⟨a,e,⟨xs,hq⟩,q⟩:=q1
 subst e
 cases r1
 obtain⟨its,rv,p,hz⟩:=I1.tuple hq
 refine wpAny_pyIter_tuple (show s1.heap.IsTuple a its.toArray from p) ?_
 refine⟨s1.heap.objs.size,[s1.heap.objs.size],_,_,H1,rfl,I1.kept (t':=s1.toks) fun b o e=>Heap.get?_push_of_some _ e,WB a _,⟨_,Heap.get?_push_size _ rfl,rfl,rfl⟩,fun b hb=> ?_,q⟩
 have e:b=s1.heap.objs.size:=by simpa using hb
 subst e
 exact I1.fpOk (Nat.le_refl _) (I1.hok.fresh (Nat.le_refl _))
theorem dD {pins:List (Addr×Obj)} {σ:St} {H:Hp} {s:Shared} {R:It→Hp→Prop} {E:Value→Shared→Prop} {lo hi:Int} {t u v:Tok} {tk:Nat} (I:Inv X pins σ H s) (h1: -(2^62)≤lo) (h2:lo<2^62) (h3: -(2^62)≤hi) (h4:hi<2^62)
 (q:R (yJ lo (hi-lo).toNat) H):wpAny (model X.prog X.w) X.A (pyIter (.ref s.heap.objs.size)) (PIE X pins σ tg R) E {s with heap:=s.heap.push {cls:= .type "range",data:= .fields #[.int lo t, .int hi u, .int 1 v]},toks:=tk}:=by
 refine wpAny_pyIter_range (IsRange.new ..) (small_one h1 h2 h3 h4) ?_
 have I1:Inv X pins σ H {s with heap:=s.heap.push {cls:= .type "range",data:= .fields #[.int lo t, .int hi u, .int 1 v]},toks:=tk}:=I.kept fun b o e=>Heap.get?_push_of_some _ e
 refine⟨(s.heap.push {cls:= .type "range",data:= .fields #[.int lo t, .int hi u, .int 1 v]}).objs.size,[(s.heap.push {cls:= .type "range",data:= .fields #[.int lo t, .int hi u, .int 1 v]}).objs.size],_,_,H,rfl,
  I1.kept (t':=tk) fun b o e=>Heap.get?_push_of_some _ e,UR _ lo (hi-lo).toNat,?_,fun b hb=> ?_,q⟩
 ·have e1:lo+((0:Nat):Int)*1=lo:=by simp
  have e2:(((hi-lo).toNat:Nat):Int)-((0:Nat):Int)=Builtin.Range.rangeSize lo hi 1:=by rw[rangeSize_one];split<;>omega
  show IsRangeIter _ _ (lo+((0:Nat):Int)*1) ((((hi-lo).toNat:Nat):Int)-((0:Nat):Int)) 1
  rw[e1,e2]
  exact Heap.get?_push_size _ rfl
 ·have e:b=(s.heap.push {cls:= .type "range",data:= .fields #[.int lo t, .int hi u, .int 1 v]}).objs.size:=by simpa using hb
  subst e
  exact I1.fpOk (Nat.le_refl _) (I1.hok.fresh (Nat.le_refl _))
def vJ (ta:TA):TI:=fun σ H R=>ta σ H fun vs H1=>∃j:Int,vs=[.int j]∧-(2^62)≤j∧j<2^62∧R (yJ 0 j.toNat) H1
theorem ZE {a:Expr} {ta:TA} {p pos:Pos} (hg:Gl X "range") (hm:X.mg "range"=none) (ha:PA X [a] ta) (hs:starEach [a] X.env=[(false,eval a X.env)]:=by rfl):PI X tg (.Call (.Name "range" p) [a] [] pos) (vJ ta):=by
 intro pins s σ H R I h
 refine Call_ (KC I hg hm boot_range (PyProof.Rows.callWith_type1 (thn (ha pos pins s σ H _ I h) fun us s1 ⟨vs,H1,I1,r1,q1⟩=> ?_) hs rfl))
 obtain⟨j,e,q1,q2,q⟩:=q1
 subst e
 cases r1 with
 |cons r rr=>
  cases rr
  obtain⟨t,rfl⟩:=r
  exact call_range_1 (dD I1 (by omega) (by omega) q1 q2 (by simpa using q))
def A0N (wi:TI) (g:TG) (tb:TS):TS:=fun D σ H=>wi σ H fun J H1=>∃W:Nat→Nat→St→Hp→Prop,(∃m,W 0 m σ H1)∧∀i m σ H,W i m σ H→
 (J.stop i H∧D.nx σ H)∨(J.go i H∧∃N:St→Hp→Prop,(∀σ' H',N σ' H'→∃m',m'<m∧W (i+1) m' σ' H')∧∀x H',J.yld i H x H'→g x σ H' fun σ2 H2=>tb {D with nx:=N,ct:=N,bk:=D.nx} σ2 H2)
def OI (fp:List Addr) (h:Heap):List (Addr×Obj):=fp.filterMap fun b=>(h.get? b).map fun o=>(b,o)
theorem GR {fp:List Addr} {h:Heap} {b:Addr} {o:Obj} (hb:b∈fp) (e:h.get? b=some o):(b,o)∈OI fp h:=List.mem_filterMap.mpr ⟨b,hb,by rw[e];rfl⟩
theorem ZQ {fp:List Addr} {h:Heap} {p:Addr×Obj} (hp:p∈OI fp h):p.1∈fp∧h.get? p.1=some p.2:=by
 obtain⟨b,hb,e⟩:=List.mem_filterMap.mp hp
 cases q:h.get? b with
 |none=>rw[q]at e;cases e
 |some o=>
  rw[q]at e
  have e':(b,o)=p:=Option.some.inj e
  subst e'
  exact⟨hb,q⟩
theorem Inv.pinned {pins:List (Addr×Obj)} {σ:St} {H:Hp} {s:Shared} {fp:List Addr} (I:Inv X pins σ H s) (hf:∀b∈fp,OH X pins H b) (ho:∀b∈fp,∃o,s.heap.get? b=some o∧∀v,o.data≠ .cell v):Inv X (pins++OI fp s.heap) σ H s:=
 I.pins_of fun p hp=>(List.mem_append.mp hp).elim (fun z=>I.pin p (List.mem_append_right _ z)) fun z=>by
  obtain⟨hb,e⟩:=ZQ z
  obtain⟨f0,f1,f2,_⟩:=hf p.1 hb
  obtain⟨o,e',d⟩:=ho p.1 hb
  rw[e]at e';cases e'
  exact⟨e,f0,f1,f2,d⟩
theorem Inv.unpinned {pins pl:List (Addr×Obj)} {σ:St} {H:Hp} {s:Shared} (I:Inv X (pins++pl) σ H s):Inv X pins σ H s:=I.pins_of fun p hp=>I.pin p (List.mem_append_right _ (List.mem_append_left _ hp))
theorem nJ {iter:Expr} {body:List Stmt} {wi:TI} {g:TG} {tb:TS} {pos:Pos} (hp:PassesOwn (model X.prog X.w) X.A X.env X.xe) (hc:X.calm=true) (hi:PI X tg iter wi) (hg:PG X tg g) (hb:PSs X body tb)
 (hs:∀x,foldedSetIterable iter X.env x=pure x:=by intro _;rfl):PS X (.For tg iter body [] pos) (A0N wi g tb):=by
 intro pins s σ H D I h
 refine wpAny_For (thn (hi pins s σ H _ I h) fun v s1 h1=>thn h1 fun itv s2 h2=> ?_) hs
 obtain⟨it,fp,tn,J,H2,e,I2,T,st2,f2,W,⟨m0,w0⟩,turn⟩:=h2
 subst e
 have stat:∀{H':Hp},(∀b∈fp,H' b=none)→∀b∈fp,OH X pins H' b:=fun hn b hb=>⟨hn b hb,(f2 b hb).2⟩
 refine codeAny_forLoop_any (fun n s'=>∃i σ' H',Inv X pins σ' H' s'∧tn i s'.heap∧(∀b∈fp,H' b=none)∧W i n σ' H') ?_ m0 ⟨0,σ,H2,I2,st2,fun b hb=>(f2 b hb).1,w0⟩
 rintro n s3 ⟨i,σ3,H3,I3,st3,fr3,w3⟩
 rcases turn i n σ3 H3 w3 with⟨stop,qn⟩|⟨go,N,hN,step⟩
 ·refine wpAny_passesOwn hp (thn (T.done X rfl rfl rfl hc i pins s3 σ3 H3 X.xe I3 (stat fr3) st3 stop) fun r s4 ⟨hr,I4⟩=> ?_)
  subst hr
  exact wpAny_execs_nil ⟨σ3,H3,I4,qn⟩
 ·refine wpAny_passesOwn hp (thn (T.item X rfl rfl rfl hc i pins s3 σ3 H3 X.xe I3 (stat fr3) st3 go) fun r s4 ⟨u,hr,h4⟩=> ?_)
  subst hr
  refine wpAny_passesOwn hp (thn h4 fun _ s5 ⟨x,H5,I5,r5,y5,st5,fr5⟩=> ?_)
  have I5':=I5.pinned (stat fr5) (T.obj _ _ st5)
  refine wpAny_passesOwn hp (thn (hg _ s5 σ3 H5 x u _ I5' r5 (step x H5 y5)) fun _ s6 ⟨σ6,H6,I6,q6⟩=> ?_)
  refine wpAny_passesOwn hp (thn (hb _ s6 σ6 H6 _ I6 q6) fun f s7 q7=> ?_)
  have again:∀{σ7:St} {H7:Hp},Inv X (pins++OI fp s5.heap) σ7 H7 s7→N σ7 H7→∃m,m<n∧∃i σ' H',Inv X pins σ' H' s7∧tn i s7.heap∧(∀b∈fp,H' b=none)∧W i m σ' H':=fun{σ7 H7} I7 n7=>by
   obtain⟨m',hm,w7⟩:=hN σ7 H7 n7
   refine⟨m',hm,i+1,σ7,H7,I7.unpinned,T.keep _ _ _ st5 fun b hb o e=>(I7.pin (b,o) (List.mem_append_right _ (List.mem_append_right _ (GR hb e)))).1,fun b hb=> ?_,w7⟩
   obtain⟨o,e,d⟩:=T.obj _ _ st5 b hb
   exact(I7.pin (b,o) (List.mem_append_right _ (List.mem_append_right _ (GR hb e)))).2.1
  cases f with
  |next=>obtain⟨σ7,H7,I7,n7⟩:=q7;exact again I7 n7
  |cont=>obtain⟨σ7,H7,I7,n7⟩:=q7;exact again I7 n7
  |brk=>obtain⟨σ7,H7,I7,q7⟩:=q7;exact⟨σ7,H7,I7.unpinned,q7⟩
  |ret v=>obtain⟨x7,σ7,H7,I7,r7,q7⟩:=q7;exact⟨x7,σ7,H7,I7.unpinned,r7,q7⟩
end
end L2
namespace L2
open PySem PySem.Spec PyProof.Rows
abbrev R2:=V→V→Hp→VK→Prop
def OpR (X:Cx) (f:Value→Value→Sem Value) (r:R2):Prop:=
 ∀(pins:List (Addr×Obj)) (s:Shared) (σ:St) (H:Hp) (x y:V) (v u:Value) (Q:VK),Inv X pins σ H s→RelV x v→RelV y u→r x y H Q→
  wpAny (model X.prog X.w) X.A (f v u) (EP X pins σ Q) X.xe s
def DC (X:Cx) (f:Value) (r:List V→Hp→VK→Prop):Prop:=
 ∀(pins:List (Addr×Obj)) (s:Shared) (σ:St) (H:Hp) (xs:List V) (us:List Value) (Q:VK),Inv X pins σ H s→Vals xs us→r xs H Q→
  wpAny (model X.prog X.w) X.A (call f us) (EP X pins σ Q) X.xe s
def A0U (X:Cx) (r:V→Hp→(Bool→Hp→Prop)→Prop):Prop:=
 ∀(pins:List (Addr×Obj)) (s:Shared) (σ:St) (H:Hp) (x:V) (v:Value) (Q:Bool→Hp→Prop),Inv X pins σ H s→RelV x v→r x H Q→
  wpAny (model X.prog X.w) X.A (truthy v) (TP X pins σ Q) X.xe s
def yH (r:R2) (ta tb:TE):TE:=fun σ H Q=>ta σ H fun x H1=>tb σ H1 fun y H2=>r x y H2 Q
def rI (C:Int→Int→Prop) (g:Int→Int→V):R2:=fun x y H Q=>∃i j,x= .int i∧y= .int j∧C i j∧Q (g i j) H
def Y7 (g:Int→Int→V):R2:=fun x y H Q=>∃i j,x= .int i∧y= .int j∧Q (g i j) H
section
variable {X:Cx} {a b c:Expr} {ta tb tc:TE} {pos:Pos}
theorem pT (ha:PE X a ta) (hb:PE X b tb) {pins:List (Addr×Obj)} {s:Shared} {σ:St} {H:Hp} {R:V→V→Hp→Prop} (I:Inv X pins σ H s)
 (h:ta σ H fun x H1=>tb σ H1 fun y H2=>R x y H2) {Q:Value→Shared→Prop} {f:Value→Value→Sem Value}
 (hf:∀v u s2 x y H2,Inv X pins σ H2 s2→RelV x v→RelV y u→R x y H2→wpAny (model X.prog X.w) X.A (f v u) Q X.xe s2):
 wpAny (model X.prog X.w) X.A (eval a X.env) (fun v s₁=>wpAny (model X.prog X.w) X.A (eval b X.env) (fun u s₂=>wpAny (model X.prog X.w) X.A (f v u) Q X.xe s₂) X.xe s₁) X.xe s:=by
 refine thn (ha pins s σ H _ I h) fun v s1 ⟨x,H1,I1,r1,q1⟩=> ?_
 refine thn (hb pins s1 σ H1 _ I1 q1) fun u s2 ⟨y,H2,I2,r2,q2⟩=> ?_
 exact hf v u s2 x y H2 I2 r1 r2 q2
theorem dE {op:Operator} {r:R2} (ho:OpR X (binaryOp op) r) (ha:PE X a ta) (hb:PE X b tb):PE X (.BinOp a op b pos) (yH r ta tb):=by
 intro pins s σ H Q I h
 exact wpAny_BinOp (pT ha hb I h fun v u s2 x y H2 I2 rx ry q=>ho pins s2 σ H2 x y v u Q I2 rx ry q)
theorem y9 {f:Value→Value→Sem Value} {C:Int→Int→Prop} {g:Int→Int→Int}
 (rule:∀(i j:Int) (t u:Tok) (s:Shared) (Q:Value→Shared→Prop) (E:Value→Shared→Prop),C i j→Q (.int (g i j) s.toks) {s with toks:=s.toks+1}→wpAny (model X.prog X.w) X.A (f (.int i t) (.int j u)) Q E s):
 OpR X f (rI C fun i j=> .int (g i j)):=by
 intro pins s σ H x y v u Q I rx ry h
 obtain⟨i,j,rfl,rfl,hc,q⟩:=h
 obtain⟨t,rfl⟩:=rx
 obtain⟨t',rfl⟩:=ry
 exact rule i j t t' s _ _ hc ⟨.int (g i j),H,I.tok _,⟨_,rfl⟩,q⟩
theorem uB {f:Value→Value→Sem Value} {g:Int→Int→Int}
 (rule:∀(i j:Int) (t u:Tok) (s:Shared) (Q:Value→Shared→Prop) (E:Value→Shared→Prop),Q (.int (g i j) s.toks) {s with toks:=s.toks+1}→wpAny (model X.prog X.w) X.A (f (.int i t) (.int j u)) Q E s):
 OpR X f (Y7 fun i j=> .int (g i j)):=by
 intro pins s σ H x y v u Q I rx ry h
 obtain⟨i,j,rfl,rfl,q⟩:=h
 obtain⟨t,rfl⟩:=rx
 obtain⟨t',rfl⟩:=ry
 exact rule i j t t' s _ _ ⟨.int (g i j),H,I.tok _,⟨_,rfl⟩,q⟩
theorem j7 {f:Value→Value→Sem Value} {g:Int→Int→Bool}
 (rule:∀(i j:Int) (t u:Tok) (s:Shared) (Q:Value→Shared→Prop) (E:Value→Shared→Prop),Q (.bool (g i j)) s→wpAny (model X.prog X.w) X.A (f (.int i t) (.int j u)) Q E s):
 OpR X f (Y7 fun i j=> .bl (g i j)):=by
 intro pins s σ H x y v u Q I rx ry h
 obtain⟨i,j,rfl,rfl,q⟩:=h
 obtain⟨t,rfl⟩:=rx
 obtain⟨t',rfl⟩:=ry
 exact rule i j t t' s _ _ ⟨.bl (g i j),H,I,rfl,q⟩
def vT (i j:Int):Prop:=0<j∧j<1073741824
def wX (i j:Int):Prop:=0≤j∧j≤1000000∧i.natAbs<2^64
def CMul (i j:Int):Prop:=(-(2^64)<i∧i<2^64)∨(-(2^64)<j∧j<2^64)
theorem CMul.ok {i j:Int} (h:CMul i j):IntMulOk i j:=by
 rcases h with⟨h1,h2⟩|⟨h1,h2⟩
 ·exact .of_left (intBits_le_64 h1 h2)
 ·exact .of_right (intBits_le_64 h1 h2)
theorem sJ:OpR X (binaryOp .Add) (Y7 fun i j=> .int (i+j)):=uB fun _ _ _ _ _ _ _ q=>add_int q
theorem FL:OpR X (binaryOp .Sub) (Y7 fun i j=> .int (i-j)):=uB fun _ _ _ _ _ _ _ q=>sub_int q
theorem pG:OpR X (binaryOp .Mult) (rI CMul fun i j=> .int (i*j)):=y9 fun _ _ _ _ _ _ _ hc q=>mul_int q hc.ok
theorem RJ:OpR X (binaryOp .FloorDiv) (rI vT fun i j=> .int (i/j)):=y9 fun i j _ _ _ _ _ hc q=>by
 have h1:(0:Int)<j:=hc.1
 have h2:j<1073741824:=hc.2
 exact floordiv_int (by omega) (by rw[Int.fdiv_eq_ediv_of_nonneg i (by omega)];exact q) (.inl (PyProof.noPylong_small (by omega)))
theorem IT:OpR X (binaryOp .Mod) (rI (fun _ j=>0<j) fun i j=> .int (i % j)):=y9 fun i j _ _ _ _ _ hc q=>by
 have h1:(0:Int)<j:=hc
 exact mod_int' (by omega) (by rw[Int.fmod_eq_emod_of_nonneg i (by omega)];exact q)
theorem nT:OpR X (binaryOp .Pow) (rI wX fun i j=> .int (i^j.toNat)):=y9 fun _ _ _ _ _ _ _ hc q=>pow_int_small hc.1 hc.2.1 hc.2.2 q
end
section
variable {X:Cx} {a b c:Expr} {ta tb tc:TE} {pos:Pos}
theorem UQ {pins:List (Addr×Obj)} {σ:St} {H:Hp} {s:Shared} {Q:VK} {k k':Bool} (I:Inv X pins σ H s) (q:Q (.bl k) H) (e:k=k'):EP X pins σ Q (.bool k') s:=by
 subst e
 exact⟨.bl k,H,I,rfl,q⟩
theorem xG:OpR X (compareOp .Lt) (Y7 fun i j=> .bl (decide (i<j))):=j7 fun _ _ _ _ _ _ _ q=>lt_int q
theorem uL:OpR X (compareOp .LtE) (Y7 fun i j=> .bl (decide (i≤j))):=j7 fun _ _ _ _ _ _ _ q=>le_int q
theorem tT:OpR X (compareOp .Gt) (Y7 fun i j=> .bl (decide (j<i))):=j7 fun _ _ _ _ _ _ _ q=>gt_int q
theorem vH:OpR X (compareOp .GtE) (Y7 fun i j=> .bl (decide (j≤i))):=j7 fun _ _ _ _ _ _ _ q=>ge_int q
theorem aS:OpR X (compareOp .Lt) (fun x y H Q=>∃i j,x= .str i∧y= .str j∧Q (.bl (decide (i.cps.toList<j.cps.toList))) H):=by
 intro pins s σ H x y v u Q I rx ry h
 obtain⟨i,j,rfl,rfl,q⟩:=h
 obtain⟨t,rfl⟩:=rx
 obtain⟨t',rfl⟩:=ry
 exact lt_str (UQ I q rfl)
theorem YO:OpR X (compareOp .In) (fun x y H Q=>∃i j,x= .str i∧y= .str j∧Q (.bl (!(Builtin.Str.occurrences j i 0 j.length 1).isEmpty)) H):=by
 intro pins s σ H x y v u Q I rx ry h
 obtain⟨i,j,rfl,rfl,q⟩:=h
 obtain⟨t,rfl⟩:=rx
 obtain⟨t',rfl⟩:=ry
 exact in_str (UQ I q rfl)
theorem oO:OpR X (compareOp .Is) (fun x y H Q=>y= .non∧Q (.bl (decide (x= .non))) H):=by
 intro pins s σ H x y v u Q I rx ry h
 obtain⟨rfl,q⟩:=h
 cases ry
 refine is_none_gen (UQ I q ?_)
 cases x<;>first
  |(cases rx;rfl)
  |(obtain⟨t,rfl⟩:=rx;rfl)
theorem OpR.or {f:Value→Value→Sem Value} {r r':R2} (h:OpR X f r) (h':OpR X f r'):OpR X f (fun x y H Q=>r x y H Q∨r' x y H Q):=by
 intro pins s σ H x y v u Q I rx ry q
 rcases q with q|q
 ·exact h pins s σ H x y v u Q I rx ry q
 ·exact h' pins s σ H x y v u Q I rx ry q
theorem jQ {op:CmpOp} {r:R2} (ho:OpR X (compareOp op) r) (ha:PE X a ta) (hb:PE X b tb) (hm:behindInMarks op b=false):PE X (.Compare a [op] [b] pos) (yH r ta tb):=by
 intro pins s σ H Q I h
 exact wpAny_Compare1 (pT ha hb I h fun v u s2 x y H2 I2 rx ry q=>ho pins s2 σ H2 x y v u Q I2 rx ry q) hm
def mL (t:TE):TT:=fun σ H Q=>t σ H fun x H'=>∃k,x= .bl k∧Q k H'
theorem lE {op:CmpOp} {r:R2} (ho:OpR X (compareOp op) r) (ha:PE X a ta) (hb:PE X b tb) (hm:behindInMarks op b=false):PT X (.Compare a [op] [b] pos) (mL (yH r ta tb)):=by
 intro pins s σ H Q I h
 refine wpAny_isTrue_Compare1 (thn (ha pins s σ H _ I h) fun v s1 ⟨x,H1,I1,r1,q1⟩=>thn (hb pins s1 σ H1 _ I1 q1) fun u s2 ⟨y,H2,I2,r2,q2⟩=>
  thn (ho pins s2 σ H2 x y v u _ I2 r1 r2 q2) fun c s3 ⟨z,H3,I3,r3,k,e,q3⟩=> ?_) hm
 subst e
 cases r3
 exact wpAny_truthy_bool ⟨H3,I3,q3⟩
def bX (r r':R2) (ta tb tc:TE):TE:=fun σ H Q=>ta σ H fun x H1=>tb σ H1 fun y H2=>r x y H2 fun z H3=>∃k,z= .bl k∧
 (if k=true then tc σ H3 fun w' H4=>r' y w' H4 Q else Q (.bl false) H3)
theorem cA {op op':CmpOp} {r r':R2} (ho:OpR X (compareOp op) r) (ho':OpR X (compareOp op') r') (ha:PE X a ta) (hb:PE X b tb) (hc:PE X c tc)
 (hm:lastMarks [op,op'] [b,c]=false:=by with_unfolding_all rfl):PE X (.Compare a [op,op'] [b,c] pos) (bX r r' ta tb tc):=by
 intro pins s σ H Q I h
 refine Compare_chain (thn (ha pins s σ H _ I h) fun v s1 ⟨x,H1,I1,r1,q1⟩=>chain_link (thn (hb pins s1 σ H1 _ I1 q1) fun u s2 ⟨y,H2,I2,r2,q2⟩=>
  thn (ho pins s2 σ H2 x y v u _ I2 r1 r2 q2) fun d s3 ⟨z,H3,I3,r3,k,e,q3⟩=> ?_)) hm
 subst e
 cases r3
 refine wpAny_truthy_bool ?_
 cases k with
 |false=>exact ite_ff ⟨.bl false,H3,I3,rfl,q3⟩
 |true=>exact ite_tt (chain_last (thn (hc pins s3 σ H3 _ I3 q3) fun w' s4 ⟨z',H4,I4,r4,q4⟩=>ho' pins s4 σ H4 y z' u w' Q I4 r2 r4 q4))
theorem dX {op op':CmpOp} {r r':R2} (ho:OpR X (compareOp op) r) (ho':OpR X (compareOp op') r') (ha:PE X a ta) (hb:PE X b tb) (hc:PE X c tc)
 (hm:lastMarks [op,op'] [b,c]=false:=by with_unfolding_all rfl):PT X (.Compare a [op,op'] [b,c] pos) (mL (bX r r' ta tb tc)):=by
 intro pins s σ H Q I h
 refine isTrue_chain (thn (ha pins s σ H _ I h) fun v s1 ⟨x,H1,I1,r1,q1⟩=>test_link (thn (hb pins s1 σ H1 _ I1 q1) fun u s2 ⟨y,H2,I2,r2,q2⟩=>
  thn (ho pins s2 σ H2 x y v u _ I2 r1 r2 q2) fun d s3 ⟨z,H3,I3,r3,k,e,q3⟩=> ?_)) hm
 subst e
 cases r3
 refine wpAny_truthy_bool ?_
 cases k with
 |false=>
  obtain⟨k',e',q'⟩:=q3
  cases e'
  exact ite_ff ⟨H3,I3,q'⟩
 |true=>
  refine ite_tt (test_last (thn (hc pins s3 σ H3 _ I3 q3) fun w' s4 ⟨z',H4,I4,r4,q4⟩=>thn (ho' pins s4 σ H4 y z' u w' _ I4 r2 r4 q4) fun d' s5 ⟨z2,H5,I5,r5,k2,e2,q5⟩=> ?_))
  subst e2
  cases r5
  exact wpAny_truthy_bool ⟨H5,I5,q5⟩
def vL (K:PySem.W.Frag) (x:V) (H:Hp) (k:Bool):Prop:=
 match x with
 | .non=>k=false
 | .bl b=>k=b
 | .int i=>k=(i !=0)
 | .str y=>y.length≤sizeLine∧k=((y.length:Int) !=0)
 | .byt y=>y.size≤sizeLine∧k=((y.size:Int) !=0)
 | .ref p=>(∃xs,SqL K H p xs∧k= !xs.isEmpty)∨(∃xs,GO K H p xs∧k= !xs.isEmpty)∨∃kvs,H p=some (.dK kvs)∧k= !kvs.isEmpty
 |_=>False
theorem VT {κ:Type} {kvs:List (κ×V)} {vs:List (κ×Value)} (r:KV kvs vs):(!vs.isEmpty)= !kvs.isEmpty:=by
 cases r<;>rfl
theorem NV {xs:List V} {its:List Value} (r:Vals xs its):(!its.toArray.isEmpty)= !xs.isEmpty:=by
 cases r<;>simp
theorem K9:(sizeLine:Nat)<2^63:=by rw[sizeLine_eq];decide
theorem sA:A0U X (fun x H Q=>∃k,vL X.K x H k∧Q k H):=by
 intro pins s σ H x v Q I rx h
 obtain⟨k,e,q⟩:=h
 have hl:=K9
 have hs:sizeLine=16777216:=sizeLine_eq
 cases x with
 |non=>
  cases rx
  have e':k=false:=e
  subst e'
  exact truthy_none ⟨H,I,q⟩
 |bl b=>
  cases rx
  have e':k=b:=e
  subst e'
  exact wpAny_truthy_bool ⟨H,I,q⟩
 |int i=>
  obtain⟨t,rfl⟩:=rx
  have e':k=(i !=0):=e
  subst e'
  exact PySem.P.truthy_int ⟨H,I,q⟩
 |str y=>
  obtain⟨t,rfl⟩:=rx
  obtain⟨hy,e'⟩:y.length≤sizeLine∧k=((y.length:Int) !=0):=e
  subst e'
  exact PySem.P.truthy_str (by omega) ⟨H,I.tok _,q⟩
 |byt y=>
  obtain⟨t,rfl⟩:=rx
  obtain⟨hy,e'⟩:y.size≤sizeLine∧k=((y.size:Int) !=0):=e
  subst e'
  exact PySem.W.truthy_bytes (by omega) ⟨H,I.tok _,q⟩
 |ref p=>
  cases rx
  have e':(∃xs,SqL X.K H p xs∧k= !xs.isEmpty)∨(∃xs,GO X.K H p xs∧k= !xs.isEmpty)∨∃kvs,H p=some (.dK kvs)∧k= !kvs.isEmpty:=e
  rcases e' with⟨xs,hx,e'⟩|⟨xs,hx,e'⟩|⟨kvs,hx,e'⟩
  ·subst e'
   obtain⟨its,r,pl,hz⟩:=I.list hx
   have hlen:=r.length
   exact wpAny_truthy_list pl.isList (by simp only[List.size_toArray];omega) ⟨H,I.tok _,by rw[NV r];exact q⟩
  ·subst e'
   obtain⟨its,r,pl,hz⟩:=I.tuple hx
   have hlen:=r.length
   exact truthy_tuple pl (by simp only[List.size_toArray];omega) ⟨H,I.tok _,by rw[NV r];exact q⟩
  ·subst e'
   obtain⟨hz,hS,vs,r,m⟩:kvs.length≤sizeLine∧(p==sysModules)=false∧∃vs,KV kvs vs∧s.heap.DictOf (BE X.prog X.w) p vs:=I.hok p _ hx
   have hlen:kvs.length=vs.length:=Paired.length r
   exact wpAny_truthy_dict hS m (by omega) ⟨H,I.tok _,by rw[VT r];exact q⟩
 |_=>exact(show False from e).elim
theorem eR (ha:PE X a ta) (he:∀whole,isTrue a X.env whole=(do let v←whole;standAt a.pos;holding [v] (truthy v))):
 PT X a (fun σ H Q=>ta σ H fun x H'=>∃k,vL X.K x H' k∧Q k H'):=by
 intro pins s σ H Q I h
 exact isTrue_plain (thn (ha pins s σ H _ I h) fun v s1 ⟨x,H1,I1,r1,q1⟩=>sA pins s1 σ H1 x v Q I1 r1 q1) (he _)
theorem VM:OpR X (binaryOp .Add) (fun x y H Q=>∃i j,x= .str i∧y= .str j∧i.length+j.length≤sizeLine∧Q (.str (i++j)) H):=by
 intro pins s σ H x y v u Q I rx ry h
 obtain⟨i,j,rfl,rfl,hz,q⟩:=h
 obtain⟨t,rfl⟩:=rx
 obtain⟨t',rfl⟩:=ry
 exact add_str (fun t' tk=>⟨.str (i++j),H,I.tok _,⟨_,rfl⟩,q⟩) hz
theorem G4 {x:V} {us:List Value} (r:Vals [x] us):∃u,us=[u]∧RelV x u:=by
 cases r with
 |cons r1 r2=>cases r2;exact⟨_,rfl,r1⟩
theorem TM {x y:V} {us:List Value} (r:Vals [x,y] us):∃u w',us=[u,w']∧RelV x u∧RelV y w':=by
 cases r with
 |cons r1 r2=>
  cases r2 with
  |cons r3 r4=>cases r4;exact⟨_,_,rfl,r1,r3⟩
theorem U3:DC X (.builtin "abs") (fun xs H Q=>∃i,xs=[.int i]∧Q (.int (if i<0 then-i else i)) H):=by
 intro pins s σ H xs us Q I r h
 obtain⟨i,rfl,q⟩:=h
 obtain⟨u,rfl,t,rfl⟩:=G4 r
 exact call_abs_int fun u tk=>⟨.int (if i<0 then-i else i),H,I.tok _,⟨_,rfl⟩,q⟩
theorem ZO (hc:X.calm=true):DC X (.builtin "max") (fun xs H Q=>∃i j,xs=[.int i, .int j]∧Q (.int (if j>i then j else i)) H):=by
 intro pins s σ H xs us Q I r h
 obtain⟨i,j,rfl,q⟩:=h
 obtain⟨u,w',rfl,⟨t,rfl⟩,⟨t',rfl⟩⟩:=TM r
 refine max_two_ints (I.ok.hd hc) fun h' tk k=>⟨_,H,I.kept k,?_,q⟩
 by_cases hj:j>i
 ·rw[if_pos hj,if_pos hj];exact⟨_,rfl⟩
 ·rw[if_neg hj,if_neg hj];exact⟨_,rfl⟩
theorem a7 (hc:X.calm=true):DC X (.builtin "min") (fun xs H Q=>∃i j,xs=[.int i, .int j]∧Q (.int (if j<i then j else i)) H):=by
 intro pins s σ H xs us Q I r h
 obtain⟨i,j,rfl,q⟩:=h
 obtain⟨u,w',rfl,⟨t,rfl⟩,⟨t',rfl⟩⟩:=TM r
 refine min_two_ints (I.ok.hd hc) fun h' tk k=>⟨_,H,I.kept k,?_,q⟩
 by_cases hj:j<i
 ·rw[if_pos hj,if_pos hj];exact⟨_,rfl⟩
 ·rw[if_neg hj,if_neg hj];exact⟨_,rfl⟩
theorem YF:DC X (.type "int") (fun xs H Q=>(∃i,xs=[.int i]∧Q (.int i) H)∨∃k,xs=[.bl k]∧Q (.int (if k then 1 else 0)) H):=by
 intro pins s σ H xs us Q I r h
 rcases h with⟨i,rfl,q⟩|⟨k,rfl,q⟩
 ·obtain⟨u,rfl,t,rfl⟩:=G4 r
  exact call_int_int ⟨.int i,H,I,⟨_,rfl⟩,q⟩
 ·obtain⟨u,rfl,r1⟩:=G4 r
  cases r1
  exact call_int_bool ⟨.int (if k then 1 else 0),H,I.tok _,⟨_,rfl⟩,q⟩
end
end L2
namespace L2
open PySem PySem.Spec PyProof.Rows
theorem RelO.some_of {v:V} {o:Option Value} (r:RelO (some v) o):∃u,o=some u∧RelV v u:=by
 cases o with
 |none=>exact(show False from r).elim
 |some u=>exact⟨u,rfl,r⟩
end L2
namespace L2
open PySem PySem.Spec PyProof.Rows
structure Room (k:Nat) (A:Around):Prop where
 hd:A.handled=none
 dp:A.depth+3*k+5<recursionLimit
 un:A.units+16*k+200<cLine
 gd:A.guards=some []
theorem Room.mono {j k:Nat} {A:Around} (r:Room k A) (h:j≤k):Room j A:=⟨r.hd,by have:=r.dp;omega,by have:=r.un;omega,r.gd⟩
theorem Room.deeper {k:Nat} {A:Around} (r:Room (k+1) A) (env:Env):Room k (A.deeper env):=
 ⟨r.hd,by have:=r.dp;show A.depth+1+3*k+5<_;omega,by have:=r.un;show A.units+3+16*k+200<_;omega,r.gd⟩
theorem Room.depth {k:Nat} {A:Around} (r:Room k A):A.depth<recursionLimit:=by have:=r.dp;omega
def zL:TA:=fun _ H Q=>Q [] H
def n9 (ta:TE) (tr:TA):TA:=fun σ H Q=>ta σ H fun x H1=>tr σ H1 fun xs H2=>Q (x::xs) H2
section
variable {X:Cx} {e:Expr} {es:List Expr} {te:TE} {t:TA} {pos:Pos}
theorem HN:PA X [] zL:=fun _ _ _ _ H Q I h=>Calls.spliced_nil ⟨[],H,I, .nil,h⟩
theorem jO (ha:PE X e te) (hr:PA X es t) (hs:starEach (e::es) X.env=(false,eval e X.env)::starEach es X.env:=by rfl):PA X (e::es) (n9 te t):=by
 intro pos pins s σ H Q I h
 rw[hs]
 show wpAny _ _ (spliced ((false,eval e X.env)::backTo pos (starEach es X.env))) _ _ s
 refine Calls.spliced_cons (thn (ha pins s σ H _ I h) fun u s1 ⟨x,H1,I1,r1,q1⟩=> ?_)
 exact thn (hr pos pins s1 σ H1 _ I1 q1) fun us s2 ⟨xs,H2,I2,r2,q2⟩=>⟨x::xs,H2,I2, .cons r1 r2,q2⟩
def A1F (t:TA):TE:=fun σ H Q=>t σ H fun xs H1=>xs.length≤sizeLine∧∀p,H1 p=none→Q (.ref p) (BT H1 p (.tup xs))
def A0E (t:TA):TE:=fun σ H Q=>t σ H fun xs H1=>xs.length≤sizeLine∧∀p,H1 p=none→Q (.ref p) (BT H1 p (.lst xs))
theorem pF {x1} (h:PA X es t):PE X (.Tuple es x1 pos) (A1F t):=by
 intro pins s σ H Q I hq
 refine wpAny_Tuple_spliced (thn (h pos pins s σ H _ I hq) fun us s1 ⟨xs,H1,I1,r,z,q⟩=>⟨by rw[←r.length];exact z,?_⟩)
 have hf:H1 s1.heap.objs.size=none:=I1.hok.fresh (Nat.le_refl _)
 refine⟨.ref s1.heap.objs.size,BT H1 s1.heap.objs.size (.tup xs),I1.laid (t':=s1.toks) (fun b u e=>Heap.get?_push_of_some _ e) (Nat.le_refl _) ?_,rfl,q _ hf⟩
 exact⟨z,us,r,⟨_,Heap.get?_push_size _ rfl,⟨rfl,rfl⟩,_,rfl⟩⟩
theorem cC (h:PA X es t):PE X (.List es pos) (A0E t):=by
 intro pins s σ H Q I hq
 refine wpAny_List_spliced (thn (h pos pins s σ H _ I hq) fun us s1 ⟨xs,H1,I1,r,z,q⟩=>⟨by rw[←r.length];exact z,?_⟩)
 have hf:H1 s1.heap.objs.size=none:=I1.hok.fresh (Nat.le_refl _)
 refine⟨.ref s1.heap.objs.size,BT H1 s1.heap.objs.size (.lst xs),I1.laid (t':=s1.toks) (fun b u e=>Heap.get?_push_of_some _ e) (Nat.le_refl _) ?_,rfl,q _ hf⟩
 exact⟨z,us,0,r,Heap.get?_push_size _ rfl⟩
end
abbrev Sp:=List V→Hp→VK→XK→Prop
abbrev UN:=List Env→Hp→Shared→XK→Value→Shared→Prop
structure Env0 (P:Program) (w:World) (K:PySem.W.Frag) (mg:Str→Option Value) (base:Heap) (A:Around) (outer:List Env) (s:Shared) (H:Hp):Prop where
 frames:A.frames=some outer
 mod:Mod K mg base
 bs:∀b o,base.get? b=some o→s.heap.get? b=some o∧H b=none
 bsz:base.objs.size≤s.heap.objs.size
 funs:s.heap.FunFrames base outer
 frf:∀b∈aW outer,H b=none
 hok:HOk P w H s.heap
 bare:AllBare s.gens
def CE (outer:List Env) (P:Program) (w:World) (H:Hp) (s:Shared) (Q:VK) (u:Value) (s':Shared):Prop:=
 ∃v H',s'.os=s.os∧AllBare s'.gens∧Un (aW outer) [] H H' s.heap s'.heap∧HOk P w H' s'.heap∧RelV v u∧Q v H'
def CR (CX:UN) (outer:List Env) (P:Program) (w:World) (H:Hp) (s:Shared) (Q:VK) (E:XK) (r:Result) (s':Shared):Prop:=
 match r with
 | .ok (.ret u)=>CE outer P w H s Q u s'
 | .ok _=>False
 | .error e=>CX outer H s E e s'
structure FnOk (P:Program) (w:World) (K:PySem.W.Frag) (mg:Str→Option Value) (base:Heap) (CX:UN) (k:Nat) (f:Addr) (fd:FuncData) (ps:List Str) (sp:Sp):Prop where
 len:∀vs H Q E,sp vs H Q E→vs.length=ps.length
 run:∀(A:Around) (outer:List Env) (s:Shared) (H:Hp) (args:Args) (us:List Value) (vs:List V) (Q:VK) (E:XK),Room k A→Env0 P w K mg base A outer s H→BindsTo s fd args (ps.zip us)→Vals vs us→sp vs H Q E→
  codeAny (model P w) A (.call (.ref f) args) (CR CX outer P w H s Q E) s
theorem FnOk.mono {P:Program} {w:World} {K:PySem.W.Frag} {mg:Str→Option Value} {base:Heap} {CX:UN} {j k:Nat} {f:Addr} {fd:FuncData} {ps:List Str} {sp:Sp} (F:FnOk P w K mg base CX j f fd ps sp) (h:j≤k):
 FnOk P w K mg base CX k f fd ps sp:=⟨F.len,fun A outer s H args us vs Q E hr=>F.run A outer s H args us vs Q E (hr.mono h)⟩
theorem FnOk.imp {P:Program} {w:World} {K:PySem.W.Frag} {mg:Str→Option Value} {base:Heap} {CX:UN} {k:Nat} {f:Addr} {fd:FuncData} {ps:List Str} {sp sp':Sp} (F:FnOk P w K mg base CX k f fd ps sp)
 (h:∀vs H Q E,sp' vs H Q E→sp vs H Q E):FnOk P w K mg base CX k f fd ps sp':=
 ⟨fun vs H Q E q=>F.len vs H Q E (h _ _ _ _ q),fun A outer s H args us vs Q E hr he hb hv hs=>F.run A outer s H args us vs Q E hr he hb hv (h _ _ _ _ hs)⟩
section
variable {X:Cx} {pins:List (Addr×Obj)} {σ:St} {H:Hp} {s s':Shared}
theorem Inv.env0 (I:Inv X pins σ H s):Env0 X.prog X.w X.K X.mg X.base X.A X.stack s H:=
 ⟨I.ok.frames,I.ok.mod,I.bs,Nat.le_trans I.ok.bsz I.sz,I.stack,I.stkFree,I.hok,I.bare⟩
theorem Inv.after {Q:VK} {u:Value} (I:Inv X pins σ H s) (h:CE X.stack X.prog X.w H s Q u s'):EP X pins σ Q u s':=by
 obtain⟨v,H',os,bare,un,hok,r,q⟩:=h
 obtain⟨hh,g,d,t,os'⟩:=s'
 obtain rfl:os'=s.os:=os
 exact⟨v,H',I.call (h':=hh) (g':=g) (d':=d) (t':=t) (ch:=[]) un hok bare (fun b z=>absurd z (by simp)),r,q⟩
end
def mI (sp:Sp) (dvs:List V) (E:XK) (t:TA):TE:=fun σ H Q=>t σ H fun vs H1=>sp (vs++dvs) H1 Q E
def Binds (K:PySem.W.Frag) (fd:FuncData) (ps:List Str) (ds:List Value):Prop:=
 ∀(s:Shared) (us:List Value),K.In s.heap→(us++ds).length=ps.length→BindsTo s fd ⟨us,[]⟩ (ps.zip (us++ds))
theorem Binds.all {K:PySem.W.Frag} {fd:FuncData} {ps:List Str} (h:∀us:List Value,us.length=ps.length→bindArgs fd ⟨us,[]⟩=pure (ps.zip us)):Binds K fd ps []:=fun s us _ hl=>by
 rw[List.append_nil]at hl⊢
 exact .of_eq (h us hl)
def N9 (CX:UN) (X:Cx) (E:XK):Prop:=∀(pins:List (Addr×Obj)) (σ:St) (H:Hp) (s:Shared) (e:Value) (s':Shared),Inv X pins σ H s→CX X.stack H s E e s'→X.xe e s'
section
variable {X:Cx} {CX:UN} {k:Nat} {f C:Addr} {fd:FuncData} {ps:List Str} {sp:Sp} {dvs:List V} {ds:List Value} {E:XK} {x m:Str} {p pos apos:Pos} {e o:Expr} {es:List Expr} {ta:TE} {t:TA}
theorem rL {pins:List (Addr×Obj)} {σ:St} {H:Hp} {s:Shared} {Q:VK} {us:List Value} {vs:List V} (F:FnOk X.prog X.w X.K X.mg X.base CX k f fd ps sp) (hr:Room k X.A) (hb:Binds X.K fd ps ds) (hd:Vals dvs ds) (hx:N9 CX X E)
 (I:Inv X pins σ H s) (r:Vals vs us) (h:sp (vs++dvs) H Q E):wpAny (model X.prog X.w) X.A (call (.ref f) us) (EP X pins σ Q) X.xe s:=by
 have r2:Vals (vs++dvs) (us++ds):=r.append hd
 have hl:(us++ds).length=ps.length:=by rw[←r2.length];exact F.len _ _ _ _ h
 refine wpAny_call (codeAny_mono (F.run X.A X.stack s H ⟨us,[]⟩ (us++ds) (vs++dvs) Q E hr I.env0 (hb s us I.kIn hl) r2 h) fun r s' hq=> ?_)
 cases r with
 |error e=>exact hx pins σ H s e s' I hq
 |ok fl=>
  cases fl with
  |ret u=>exact I.after hq
  |next=>exact False.elim hq
  |brk=>exact False.elim hq
  |cont=>exact False.elim hq
theorem l9 (F:FnOk X.prog X.w X.K X.mg X.base CX k f fd ps sp) (hr:Room k X.A) (hg:Gl X x) (hm:X.mg x=some (.ref f)) (hk:PySem.W.keepIn X.K (.ref f)=true) (hb:Binds X.K fd ps ds) (hd:Vals dvs ds) (hx:N9 CX X E)
 (ha:PA X (e::es) t) (hdb:(x==("__debug__":Str))=false:=by decide) (he:starEach (e::es) X.env=(false,eval e X.env)::starEach es X.env:=by rfl) (hpl:(backTo pos (starEach es X.env)).any (·.1)=false:=by rfl):
 PE X (.Call (.Name x p) (e::es) [] pos) (mI sp dvs E t):=by
 intro pins s σ H Q I h
 refine wpAny_Call_Name_kw (XZ I hg hm ?_ hdb)
 refine PySem.W.callWith_K (h₀:=X.base) I.ok.mod.kin hk (thn (ha pos pins s σ H _ I h) fun us s1 ⟨vs,H1,I1,r,q⟩=>⟨I1.kIn,?_⟩) he hpl
 exact rL F hr hb hd hx I1 r q
end
structure FnScope (N P:List Str) (sc:Scope):Prop where
 kind:sc.kind= .function
 co:sc.isCoroutine=false
 gen:sc.isGenerator=false
 nd:N.Nodup
 pre:N.take P.length=P
 par:∀x∈P,sc.names.lookup x=some .local∨sc.names.lookup x=some .cell
 nofree:∀y∈sc.names,y.2≠ .free
theorem Q2 {kindOf:Str→Option NameKind} {x:Str}:∀{binds:List (Str×Value)} {m:Str→Option Value},(∀v,(x,v)∉binds)→bindL kindOf binds m x=m x
 |[],_,_=>rfl
 |(n,v)::r,m,h=>by
  unfold bindL
  rw[Q2 fun w hw=>h w (List.mem_cons_of_mem _ hw)]
  split
  ·have:x≠n:=by rintro rfl;exact h v List.mem_cons_self
   simp[this]
  ·rfl
theorem Q6 {kindOf:Str→Option NameKind} {x:Str}:∀{binds:List (Str×Value)} {m:Str→Option Value},(∀v,(x,v)∉binds)→bindC kindOf binds m x=m x
 |[],_,_=>rfl
 |(n,v)::r,m,h=>by
  unfold bindC
  rw[Q6 fun w hw=>h w (List.mem_cons_of_mem _ hw)]
  split
  ·rfl
  ·have:x≠n:=by rintro rfl;exact h v List.mem_cons_self
   simp[this]
theorem PP {kindOf:Str→Option NameKind} {x:Str} {v:Value}:∀{P:List Str} {vs:List Value} {i:Nat} {m:Str→Option Value},P.Nodup→P[i]? =some x→vs[i]? =some v→kindOf x=some .local→
 bindL kindOf (P.zip vs) m x=some v
 |[],_,_,_,_,h,_,_=>by simp at h
 |_::_,[],_,_,_,_,h,_=>by simp at h
 |p::P,w::vs,0,m,nd,h1,h2,hk=>by
  simp at h1 h2;subst h1;subst h2
  show bindL kindOf ((p,w)::P.zip vs) m p=_
  unfold bindL
  rw[Q2 fun v hv=>(List.nodup_cons.mp nd).1 (List.of_mem_zip hv).1,if_pos hk]
  simp
 |p::P,w::vs,i+1,m,nd,h1,h2,hk=>by
  show bindL kindOf ((p,w)::P.zip vs) m x=_
  unfold bindL
  exact PP (i:=i) (List.nodup_cons.mp nd).2 (by simpa using h1) (by simpa using h2) hk
theorem PV {kindOf:Str→Option NameKind} {x:Str} {v:Value}:∀{P:List Str} {vs:List Value} {i:Nat} {m:Str→Option Value},P.Nodup→P[i]? =some x→vs[i]? =some v→kindOf x≠some .local→
 bindC kindOf (P.zip vs) m x=some v
 |[],_,_,_,_,h,_,_=>by simp at h
 |_::_,[],_,_,_,_,h,_=>by simp at h
 |p::P,w::vs,0,m,nd,h1,h2,hk=>by
  simp at h1 h2;subst h1;subst h2
  show bindC kindOf ((p,w)::P.zip vs) m p=_
  unfold bindC
  rw[Q6 fun v hv=>(List.nodup_cons.mp nd).1 (List.of_mem_zip hv).1,if_neg hk]
  simp
 |p::P,w::vs,i+1,m,nd,h1,h2,hk=>by
  show bindC kindOf ((p,w)::P.zip vs) m x=_
  unfold bindC
  exact PV (i:=i) (List.nodup_cons.mp nd).2 (by simpa using h1) (by simpa using h2) hk
def start (N:List Str) (vs:List V):St:=vs.map some++List.replicate (N.length-vs.length) none
def SR (CX:UN) (P:Program) (w:World) (K:PySem.W.Frag) (mg:Str→Option Value) (base:Heap) (N:List Str) (qual:Str) (scope:Scope) (f:Addr) (cd:Value) (A:Around) (outer:List Env) (s:Shared) (H:Hp) (E:XK):Cx where
 prog:=P
 w:=w
 K:=K
 mg:=mg
 base:=base
 A:=A.deeper (envOfC qual scope s.heap.objs.size f cd)
 N:=N
 s₀:=s
 H₀:=H
 env:=envOfC qual scope s.heap.objs.size f cd
 outer:=outer
 stack:=envOfC qual scope s.heap.objs.size f cd::outer
 ex:=[]
 calm:=true
 fn:=fun _=>true
 pn:=[]
 xe:=fun e s'=>wpAny (model P w) (A.deeper (envOfC qual scope s.heap.objs.size f cd)) (leaving (envOfC qual scope s.heap.objs.size f cd) e) (fun _ s''=>CX outer H s E e s'') (fun e' s''=>CX outer H s E e' s'') s'
theorem SX {sc:Scope} {n:Nat} {x:Str} (h:sc.names.lookup x=some .cell):∃c,(cellsFrom n sc.names []).lookup x=some c:=by
 have q:=PySem.W.cellsFrom_some sc.names n [] (.inl h)
 exact Option.isSome_iff_exists.mp q
theorem YL {CX:UN} {P:Program} {w:World} {K:PySem.W.Frag} {mg:Str→Option Value} {base:Heap} {N ps:List Str} {qual:Str} {scope:Scope} {f:Addr} {cd:Value} {A:Around} {outer:List Env} {s s1:Shared} {H:Hp} {E:XK} {us:List Value} {vs:List V}
 (S:FnScope N ps scope) (hd:A.handled=none) (e0:Env0 P w K mg base A outer s H) (hl:vs.length=ps.length) (r:Vals vs us)
 (x:InCallC s s.heap.objs.size (bindL (envOfC qual scope s.heap.objs.size f cd).kindOf (ps.zip us) fun _=>none) (cellsFrom (s.heap.objs.size+1) scope.names []) (bindC (envOfC qual scope s.heap.objs.size f cd).kindOf (ps.zip us) fun _=>none) s1):
 Inv (SR CX P w K mg base N qual scope f cd A outer s H E) [] (start N vs) H s1:=by
 have hpl:ps.length≤N.length:=by have:=congrArg List.length S.pre;rw[List.length_take]at this;omega
 obtain⟨h1,tk,rfl,hk⟩:=x.done
 have noA:∀b:Addr,b∉(SR CX P w K mg base N qual scope f cd A outer s H E).ex:=fun b z=>absurd (show b∈([]:List Addr) from z) (by simp)
 refine⟨⟨e0.mod,S.kind,rfl,rfl,Nat.le_refl _,fun y z c h1 h2=> ?_,fun y hy=> ?_,fun y c _ h=> ?_,fun _=>hd,Around.frames_deeper e0.frames, .inr ⟨rfl,rfl⟩,fun b z=>absurd z (noA b),e0.bs,e0.bsz,fun b _ _=>noA b,fun b z=>absurd z (noA b),e0.funs,e0.frf⟩,
  rfl,e0.bare,Un.kept hk,⟨_,x.toInCall.ns,fun i y v h1 h2 h3=> ?_⟩,fun y c h=>⟨_,x.cell y c h⟩,e0.hok.fresh (Nat.le_refl _),fun y c h=> ?_,fun p hp=>absurd (show p∈([]:List (Addr×Obj)) from hp) (by simp),e0.hok.kept hk,?_⟩
 ·exact name_of_addr x.apart (PySem.mem_of_lookup h1) (PySem.mem_of_lookup h2)
 ·have hy:scope.names.lookup y=some .cell∨scope.names.lookup y=some .free:=hy
  rcases hy with hy|hy
  ·exact SX hy
  ·exact absurd rfl (S.nofree _ (PySem.mem_of_lookup hy))
 ·exact Nat.le_of_lt (x.above y c (PySem.mem_of_lookup h))
 ·have hi:i<vs.length:=by
   unfold start at h2
   by_cases hi:i<vs.length
   ·exact hi
   ·rw[List.getElem?_append_right (by simpa using hi)]at h2
    rw[List.getElem?_replicate]at h2
    split at h2<;>cases h2
  have ha:vs[i]? =some v:=by
   unfold start at h2
   rw[List.getElem?_append_left (by simpa using hi),List.getElem?_map]at h2
   cases e:vs[i]?with
   |none=>rw[e]at h2;cases h2
   |some a=>rw[e]at h2;cases h2;rfl
  obtain⟨u,hu,rv⟩:=r.get ha
  have hp:ps[i]? =some y:=by
   rw[←S.pre,List.getElem?_take_of_lt (by omega)];exact h1
  have ndP:ps.Nodup:=by rw[←S.pre];exact S.nd.sublist (List.take_sublist _ _)
  refine⟨u,rv,?_⟩
  rcases S.par y (List.mem_of_getElem? hp) with k|k
  ·exact .inl ⟨k,PP ndP hp hu k⟩
  ·obtain⟨c,e⟩:=SX (n:=s.heap.objs.size+1) k
   refine .inr ⟨.inl k,c,e,?_⟩
   have q:=x.cell y c e
   rw[PV ndP hp hu (by show scope.names.lookup y≠_;rw[k];decide)]at q
   exact q
 ·exact e0.hok.fresh (Nat.le_of_lt (x.above y c (PySem.mem_of_lookup h)))
 ·unfold start
  show _=N.length
  rw[List.length_append,List.length_map,List.length_replicate]
  omega
theorem wS {CX:UN} {P:Program} {w:World} {K:PySem.W.Frag} {mg:Str→Option Value} {base:Heap} {k:Nat} {f:Addr} {name qual:Str} {params:Arguments} {body:List Stmt} {scope:Scope} {dV kV doc pm cdv ct oc:Value} {an od:Option Addr}
 {osl:Array (Option Value)} {N ps:List Str} {sp:Sp} (lk:K.lookup f=some ⟨oc,od, .func (PySem.W.fnOf name qual params body scope dV kV doc pm an cdv ct),osl⟩) (hcd:PySem.W.codeIn K cdv qual=true) (S:FnScope N ps scope)
 (len:∀vs H Q E,sp vs H Q E→vs.length=ps.length)
 (hbody:∀(A:Around) (outer:List Env) (s:Shared) (H:Hp) (vs:List V) (Q:VK) (E:XK),Room k (A.deeper (envOfC qual scope s.heap.objs.size f cdv))→sp vs H Q E→
   ∃t,PSs (SR CX P w K mg base N qual scope f cdv A outer s H E) body t∧t {nx:=fun _ H'=>Q .non H',rt:=Q} (start N vs) H):
 FnOk P w K mg base CX (k+1) f (PySem.W.fnOf name qual params body scope dV kV doc pm an cdv ct) ps sp:=by
 refine⟨len,fun A outer s H args us vs Q E hr e0 hb r hsp=> ?_⟩
 have hl:=len _ _ _ _ hsp
 have KX:K.In s.heap:=e0.mod.kin.keeps fun b o e=>(e0.bs b o e).1
 have lim:s.heap.NoLimit:=e0.mod.nolimit.keeps fun b o e=>(e0.bs b o e).1
 have hkind:∀y∈ps.zip us,scope.names.lookup y.1=some .local∨(scope.names.lookup y.1=some .cell∧((cellsFrom (s.heap.objs.size+1) scope.names []).lookup y.1).isSome=true):=fun⟨n,v⟩ hy=>by
  rcases S.par n (List.of_mem_zip hy).1 with q|q
  ·exact .inl q
  ·exact .inr ⟨q,PySem.W.cellsFrom_some _ _ _ (.inl q)⟩
 refine codeAny_call_function hr.depth (KX _ _ lk) rfl S.co S.gen rfl (PySem.W.codeRec_of KX hcd) (hb _ _ _ _ ?_)
 refine wpAny_newFunctionEnv_cells S.kind hkind fun env he s1 x=> ?_
 subst he
 refine⟨lim.keeps x.toInCall.keep,codeAny_func ?_⟩
 obtain⟨t,ht,hq⟩:=hbody A outer s H vs Q E (hr.deeper _) hsp
 have I:Inv (SR CX P w K mg base N qual scope f cdv A outer s H E) [] (start N vs) H s1:=YL S hr.hd e0 hl r x
 refine wpAny_mono (ht [] s1 (start N vs) H _ I hq) (fun fl s' hs=> ?_) fun e s' hs=>hs
 have fin:∀{σ':St} {H':Hp} {v:V} {u:Value},Inv (SR CX P w K mg base N qual scope f cdv A outer s H E) [] σ' H' s'→RelV v u→Q v H'→CE outer P w H s Q u s':=
  fun{σ' H' v u} J rv q=>⟨v,H',J.os,J.bare,J.base,J.hok,rv,q⟩
 cases fl with
 |ret u=>
  obtain⟨v,σ',H',J,rv,q⟩:=hs
  exact fin J rv q
 |next=>
  obtain⟨σ',H',J,q⟩:=hs
  exact fin (v:=V.non) (u:=Value.none) J rfl q
 |brk=>
  obtain⟨_,_,_,q⟩:=hs
  exact False.elim q
 |cont=>
  obtain⟨_,_,_,q⟩:=hs
  exact False.elim q
end L2
namespace L2
open PySem PySem.Spec PyProof.Rows
section
variable {X:Cx} {x:Str} {p pos:Pos} {e:Expr} {es:List Expr} {t:TA} {id T:String} {r:List V→Hp→VK→Prop}
def yC (r:List V→Hp→VK→Prop) (t:TA):TE:=fun σ H Q=>t σ H fun vs H1=>r vs H1 Q
theorem gC (hc:DC X (.builtin id) r) (hg:Gl X x) (hm:X.mg x=none) (hv:bootBuiltins x=some (.builtin id)) (ha:PA X (e::es) t) (hn:x≠ "__name__":=by decide) (hdb:(x==("__debug__":Str))=false:=by decide)
 (he:starEach (e::es) X.env=(false,eval e X.env)::starEach es X.env:=by rfl) (hpl:(backTo pos (starEach es X.env)).any (·.1)=false:=by rfl):PE X (.Call (.Name x p) (e::es) [] pos) (yC r t):=by
 intro pins s σ H Q I h
 refine wpAny_Call_Name_kw (KC I hg hm hv ?_ hn hdb)
 exact PyProof.Rows.callWith_builtin1 (thn (ha pos pins s σ H _ I h) fun us s1 ⟨vs,H1,I1,r1,q1⟩=>hc pins s1 σ H1 vs us Q I1 r1 q1) he hpl
theorem ZS (hc:DC X (.type T) r) (hg:Gl X x) (hm:X.mg x=none) (hv:bootBuiltins x=some (.type T)) (ha:PA X (e::es) t) (hn:x≠ "__name__":=by decide) (hdb:(x==("__debug__":Str))=false:=by decide)
 (he:starEach (e::es) X.env=(false,eval e X.env)::starEach es X.env:=by rfl) (hpl:(backTo pos (starEach es X.env)).any (·.1)=false:=by rfl):PE X (.Call (.Name x p) (e::es) [] pos) (yC r t):=by
 intro pins s σ H Q I h
 refine wpAny_Call_Name_kw (KC I hg hm hv ?_ hn hdb)
 exact PyProof.Rows.callWith_type1 (thn (ha pos pins s σ H _ I h) fun us s1 ⟨vs,H1,I1,r1,q1⟩=>hc pins s1 σ H1 vs us Q I1 r1 q1) he hpl
end
end L2
namespace HT
open PySem PyProof.Rows
section
variable {prog:Program} {w:World} {A:Around} {E:Value→Shared→Prop} {s:Shared}
theorem lT {t b:Addr} {vs ws:List Value} {Q:Value→Shared→Prop} (ht:IsTup s.heap t vs.toArray) (hb:IsTup s.heap b ws.toArray) (hv:vs≠[])
 (h1:ws=[]→Q (.ref t) s) (h2:ws≠[]→Q (.ref s.heap.objs.size) {s with heap:=s.heap.push {cls:= .type "tuple",data:= .seq (vs++ws).toArray}})
 (hsz:vs.length+ws.length≤sizeLine):wpAny (model prog w) A (binaryOp .Add (.ref t) (.ref b)) Q E s:=by
 obtain⟨⟨cls,dd,data,sl⟩,ho,hc,n,hd⟩:=id ht
 obtain⟨⟨cls2,dd2,data2,sl2⟩,ho2,hc2,n2,hd2⟩:=id hb
 simp only at hc hd hc2 hd2
 subst hc hd hc2 hd2
 have e:vs.toArray++ws.toArray=(vs++ws).toArray:=by simp
 by_cases hw:ws=[]
 ·exact concat_meets ⟨_,ho,rfl⟩ ⟨_,ho2,rfl⟩ noFill_tuple_add seq_tuple_add PySem.F.slot_tuple_add PySem.F.entry_tuple_add (PySem.F.args_tuple_add_2 _ _)
   (tuple_addW1 t b vs.toArray ws.toArray n n2 dd dd2 sl sl2 (by simpa using hv) (by simp[hw])) ⟨ho,ho2,h1 hw⟩
 ·refine concat_meets ⟨_,ho,rfl⟩ ⟨_,ho2,rfl⟩ noFill_tuple_add seq_tuple_add PySem.F.slot_tuple_add PySem.F.entry_tuple_add (PySem.F.args_tuple_add_2 _ _)
   (tuple_addW2 t b vs.toArray ws.toArray n n2 dd dd2 sl sl2 (by simpa using hv) (by simpa using hw) (by rw[List.size_toArray,List.size_toArray];exact hsz)) ⟨ho,ho2,?_⟩
  rw[e]
  exact h2 hw
def CY (n d:Nat):Option Int→Nat
 |none=>d
 |some v=>if v<0 then(v+(n:Int)).toNat else min v.toNat n
theorem UL (n d:Nat):CY n d none=d:=rfl
theorem XU (n d k:Nat):CY n d (some (k:Int))=min k n:=by
 show(if(k:Int)<0 then((k:Int)+(n:Int)).toNat else min (k:Int).toNat n)=min k n
 rw[if_neg (by omega),Int.toNat_natCast]
theorem qS (n d:Nat) (hd:d≤n) (o:Option Int):CY n d o≤n:=by
 cases o with
 |none=>exact hd
 |some v=>
  show(if v<0 then(v+(n:Int)).toNat else min v.toNat n)≤n
  by_cases hv:v<0
  ·rw[if_pos hv];omega
  ·rw[if_neg hv];exact Nat.min_le_right _ _
theorem X9 (v:Int) (n d:Nat):(if v<0 then max (v+(n:Int)) 0 else min v (n:Int))=((CY n d (some v):Nat):Int):=by
 show(if v<0 then max (v+(n:Int)) 0 else min v (n:Int))=(((if v<0 then(v+(n:Int)).toNat else min v.toNat n):Nat):Int)
 by_cases hv:v<0
 ·simp only[if_pos hv];omega
 ·simp only[if_neg hv];omega
theorem VJ (lo hi:Option Int) (n:Nat):Builtin.Slice.sliceAdjust lo hi 1 (n:Int)=(((CY n 0 lo:Nat):Int),((CY n n hi:Nat):Int)):=by
 have h1:¬((1:Int)<0):=by omega
 unfold Builtin.Slice.sliceAdjust
 simp only[h1,if_false]
 refine Prod.ext ?_ ?_
 ·cases lo with
  |none=>rfl
  |some v=>exact X9 v n 0
 ·cases hi with
  |none=>rfl
  |some v=>exact X9 v n n
theorem VA (i j:Nat):Builtin.Slice.slicePlaces (i:Int) (j:Int) 1=j-i:=by
 unfold Builtin.Slice.slicePlaces
 have h1:(1:Int)>0:=by omega
 simp only[h1,if_true,Int.ediv_one]
 split<;>omega
theorem NB {v:Value} {o:Option Int} {Q:Option Int→Shared→Prop} (p:IsPart v o) (h:Q o s):wpAny (model prog w) A (Builtin.Slice.slicePartIndex v) Q E s:=by
 cases p with
 |none=>exact slicePart_none h
 |int i t=>exact slicePart_int h
theorem GM {sl:Addr} {vl vu:Value} {lo hi:Option Int} {n:Nat} {Q:Int×Int×Nat→Shared→Prop} (hs:s.heap.IsSliceOf sl vl vu .none) (pl:IsPart vl lo) (pu:IsPart vu hi)
 (h:Q (((CY n 0 lo:Nat):Int),1,CY n n hi-CY n 0 lo) s):wpAny (model prog w) A (Builtin.Slice.sliceApplied (.ref sl) (pure (n:Int))) Q E s:=by
 obtain⟨os,hos,hcs,hds⟩:=id hs
 unfold Builtin.Slice.sliceApplied Builtin.Slice.sliceFields
 refine wpAny_bind (wpAny_bind (wpAny_field hos hds (x:=vl) rfl (wpAny_bind (wpAny_field hos hds (x:=vu) rfl (wpAny_bind (wpAny_field hos hds (x:= .none) rfl (wpAny_pure ?_)))))))
 refine wpAny_bind (slicePart_none ?_)
 show wpAny _ _ (if((1:Int)==0)=true then _ else _) _ _ s
 rw[if_neg (by decide)]
 refine wpAny_bind (NB pl (wpAny_bind (NB pu (wpAny_bind (wpAny_pure ?_)))))
 show wpAny _ _ (match Builtin.Slice.sliceAdjust lo hi 1 (n:Int) with|(lo,hi)=>pure (lo,(1:Int),Builtin.Slice.slicePlaces lo hi 1)) _ _ s
 rw[VJ lo hi n]
 show wpAny _ _ (pure (((CY n 0 lo:Nat):Int),(1:Int),Builtin.Slice.slicePlaces ((CY n 0 lo:Nat):Int) ((CY n n hi:Nat):Int) 1)) _ _ s
 rw[VA]
 exact wpAny_pure h
theorem c3 (xs:Array Value) (i k:Nat):((List.range k).filterMap fun(m:Nat)=>xs[((i:Int)+(m:Int)*1).toNat]?).toArray=((xs.toList.drop i).take k).toArray:=by
 have e:(fun(m:Nat)=>xs[((i:Int)+(m:Int)*1).toNat]?)=fun m=>xs[i+m]? :=by
  funext m
  have:((i:Int)+(m:Int)*1).toNat=i+m:=by omega
  rw[this]
 rw[e]
 have:=pick_run xs i k
 rw[List.filterMap_map]at this
 have e2:((fun x=>xs[x]?)∘fun x=>i+x)=fun m=>xs[i+m]? :=rfl
 rw[e2]at this
 rw[this]
theorem KW {t sl:Addr} {items:Array Value} {vl vu:Value} {lo hi:Option Int} {Q:Value→Shared→Prop} (ht:IsTup s.heap t items) (hs:s.heap.IsSliceOf sl vl vu .none) (pl:IsPart vl lo) (pu:IsPart vu hi)
 (hw:¬(CY items.size 0 lo=0∧CY items.size items.size hi=items.size))
 (h:Q (.ref s.heap.objs.size) {s with heap:=s.heap.push {cls:= .type "tuple",data:= .seq ((items.toList.drop (CY items.size 0 lo)).take (CY items.size items.size hi-CY items.size 0 lo)).toArray}})
 (hsz:items.size≤sizeLine):wpAny (model prog w) A (getItem (.ref t) (.ref sl)) Q E s:=by
 have htake:sizeOk (.seq ((items.toList.drop (CY items.size 0 lo)).take (CY items.size items.size hi-CY items.size 0 lo)).toArray):=by
  show((items.toList.drop (CY items.size 0 lo)).take (CY items.size items.size hi-CY items.size 0 lo)).toArray.size≤sizeLine
  rw[List.size_toArray,List.length_take,List.length_drop,Array.length_toList]
  omega
 have hj:CY items.size items.size hi≤items.size:=qS _ _ (Nat.le_refl _) hi
 obtain⟨os,hos,hcs,hds⟩:=id hs
 have hTs:s.TypeIs (.ref sl) "slice":=⟨os,hos,hcs⟩
 unfold getItem
 try with_reducible refine wpAny_holding ?_
 first|refine wpAny_bind (wpAny_pure ?_)|skip
 refine wpAny_bind (wpAny_sequenceKey ht.typeIs (by decide) ?_)
 refine wpAny_bind (wpAny_callSpecial?_slot (name:=Str.ofString "__getitem__") ht.typeIs PyProof.Rows.slot_tuple_getitem
  (wpAny_call_entry PyProof.Rows.slot_tuple_getitem ht.typeIs entry_tuple_getitem ?_ (args_tuple_getitem _ _)))
 show wpAny _ _ (Builtin.Tuple.tupleItemsOf (.ref t)>>=_) _ _ s
 refine wpAny_bind (tupleItemsOf_ ht ?_)
 refine wpAny_bind (wpAny_typeOf hTs ?_)
 rw[if_pos (by decide)]
 refine wpAny_bind (GM hs pl pu ?_)
 have hno:¬((((CY items.size 0 lo:Nat):Int)==0&&(1:Int)==1&&(CY items.size items.size hi-CY items.size 0 lo)==items.size)=true):=by
  intro q
  rw[Bool.and_eq_true,Bool.and_eq_true]at q
  have q1:((CY items.size 0 lo:Nat):Int)=0:=eq_of_beq q.1.1
  have q2:CY items.size items.size hi-CY items.size 0 lo=items.size:=eq_of_beq q.2
  exact hw ⟨by omega,by omega⟩
 show wpAny _ _ (if(((CY items.size 0 lo:Nat):Int)==0&&(1:Int)==1&&(CY items.size items.size hi-CY items.size 0 lo)==items.size)=true then _ else _) _ _ s
 rw[if_neg hno,c3]
 first
  |exact wpAny_bind (m:=Builtin.Tuple.tupleExact _) (wpAny_newObj_type (wpAny_pure ⟨_,rfl,wpAny_pure h⟩) htake)
  |exact wpAny_bind (m:=Builtin.Tuple.tupleExact _) (wpAny_newObj_type (wpAny_bind (wpAny_pure (wpAny_pure ⟨_,rfl,wpAny_pure h⟩))) htake)
  |exact wpAny_bind (wpAny_bind (m:=Builtin.Tuple.tupleExact _) (wpAny_newObj_type (wpAny_pure (wpAny_pure ⟨_,rfl,wpAny_pure h⟩)) htake))
  |exact wpAny_bind (wpAny_bind (m:=Builtin.Tuple.tupleExact _) (wpAny_newObj_type (wpAny_pure ⟨_,rfl,wpAny_pure h⟩) htake))
end
end HT
namespace L2
open PySem PySem.Spec PyProof.Rows
abbrev TO:=St→Hp→(Option Int→Hp→Prop)→Prop
def PO (X:Cx) (e:Option Expr) (t:TO):Prop:=
 ∀(pins:List (Addr×Obj)) (s:Shared) (σ:St) (H:Hp) (Q:Option Int→Hp→Prop),Inv X pins σ H s→t σ H Q→
  wpAny (model X.prog X.w) X.A (evalPart e X.env) (fun u s'=>∃o H',Inv X pins σ H' s'∧IsPart u o∧Q o H') X.xe s
def lF:TO:=fun _ H Q=>Q none H
def tI (t:TE):TO:=fun σ H Q=>t σ H fun x H1=>∃i,x= .int i∧Q (some i) H1
section
variable {X:Cx} {e:Expr} {te:TE} {lo hi:Option Expr} {tl th:TO} {pos p2:Pos}
theorem k3:PO X none lF:=by
 intro pins s σ H Q I h
 rw[evalPart_none]
 exact wpAny_pure ⟨none,H,I, .none,h⟩
theorem hZ (h:PE X e te):PO X (some e) (tI te):=by
 intro pins s σ H Q I hw
 rw[evalPart_some]
 refine thn (h pins s σ H _ I hw) fun u s1 ⟨x,H1,I1,r1,q1⟩=> ?_
 obtain⟨i,rfl,q⟩:=q1
 obtain⟨t,rfl⟩:=r1
 exact⟨some i,H1,I1, .int i t,q⟩
def SlR (X:Cx) (r:V→Option Int→Option Int→Hp→VK→Prop):Prop:=
 ∀(pins:List (Addr×Obj)) (s:Shared) (σ:St) (H:Hp) (x:V) (v vl vu:Value) (lo hi:Option Int) (sl:Addr) (Q:VK),Inv X pins σ H s→RelV x v→s.heap.IsSliceOf sl vl vu .none→IsPart vl lo→IsPart vu hi→r x lo hi H Q→
  ∃T id,typeLookup (.type T) "__getitem__"=pure (some (.builtin id))∧s.TypeIs v T∧wpAny (model X.prog X.w) X.A (getItem v (.ref sl)) (EP X pins σ Q) X.xe s
theorem SlR.or {r r':V→Option Int→Option Int→Hp→VK→Prop} (h:SlR X r) (h':SlR X r'):SlR X (fun x lo hi H Q=>r x lo hi H Q∨r' x lo hi H Q):=by
 intro pins s σ H x v vl vu lo hi sl Q I rx hs pl pu q
 rcases q with q|q
 ·exact h pins s σ H x v vl vu lo hi sl Q I rx hs pl pu q
 ·exact h' pins s σ H x v vl vu lo hi sl Q I rx hs pl pu q
def tSl (r:V→Option Int→Option Int→Hp→VK→Prop) (te:TE) (tl th:TO):TE:=fun σ H Q=>te σ H fun x H1=>tl σ H1 fun l H2=>th σ H2 fun u H3=>r x l u H3 Q
theorem eZ {r:V→Option Int→Option Int→Hp→VK→Prop} (hr:SlR X r) (he:PE X e te) (hl:PO X lo tl) (hu:PO X hi th):PE X (.Subscript e (.Slice lo hi none p2) pos) (tSl r te tl th):=by
 intro pins s σ H Q I h
 refine Subscript_ (thn (he pins s σ H _ I h) fun v s1 ⟨x,H1,I1,r1,q1⟩=> ?_)
 refine wpAny_Slice (thn (hl pins s1 σ H1 _ I1 q1) fun vl s2 ⟨l,H2,I2,pl,q2⟩=>thn (hu pins s2 σ H2 _ I2 q2) fun vu s3 ⟨u,H3,I3,pu,q3⟩=> ?_)
 rw[evalPart_none]
 refine wpAny_pure ?_
 have I4:Inv X pins σ H3 {s3 with heap:=s3.heap.push {cls:= .type "slice",data:= .fields #[vl,vu, .none]}}:=I3.kept (t':=s3.toks) fun b ob q=>Heap.get?_push_of_some _ q
 obtain⟨T,id,hT,ht,hg⟩:=hr pins {s3 with heap:=s3.heap.push {cls:= .type "slice",data:= .fields #[vl,vu, .none]}} σ H3 x v vl vu l u s3.heap.objs.size Q I4 r1 (Heap.IsSliceOf.new ..) pl pu q3
 show wpAny (model X.prog X.w) X.A (subscriptTail e (.Slice lo hi none p2) v (.ref s3.heap.objs.size)) (EP X pins σ Q) X.xe {s3 with heap:=s3.heap.push {cls:= .type "slice",data:= .fields #[vl,vu, .none]}}
 exact tail_any (ops:=[.ref s3.heap.objs.size,v]) ht hT hg (by with_unfolding_all rfl)
def NJ (xs:List V) (lo hi:Option Int):List V:=(xs.drop (HT.CY xs.length 0 lo)).take (HT.CY xs.length xs.length hi-HT.CY xs.length 0 lo)
theorem MI (xs:List V) (lo hi:Option Int):(NJ xs lo hi).length≤xs.length:=by
 unfold NJ
 rw[List.length_take,List.length_drop]
 omega
def zG (K:PySem.W.Frag):V→Option Int→Option Int→Hp→VK→Prop:=fun x lo hi H Q=>∃a xs,x= .ref a∧GO K H a xs∧
 ¬(HT.CY xs.length 0 lo=0∧HT.CY xs.length xs.length hi=xs.length)∧∀p,H p=none→Q (.ref p) (BT H p (.tup (NJ xs lo hi)))
theorem pX:SlR X (zG X.K):=by
 intro pins s σ H x v vl vu lo hi sl Q I rx hs pl pu h
 obtain⟨a,xs,rfl,hx,hw,q⟩:=h
 cases rx
 obtain⟨its,r,ht,hz⟩:=I.tuple hx
 have hlen:its.toArray.size=xs.length:=by rw[List.size_toArray];exact r.length.symm
 refine⟨"tuple",_,PyProof.Rows.slot_tuple_getitem.lookup,ht.typeIs,?_⟩
 refine HT.KW ht hs pl pu (by rw[hlen];exact hw) ?_ (by rw[hlen];exact hz)
 rw[hlen]
 refine⟨.ref s.heap.objs.size,_,I.laid (t':=s.toks) (o:= .tup (NJ xs lo hi)) (fun b ob q=>Heap.get?_push_of_some _ q) (Nat.le_refl _) ?_,rfl,q _ (I.hok.fresh (Nat.le_refl _))⟩
 exact⟨Nat.le_trans (MI xs lo hi) hz,_,(r.drop (HT.CY xs.length 0 lo)).take (HT.CY xs.length xs.length hi-HT.CY xs.length 0 lo),IsTupX.new _ _⟩
def tD (K:PySem.W.Frag):R2:=fun x y H Q=>∃a b xs ys,x= .ref a∧y= .ref b∧GO K H a xs∧GO K H b ys∧xs≠[]∧xs.length+ys.length≤sizeLine∧
 (ys=[]→Q (.ref a) H)∧(ys≠[]→∀p,H p=none→Q (.ref p) (BT H p (.tup (xs++ys))))
theorem Vals.nil_iff {xs:List V} {us:List Value} (r:Vals xs us):us=[]↔xs=[]:=by
 cases r with
 |nil=>simp
 |cons _ _=>simp
theorem l7:OpR X (binaryOp .Add) (tD X.K):=by
 intro pins s σ H x y v u Q I rx ry h
 obtain⟨a,b,xs,ys,rfl,rfl,ha,hb,hx,hz,q1,q2⟩:=h
 cases rx
 cases ry
 obtain⟨its,r1,p1,_⟩:=I.tuple ha
 obtain⟨its2,r2,p2,_⟩:=I.tuple hb
 refine HT.lT p1 p2 (fun z=>hx (r1.nil_iff.mp z)) (fun z=>⟨.ref a,H,I,rfl,q1 (r2.nil_iff.mp z)⟩) (fun z=> ?_) (by rw[←r1.length,←r2.length];exact hz)
 refine⟨.ref s.heap.objs.size,_,I.laid (t':=s.toks) (o:= .tup (xs++ys)) (fun b ob q=>Heap.get?_push_of_some _ q) (Nat.le_refl _) ?_,rfl,q2 (fun w=>z (r2.nil_iff.mpr w)) _ (I.hok.fresh (Nat.le_refl _))⟩
 exact⟨by rw[List.length_append];exact hz,_,r1.append r2,IsTupX.new _ _⟩
end
end L2
namespace L2
open PySem PySem.Spec PyProof.Rows
def dP (n:Nat) (i:Int):Option Nat:=if 0≤i then(if i<n then some i.toNat else none) else if-(n:Int)≤i then some (i+n).toNat else none
def NH {α:Type} (xs:List α) (i:Int):Option α:=(dP xs.length i).bind fun j=>xs[j]?
theorem WW {n:Nat} {i:Int} {j:Nat} (h:dP n i=some j):seqIndex? i n=some j∧j<n∧-(n:Int)≤i∧i<n:=by
 unfold dP at h
 by_cases h0:0≤i
 ·rw[if_pos h0]at h
  by_cases h1:i<n
  ·rw[if_pos h1]at h
   have e:i.toNat=j:=Option.some.inj h
   exact⟨by rw[seqIndex_of h0 h1,e],by omega,by omega,h1⟩
  ·rw[if_neg h1]at h;cases h
 ·rw[if_neg h0]at h
  by_cases h1: -(n:Int)≤i
  ·rw[if_pos h1]at h
   have e:(i+n).toNat=j:=Option.some.inj h
   exact⟨by rw[seqIndex_neg (by omega) h1,e],by omega,h1,by omega⟩
  ·rw[if_neg h1]at h;cases h
theorem QH {α:Type} {xs:List α} {i:Int} {v:α} (h:NH xs i=some v):∃j,seqIndex? i xs.length=some j∧xs[j]? =some v∧j<xs.length∧-(xs.length:Int)≤i∧i<xs.length:=by
 unfold NH at h
 cases e:dP xs.length i with
 |none=>rw[e]at h;cases h
 |some j=>
  rw[e]at h
  obtain⟨h1,h2,h3,h4⟩:=WW e
  exact⟨j,h1,h,h2,h3,h4⟩
theorem L5 {α:Type} {xs:List α} {j:Nat} {v:α} (h:xs[j]? =some v):NH xs (j:Int)=some v:=by
 have hj:j<xs.length:=(List.getElem?_eq_some_iff.mp h).1
 have e:dP xs.length (j:Int)=some j:=by
  unfold dP
  rw[if_pos (by omega),if_pos (by omega)];simp
 unfold NH;rw[e];exact h
def MS (b:Expr):Prop:=∀o i,subscripted b false o i=operate [o,i] (getItem o i)
def IxR (X:Cx) (r:R2):Prop:=
 ∀(value slice:Expr) (pins:List (Addr×Obj)) (s:Shared) (σ:St) (H:Hp) (x y:V) (v u:Value) (Q:VK),Inv X pins σ H s→RelV x v→RelV y u→r x y H Q→
  subscripted slice false v u=operate [v,u] (getItem v u)→wpAny (model X.prog X.w) X.A (subscriptTail value slice v u) (EP X pins σ Q) X.xe s
def sY (X:Cx) (id:String) (r:V→List V→Hp→VK→Prop):Prop:=
 ∀(pins:List (Addr×Obj)) (s:Shared) (σ:St) (H:Hp) (x:V) (xs:List V) (v:Value) (us:List Value) (Q:VK),Inv X pins σ H s→RelV x v→Vals xs us→r x xs H Q→
  wpAny (model X.prog X.w) X.A (call (.builtin id) (v::us)) (EP X pins σ Q) X.xe s
section
variable {X:Cx} {a b:Expr} {ta tb:TE} {pos:Pos}
theorem IxR.or {r r':R2} (h:IxR X r) (h':IxR X r'):IxR X (fun x y H Q=>r x y H Q∨r' x y H Q):=by
 intro value slice pins s σ H x y v u Q I rx ry q hs
 rcases q with q|q
 ·exact h value slice pins s σ H x y v u Q I rx ry q hs
 ·exact h' value slice pins s σ H x y v u Q I rx ry q hs
theorem vG {r:R2} (hr:IxR X r) (ha:PE X a ta) (hb:PE X b tb) (hs:MS b):PE X (.Subscript a b pos) (yH r ta tb):=by
 intro pins s σ H Q I h
 exact Subscript_ (pT ha hb I h fun v u s2 x y H2 I2 rx ry q=>hr a b pins s2 σ H2 x y v u Q I2 rx ry q (hs _ _))
def wG (K:PySem.W.Frag):R2:=fun x y H Q=>∃p xs i v,x= .ref p∧y= .int i∧SqL K H p xs∧NH xs i=some v∧Q v H
def xC (K:PySem.W.Frag):R2:=fun x y H Q=>∃p xs i v,x= .ref p∧y= .int i∧GO K H p xs∧NH xs i=some v∧Q v H
def tX:R2:=fun x y H Q=>∃z i c,x= .str z∧y= .int i∧z.length≤sizeLine∧NH z.cps.toList i=some c∧Q (.str ⟨#[c]⟩) H
theorem jW:IxR X (wG X.K):=by
 intro value slice pins s σ H x y v u Q I rx ry h hs
 obtain⟨p,xs,i,z,rfl,rfl,hq,he,q⟩:=h
 cases rx
 obtain⟨t,rfl⟩:=ry
 obtain⟨its,r,pl,hz⟩:=I.list hq
 obtain⟨j,h1,h2,h3,h4,h5⟩:=QH he
 obtain⟨w,ew,rw'⟩:=r.get h2
 have hl:=r.length
 have hn:=K9
 have fin:EP X pins σ Q w s:=⟨z,H,I,rw',q⟩
 by_cases h0:0≤i
 ·have hj:i.toNat=j:=by
   rw[seqIndex_of h0 h5]at h1
   exact Option.some.inj h1
  exact item_listR pl.isList h0 (by omega) (by rw[hj];simpa using ew) fin hs
 ·have hj:(i+(its.toArray.size:Int)).toNat=j:=by
   rw[seqIndex_neg (by omega) h4]at h1
   rw[List.size_toArray,←hl]
   exact Option.some.inj h1
  exact subscriptTail_builtinR (x:=w) pl.isList.typeIs slot_list_getitem.lookup
   (wpAny_getItem_list_neg (Q:=fun r s'=>r=w∧EP X pins σ Q r s') pl.isList (by omega) (by rw[List.size_toArray]<;>omega) (by omega) (by rw[hj];simpa using ew) ⟨rfl,fin⟩) hs
theorem rY:IxR X (xC X.K):=by
 intro value slice pins s σ H x y v u Q I rx ry h hs
 obtain⟨p,xs,i,z,rfl,rfl,hq,he,q⟩:=h
 cases rx
 obtain⟨t,rfl⟩:=ry
 obtain⟨its,r,pl,hz⟩:=I.tuple hq
 obtain⟨j,h1,h2,h3,h4,h5⟩:=QH he
 obtain⟨w,ew,rw'⟩:=r.get h2
 have hl:=r.length
 have hn:=K9
 have fin:EP X pins σ Q w s:=⟨z,H,I,rw',q⟩
 exact subscriptTail_builtinR (x:=w) pl.typeIs slot_tuple_getitem.lookup
  (getItem_tuple (j:=j) (Q:=fun r s'=>r=w∧EP X pins σ Q r s') pl (by omega) (by omega) (by rw[List.size_toArray,←hl];exact h1) (by simpa using ew) ⟨rfl,fin⟩) hs
theorem oI:IxR X tX:=by
 intro value slice pins s σ H x y v u Q I rx ry h hs
 obtain⟨z,i,c,rfl,rfl,hz,he,q⟩:=h
 obtain⟨t,rfl⟩:=rx
 obtain⟨t',rfl⟩:=ry
 obtain⟨j,h1,h2,h3,h4,h5⟩:=QH he
 have hl:z.cps.toList.length=z.length:=by simp[Str.length]
 rw[hl]at h1 h4 h5
 have hn:=K9
 exact tail_any (typeIs_str s z t) slot_str_getitem.lookup (getItem_str (c:=c) (by
  have e1:decide (i< -(2^63:Int))=false:=decide_eq_false (by omega)
  have e2:decide (i≥2^63)=false:=decide_eq_false (by omega)
  rw[e1,e2,Bool.or_false]) (by rw[h1];simpa using h2) ⟨.str ⟨#[c]⟩,H,I.tok _,⟨_,rfl⟩,q⟩) hs
def rIx (K:PySem.W.Frag):R2:=fun x y H Q=>wG K x y H Q∨xC K x y H Q∨tX x y H Q
theorem pV:IxR X (rIx X.K):=jW.or (rY.or oI)
theorem VI (its:List Value) (n j:Nat) (u:Value):Obj.mapSeq (·.setIfInBounds j u) {cls:= .type "list",data:= .seq its.toArray n}={cls:= .type "list",data:= .seq (its.set j u).toArray n}:=by
 simp[Obj.mapSeq]
theorem Inv.lst {pins:List (Addr×Obj)} {σ:St} {H:Hp} {s:Shared} {p:Addr} {xs:List V} (I:Inv X pins σ H s) (h:H p=some (.lst xs)):
 ∃(its:List Value) (n:Nat),Vals xs its∧s.heap.get? p=some {cls:= .type "list",data:= .seq its.toArray n}∧xs.length≤sizeLine:=by
 obtain⟨z,its,n,r,e⟩:=I.hok p _ h
 exact⟨its,n,r,e,z⟩
theorem Inv.lstUpd {pins:List (Addr×Obj)} {σ:St} {H:Hp} {s:Shared} {p:Addr} {xs ys:List V} {its its':List Value} {n n':Nat} {f:Obj→Obj} (I:Inv X pins σ H s) (h:H p=some (.lst xs))
 (ho:s.heap.get? p=some {cls:= .type "list",data:= .seq its.toArray n}) (hf:f {cls:= .type "list",data:= .seq its.toArray n}={cls:= .type "list",data:= .seq its'.toArray n'}) (r:Vals ys its') (hz:ys.length≤sizeLine) (t:Nat):
 Inv X pins σ (BT H p (.lst ys)) {s with heap:=s.heap.update p f,toks:=t}:=by
 have e:(s.heap.update p f).get? p=some {cls:= .type "list",data:= .seq its'.toArray n'}:=by
  rw[Heap.get?_update_self f ho (by rw[hf]<;>rfl),hf]
 refine I.write (x:=p) (e:=p) (by rw[h];trivial) (.inl rfl) (fun b u hb q=>(Heap.get?_update_other _ _ (Ne.symm hb)).trans q) ⟨_,e⟩ ?_
 exact⟨hz,its',n',r,e⟩
def xP:V→V→V→Hp→(Hp→Prop)→Prop:=fun o i v H Q=>∃p xs k j,o= .ref p∧i= .int k∧H p=some (.lst xs)∧dP xs.length k=some j∧Q (BT H p (.lst (xs.set j v)))
theorem bC:vZ X xP:=by
 intro pins s σ H o i v ov iv u Q I ro ri rv h
 obtain⟨p,xs,k,j,rfl,rfl,hp,hj,q⟩:=h
 cases ro
 obtain⟨t,rfl⟩:=ri
 obtain⟨its,n,r,ho,hz⟩:=I.lst hp
 obtain⟨h1,h2,h3,h4⟩:=WW hj
 have hl:=r.length
 have hn:=K9
 have I':Inv X pins σ (BT H p (.lst (xs.set j v))) {s with heap:=s.heap.update p (Obj.mapSeq (·.setIfInBounds j u))}:=
  I.lstUpd hp ho (VI its n j u) (r.set rv j) (by rw[List.length_set];exact hz) s.toks
 by_cases h0:0≤k
 ·have hk:k.toNat=j:=by
   rw[seqIndex_of h0 h4]at h1
   exact Option.some.inj h1
  exact PySem.W.ki_setAt ho h0 (by omega) (by rw[List.size_toArray,←hl];exact h4) (by rw[hk];exact⟨_,I',q⟩)
 ·have hk:(k+(its.toArray.size:Int)).toNat=j:=by
   rw[seqIndex_neg (by omega) h3]at h1
   rw[List.size_toArray,←hl]
   exact Option.some.inj h1
  exact PySem.W.ki_setBack ho (by omega) (by rw[List.size_toArray,←hl];exact h3) (by omega) (by rw[hk];exact⟨_,I',q⟩)
theorem RX (lo hi:Option Int) (n:Nat):(sliceBounds lo hi none n).1=((HT.CY n 0 lo:Nat):Int)∧(sliceBounds lo hi none n).2.1=((HT.CY n n hi:Nat):Int)∧(sliceBounds lo hi none n).2.2=1:=by
 refine⟨?_,?_,rfl⟩
 ·cases lo with
  |none=>simp[sliceBounds,HT.CY]
  |some i=>
   simp only[sliceBounds,HT.CY,Option.getD_none,show(1:Int)>0 by decide,if_true]
   by_cases h:i<0
   ·simp only[h,if_true]<;>omega
   ·simp only[h,if_false]<;>omega
 ·cases hi with
  |none=>simp[sliceBounds,HT.CY]
  |some i=>
   simp only[sliceBounds,HT.CY,Option.getD_none,show(1:Int)>0 by decide,if_true]
   by_cases h:i<0
   ·simp only[h,if_true]<;>omega
   ·simp only[h,if_false]<;>omega
theorem OY (its:List Value) (lo hi:Option Int):slicePick its.toArray lo hi none=((its.drop (HT.CY its.length 0 lo)).take (HT.CY its.length its.length hi-HT.CY its.length 0 lo)).toArray:=by
 obtain⟨h1,h2,h3⟩:=RX lo hi its.toArray.size
 unfold slicePick
 rw[h1,h2,h3]
 simp only[sliceRange_one,pick_run,List.size_toArray]<;>rfl
def tE (K:PySem.W.Frag):V→Option Int→Option Int→Hp→VK→Prop:=fun x lo hi H Q=>∃a xs,x= .ref a∧SqL K H a xs∧∀p,H p=none→Q (.ref p) (BT H p (.lst (NJ xs lo hi)))
theorem j5:SlR X (tE X.K):=by
 intro pins s σ H x v vl vu lo hi sl Q I rx hs pl pu h
 obtain⟨a,xs,rfl,hx,q⟩:=h
 cases rx
 obtain⟨its,r,ht,hz⟩:=I.list hx
 have hlen:=r.length
 refine⟨"list",_,slot_list_getitem.lookup,ht.isList.typeIs,?_⟩
 refine wpAny_getItem_list_slice ht.isList hs pl pu .none (by simp) ?_ (by rw[List.size_toArray]<;>omega)
 rw[OY,←hlen]
 refine⟨.ref s.heap.objs.size,_,I.laid (t':=s.toks) (o:= .lst (NJ xs lo hi)) (fun b ob q=>Heap.get?_push_of_some _ q) (Nat.le_refl _) ?_,rfl,q _ (I.hok.fresh (Nat.le_refl _))⟩
 exact⟨Nat.le_trans (MI xs lo hi) hz,_,0,(r.drop (HT.CY xs.length 0 lo)).take (HT.CY xs.length xs.length hi-HT.CY xs.length 0 lo),Heap.get?_push_size _ rfl⟩
theorem RT:OpR X (compareOp .NotIn) (fun x y H Q=>∃i j,x= .str i∧y= .str j∧Q (.bl (!(!(Builtin.Str.occurrences j i 0 j.length 1).isEmpty))) H):=by
 intro pins s σ H x y v u Q I rx ry h
 obtain⟨i,j,rfl,rfl,q⟩:=h
 obtain⟨t,rfl⟩:=rx
 obtain⟨t',rfl⟩:=ry
 exact notIn_str ⟨.bl _,H,I,rfl,q⟩
theorem RE:DC X (.builtin "len") (fun xs H Q=>∃p ys,xs=[.ref p]∧(SqL X.K H p ys∨GO X.K H p ys)∧Q (.int ys.length) H):=by
 intro pins s σ H xs us Q I r h
 obtain⟨p,ys,rfl,hq,q⟩:=h
 obtain⟨u,rfl,rx⟩:=G4 r
 cases rx
 have hn:=K9
 rcases hq with hq|hq
 ·obtain⟨its,r',pl,hz⟩:=I.list hq
  have hlen:=r'.length
  exact Calls.call_len_list pl.isList (by simp only[List.size_toArray]<;>omega) ⟨.int ys.length,H,I.tok _,⟨s.toks+1,by rw[List.size_toArray,hlen]⟩,q⟩
 ·obtain⟨its,r',pl,hz⟩:=I.tuple hq
  have hlen:=r'.length
  exact len_tuple pl (by simp only[List.size_toArray]<;>omega) ⟨.int ys.length,H,I.tok _,⟨s.toks+1,by rw[List.size_toArray,hlen]⟩,q⟩
theorem QV:DC X (.builtin "len") (fun xs H Q=>∃z,xs=[.str z]∧z.length≤sizeLine∧Q (.int z.length) H):=by
 intro pins s σ H xs us Q I r h
 obtain⟨z,rfl,hz,q⟩:=h
 obtain⟨u,rfl,t,rfl⟩:=G4 r
 have hn:=K9
 exact len_str (by omega) ⟨.int z.length,H,I.tok _,⟨_,rfl⟩,q⟩
theorem JO:DC X (.type "tuple") (fun xs H Q=>∃p ys,xs=[.ref p]∧((SqL X.K H p ys∧∀l,H l=none→Q (.ref l) (BT H l (.tup ys)))∨(GO X.K H p ys∧Q (.ref p) H))):=by
 intro pins s σ H xs us Q I r h
 obtain⟨p,ys,rfl,h⟩:=h
 obtain⟨u,rfl,rx⟩:=G4 r
 cases rx
 rcases h with⟨hq,q⟩|⟨hq,q⟩
 ·obtain⟨its,r',pl,hz⟩:=I.list hq
  have hlen:=r'.length
  refine call_tuple_list pl.isList (fun h' kp=> ?_) (by simp only[List.size_toArray]<;>omega)
  have I1:Inv X pins σ H {s with heap:=h'}:=I.kept (t':=s.toks) kp
  have I2:Inv X pins σ (BT H h'.objs.size (.tup ys)) {s with heap:=h'.push {cls:= .type "tuple",data:= .seq its.toArray}}:=
   I1.laid (t':=s.toks) (fun b o e=>Heap.get?_push_of_some _ e) (Nat.le_refl _) (show ObjOk X.prog X.w _ _ _ (.tup ys) from⟨hz,its,r',IsTupX.new _ _⟩)
  exact⟨.ref h'.objs.size,_,I2,rfl,q _ (I1.hok.fresh (Nat.le_refl _))⟩
 ·obtain⟨its,r',pl,hz⟩:=I.tuple hq
  exact call_tuple_same pl ⟨.ref p,H,I,rfl,q⟩
def rA (K:PySem.W.Frag) (T:String) (x:V) (H:Hp):Prop:=match x with
 | .str _=>T= "str"
 | .int _=>T= "int"
 | .ref p=>(T= "list"∧∃xs,SqL K H p xs)∨(T= "tuple"∧∃xs,GO K H p xs)∨
     (T= "dict"∧((∃kvs,Rd H p (.dK kvs))∨∃kvs,H p=some (.dT kvs)))∨(T= "set"∧∃S n,H p=some (.set S n))
 |_=>False
theorem eD {pins:List (Addr×Obj)} {σ:St} {H:Hp} {s:Shared} {T:String} {x:V} {v:Value} (I:Inv X pins σ H s) (r:RelV x v) (ty:rA X.K T x H):
 s.TypeIs v T∧∀a,v= .ref a→∃ob,s.heap.get? a=some ob∧ob.dict=none:=by
 cases x with
 |str z=>
  obtain⟨t,rfl⟩:=r
  cases(show T= "str" from ty)
  exact⟨typeIs_str s z t,fun _ e=>nomatch e⟩
 |int i=>
  obtain⟨t,rfl⟩:=r
  cases(show T= "int" from ty)
  exact⟨typeIs_int s i t,fun _ e=>nomatch e⟩
 |ref p=>
  cases r
  rcases ty with⟨rfl,xs,hq⟩|⟨rfl,xs,hq⟩|⟨rfl,hk⟩|⟨rfl,S,n,hk⟩
  ·obtain⟨its,_,pl,_⟩:=I.list hq
   refine⟨pl.isList.typeIs,fun a e=> ?_⟩
   cases e
   obtain⟨o,n,e,c,hd,_⟩:=pl
   exact⟨o,e,hd⟩
  ·obtain⟨its,_,⟨o,e,c,_⟩,_⟩:=I.tupleX hq
   refine⟨⟨o,e,c.1⟩,fun a e2=> ?_⟩
   cases e2
   exact⟨o,e,c.2⟩
  ·have z:∃o,s.heap.get? p=some o∧o.ExactDict:=by
    rcases hk with⟨kvs,hk⟩|⟨kvs,hk⟩
    ·obtain⟨_,_,_,_,o,_,_,e,ex,_⟩:=(show ObjOk X.prog X.w H s.heap p (.dK kvs) from hk.ok I.hok)
     exact⟨o,e,ex⟩
    ·obtain⟨_,_,_,_,o,_,_,e,ex,_⟩:=I.hok p _ hk
     exact⟨o,e,ex⟩
   obtain⟨o,e,ex⟩:=z
   refine⟨⟨o,e,ex.1⟩,fun a e2=> ?_⟩
   cases e2
   exact⟨o,e,ex.2.1⟩
  ·obtain⟨o,_,_,_,e,ex,_⟩:=I.hok p _ hk
   refine⟨⟨o,e,ex.1⟩,fun a e2=> ?_⟩
   cases e2
   exact⟨o,e,ex.2.1⟩
 |_=>exact False.elim ty
def A0T (K:PySem.W.Frag) (T:String) (r:V→List V→Hp→VK→Prop) (to:TE):TE:=fun σ H Q=>to σ H fun x H1=>rA K T x H1∧r x [] H1 Q
def tBM (K:PySem.W.Frag) (T:String) (r:V→List V→Hp→VK→Prop) (to:TE) (t:TA):TE:=fun σ H Q=>to σ H fun x H1=>rA K T x H1∧t σ H1 fun xs H2=>r x xs H2 Q
variable {o e:Expr} {es:List Expr} {to:TE} {t:TA} {name:Str} {apos cpos:Pos} {T id:String} {r:V→List V→Hp→VK→Prop}
theorem cG (pa:PlainAttrs T) (slot:Slot T name id) (hty:typeOf (.builtin id)=pure (.type "method_descriptor")) (hm:sY X id r) (ho:PE X o to)
 (hbase:attributeBase o name X.env (eval o X.env)=eval o X.env:=by rfl) (hline:(apos.endLine==cpos.line)=true:=by rfl):PE X (.Call (.Attribute o name apos) [] [] cpos) (A0T X.K T r to):=by
 intro pins s σ H Q I h
 refine wpAny_Call_method0_late hbase hline (thn (ho pins s σ H _ I h) fun v s1 ⟨x,H1,I1,r1,ty,q1⟩=> ?_)
 obtain⟨h1,h2⟩:=eD I1 r1 ty
 exact⟨T,id,pa,slot,hty,h1,h2,Calls.callWith_builtin rfl (PySem.evalArgs_none (hm pins s1 σ H1 x [] v [] Q I1 r1 .nil q1))⟩
theorem uW (pa:PlainAttrs T) (slot:Slot T name id) (hty:typeOf (.builtin id)=pure (.type "method_descriptor")) (hm:sY X id r) (ho:PE X o to) (ha:PA X (e::es) t)
 (hbase:attributeBase o name X.env (eval o X.env)=eval o X.env:=by rfl)
 (hfew:((backTo cpos (starEach (e::es) X.env)).all (fun x=> !x.1)&&(backToKw cpos (keywordEach [] X.env)).all (fun x=>x.1.isSome)
   &&decide ((e::es).length+([]:List Keyword).length+(if([]:List Keyword).isEmpty then 0 else 1)<30))=true:=by rfl)
 (hline:(apos.endLine==cpos.line)=true:=by rfl) (hs:starEach (e::es) X.env=(false,eval e X.env)::starEach es X.env:=by rfl) (hplain:(backTo cpos (starEach es X.env)).any (·.1)=false:=by rfl):
 PE X (.Call (.Attribute o name apos) (e::es) [] cpos) (tBM X.K T r to t):=by
 intro pins s σ H Q I h
 refine wpAny_Call_method_late hbase hfew hline rfl (thn (ho pins s σ H _ I h) fun v s1 ⟨x,H1,I1,r1,ty,q1⟩=> ?_)
 obtain⟨h1,h2⟩:=eD I1 r1 ty
 refine⟨T,id,pa,slot,hty,h1,h2,?_⟩
 have hA:=ha cpos pins s1 σ H1 _ I1 q1
 rw[hs]at hA⊢
 refine Calls.callWith_builtin (by show(false||(backTo cpos (starEach es X.env)).any (·.1))=false;rw[hplain]<;>rfl) (Calls.evalArgs_plain ?_)
 exact thn hA fun us s2 ⟨vs,H2,I2,r2,q2⟩=>hm pins s2 σ H2 x vs v us Q I2 r1 r2 q2
end
end L2
namespace L2
open PySem PySem.Spec PyProof.Rows
def MtM (X:Cx) (id:String) (r:V→List V→Hp→VK→Prop):Prop:=
 ∀(pins:List (Addr×Obj)) (s:Shared) (σ:St) (H:Hp) (x:V) (xs:List V) (v:Value) (us:List Value) (Q:VK),Inv X pins σ H s→RelV x v→Vals xs us→r x xs H Q→
  wpAny (model X.prog X.w) X.A (call (.builtin id) (v::us)) (EP X pins σ Q) X.xe s
theorem Vals.one:∀{x:V} {us:List Value},Vals [x] us→∃u,us=[u]∧RelV x u
 |_,_, .cons r .nil=>⟨_,rfl,r⟩
theorem Vals.zero:∀{us:List Value},Vals [] us→us=[]
 |_, .nil=>rfl
theorem Vals.dropLast {xs:List V} {us:List Value} (h:Vals xs us):Vals xs.dropLast us.dropLast:=by
 induction h with
 |nil=>exact .nil
 |cons r t ih=>
  cases t with
  |nil=>exact .nil
  |cons q t'=>exact .cons r ih
theorem Vals.reverse {xs:List V} {us:List Value} (h:Vals xs us):Vals xs.reverse us.reverse:=by
 induction h with
 |nil=>exact .nil
 |cons r t ih=>rw[List.reverse_cons,List.reverse_cons];exact Vals.append ih (.cons r .nil)
theorem Vals.rep {xs:List V} {us:List Value} (h:Vals xs us):∀k:Nat,Vals (List.replicate k xs).flatten (List.replicate k us).flatten
 |0=> .nil
 |k+1=>by
  rw[List.replicate_succ,List.replicate_succ,List.flatten_cons,List.flatten_cons]
  exact Vals.append h (Vals.rep h k)
theorem WG {α:Type} (l:List α):l.eraseIdx (l.length-1)=l.dropLast:=by
 induction l with
 |nil=>rfl
 |cons a r ih=>
  cases r with
  |nil=>rfl
  |cons b r=>
   have e:(a::b::r).length-1=((b::r).length-1)+1:=by
    have h1:(a::b::r).length=r.length+2:=rfl
    have h2:(b::r).length=r.length+1:=rfl
    omega
   rw[e,List.eraseIdx_cons_succ,ih]
   all_goals rfl
theorem P4 (its:List Value):∀(k:Nat) (acc:List Value),
 List.foldl (fun x1 x2=>x1++x2) acc.toArray (List.replicate k its.toArray)=(acc++(List.replicate k its).flatten).toArray
 |0,acc=>by simp
 |k+1,acc=>by
  have e:acc.toArray++its.toArray=(acc++its).toArray:=by simp
  have e2:(acc++its)++(List.replicate k its).flatten=acc++(List.replicate (k+1) its).flatten:=by
   rw[List.replicate_succ,List.flatten_cons,List.append_assoc]
  rw[←e2,←P4 its k (acc++its),←e,List.replicate_succ,List.foldl_cons]
section
variable {X:Cx} {pins:List (Addr×Obj)} {σ:St} {H:Hp} {s:Shared} {l b:Addr} {xs ys zs:List V}
theorem Inv.lset {its its':List Value} {n:Nat} {f:Array Value→Array Value} {t':Nat} (I:Inv X pins σ H s) (hH:H l=some (.lst xs))
 (e:s.heap.get? l=some {cls:= .type "list",data:= .seq its.toArray n}) (hf:f its.toArray=its'.toArray) (hv:Vals ys its') (hz:ys.length≤sizeLine):
 Inv X pins σ (BT H l (.lst ys)) {s with heap:=s.heap.update l (Obj.mapSeq f),toks:=t'}:=by
 have q:=PySem.IsL.update e f
 rw[hf]at q
 refine I.write (x:=l) (e:=l) (by rw[hH];exact trivial) (.inl rfl) (fun b' u hb hu=>(Heap.get?_update_other s.heap (Obj.mapSeq f) (Ne.symm hb)).trans hu) ⟨_,q⟩ ?_
 exact⟨hz,its',_,hv,q⟩
theorem Inv.lnew {its:List Value} {t':Nat} (I:Inv X pins σ H s) (hv:Vals ys its) (hz:ys.length≤sizeLine):
 Inv X pins σ (BT H s.heap.objs.size (.lst ys)) {s with heap:=s.heap.push {cls:= .type "list",data:= .seq its.toArray},toks:=t'}:=
 I.laid (fun _ _ q=>Heap.get?_push_of_some _ q) (Nat.le_refl _) ⟨hz,its,0,hv,Heap.get?_push_size _ rfl⟩
theorem Inv.fresh (I:Inv X pins σ H s):H s.heap.objs.size=none:=I.hok.fresh (Nat.le_refl _)
theorem Inv.lstM (I:Inv X pins σ H s) (hH:H l=some (.lst xs)):xs.length≤sizeLine∧∃(its:List Value) (n:Nat),Vals xs its∧xs.length=its.length∧s.heap.get? l=some {cls:= .type "list",data:= .seq its.toArray n}:=by
 obtain⟨z,its,n,r,e⟩:=I.hok l _ hH
 exact⟨z,its,n,r,r.length,e⟩
theorem bZ {n:Nat} (h:n≤sizeLine):Builtin.List.listTooLong n=false:=by
 unfold Builtin.List.listTooLong
 exact decide_eq_false (by omega)
end
section
variable {X:Cx}
def X4:V→List V→Hp→VK→Prop:=fun x vs H Q=>∃l xs y,x= .ref l∧vs=[y]∧H l=some (.lst xs)∧xs.length<sizeLine∧Q .non (BT H l (.lst (xs++[y])))
theorem M7:MtM X "list.append" X4:=by
 intro pins s σ H x vs v us Q I rx rv h
 obtain⟨l,xs,y,rfl,rfl,hH,hz,q⟩:=h
 cases rx
 obtain⟨u,rfl,ru⟩:=rv.one
 obtain⟨z,its,n,r,hl,e⟩:=I.lstM hH
 refine call_meets F.slot_list_append ⟨_,e,rfl⟩ F.entry_list_append (F.args_list_append_2 _ _) (PySem.list_append l its.toArray n u (by rw[List.size_toArray];omega)) ⟨e,?_⟩
 refine⟨.non,_,I.lset (its':=its++[u]) hH e (by simp) (r.append (.cons ru .nil)) ?_,rfl,q⟩
 rw[List.length_append,List.length_singleton]
 omega
def wV:V→List V→Hp→VK→Prop:=fun x vs H Q=>∃l xs y,x= .ref l∧vs=[]∧H l=some (.lst xs)∧xs[xs.length-1]? =some y∧Q y (BT H l (.lst xs.dropLast))
theorem nM:MtM X "list.pop" wV:=by
 intro pins s σ H x vs v us Q I rx rv h
 obtain⟨l,xs,y,rfl,rfl,hH,hy,q⟩:=h
 cases rx
 have hus:=rv.zero
 subst hus
 obtain⟨z,its,n,r,hl,e⟩:=I.lstM hH
 obtain⟨u,hu,ru⟩:=r.get hy
 have hy':its.toArray[its.toArray.size-1]? =some u:=by
  show its.toArray[its.length-1]? =some u
  rw[←Array.getElem?_toList,←hl]
  exact hu
 refine call_meets F.slot_list_pop ⟨_,e,rfl⟩ F.entry_list_pop (F.args_list_pop_1 _) (MeetsSeq.list_pop_last l its.toArray n u hy' (by rw[List.size_toArray];omega)) ⟨e,?_⟩
 refine⟨y,_,I.lset (its':=its.dropLast) hH e ?_ r.dropLast ?_,ru,q⟩
 ·show its.toArray.eraseIdxIfInBounds (its.toArray.size-1)=its.dropLast.toArray
  rw[List.size_toArray,List.eraseIdxIfInBounds_toArray,WG]
 ·rw[List.length_dropLast]
  omega
def vE:R2:=fun x y H Q=>∃l b xs zs,x= .ref l∧y= .ref b∧H l=some (.lst xs)∧H b=some (.lst zs)∧xs.length+zs.length≤sizeLine∧∀p,H p=none→Q (.ref p) (BT H p (.lst (xs++zs)))
theorem g8:OpR X (binaryOp .Add) vE:=by
 intro pins s σ H x y v u Q I rx ry h
 obtain⟨l,b,xs,zs,rfl,rfl,hH,hB,hz,q⟩:=h
 cases rx
 cases ry
 obtain⟨z,its,n,r,hl,e⟩:=I.lstM hH
 obtain⟨z2,its2,n2,r2,hl2,e2⟩:=I.lstM hB
 refine PySem.P.add_list e e2 ?_ (by rw[List.size_toArray,List.size_toArray];omega)
 have ea:its.toArray++its2.toArray=(its++its2).toArray:=by simp
 rw[ea]
 exact⟨.ref _,_,I.lnew (t':=s.toks) (r.append r2) (by rw[List.length_append];omega),rfl,q _ I.fresh⟩
def w4:R2:=fun x y H Q=>∃l k xs,x= .ref l∧y= .int k∧H l=some (.lst xs)∧-(2^63)≤k∧k<2^63∧xs.length*k.toNat≤sizeLine∧
 ∀p,H p=none→Q (.ref p) (BT H p (.lst (List.replicate k.toNat xs).flatten))
theorem lV {α:Type} (xs:List α) (k:Nat):(List.replicate k xs).flatten.length=k*xs.length:=by
 induction k with
 |zero=>simp
 |succ k ih=>rw[List.replicate_succ,List.flatten_cons,List.length_append,ih,Nat.succ_mul,Nat.add_comm]
theorem oR:OpR X (binaryOp .Mult) w4:=by
 intro pins s σ H x y v u Q I rx ry h
 obtain⟨l,k,xs,rfl,rfl,hH,h1,h2,hz,q⟩:=h
 cases rx
 obtain⟨t,rfl⟩:=ry
 obtain⟨z,its,n,r,hl,e⟩:=I.lstM hH
 have hlen:its.toArray.size*k.toNat≤sizeLine:=by rw[List.size_toArray,←hl];exact hz
 have hcap:¬its.toArray.size*k.toNat>(2^63-1)/8:=by
  have:(sizeLine:Nat)≤(2^63-1)/8:=by decide
  omega
 have hfit:¬(!Builtin.List.listFitsIndex k)=true:=by
  rw[fitsIndex_both h1 h2]
  exact Bool.false_ne_true
 have hlong:¬Builtin.List.listTooLong (its.toArray.size*k.toNat)=true:=by
  rw[bZ hlen]
  exact Bool.false_ne_true
 have hnew:List.foldl (fun x1 x2=>x1++x2) #[] (List.replicate (if its.toArray.isEmpty=true then 0 else k.toNat) its.toArray)=(List.replicate k.toNat its).flatten.toArray:=by
  have f0:∀m:Nat,List.foldl (fun x1 x2=>x1++x2) #[] (List.replicate m its.toArray)=(List.replicate m its).flatten.toArray:=fun m=>by
   have:=P4 its m []
   rw[List.nil_append]at this
   exact this
  rw[f0]
  cases its with
  |nil=>simp
  |cons a r'=>rw[if_neg (by simp)]
 refine wpAny_binaryOp_repeat_ref (T:= "list") (U:= "int") (by decide) ⟨_,e,rfl⟩ (fun s'=>typeIs_int s' k t) noFill_list_mul F.fills_int_mul F.slot_int_rmul repeat_list F.slot_int_index.lookup
  (call_meets F.slot_int_rmul (typeIs_int s k t) F.entry_int_rmul (F.args_int_rmul_2 _ _) (int___rmul___int_list k t l its.toArray n)
    ⟨e,rfl,⟨_,e,rfl⟩,call_meets F.slot_list_mul ⟨_,e,rfl⟩ F.entry_list_mul (F.args_list_mul_2 _ _) (AutoListH.list___mul___list_int_3 l its.toArray n k t hfit hcap hlong) ⟨e,?_⟩⟩)
 rw[hnew]
 exact⟨.ref _,_,I.lnew (t':=s.toks) (r.rep k.toNat) (by rw[lV,Nat.mul_comm];exact hz),rfl,q _ I.fresh⟩
end
end L2
namespace Att
open PySem PySem.W PySem.Calls PyProof.Rows
theorem MM {P:Params} {h:Heap}:∀(ns:List Int) (vs:List Value),WellAll P h vs (ns.map WData.int)→IntsAre vs ns:=by
 intro ns
 induction ns with
 |nil=>
  intro vs w
  rw[List.map_nil]at w
  cases w
  exact .nil
 |cons n ns ih=>
  intro vs w
  rw[List.map_cons]at w
  cases w with
  |cons a b=>
   cases a
   exact .cons _ _ (ih _ b)
theorem ZL {l:OpenLaw} {n:Nat} (hn:l.most=some n) {P:Params} {h:Heap} {args:List WData} {vals:List Value}
 (hpre:l.row.toRowW.claim.pre args=true) (hwl:WellAll P h vals args):
 ∃a vs ns,vals=[Value.ref a]∧args=[WData.list (ns.map WData.int)]∧h.get? a=some {cls:= .type "list",data:= .seq vs.toArray}∧IntsAre vs ns∧ns.length≤n:=by
 have hsh:WShape.hasAll [] args [.list .int]=true:=(pre_splitW hpre).1
 have hc:l.pre.holds [] {args:=args}=true:=(pre_splitW hpre).2
 obtain⟨d,r,rfl,h1,h2⟩:=hasAllW_cons hsh
 obtain rfl:=hasAllW_nil h2
 obtain⟨xs,rfl,h3⟩:=hasW_list h1
 obtain⟨ns,rfl⟩:=items_int h3
 have hlen:ns.length≤n:=by
  unfold OpenLaw.pre at hc
  have h4:(WTm.not (.lt (.lit (.int (n:Int))) (.len (.arg 0)))).holds [] {args:=[.list (ns.map .int)]}=true:=by
   have h4:=(holds_andW hc).1
   rw[hn]at h4
   exact h4
  have h5:=condW_of h4 (w_not (w_lt w_lit (w_len_list (w_arg rfl))))
  rw[List.length_map]at h5
  refine Nat.le_of_not_lt fun q=> ?_
  have q':(n:Int)<((ns.length:Nat):Int):=by omega
  first
   |(rw[decide_eq_true q']at h5;exact absurd h5 (by decide))
   |(simp at h5;omega)
 cases hwl with
 |cons w1 w2=>
  cases w2
  cases w1 with
  |list ho hall=>exact⟨_,_,ns,rfl,rfl,ho,MM ns _ hall,hlen⟩
theorem aO (l:OpenLaw) (args:List WData):l.row.toRowW.claim.post args (.bool true) args=true:=
 postW_of (r:=l.row.toRowW) (X:=(true==true))
  (show WShape.has [] (.bool true) .bool=true by first|rfl|decide|simp[WShape.has,WShape.arms,WShape.armsAll])
  (show(WTm.eq .res (.lit (.bool true))).value [] {args:=args,res:=some (.bool true),after:=args}=some (.bool (true==true)) from w_eq_bool (w_res rfl) w_lit) rfl
theorem T6 {l:OpenLaw} {n:Nat} {q:Program} {loose:List Str} {XP:(Str→Option Value)→Heap→Prop} {YP:World→Heap→Prop} {d:DefRec}
 (hn:l.most=some n) (hdf:d.params.defaults=[])
 (call:∀(w:World) (s₀ s₁:Shared) (mg mb:Str→Option Value) (fa:Addr) (o:Obj) (pm cd doc:Value) (a:Addr) (vs:List Value) (ns:List Int),
   Ground q loose [] XP w s₀ mg mb s₁.heap→YP w s₁.heap→
   s₁.heap.get? fa=some o→o.data= .func (docDef d.name d.params d.body d.scope pm cd doc)→s₁.heap.CodeRec cd d.name→mg d.name=some (.ref fa)→
   s₁.heap.get? a=some {cls:= .type "list",data:= .seq vs.toArray}→IntsAre vs ns→ns.length≤n→s₁.gens= #[]→
   codeAny (model l.prog w) callerA (.call (.ref fa) ⟨[.ref a],[]⟩) (fun r s'=>r= .ok (.ret (.bool true))∧OldK s₁.heap s'.heap∧s'.os=s₁.os∧AllBare s'.gens) s₁):
 WalkO q loose XP YP l.row.toRowW d [] (fun f vs=>PySem.call f vs):=by
 intro w s₀ s₁ mg mb G Y fa o pm cd doc dV kV ho hd hcd hD hmg hg args vals as hpre hlay hrd hwl hlo
 obtain rfl:dV= .none:=Dflts.none hD hdf
 obtain rfl:kV= .none:=Dflts.noKw hD
 obtain⟨a,vs,ns,rfl,rfl,hobj,hints,hlen⟩:=ZL hn hpre hwl
 refine enter_call (codeAny_mono (call w s₀ s₁ mg mb fa o pm cd doc a vs ns G Y ho (fd_plain hd) hcd hmg hobj hints hlen hg) fun r s' hq=> ?_)
 obtain⟨rfl,h2,h3,h4⟩:=hq
 exact⟨.inl ⟨.bool true, .bool true,[],rfl,fun _=>rfl, .bool true,aO l _,fun _=>⟨List.Pairwise.nil,fun _ hm=>(nomatch hm)⟩⟩,h2,h3,h4⟩
end Att
namespace L2
open PySem PySem.Spec PyProof.Rows
theorem PQ:∀{vs:List Value} {ns:List Int},IntsAre vs ns→Vals (ns.map V.int) vs
 |_,_, .nil=> .nil
 |_,_, .cons n t h=> .cons ⟨t,rfl⟩ (PQ h)
def lA (H:Hp):Prop:=∀b,H b=none∨∃o xs,H b=some (.frz o (.lst xs))
theorem dS {P:Program} {w:World} {K:PySem.W.Frag} {mg mb:Str→Option Value} {CX:UN} {k:Nat} {fa a:Addr} {fd:FuncData} {x:Str} {sp:Sp} {s₁:Shared} {vs:List Value} {ns:List Int}
 (KX:K.In s₁.heap) (hns:s₁.heap.Ns mainGlobals mg) (hb:s₁.heap.Ns builtinsNs mb) (hbb:∀x:Str,x≠ "__name__"→mb x=bootBuiltins x) (hlim:s₁.heap.NoLimit) (hg:s₁.gens= #[])
 (ha:s₁.heap.get? a=some {cls:= .type "list",data:= .seq vs.toArray}) (hi:IntsAre vs ns) (hl:ns.length≤sizeLine) (hr:Room k callerA)
 (F:∀base:Heap,K.In base→base.Ns mainGlobals mg→FnOk P w K mg base CX k fa fd [x] sp) (hbind:∀(s:Shared) (u:Value),BindsTo s fd ⟨[u],[]⟩ [(x,u)])
 (hsp:∀H:Hp,lA H→SqL K H a (ns.map V.int)→sp [.ref a] H (fun v _=>v= .bl true) fun _ _ _=>False)
 (hCX:∀H e s',CX [] H s₁ (fun _ _ _=>False) e s'→False):
 codeAny (model P w) callerA (.call (.ref fa) ⟨[.ref a],[]⟩) (fun r s'=>r= .ok (.ret (.bool true))∧OldK s₁.heap s'.heap∧s'.os=s₁.os∧AllBare s'.gens) s₁:=by
 have rv:=PQ hi
 have lenV:=hi.length
 have core:∀H:Hp,lA H→SqL K H a (ns.map V.int)→HOk P w H s₁.heap→(∀b,H b≠none→b=a)→(H a≠none→K.lookup a=none)→
  codeAny (model P w) callerA (.call (.ref fa) ⟨[.ref a],[]⟩) (fun r s'=>r= .ok (.ret (.bool true))∧OldK s₁.heap s'.heap∧s'.os=s₁.os∧AllBare s'.gens) s₁:=by
  intro H hO hS hok hA hK
  have base_of:∀{b:Addr} {o:Obj},s₁.heap.get? b=some o→H b=none→(S3 s₁.heap H).get? b=some o:=fun e n=>cX e n
  have noA:∀{b:Addr} {o:Obj} {es:Array DictEntry} {ep:Nat},s₁.heap.get? b=some o→o.data= .dict es ep→H b=none:=fun{b o es ep} e d=>by
   cases q:H b with
   |none=>rfl
   |some u=>
    have e':b=a:=hA b (by rw[q];simp)
    subst e'
    rw[ha]at e;cases e
    have d':Data.seq vs.toArray _=Data.dict es ep:=d
    cases d'
  have nsK:∀{b:Addr} {m:Str→Option Value},s₁.heap.Ns b m→(S3 s₁.heap H).Ns b m:=fun{b m} ⟨o,es,ep,e,d,r⟩=>⟨o,es,ep,base_of e (noA e d),d,r⟩
  have hKb:K.In (S3 s₁.heap H):=fun b o e=>base_of (KX b o e) (by
   cases q:H b with
   |none=>rfl
   |some u=>
    have e':b=a:=hA b (by rw[q];simp)
    subst e'
    rw[hK (by rw[q];simp)]at e;cases e)
  have hM:Mod K mg (S3 s₁.heap H):=⟨hKb,nsK hns,⟨mb,nsK hb,hbb⟩,let⟨mc,h1,h2⟩:=hlim;⟨mc,nsK h1,h2⟩⟩
  have e0:Env0 P w K mg (S3 s₁.heap H) callerA [] s₁ H:=⟨rfl,hM,fun b o e=>jU e,Nat.le_of_eq (ZP _ _),trivial,fun b hb=>absurd (show b∈([]:List Addr) from hb) (by simp),hok, .of_eq hg⟩
  refine codeAny_mono ((F _ hKb (nsK hns)).run callerA [] s₁ H ⟨[.ref a],[]⟩ [.ref a] [.ref a] _ _ hr e0 (hbind s₁ (.ref a)) (.cons rfl .nil) (hsp H hO hS)) fun r s' h=> ?_
  cases r with
  |error e=>exact(hCX H e s' h).elim
  |ok fl=>
   cases fl with
   |next=>exact False.elim h
   |brk=>exact False.elim h
   |cont=>exact False.elim h
   |ret u=>
    obtain⟨v,H',os,bare,un,hok',r',q⟩:=h
    have q':v= .bl true:=q
    subst q'
    obtain rfl:u=Value.bool true:=r'
    refine⟨rfl,OldK.of_keep fun b o e=> ?_,os,bare⟩
    cases q:H b with
    |none=>exact un.keep b o e q (by intro z;exact absurd (show b∈([]:List Addr) from z) (by simp)) (by simp)
    |some u=>
     rcases hO b with z|⟨ob,xs,z⟩
     ·rw[q]at z;cases z
     ·have z2:=un.frzs b ob _ z
      obtain⟨e1,_⟩:=hok b _ z
      obtain⟨e2,_⟩:=hok' b _ z2
      rw[e]at e1;cases e1
      exact e2
 cases hk:K.lookup a with
 |some o=>
  have e:=KX a o hk
  rw[ha]at e
  cases e
  refine core (fun _=>none) (fun _=> .inl rfl) (.inr ⟨_,vs.toArray,_,hk,rfl,rfl,rfl,by rw[List.size_toArray,lenV];exact hl,by simpa using rv⟩) (fun b u z=>by have z':(none:Option HO)=some u:=z;cases z') (fun b z=>absurd rfl z) fun z=>absurd rfl z
 |none=>
  refine core (fun b=>if b=a then some (.frz {cls:= .type "list",data:= .seq vs.toArray} (.lst (ns.map V.int))) else none) (fun b=> ?_) (.inl (.inr ⟨{cls:= .type "list",data:= .seq vs.toArray},if_pos rfl⟩)) (fun b u z=> ?_) (fun b z=> ?_) fun _=>hk
  ·by_cases hb:b=a
   ·exact .inr ⟨_,_,if_pos hb⟩
   ·exact .inl (if_neg hb)
  ·by_cases hb:b=a
   ·have z':=(if_pos hb).symm.trans z
    cases z'
    subst hb
    exact⟨ha,by rw[List.length_map];exact hl,vs,_,rv,ha⟩
   ·have z':=(if_neg hb).symm.trans z
    cases z'
  ·by_cases hb:b=a
   ·exact hb
   ·exact absurd (if_neg hb) z
end L2
namespace L2
open PySem PySem.Spec PyProof.Rows
abbrev KOf {K:PySem.W.Frag} {h:Heap} (_:K.In h):PySem.W.Frag:=K
theorem j0 {l:PySem.W.OpenLaw} {n k:Nat} {q:Program} {loose:List Str} {XP:(Str→Option Value)→Heap→Prop} {YP:World→Heap→Prop} {d:DefRec} {K:Params→PySem.W.Frag} {CX:World→UN} {sp:World→Sp} {x:Str}
 (hn:l.most=some n) (hn2:n≤sizeLine) (hdf:d.params.defaults=[]) (hr:Room k callerA)
 (hY:∀(w:World) (h:Heap),YP w h→(K w.params).In h)
 (F:∀(w:World) (mg:Str→Option Value) (fa:Addr) (h:Heap),(K w.params).In h→h.Ns mainGlobals mg→mg d.name=some (.ref fa)→
   ∃fd:FuncData,(∀(s:Shared) (u:Value),BindsTo s fd ⟨[u],[]⟩ [(x,u)])∧
    ∀base:Heap,(K w.params).In base→base.Ns mainGlobals mg→FnOk l.prog w (K w.params) mg base (CX w) k fa fd [x] (sp w))
 (hsp:∀(w:World) (H:Hp) (a:Addr) (ns:List Int),ns.length≤n→lA H→SqL (K w.params) H a (ns.map V.int)→sp w [.ref a] H (fun v _=>v= .bl true) fun _ _ _=>False)
 (hCX:∀(w:World) (H:Hp) (s:Shared) (e:Value) (s':Shared),CX w [] H s (fun _ _ _=>False) e s'→False):
 PySem.W.WalkO q loose XP YP l.row.toRowW d [] (fun f vs=>PySem.call f vs):=by
 refine Att.T6 hn hdf fun w s₀ s₁ mg mb fa o pm cd doc a vs ns G Y ho hd hcd hmg hobj hints hlen hg=> ?_
 have KX:=hY w _ Y
 obtain⟨fd,hb,hF⟩:=F w mg fa _ KX G.T.g hmg
 exact dS KX G.T.g G.T.b G.T.builtins G.T.nolimit hg hobj hints (Nat.le_trans hlen hn2) hr hF hb (fun H hO hS=>hsp w H a ns hlen hO hS) fun H e s'=>hCX w H s₁ e s'
theorem bI {l:PySem.W.OpenLaw} {n k:Nat} {q:Program} {loose:List Str} {XP:(Str→Option Value)→Heap→Prop} {YP:World→Heap→Prop} {d:DefRec} {K:Params→PySem.W.Frag} {CX:UN} {sp:PySem.W.Frag→Sp} {x:Str}
 (hn:l.most=some n) (hn2:n≤sizeLine) (hdf:d.params.defaults=[]) (hr:Room k callerA)
 (hY:∀(w:World) (h:Heap),YP w h→(K w.params).In h)
 (F:∀(w:World) (mg:Str→Option Value) (fa:Addr) (h:Heap),(K w.params).In h→h.Ns mainGlobals mg→mg d.name=some (.ref fa)→
   ∃fd:FuncData,(∀(s:Shared) (u:Value),BindsTo s fd ⟨[u],[]⟩ [(x,u)])∧
    ∀base:Heap,(K w.params).In base→base.Ns mainGlobals mg→FnOk l.prog w (K w.params) mg base CX k fa fd [x] (sp (K w.params)))
 (hsp:∀(K:PySem.W.Frag) (H:Hp) (a:Addr) (ns:List Int),ns.length≤n→lA H→SqL K H a (ns.map V.int)→sp K [.ref a] H (fun v _=>v= .bl true) fun _ _ _=>False)
 (hCX:∀(H:Hp) (s:Shared) (e:Value) (s':Shared),CX [] H s (fun _ _ _=>False) e s'→False):
 PySem.W.WalkO q loose XP YP l.row.toRowW d [] (fun f vs=>PySem.call f vs):=
 j0 (K:=K) (CX:=fun _=>CX) (sp:=fun w=>sp (K w.params)) hn hn2 hdf hr hY F (fun w H a ns h1 h2 h3=>hsp (K w.params) H a ns h1 h2 h3) fun _ H s e s'=>hCX H s e s'
end L2
namespace L2
open PySem PySem.Spec PyProof.Rows
def ET (s:Stmt):Arguments:=match s with
 | .FunctionDef _ a _ _ _ _ _ _ _ _=>a
 |_=>{posonlyargs:=[],args:=[],vararg:=none,kwonlyargs:=[],kw_defaults:=[],kwarg:=none,defaults:=[]}
def DR (s:Stmt):List Stmt:=match s with
 | .FunctionDef _ _ b _ _ _ _ _ _ _=>b
 |_=>[]
def AH (s:Stmt):Scope:=match s with
 | .FunctionDef _ _ _ _ _ _ sc _ _ _=>sc
 |_=>{kind:= .function,names:=[],isGenerator:=false,isCoroutine:=false}
abbrev FY:UN:=fun _ _ _ _ _ _=>False
abbrev E0:XK:=fun _ _ _=>False
theorem xV {X:Cx}:N9 FY X E0:=fun _ _ _ _ _ _ _ h=>h.elim
structure Fun (K:PySem.W.Frag) (x qual:Str) (st:Stmt) (f:Addr) (fd:FuncData):Prop where
 ex:∃(oc:Value) (od:Option Addr) (kV doc pm:Value) (an:Option Addr) (cdv ct:Value) (osl:Array (Option Value)),
  fd=PySem.W.fnOf x qual (ET st) (DR st) (AH st) .none kV doc pm an cdv ct∧K.lookup f=some ⟨oc,od, .func fd,osl⟩∧PySem.W.codeIn K cdv qual=true
 kp:PySem.W.keepIn K (.ref f)=true
section
variable {P:Program} {w:World} {K:PySem.W.Frag} {mg:Str→Option Value} {base:Heap}
theorem Fun.ok {x qual:Str} {st:Stmt} {f:Addr} {fd:FuncData} {N ps:List Str} {k:Nat} {sp:Sp} (F:Fun K x qual st f fd) (S:FnScope N ps (AH st)) (len:∀vs H Q E,sp vs H Q E→vs.length=ps.length)
 (hbody:∀(cdv:Value) (A:Around) (outer:List Env) (s:Shared) (H:Hp) (vs:List V) (Q:VK) (E:XK),Room k (A.deeper (envOfC qual (AH st) s.heap.objs.size f cdv))→sp vs H Q E→
   ∃t,PSs (SR FY P w K mg base N qual (AH st) f cdv A outer s H E).nox (DR st) t∧t {nx:=fun _ H'=>Q .non H',rt:=Q} (start N vs) H):FnOk P w K mg base FY (k+1) f fd ps sp:=by
 obtain⟨oc,od,kV,doc,pm,an,cdv,ct,osl,rfl,lk,hcd⟩:=F.ex
 refine wS lk hcd S len fun A outer s H vs Q E hr hsp=> ?_
 obtain⟨t,h,q⟩:=hbody cdv A outer s H vs Q E hr hsp
 exact⟨t,h.nox,q⟩
theorem Fun.binds {x qual:Str} {st:Stmt} {f:Addr} {fd:FuncData} {ps:List Str} (F:Fun K x qual st f fd)
 (h:∀(kV doc pm:Value) (an:Option Addr) (cdv ct:Value) (us:List Value),us.length=ps.length→bindArgs (PySem.W.fnOf x qual (ET st) (DR st) (AH st) .none kV doc pm an cdv ct) ⟨us,[]⟩=pure (ps.zip us)):Binds K fd ps []:=by
 obtain⟨oc,od,kV,doc,pm,an,cdv,ct,osl,rfl,lk,hcd⟩:=F.ex
 exact .all (h kV doc pm an cdv ct)
theorem c5 {x qual:Str} {st:Stmt} {f:Addr} {oc:Value} {od an:Option Addr} {osl:Array (Option Value)} {kV doc pm cdv ct:Value} (l:K.lookup f=some ⟨oc,od, .func (PySem.W.fnOf x qual (ET st) (DR st) (AH st) .none kV doc pm an cdv ct),osl⟩)
 (c:PySem.W.codeIn K cdv qual=true) (k:PySem.W.keepIn K (.ref f)=true):Fun K x qual st f (PySem.W.fnOf x qual (ET st) (DR st) (AH st) .none kV doc pm an cdv ct):=⟨⟨oc,od,kV,doc,pm,an,cdv,ct,osl,rfl,l,c⟩,k⟩
end
def Same (H H':Hp):Prop:=∀b o,H b=some o→H' b=some o
theorem Same.refl (H:Hp):Same H H:=fun _ _ h=>h
theorem Same.trans {H H1 H2:Hp} (a:Same H H1) (b:Same H1 H2):Same H H2:=fun c o h=>b c o (a c o h)
end L2
namespace L2
open PySem PySem.Spec PyProof.Rows
def CU (cells:List (Str×Addr)):List (Str×NameKind)→List (Str×Addr)→List (Str×Addr)
 |[],acc=>acc
 |(n,k)::r,acc=>if k== .free then CU cells r ((n,(cells.lookup n).getD 0)::acc) else CU cells r acc
theorem O7 (env:Env):∀(names:List (Str×NameKind)) (acc:List (Str×Addr)),(∀y∈names,y.2= .free→∃c,env.cells.lookup y.1=some c)→
 (forIn names acc fun(x:Str×NameKind) (cs:List (Str×Addr))=>
   match x with
   |(name,kind)=>if(kind== .free)=true then(do let c←cellOf env name;pure (ForInStep.yield ((name,c)::cs))) else pure (ForInStep.yield cs))=(pure (CU env.cells names acc):Sem _)
 |[],acc,_=>rfl
 |(n,k)::r,acc,h=>by
  rw[List.forIn_cons]
  by_cases hk:(k==NameKind.free)=true
  ·obtain⟨c,hc⟩:=h (n,k) List.mem_cons_self (eq_of_beq hk)
   have e:cellOf env n=pure c:=by unfold cellOf;rw[show env.cells.lookup n=some c from hc]
   simp only[hk,if_true,e,CU]
   rw[show env.cells.lookup n=some c from hc]
   simp only[pure_bind,Option.getD_some]
   exact O7 env r _ fun y hy=>h y (List.mem_cons_of_mem _ hy)
  ·simp only[hk,if_false,CU,pure_bind]
   exact O7 env r _ fun y hy=>h y (List.mem_cons_of_mem _ hy)
theorem NE {scope:Scope} {env:Env} (h:∀y∈scope.names,y.2= .free→∃c,env.cells.lookup y.1=some c):closureFor scope env=pure (CU env.cells scope.names []):=by
 have e:=O7 env scope.names [] h
 simp only[closureFor]
 simp only[bind_pure_comp,map_pure]at e⊢
 first|exact e|(rw[e];rfl)|(simp only[e];rfl)
theorem KS {cells:List (Str×Addr)} {x:Str} {c:Addr}:∀{names:List (Str×NameKind)} {acc:List (Str×Addr)},(∀y∈names,y.2= .free→∃c,cells.lookup y.1=some c)→(∀z,acc.lookup x=some z→cells.lookup x=some z)→
 (CU cells names acc).lookup x=some c→cells.lookup x=some c
 |[],acc,_,ha,h=>ha c h
 |(n,k)::r,acc,hf,ha,h=>by
  unfold CU at h
  by_cases hk:(k==NameKind.free)=true
  ·rw[if_pos hk]at h
   refine KS (fun y hy=>hf y (List.mem_cons_of_mem _ hy)) (fun z hz=> ?_) h
   rw[List.lookup_cons]at hz
   split at hz
   ·rename_i q
    have e:x=n:=eq_of_beq q
    subst e
    obtain⟨d,hd⟩:=hf (x,k) List.mem_cons_self (eq_of_beq hk)
    have hd':cells.lookup x=some d:=hd
    rw[hd']at hz⊢
    exact hz
   ·exact ha z hz
  ·rw[if_neg hk]at h
   exact KS (fun y hy=>hf y (List.mem_cons_of_mem _ hy)) ha h
theorem KK {cells:List (Str×Addr)} {x:Str} {c:Addr} (hc:cells.lookup x=some c):∀{names:List (Str×NameKind)} {acc:List (Str×Addr)},((x,NameKind.free)∈names∨acc.lookup x=some c)→
 (CU cells names acc).lookup x=some c
 |[],acc,h=>by
  rcases h with h|h
  ·cases h
  ·exact h
 |(n,k)::r,acc,h=>by
  unfold CU
  by_cases hk:(k==NameKind.free)=true
  ·rw[if_pos hk]
   refine KK hc ?_
   by_cases hn:x=n
   ·subst hn
    right
    rw[List.lookup_cons]
    simp[hc]
   ·rcases h with h|h
    ·rcases List.mem_cons.mp h with h|h
     ·injection h with h1 _;exact absurd h1 hn
     ·exact .inl h
    ·right
     rw[List.lookup_cons]
     have:(x==n)=false:=beq_eq_false_iff_ne.mpr hn
     rw[this]
     exact h
  ·rw[if_neg hk]
   refine KK hc ?_
   rcases h with h|h
   ·rcases List.mem_cons.mp h with h|h
    ·injection h with _ h2;subst h2;exact absurd rfl hk
    ·exact .inl h
   ·exact .inr h
theorem KI {env:Env} {x:Str}:∀{names:List (Str×NameKind)},(∀y∈names,y.2≠ .cell)→
 ((names.map fun(n,k)=>if(k==NameKind.free&&env.scope.kind== .function&&env.kindOf n==some .cell)=true then(n,NameKind.cell) else(n,k)).lookup x=some .cell∨
   (names.map fun(n,k)=>if(k==NameKind.free&&env.scope.kind== .function&&env.kindOf n==some .cell)=true then(n,NameKind.cell) else(n,k)).lookup x=some .free)→(x,NameKind.free)∈names
 |[],_,h=>by rcases h with h|h<;>cases h
 |(n,k)::r,hn,h=>by
  have ih:= @KI env x r fun y hy=>hn y (List.mem_cons_of_mem _ hy)
  rw[List.map_cons]at h
  cases hx:x==n with
  |true=>
   have e:x=n:=eq_of_beq hx
   subst e
   by_cases hc:(k==NameKind.free&&env.scope.kind== .function&&env.kindOf x==some .cell)=true
   ·have hk:(k==NameKind.free)=true:=by
     rw[Bool.and_eq_true,Bool.and_eq_true]at hc
     exact hc.1.1
    have hk':k= .free:=eq_of_beq hk
    subst hk'
    exact List.mem_cons_self
   ·have hc':(if(k==NameKind.free&&env.scope.kind== .function&&env.kindOf x==some .cell)=true then(x,NameKind.cell) else(x,k))=(x,k):=if_neg hc
    simp only[hc',List.lookup_cons,beq_self_eq_true]at h
    have hk:k= .cell∨k= .free:=by
     rcases h with h|h
     ·exact .inl (Option.some.inj h)
     ·exact .inr (Option.some.inj h)
    rcases hk with hk|hk
    ·exact absurd hk (hn (x,k) List.mem_cons_self)
    ·subst hk;exact List.mem_cons_self
  |false=>
   refine List.mem_cons_of_mem _ (ih ?_)
   by_cases hc:(k==NameKind.free&&env.scope.kind== .function&&env.kindOf n==some .cell)=true
   ·have hc':(if(k==NameKind.free&&env.scope.kind== .function&&env.kindOf n==some .cell)=true then(n,NameKind.cell) else(n,k))=(n,NameKind.cell):=if_pos hc
    simp only[hc',List.lookup_cons,hx]at h
    exact h
   ·have hc':(if(k==NameKind.free&&env.scope.kind== .function&&env.kindOf n==some .cell)=true then(n,NameKind.cell) else(n,k))=(n,k):=if_neg hc
    simp only[hc',List.lookup_cons,hx]at h
    exact h
theorem DA {env:Env} {x:Str}:∀{names:List (Str×NameKind)},names.lookup x=some .free→
 (names.map fun(n,k)=>if(k==NameKind.free&&env.scope.kind== .function&&env.kindOf n==some .cell)=true then(n,NameKind.cell) else(n,k)).lookup x=some .cell∨
   (names.map fun(n,k)=>if(k==NameKind.free&&env.scope.kind== .function&&env.kindOf n==some .cell)=true then(n,NameKind.cell) else(n,k)).lookup x=some .free
 |[],h=>by cases h
 |(n,k)::r,h=>by
  have ih:= @DA env x r
  rw[List.map_cons]
  rw[List.lookup_cons]at h
  cases hx:x==n with
  |true=>
   rw[hx]at h
   have hk:k= .free:=Option.some.inj h
   subst hk
   by_cases hc:(NameKind.free==NameKind.free&&env.scope.kind== .function&&env.kindOf n==some .cell)=true
   ·have hc':(if(NameKind.free==NameKind.free&&env.scope.kind== .function&&env.kindOf n==some .cell)=true then(n,NameKind.cell) else(n,NameKind.free))=(n,NameKind.cell):=if_pos hc
    simp only[hc',List.lookup_cons,hx]
    exact .inl trivial
   ·have hc':(if(NameKind.free==NameKind.free&&env.scope.kind== .function&&env.kindOf n==some .cell)=true then(n,NameKind.cell) else(n,NameKind.free))=(n,NameKind.free):=if_neg hc
    simp only[hc',List.lookup_cons,hx]
    exact .inr trivial
  |false=>
   rw[hx]at h
   have q:=ih h
   by_cases hc:(k==NameKind.free&&env.scope.kind== .function&&env.kindOf n==some .cell)=true
   ·have hc':(if(k==NameKind.free&&env.scope.kind== .function&&env.kindOf n==some .cell)=true then(n,NameKind.cell) else(n,k))=(n,NameKind.cell):=if_pos hc
    simp only[hc',List.lookup_cons,hx]
    exact q
   ·have hc':(if(k==NameKind.free&&env.scope.kind== .function&&env.kindOf n==some .cell)=true then(n,NameKind.cell) else(n,k))=(n,k):=if_neg hc
    simp only[hc',List.lookup_cons,hx]
    exact q
theorem JU {x:Str} {k:NameKind}:∀{names:List (Str×NameKind)},names.lookup x=some k→(x,k)∈names:=fun h=>PySem.mem_of_lookup h
def Cx.comp (X:Cx) (scope:Scope) (cl:List (Str×Addr)) (C:Addr) (s₀:Shared) (H₀:Hp) (fp:List Addr) (N':List Str):Cx:=
 {prog:=X.prog,w:=X.w,K:=X.K,mg:=X.mg,base:=X.base,A:=X.A,N:=N',s₀:=s₀,H₀:=H₀,env:=compEnvC scope cl C X.env,outer:=X.stack,stack:=X.stack,ex:=fp,fn:=fun _=>false,calm:=X.calm,pn:=[],xe:=fun _ _=>False}
structure CompScope (X:Cx) (N':List Str) (ix:List (Option Nat)) (scope:Scope):Prop where
 kind:scope.kind= .function
 nocell:∀y∈scope.names,y.2≠ .cell
 names:∀y∈scope.names,y.2= .local→scope.names.lookup y.1=some .local
 free:∀y∈scope.names,y.2= .free→X.env.kindOf y.1=some .cell∨X.env.kindOf y.1=some .free
 len:ix.length=N'.length
 ixok:∀(i j:Nat) (x:Str),ix[i]? =some (some j)→N'[i]? =some x→X.N[j]? =some x∧scope.names.lookup x=some .free
def tau (ix:List (Option Nat)) (σ:St):St:=ix.map fun o=>match o with|none=>none|some j=>(σ[j]?).join
def bV (ix:List (Option Nat)) (wi:TI) (g:TG) (tt:TT) (te:TE):TE:=fun σ H Q=>
 wi σ H fun J H1=>∀D,H1 D=none→
  ∃W:Nat→Nat→List V→Hp→Prop,(∃m,W 0 m [] (BT H1 D (.lst [])))∧
  ∀i m acc H2,W i m acc H2→H2 D=some (.lst acc)→
   (J.stop i H2∧Q (.ref D) H2)∨
   (J.go i H2∧acc.length<sizeLine∧∀x H3,J.yld i H2 x H3→g x (tau ix σ) H3 fun τ H4=>(τ.length=ix.length∧∀(k:Nat) v,(tau ix σ)[k]? =some (some v)→τ[k]? =some (some v))∧
     tt τ H4 fun b H5=>if b=true then te τ H5 fun y H6=>H6 D=some (.lst acc)∧∃m',m'<m∧W (i+1) m' (acc++[y]) (BT H6 D (.lst (acc++[y])))
      else H5 D=some (.lst acc)∧∃m',m'<m∧W (i+1) m' acc H5)
def PTs (X:Cx) (ifs:List Expr) (t:TT):Prop:=
 ∀(pins:List (Addr×Obj)) (s:Shared) (σ:St) (H:Hp) (Q:Bool→Hp→Prop),Inv X pins σ H s→t σ H Q→
  wpAny (model X.prog X.w) X.A (forIn ifs true fun c r=>if r=true then do let ok←isTrue c X.env (eval c X.env);pure (ForInStep.yield ok) else pure (ForInStep.yield r)) (TP X pins σ Q) X.xe s
def uG:TT:=fun _ H Q=>Q true H
theorem kC {X:Cx}:PTs X [] uG:=fun pins s σ H Q I h=>wpAny_tests_nil ⟨H,I,h⟩
theorem k4 {X:Cx} {c:Expr} {t:TT} (h:PT X c t):PTs X [c] t:=fun pins s σ H Q I hw=>wpAny_tests_one (h pins s σ H Q I hw)
section
variable {prog:Program} {w:World} {A:Around} {R:Result→Shared→Prop} {s:Shared}
theorem R9 {elt target iter:Expr} {ifs:List Expr} {scope:Scope} {pos:Pos} {it acc:Value} {env:Env} (I:Nat→Shared→Prop)
 (turn:∀n s,I n s→wpAny (model prog w) A (pyNext it) (fun r s₁=>match r with
   |none=>R (.ok .next) s₁
   |some v=>wpAny (model prog w) A (letOwnedTupleGo target it v) (fun _ s₁'=>wpAny (model prog w) A (assign target env v) (fun _ s₂=>
     wpAny (model prog w) A (forIn ifs true fun c r=>if r=true then do let ok←isTrue c env (eval c env);pure (ForInStep.yield ok) else pure (ForInStep.yield r)) (fun ok s₃=>
      if ok=true then wpAny (model prog w) A (eval elt env) (fun x s₄=>
       wpAny (model prog w) A (call (.builtin "list.append") [acc,x]) (fun _ s₅=>∃m,m<n∧I m s₅) (fun _ _=>False) s₄) (fun _ _=>False) s₃
      else∃m,m<n∧I m s₃) (fun _ _=>False) s₂) (fun _ _=>False) s₁') (fun _ _=>False) s₁) (fun _ _=>False) s)
 (n:Nat) (h:I n s):
 codeAny (model prog w) A (.compLoop (.ListComp elt [⟨target,iter,ifs,0⟩] scope pos) 0 it acc env) R s:=by
 refine codeAny_loop rfl I (fun n s hI=> ?_) n h
 show wpAny _ A ((compTurn (.ListComp elt [⟨target,iter,ifs,0⟩] scope pos) 0 it acc env).onRaise (fun x=>do noteFrame x env;theTreesLotGoes x)) _ _ s
 refine wpAny_noted ?_
 rw[compTurn_list]
 refine wpAny_bind (wpAny_standAt (wpAny_bind (wpAny_mono (turn n s hI) (fun r s₁ h₁=> ?_) fun _ _ h'=>h'.elim)))
 cases r with
 |none=>exact wpAny_pure h₁
 |some v=>
  refine wpAny_bind (wpAny_mono h₁ (fun _ s₁' h₁'=> ?_) fun _ _ h'=>h'.elim)
  refine wpAny_bind (wpAny_mono h₁' (fun _ s₂ h₂=>wpAny_bind (wpAny_mono h₂ (fun ok s₃ h₃=> ?_) fun _ _ h'=>h'.elim)) fun _ _ h'=>h'.elim)
  cases ok with
  |false=>exact wpAny_pure ⟨rfl,h₃⟩
  |true=>
   exact wpAny_bind (wpAny_bind (wpAny_mono h₃ (fun x s₄ h₄=>wpAny_bind (wpAny_mono h₄ (fun _ s₅ h₅=>wpAny_pure (wpAny_pure ⟨rfl,h₅⟩)) fun _ _ h'=>h'.elim)) fun _ _ h'=>h'.elim))
end
section
variable {X:Cx}
theorem V2 {pins:List (Addr×Obj)} {σ:St} {H1:Hp} {s2:Shared} {N':List Str} {ix:List (Option Nat)} {scope:Scope} {fp:List Addr} {h₁:Heap}
 (S:CompScope X N' ix scope) (I:Inv X pins σ H1 s2) (f2:∀b∈fp,OH X pins H1 b) (hfp:∀b∈fp,b<s2.heap.objs.size)
 (hns:h₁.Ns (s2.heap.objs.size+1) (fun x=>([]:List (Str×Value)).reverse.lookup x))
 (hsb:Heap.SameBut (s2.heap.objs.size+1) ((s2.heap.push {cls:= .type "list",dict:=none,data:= .seq ([]:List Value).toArray}).push {cls:= .type "dict",data:= .dict #[]}) h₁) (tk:Nat):
 Inv (X.comp scope (CU X.env.cells scope.names []) (s2.heap.objs.size+1) {s2 with heap:=s2.heap.push {cls:= .type "list",dict:=none,data:= .seq ([]:List Value).toArray}} (BT H1 s2.heap.objs.size (.lst [])) fp N') [] (tau ix σ)
  (BT H1 s2.heap.objs.size (.lst [])) {s2 with heap:=h₁,toks:=tk}:=by
 have hfr:∀y∈scope.names,y.2= .free→∃c,X.env.cells.lookup y.1=some c:=fun y hy e=>I.ok.has _ (S.free y hy e)
 have fwd:∀x c,(CU X.env.cells scope.names []).lookup x=some c→X.env.cells.lookup x=some c:=fun x c h=>KS hfr (fun z hz=>by cases hz) h
 have I3:Inv X pins σ (BT H1 s2.heap.objs.size (.lst [])) {s2 with heap:=s2.heap.push {cls:= .type "list",dict:=none,data:= .seq ([]:List Value).toArray}}:=I.lnew (t':=s2.toks) (ys:=[]) .nil (Nat.zero_le _)
 have sz3:(s2.heap.push {cls:= .type "list",dict:=none,data:= .seq ([]:List Value).toArray}).objs.size=s2.heap.objs.size+1:=Heap.size_push ..
 have old:∀b o,(s2.heap.push {cls:= .type "list",dict:=none,data:= .seq ([]:List Value).toArray}).get? b=some o→h₁.get? b=some o:=fun b o e=>
  hsb.extBut b o (by have:=Heap.lt_size e;rw[sz3]at this;exact Nat.ne_of_lt this) (Heap.get?_push_of_some _ e)
 have ncell:∀x c,X.env.cells.lookup x=some c→c<s2.heap.objs.size:=fun x c e=>by
  obtain⟨v,z⟩:=I.cell x c e
  exact z.lt
 refine⟨⟨I.ok.mod,?_,I.ok.glob,I.ok.blt,?_,fun x y c h1 h2=>I.ok.inj x y c (fwd x c h1) (fwd y c h2),fun x hx=> ?_,fun _ _ h=>(nomatch h),I.ok.hd,I.ok.frames, .inl rfl,fun b hb=>⟨?_,fun x c e=> ?_⟩,fun b o e=>I3.bs b o e,?_,fun b o e hb=> ?_,fun b hb=> ?_,I3.stack,I3.stkFree⟩,
  rfl,I.bare,Un.kept old,⟨_,hns,fun i x v h1 h2 h3=> ?_⟩,fun x c e=> ?_,?_,fun x c e=> ?_,fun p hp=>absurd (show p∈([]:List (Addr×Obj)) from hp) (by simp),I3.hok.kept old,?_⟩
 ·show(relabel scope X.env).kind= .function
  exact S.kind
 ·show(s2.heap.push {cls:= .type "list",dict:=none,data:= .seq ([]:List Value).toArray}).objs.size≤s2.heap.objs.size+1
  rw[sz3];exact Nat.le_refl _
 ·have hx':(x,NameKind.free)∈scope.names:=KI (env:=X.env) S.nocell hx
  obtain⟨c,hc⟩:=hfr _ hx' rfl
  exact⟨c,KK hc (.inl hx')⟩
 ·show b≠s2.heap.objs.size+1
  exact Nat.ne_of_lt (Nat.lt_succ_of_lt (hfp b hb))
 ·exact(f2 b hb).2.2.2.2.1 x c (fwd x c e)
 ·show X.base.objs.size≤(s2.heap.push {cls:= .type "list",dict:=none,data:= .seq ([]:List Value).toArray}).objs.size
  rw[sz3]
  exact Nat.le_succ_of_le (Nat.le_trans I.ok.bsz I.sz)
 ·rcases(f2 b hb).2.2.2.1 with z|z
  ·exact I.ok.noex b o e z
  ·exact absurd (Nat.lt_of_lt_of_le (Heap.lt_size e) (Nat.le_trans I.ok.bsz z)) (Nat.lt_irrefl _)
 ·intro hm
  rcases List.mem_cons.mp (I.stkSub b hm) with z|z
  ·exact(f2 b hb).2.1 z
  ·exact(f2 b hb).2.2.1 z
 ·have hi:∃j,ix[i]? =some (some j)∧σ[j]? =some (some v):=by
   unfold tau at h2
   rw[List.getElem?_map]at h2
   cases e:ix[i]?with
   |none=>rw[e]at h2;cases h2
   |some o=>
    rw[e]at h2
    cases o with
    |none=>cases h2
    |some j=>
     refine⟨j,rfl,?_⟩
     have h2':(σ[j]?).join=some v:=Option.some.inj h2
     cases e2:σ[j]?with
     |none=>rw[e2]at h2';cases h2'
     |some q=>rw[e2]at h2';exact congrArg some h2'
  obtain⟨j,hj,hσ⟩:=hi
  obtain⟨hN,hfree⟩:=S.ixok i j x hj h1
  have hmem:(x,NameKind.free)∈scope.names:=JU hfree
  have hk:=S.free _ hmem rfl
  obtain⟨m,hn,hl⟩:=I3.loc
  obtain⟨u,r,l⟩:=hl j x v hN hσ (by rcases hk with k|k;exact .inr (.inl k);exact .inr (.inr k))
  refine⟨u,r,?_⟩
  rcases l with⟨k,_⟩|⟨_,c,hc,z⟩
  ·rcases hk with q|q
   ·rw[show X.env.kindOf x=some .cell from q]at k;cases k
   ·rw[show X.env.kindOf x=some .free from q]at k;cases k
  ·refine .inr ⟨?_,c,KK hc (.inl hmem),z.keeps old⟩
   exact DA (env:=X.env) hfree
 ·obtain⟨v,z⟩:=I3.cell x c (fwd x c e)
  exact⟨v,z.keeps old⟩
 ·show(BT H1 s2.heap.objs.size (.lst [])) (s2.heap.objs.size+1)=none
  rw[AR (Nat.succ_ne_self _)]
  exact I.hok.fresh (Nat.le_succ _)
 ·exact I3.freeC x c (fwd x c e)
 ·show(tau ix σ).length=N'.length
  unfold tau
  rw[List.length_map]
  exact S.len
theorem NK {pins:List (Addr×Obj)} {σ:St} {H1:Hp} {s2:Shared} {N':List Str} {ix:List (Option Nat)} {scope:Scope} {fp:List Addr} {it:Addr} {tn:Nat→Heap→Prop} {J:It}
 {elt tg iter:Expr} {ifs:List Expr} {pos:Pos} {g:TG} {tt:TT} {te:TE} {Q:VK} {RR:Value→Addr→Result→Shared→Prop}
 (S:CompScope X N' ix scope) (hcalm:X.calm=true) (I:Inv X pins σ H1 s2) (T:Turn X.prog X.w X.K tg J fp it tn) (st:tn 0 s2.heap) (f2:∀b∈fp,OH X pins H1 b)
 (hg:∀C s₀ H₀,PG (X.comp scope (CU X.env.cells scope.names []) C s₀ H₀ fp N') tg g)
 (ht:∀C s₀ H₀,PTs (X.comp scope (CU X.env.cells scope.names []) C s₀ H₀ fp N') ifs tt)
 (he:∀C s₀ H₀,PE (X.comp scope (CU X.env.cells scope.names []) C s₀ H₀ fp N') elt te)
 (h:∀D,H1 D=none→
   ∃W:Nat→Nat→List V→Hp→Prop,(∃m,W 0 m [] (BT H1 D (.lst [])))∧
   ∀i m acc H2,W i m acc H2→H2 D=some (.lst acc)→
    (J.stop i H2∧Q (.ref D) H2)∨
    (J.go i H2∧acc.length<sizeLine∧∀x H3,J.yld i H2 x H3→g x (tau ix σ) H3 fun τ H4=>(τ.length=ix.length∧∀(k:Nat) v,(tau ix σ)[k]? =some (some v)→τ[k]? =some (some v))∧
      tt τ H4 fun b H5=>if b=true then te τ H5 fun y H6=>H6 D=some (.lst acc)∧∃m',m'<m∧W (i+1) m' (acc++[y]) (BT H6 D (.lst (acc++[y])))
       else H5 D=some (.lst acc)∧∃m',m'<m∧W (i+1) m' acc H5))
 (hRR:∀D C s' H',Inv X pins σ H' s'→Q (.ref D) H'→(∃m,s'.heap.Ns C m)→H' C=none→C≠X.env.locals→X.s₀.heap.objs.size≤C→(∀x c,X.env.cells.lookup x=some c→c≠C)→(∀p∈X.pn++pins,p.1≠C)→RR (.ref D) C (.ok .next) s'):
 wpAny (model X.prog X.w) X.A (newList []) (fun acc s₃=>wpAny (model X.prog X.w) X.A (newFunctionEnv scope X.env.globals (CU X.env.cells scope.names []) [] X.env.qual none .none (some X.env)) (fun cenv s₄=>
  codeAny (model X.prog X.w) X.A (.compStart (.ListComp elt [⟨tg,iter,ifs,0⟩] scope pos) 0 (.ref it) acc {cenv with scope:=relabel scope X.env}) (RR acc cenv.locals) s₄) X.xe s₃) X.xe s2:=by
 have hfp:∀b∈fp,b<s2.heap.objs.size:=fun b hb=>by
  obtain⟨o,e,_⟩:=T.obj _ _ st b hb
  exact Heap.lt_size e
 refine wpAny_newObj_type (wpAny_newFunctionEnv S.nocell (by intro y hy;simp at hy) (fun h₁ hns₁ hsb₁=> ?_) S.kind)
 have sz3:(s2.heap.push {cls:= .type "list",dict:=none,data:= .seq ([]:List Value).toArray}).objs.size=s2.heap.objs.size+1:=Heap.size_push ..
 dsimp only at hns₁ hsb₁⊢
 rw[sz3]at hns₁ hsb₁⊢
 obtain⟨W,⟨m0,w0⟩,turn⟩:=h s2.heap.objs.size (I.hok.fresh (Nat.le_refl _))
 have I4:=V2 (N':=N') (ix:=ix) (fp:=fp) S I f2 hfp hns₁ hsb₁ (s2.toks+([]:List (Str×Value)).length)
 generalize hX':X.comp scope (CU X.env.cells scope.names []) (s2.heap.objs.size+1) {s2 with heap:=s2.heap.push {cls:= .type "list",dict:=none,data:= .seq ([]:List Value).toArray}} (BT H1 s2.heap.objs.size (.lst [])) fp N'=X' at I4
 have old:∀b o,s2.heap.get? b=some o→h₁.get? b=some o:=fun b o e=>
  hsb₁.extBut b o (Nat.ne_of_lt (Nat.lt_succ_of_lt (Heap.lt_size e))) (Heap.get?_push_of_some _ (Heap.get?_push_of_some _ e))
 have st4:tn 0 h₁:=T.keep _ _ _ st fun b _ o e=>old b o e
 have n4:∀b∈fp,(BT H1 s2.heap.objs.size (.lst [])) b=none:=fun b hb=>by rw[AR (Nat.ne_of_lt (hfp b hb))];exact(f2 b hb).1
 have stat:∀{H':Hp},(∀b∈fp,H' b=none)→∀b∈fp,OH X' [] H' b:=fun{H'} hn b hb=>by
  subst hX'
  refine⟨hn b hb,Nat.ne_of_lt (Nat.lt_succ_of_lt (hfp b hb)),fun hm=> ?_, .inl hb,fun x c e=> ?_,fun p hp=>absurd (show p∈([]:List (Addr×Obj)) from hp) (by simp)⟩
  ·rcases List.mem_cons.mp (I.stkSub b hm) with z|z
   ·exact(f2 b hb).2.1 z
   ·exact(f2 b hb).2.2.1 z
  ·exact(f2 b hb).2.2.2.2.1 x c (KS (fun y hy e=>I.ok.has _ (S.free y hy e)) (fun z hz=>by cases hz) e)
 have loop:∀s₄:Shared,s₄={s2 with heap:=h₁,toks:=s2.toks+([]:List (Str×Value)).length}→
  codeAny (model X.prog X.w) X.A (.compLoop (.ListComp elt [⟨tg,iter,ifs,0⟩] scope pos) 0 (.ref it) (.ref s2.heap.objs.size) (compEnvC scope (CU X.env.cells scope.names []) (s2.heap.objs.size+1) X.env)) (RR (.ref s2.heap.objs.size) (s2.heap.objs.size+1)) s₄:=by
  rintro s₄ rfl
  refine R9 (fun n s'=>∃i acc H',Inv X' [] (tau ix σ) H' s'∧tn i s'.heap∧(∀b∈fp,H' b=none)∧H' s2.heap.objs.size=some (.lst acc)∧W i n acc H') ?_ m0
   ⟨0,[],_,I4,st4,n4,B3,w0⟩
  rintro n s5 ⟨i,acc,H5,I5,st5,fr5,hD5,w5⟩
  have pE:X'.prog=X.prog:=by subst hX';rfl
  have wE:X'.w=X.w:=by subst hX';rfl
  have kE:X'.K=X.K:=by subst hX';rfl
  have aE:X'.A=X.A:=by subst hX';rfl
  have cE:X'.calm=true:=by subst hX';exact hcalm
  rcases turn i n acc H5 w5 hD5 with⟨stop,q⟩|⟨go,hz,step⟩
  ·have z:=T.done X' pE wE kE cE i [] s5 (tau ix σ) H5 (fun _ _=>False) I5 (stat fr5) st5 stop
   rw[aE]at z
   refine thn z fun r s6 ⟨hr,I6⟩=> ?_
   subst hr
   have I6':=I6
   subst hX'
   have bs6:=I6.base
   have un:Un (aW X.stack) fp H1 H5 s2.heap s6.heap:=Un.trans (Un.laid (o:= .lst []) (fun b u q=>Heap.get?_push_of_some _ q) (Nat.le_refl _) (I.hok.fresh (Nat.le_refl _))) bs6
   have IX:Inv X pins σ H5 s6:=Inv.call' I I6.os un I6.hok I6.bare fun b hb=>⟨(f2 b hb).2.2.2.1,(f2 b hb).2.1,(f2 b hb).2.2.2.2.1,(f2 b hb).2.2.2.2.2⟩
   refine hRR _ _ s6 H5 IX q ?_ I6.free ?_ ?_ ?_ ?_
   ·obtain⟨m,hn,_⟩:=I6.loc
    exact⟨m,hn⟩
   ·exact Nat.ne_of_gt (Nat.lt_succ_of_lt I.lt)
   ·exact Nat.le_succ_of_le I.sz
   ·intro x c e
    obtain⟨v,z⟩:=I.cell x c e
    exact Nat.ne_of_lt (Nat.lt_succ_of_lt z.lt)
   ·intro p hp
    exact Nat.ne_of_lt (Nat.lt_succ_of_lt (Heap.lt_size (I.pin p hp).1))
  ·have z:=T.item X' pE wE kE cE i [] s5 (tau ix σ) H5 (fun _ _=>False) I5 (stat fr5) st5 go
   rw[aE]at z
   refine thn z fun r s6 ⟨u,hr,h6⟩=> ?_
   subst hr
   refine thn h6 fun _ s7 ⟨x,H7,I7,r7,y7,st7,fr7⟩=> ?_
   have I7':=I7.pinned (stat fr7) (T.obj _ _ st7)
   have hg':=hg (s2.heap.objs.size+1) {s2 with heap:=s2.heap.push {cls:= .type "list",dict:=none,data:= .seq ([]:List Value).toArray}} (BT H1 s2.heap.objs.size (.lst []))
   have ht':=ht (s2.heap.objs.size+1) {s2 with heap:=s2.heap.push {cls:= .type "list",dict:=none,data:= .seq ([]:List Value).toArray}} (BT H1 s2.heap.objs.size (.lst []))
   have he':=he (s2.heap.objs.size+1) {s2 with heap:=s2.heap.push {cls:= .type "list",dict:=none,data:= .seq ([]:List Value).toArray}} (BT H1 s2.heap.objs.size (.lst []))
   subst hX'
   have back:∀{τ:St} {H8:Hp} {s8:Shared},(τ.length=ix.length∧∀(k:Nat) v,(tau ix σ)[k]? =some (some v)→τ[k]? =some (some v))→
    Inv (X.comp scope (CU X.env.cells scope.names []) (s2.heap.objs.size+1) {s2 with heap:=s2.heap.push {cls:= .type "list",dict:=none,data:= .seq ([]:List Value).toArray}} (BT H1 s2.heap.objs.size (.lst [])) fp N') ([]++OI fp s7.heap) τ H8 s8→
    ∀{acc':List V} {m':Nat},H8 s2.heap.objs.size=some (.lst acc')→W (i+1) m' acc' H8→m'<n→
    ∃m,m<n∧∃i acc H',Inv (X.comp scope (CU X.env.cells scope.names []) (s2.heap.objs.size+1) {s2 with heap:=s2.heap.push {cls:= .type "list",dict:=none,data:= .seq ([]:List Value).toArray}} (BT H1 s2.heap.objs.size (.lst [])) fp N') [] (tau ix σ) H' s8∧tn i s8.heap∧(∀b∈fp,H' b=none)∧H' s2.heap.objs.size=some (.lst acc)∧W i m acc H':=fun{τ H8 s8} hτ I8 {acc' m'} hD8 w8 hm=>by
    refine⟨m',hm,i+1,acc',H8,(Inv.unpinned I8).weak (by rw[hτ.1];unfold tau;rw[List.length_map]) hτ.2,T.keep _ _ _ st7 fun b hb o e=>(I8.pin (b,o) (List.mem_append_right _ (List.mem_append_right _ (GR hb e)))).1,fun b hb=> ?_,hD8,w8⟩
    obtain⟨o,e,d⟩:=T.obj _ _ st7 b hb
    exact(I8.pin (b,o) (List.mem_append_right _ (List.mem_append_right _ (GR hb e)))).2.1
   refine thn (hg' _ s7 (tau ix σ) H7 x u _ I7' r7 (step x H7 y7)) fun _ s8 ⟨τ,H8,I8,hτ,q8⟩=> ?_
   refine thn (ht' _ s8 τ H8 _ I8 q8) fun b s9 ⟨H9,I9,q9⟩=> ?_
   cases b with
   |false=>
    obtain⟨hD9,m',hm,w9⟩:=q9
    exact back hτ I9 hD9 w9 hm
   |true=>
    refine thn (he' _ s9 τ H9 _ I9 q9) fun yv s10 ⟨y,H10,I10,r10,hD10,m',hm,w10⟩=> ?_
    refine thn (M7 _ s10 τ H10 (.ref s2.heap.objs.size) [y] (.ref s2.heap.objs.size) [yv] (fun v H=>v= .non∧H=BT H10 s2.heap.objs.size (.lst (acc++[y]))) I10 rfl (.cons r10 .nil) ⟨_,acc,y,rfl,rfl,hD10,hz,rfl,rfl⟩) fun _ s11 ⟨v,H11,I11,r11,hv,hH⟩=> ?_
    subst hH
    exact back hτ I11 B3 w10 hm
 exact codeAny_compStart_list (loop _ rfl) (T.self _ 0 _ _ _ st4 (loop _ rfl))
theorem lG {elt tg iter:Expr} {ifs:List Expr} {scope:Scope} {pos:Pos} {N':List Str} {ix:List (Option Nat)} {wi:TI} {g:TG} {tt:TT} {te:TE}
 (S:CompScope X N' ix scope) (hcalm:X.calm=true) (hi:PI X tg iter wi)
 (hg:∀C s₀ H₀ fp,PG (X.comp scope (CU X.env.cells scope.names []) C s₀ H₀ fp N') tg g)
 (ht:∀C s₀ H₀ fp,PTs (X.comp scope (CU X.env.cells scope.names []) C s₀ H₀ fp N') ifs tt)
 (he:∀C s₀ H₀ fp,PE (X.comp scope (CU X.env.cells scope.names []) C s₀ H₀ fp N') elt te)
 (hs:∀x,foldedSetIterable iter X.env x=pure x:=by intro _;rfl):
 PE X (.ListComp elt [⟨tg,iter,ifs,0⟩] scope pos) (bV ix wi g tt te):=by
 intro pins s σ H Q I h
 rw[eval_ListComp]
 refine wpAny_comprehension_free (use:=none) rfl hs (NE fun y hy e=>I.ok.has _ (S.free y hy e)) S.kind S.names (thn (hi pins s σ H _ I h) fun v s1 h1=>thn h1 fun itv s2 h2=> ?_)
 obtain⟨it,fp,tn,J,H2,e,I2,T,st2,f2,hW⟩:=h2
 subst e
 refine NK (RR:=fun acc C=>compPost (model X.prog X.w) X.A X.xe none (EP X pins σ Q) acc C) S hcalm I2 T st2 f2 (fun C s₀ H₀=>hg C s₀ H₀ fp) (fun C s₀ H₀=>ht C s₀ H₀ fp) (fun C s₀ H₀=>he C s₀ H₀ fp) hW ?_
 intro D C s' H' I' q hn hC hL h1 h2 h3
 obtain⟨m,hn⟩:=hn
 refine⟨m,hn,fun h' hs'=> ?_⟩
 have I'':Inv X pins σ H' {s' with heap:=h'}:=I'.turned (t':=s'.toks) (fun b o hb e=>hs'.extBut b o hb e) hC hL.symm.symm (.inr h1) h2 h3
 exact⟨.ref D,H',I'',rfl,q⟩
theorem k9 {elt tg iter:Expr} {ifs:List Expr} {scope:Scope} {pos pos' spos:Pos} {N':List Str} {ix:List (Option Nat)} {wi:TI} {g:TG} {tt:TT} {te:TE} {k:Nat} {x:Str}
 (hN:X.N.Nodup) (hk:X.N[k]? =some x) (hx:X.env.scope.names.lookup x=some .local)
 (S:CompScope X N' ix scope) (hcalm:X.calm=true) (hi:PI X tg iter wi)
 (hg:∀C s₀ H₀ fp,PG (X.comp scope (CU X.env.cells scope.names []) C s₀ H₀ fp N') tg g)
 (ht:∀C s₀ H₀ fp,PTs (X.comp scope (CU X.env.cells scope.names []) C s₀ H₀ fp N') ifs tt)
 (he:∀C s₀ H₀ fp,PE (X.comp scope (CU X.env.cells scope.names []) C s₀ H₀ fp N') elt te)
 (hsw:swapsWith (.ListComp elt [⟨tg,iter,ifs,0⟩] scope pos) (some (.Name x pos')) spos.line X.env=pure true)
 (hs:∀x,foldedSetIterable iter X.env x=pure x:=by intro _;rfl):
 PS X (.Assign [.Name x pos'] (.ListComp elt [⟨tg,iter,ifs,0⟩] scope pos) spos) (j6 (bV ix wi g tt te) (MJ k)):=by
 intro pins s σ H D I h
 rw[exec_Assign_Name_used _ _ _ _ hsw]
 refine wpAny_bind (wpAny_standAt (wpAny_bind ?_))
 show wpAny _ _ (do let _←comprehension (.ListComp elt [⟨tg,iter,ifs,0⟩] scope pos) scope X.env _ (newList []) false (eval iter X.env) (some (assign (.Name x pos') X.env))) _ _ s
 refine wpAny_bind (wpAny_mono (wpAny_comprehension_free (use:=some (assign (.Name x pos') X.env)) (Q:=fun _ s'=>SP X pins D .next s') rfl hs (NE fun y hy e=>I.ok.has _ (S.free y hy e)) S.kind S.names
  (thn (hi pins s σ H _ I h) fun v s1 h1=>thn h1 fun itv s2 h2=> ?_)) (fun _ s' hq=>wpAny_pure (wpAny_pure hq)) fun _ _ e=>e)
 obtain⟨it,fp,tn,J,H2,e,I2,T,st2,f2,hW⟩:=h2
 subst e
 refine NK (RR:=fun acc C=>compPost (model X.prog X.w) X.A X.xe (some (assign (.Name x pos') X.env)) (fun _ s'=>SP X pins D .next s') acc C) (Q:=fun x H1=>MJ k x σ H1 D.nx) S hcalm I2 T st2 f2 (fun C s₀ H₀=>hg C s₀ H₀ fp) (fun C s₀ H₀=>ht C s₀ H₀ fp) (fun C s₀ H₀=>he C s₀ H₀ fp) hW ?_
 intro Dd C s' H' I' q hn hC hL h1 h2 h3
 obtain⟨m,hn⟩:=hn
 show wpAny _ _ (assign (.Name x pos') X.env (.ref Dd)) _ _ _
 refine wpAny_assign_Name (PB I' hN hk (.inl hx) (v:= .ref Dd) rfl (fun s'' I'' hsame=> ?_) (.inr hx))
 obtain⟨a,hsb,ha⟩:=hsame
 have haC:C≠a:=by
  rcases ha with z|z
  ·rw[z];exact hL
  ·exact fun e=>h2 x a z e.symm
 refine⟨m,hn.sameBut hsb haC,fun h' hs'=> ?_⟩
 have I3:Inv X pins (σ.set k (some (.ref Dd))) H' {s'' with heap:=h'}:=I''.turned (t':=s''.toks) (fun b o hb e=>hs'.extBut b o hb e) hC hL (.inr h1) h2 h3
 exact⟨_,H',I3,q⟩
end
end L2
namespace L2
open PySem PySem.Spec PyProof.Rows
section
variable {X:Cx} {a b:Expr} {ta tb:TE} {pos:Pos}
theorem YQ:OpR X (compareOp .LtE) (fun x y H Q=>∃i j,x= .str i∧y= .str j∧Q (.bl (!decide (j.cps.toList<i.cps.toList))) H):=by
 intro pins s σ H x y v u Q I rx ry h
 obtain⟨i,j,rfl,rfl,q⟩:=h
 obtain⟨t,rfl⟩:=rx
 obtain⟨t',rfl⟩:=ry
 exact PySem.P.le_str ⟨.bl _,H,I,rfl,q⟩
theorem aT:OpR X (compareOp .Gt) (fun x y H Q=>∃i j,x= .str i∧y= .str j∧Q (.bl (decide (j.cps.toList<i.cps.toList))) H):=by
 intro pins s σ H x y v u Q I rx ry h
 obtain⟨i,j,rfl,rfl,q⟩:=h
 obtain⟨t,rfl⟩:=rx
 obtain⟨t',rfl⟩:=ry
 exact PySem.P.gt_str ⟨.bl _,H,I,rfl,q⟩
theorem ZH:OpR X (compareOp .GtE) (fun x y H Q=>∃i j,x= .str i∧y= .str j∧Q (.bl (!decide (i.cps.toList<j.cps.toList))) H):=by
 intro pins s σ H x y v u Q I rx ry h
 obtain⟨i,j,rfl,rfl,q⟩:=h
 obtain⟨t,rfl⟩:=rx
 obtain⟨t',rfl⟩:=ry
 exact PySem.P.ge_str ⟨.bl _,H,I,rfl,q⟩
theorem bJ:OpR X (compareOp .Is) (fun x y H Q=>∃i j,x= .bl i∧y= .bl j∧Q (.bl (i==j)) H):=by
 intro pins s σ H x y v u Q I rx ry h
 obtain⟨i,j,rfl,rfl,q⟩:=h
 cases rx
 cases ry
 exact is_bool ⟨.bl _,H,I,rfl,q⟩
theorem VR:OpR X (binaryOp .Mult) (fun x y H Q=>∃i j,x= .str i∧y= .int j∧(i.length≤16∧0≤j∧j≤1000)∧Q (.str (Txt.mul i j)) H):=by
 intro pins s σ H x y v u Q I rx ry h
 obtain⟨i,j,rfl,rfl,⟨h1,h2,h3⟩,q⟩:=h
 obtain⟨t,rfl⟩:=rx
 obtain⟨t',rfl⟩:=ry
 exact SB.mul (mulOk_of 16 1000 h1 (by omega) (by omega) (by decide) (by decide)) fun t' k=>⟨.str _,H,I.tok _,⟨_,rfl⟩,q⟩
theorem ZR {n:Nat} {bs:List Bool} (hn:bs.length=n):(List.range n).all (fun i=>bs.getD i true)=bs.all id:=by
 subst hn
 rw[Bool.eq_iff_iff,List.all_eq_true,List.all_eq_true]
 constructor
 ·intro h x hx
  obtain⟨i,hi,rfl⟩:=List.mem_iff_getElem.mp hx
  have:=h i (List.mem_range.mpr hi)
  simpa[List.getD_eq_getElem?_getD,hi]using this
 ·intro h i hi
  have hi':=List.mem_range.mp hi
  have:=h _ (List.getElem_mem hi')
  simpa[List.getD_eq_getElem?_getD,hi']using this
theorem ZF {n:Nat} {bs:List Bool} (hn:bs.length=n):(List.range n).any (fun i=>bs.getD i true)=bs.any id:=by
 subst hn
 rw[Bool.eq_iff_iff,List.any_eq_true,List.any_eq_true]
 constructor
 ·rintro⟨i,hi,h⟩
  have hi':=List.mem_range.mp hi
  exact⟨_,List.getElem_mem hi',by simpa[List.getD_eq_getElem?_getD,hi']using h⟩
 ·rintro⟨x,hx,h⟩
  obtain⟨i,hi,rfl⟩:=List.mem_iff_getElem.mp hx
  exact⟨i,List.mem_range.mpr hi,by simpa[List.getD_eq_getElem?_getD,hi]using h⟩
theorem XY {bs:List Bool}:∀{us:List Value},Vals (bs.map V.bl) us→us=bs.map Value.bool:=by
 induction bs with
 |nil=>intro us r;cases r;rfl
 |cons b bs ih=>intro us r;cases r with|cons r1 r2=>rw[ih r2,show _=Value.bool b from r1];rfl
theorem TK (hc:X.calm=true):DC X (.builtin "all") (fun xs H Q=>∃(p:Addr) (bs:List Bool),xs=[.ref p]∧H p=some (.lst (bs.map V.bl))∧Q (.bl (bs.all id)) H):=by
 intro pins s σ H xs us Q I r h
 obtain⟨p,bs,e,hp,q⟩:=h
 subst e
 obtain⟨u,rfl,ru⟩:=G4 r
 obtain rfl:u=Value.ref p:=ru
 obtain⟨z,its,n,rv,hl,ho⟩:=I.lstM hp
 have ei:=XY rv
 have hI:s.heap.IsList p its.toArray:=⟨_,ho,rfl,n,rfl⟩
 have hne:p≠s.heap.objs.size:=Nat.ne_of_lt (Heap.lt_size ho)
 refine call_all_walk (wpAny_pyIter_list hI ?_)
 refine⟨s.heap.objs.size,_,_,_,_,_,fun i=>bs.getD i true,rfl,Walks.list (A:=X.A.in1) (I.ok.hd hc) s.heap.objs.size p hne its.toArray,⟨⟨_,Heap.get?_push_size _ rfl,rfl,rfl⟩,⟨_,Heap.get?_push_of_some _ ho,rfl,n,rfl⟩⟩,?_,fun h' tk hk=> ?_⟩
 ·intro i v s' Q' E' hP hQ
  have hP':its[i]? =some v:=by simpa using hP
  rw[ei,List.getElem?_map]at hP'
  cases e:bs[i]?with
  |none=>rw[e]at hP';cases hP'
  |some b'=>
   rw[e]at hP'
   have ev:Value.bool b'=v:=Option.some.inj hP'
   subst ev
   refine wpAny_truthy_bool ?_
   have:bs.getD i true=b':=by simp[List.getD_eq_getElem?_getD,e]
   dsimp only at hQ
   rw[this]at hQ
   exact hQ
 ·rw[ZR (by rw[List.size_toArray,ei,List.length_map])]
  refine⟨.bl _,H,?_,rfl,q⟩
  exact I.kept (h':=h') (t':=tk) fun b o e=>hk b o (by simp;exact Nat.ne_of_lt (Heap.lt_size e)) (Heap.get?_push_of_some _ e)
theorem dJ (hc:X.calm=true):DC X (.builtin "any") (fun xs H Q=>∃(p:Addr) (bs:List Bool),xs=[.ref p]∧H p=some (.lst (bs.map V.bl))∧Q (.bl (bs.any id)) H):=by
 intro pins s σ H xs us Q I r h
 obtain⟨p,bs,e,hp,q⟩:=h
 subst e
 obtain⟨u,rfl,ru⟩:=G4 r
 obtain rfl:u=Value.ref p:=ru
 obtain⟨z,its,n,rv,hl,ho⟩:=I.lstM hp
 have ei:=XY rv
 have hI:s.heap.IsList p its.toArray:=⟨_,ho,rfl,n,rfl⟩
 have hne:p≠s.heap.objs.size:=Nat.ne_of_lt (Heap.lt_size ho)
 refine call_any_walk (wpAny_pyIter_list hI ?_)
 refine⟨s.heap.objs.size,_,_,_,_,_,fun i=>bs.getD i true,rfl,Walks.list (A:=X.A.in1) (I.ok.hd hc) s.heap.objs.size p hne its.toArray,⟨⟨_,Heap.get?_push_size _ rfl,rfl,rfl⟩,⟨_,Heap.get?_push_of_some _ ho,rfl,n,rfl⟩⟩,?_,fun h' tk hk=> ?_⟩
 ·intro i v s' Q' E' hP hQ
  have hP':its[i]? =some v:=by simpa using hP
  rw[ei,List.getElem?_map]at hP'
  cases e:bs[i]?with
  |none=>rw[e]at hP';cases hP'
  |some b'=>
   rw[e]at hP'
   have ev:Value.bool b'=v:=Option.some.inj hP'
   subst ev
   refine wpAny_truthy_bool ?_
   have:bs.getD i true=b':=by simp[List.getD_eq_getElem?_getD,e]
   dsimp only at hQ
   rw[this]at hQ
   exact hQ
 ·rw[ZF (by rw[List.size_toArray,ei,List.length_map])]
  refine⟨.bl _,H,?_,rfl,q⟩
  exact I.kept (h':=h') (t':=tk) fun b o e=>hk b o (by simp;exact Nat.ne_of_lt (Heap.lt_size e)) (Heap.get?_push_of_some _ e)
def nI (x:Str):It:=⟨fun i _=>i<x.cps.size,fun i H v H'=>H'=H∧∃c,x.cps[i]? =some c∧v= .str ⟨#[c]⟩,fun i _=>x.cps.size≤i⟩
def A1H (tl:TE):TI:=fun σ H R=>tl σ H fun x H1=>∃z,x= .str z∧R (nI z) H1
theorem YS {P:Program} {w:World} {K:PySem.W.Frag} {tg:Expr} (it:Addr) (x:Str) (t:Tok):Turn P w K tg (nI x) [it] it (fun i h=>h.IsStrIter it "str_ascii_iterator" x t i) where
 mem:=by simp
 obj:=fun i h st b hb=>by
  have e:b=it:=by simpa using hb
  subst e
  obtain⟨o,e,c,d⟩:=st
  exact⟨o,e,fun v z=>by rw[d]at z;cases z⟩
 keep:=fun i h h' st k=>by obtain⟨o,e,r⟩:=st;exact⟨o,k it (by simp) o e,r⟩
 item:=by
  intro X hP hw hK hc i pins s σ H E I hf st hg
  subst hP hw hK
  have hg':i<x.cps.size:=hg
  obtain⟨f0,f1,f2,f3,f4,f5⟩:=hf it (by simp)
  refine wpAny_pyNext_ascii_item st (c:=x.cps[i]) (by simp[hg']) fun h' st' sb=> ?_
  have I1:Inv X pins σ H {s with heap:=h',toks:=s.toks+1}:=I.turned (fun b o hb e=>(sb.2 b hb).trans e) f0 f1 f3 f4 f5
  refine⟨_,rfl,?_⟩
  have fin:∃y H',Inv X pins σ H' {s with heap:=h',toks:=s.toks+1}∧RelV y (.str ⟨#[x.cps[i]]⟩ s.toks)∧(nI x).yld i H y H'∧h'.IsStrIter it "str_ascii_iterator" x t (i+1)∧∀b∈[it],H' b=none:=
   ⟨.str ⟨#[x.cps[i]]⟩,H,I1,⟨_,rfl⟩,⟨rfl,x.cps[i],by simp[hg'],rfl⟩,st',fun b hb=>(hf b hb).1⟩
  unfold letOwnedTupleGo
  cases tg<;>exact wpAny_pure fin
 done:=by
  intro X hP hw hK hc i pins s σ H E I hf st hg
  subst hP hw hK
  have hg':x.cps.size≤i:=hg
  obtain⟨f0,f1,f2,f3,f4,f5⟩:=hf it (by simp)
  exact wpAny_pyNext_ascii_end (I.ok.hd hc) st (by simp[hg']) fun h' eb=>⟨rfl,I.turned (t':=s.toks) (fun b o hb e=>eb b o hb e) f0 f1 f3 f4 f5⟩
 self:=fun _ _ _ _ _ st h=>wpAny_pyIter_striter_ascii st h
theorem Z7 {P:Program} {w:World} {K:PySem.W.Frag} {tg:Expr} (it:Addr) (x:Str) (t:Tok):Turn P w K tg (nI x) [it] it (fun i h=>h.IsStrIter it "str_iterator" x t i) where
 mem:=by simp
 obj:=fun i h st b hb=>by
  have e:b=it:=by simpa using hb
  subst e
  obtain⟨o,e,c,d⟩:=st
  exact⟨o,e,fun v z=>by rw[d]at z;cases z⟩
 keep:=fun i h h' st k=>by obtain⟨o,e,r⟩:=st;exact⟨o,k it (by simp) o e,r⟩
 item:=by
  intro X hP hw hK hc i pins s σ H E I hf st hg
  subst hP hw hK
  have hg':i<x.cps.size:=hg
  obtain⟨f0,f1,f2,f3,f4,f5⟩:=hf it (by simp)
  refine wpAny_pyNext_wide_item st (c:=x.cps[i]) (by simp[hg']) fun h' st' sb=> ?_
  have I1:Inv X pins σ H {s with heap:=h',toks:=s.toks+1}:=I.turned (fun b o hb e=>(sb.2 b hb).trans e) f0 f1 f3 f4 f5
  refine⟨_,rfl,?_⟩
  have fin:∃y H',Inv X pins σ H' {s with heap:=h',toks:=s.toks+1}∧RelV y (.str ⟨#[x.cps[i]]⟩ s.toks)∧(nI x).yld i H y H'∧h'.IsStrIter it "str_iterator" x t (i+1)∧∀b∈[it],H' b=none:=
   ⟨.str ⟨#[x.cps[i]]⟩,H,I1,⟨_,rfl⟩,⟨rfl,x.cps[i],by simp[hg'],rfl⟩,st',fun b hb=>(hf b hb).1⟩
  unfold letOwnedTupleGo
  cases tg<;>exact wpAny_pure fin
 done:=by
  intro X hP hw hK hc i pins s σ H E I hf st hg
  subst hP hw hK
  have hg':x.cps.size≤i:=hg
  obtain⟨f0,f1,f2,f3,f4,f5⟩:=hf it (by simp)
  exact wpAny_pyNext_wide_end (I.ok.hd hc) st (by simp[hg']) fun h' eb=>⟨rfl,I.turned (t':=s.toks) (fun b o hb e=>eb b o hb e) f0 f1 f3 f4 f5⟩
 self:=fun _ _ _ _ _ st h=>wpAny_pyIter_striter_wide st h
theorem pD {l tg:Expr} {tl:TE} (hl:PE X l tl):PI X tg l (A1H tl):=by
 intro pins s σ H R I h
 refine thn (hl pins s σ H _ I h) fun v s1 ⟨x,H1,I1,r1,q1⟩=> ?_
 obtain⟨z,e,q⟩:=q1
 subst e
 obtain⟨t,rfl⟩:=r1
 have fp:∀b∈[s1.heap.objs.size],OH X pins H1 b:=fun b hb=>by
  have e:b=s1.heap.objs.size:=by simpa using hb
  rw[e]
  exact I1.fpOk (Nat.le_refl _) (I1.hok.fresh (Nat.le_refl _))
 cases ha:z.cps.all (· <128)
 ·exact wpAny_pyIter_wide ha ⟨s1.heap.objs.size,[s1.heap.objs.size],_,nI z,H1,rfl,I1.kept (t':=s1.toks) fun b o e=>Heap.get?_push_of_some _ e,Z7 _ z t,⟨_,Heap.get?_push_size _ rfl,rfl,rfl⟩,fp,q⟩
 ·exact wpAny_pyIter_ascii ha ⟨s1.heap.objs.size,[s1.heap.objs.size],_,nI z,H1,rfl,I1.kept (t':=s1.toks) fun b o e=>Heap.get?_push_of_some _ e,YS _ z t,⟨_,Heap.get?_push_size _ rfl,rfl,rfl⟩,fp,q⟩
def wA:V→Option Int→Option Int→Hp→VK→Prop:=fun x lo hi H Q=>∃z,x= .str z∧z.length≤sizeLine∧Q (.str (Txt.slice z lo hi)) H
theorem sK:SlR X wA:=by
 intro pins s σ H x v vl vu lo hi sl Q I rx hs pl pu h
 obtain⟨z,rfl,hz,q⟩:=h
 obtain⟨t,rfl⟩:=rx
 refine⟨"str",_,F.slot_str_getitem.lookup,typeIs_str _ _ _,?_⟩
 have fin:∀t' k,EP X pins σ Q (.str (Txt.slice z lo hi) t') {s with toks:=k}:=fun t' k=>⟨.str _,H,I.tok _,⟨_,rfl⟩,q⟩
 obtain⟨os,e1,e2,e3⟩:=hs
 cases pl with
 |none=>
  cases pu with
  |none=>exact wpAny_getItem_str_slice (l:=none) (u:=none) (st:=none) ⟨os,e1,e2,e3⟩ rfl (post_val_or_str ⟨Nat.le_trans (Txt.slice_le z _ _) hz,fin⟩)
  |int j u=>exact wpAny_getItem_str_slice (l:=none) (u:=some (j,u)) (st:=none) ⟨os,e1,e2,e3⟩ rfl (post_val_or_str ⟨Nat.le_trans (Txt.slice_le z _ _) hz,fin⟩)
 |int i t2=>
  cases pu with
  |none=>exact wpAny_getItem_str_slice (l:=some (i,t2)) (u:=none) (st:=none) ⟨os,e1,e2,e3⟩ rfl (post_val_or_str ⟨Nat.le_trans (Txt.slice_le z _ _) hz,fin⟩)
  |int j u=>exact wpAny_getItem_str_slice (l:=some (i,t2)) (u:=some (j,u)) (st:=none) ⟨os,e1,e2,e3⟩ rfl (post_val_or_str ⟨Nat.le_trans (Txt.slice_le z _ _) hz,fin⟩)
end
end L2
namespace L2
open PySem PySem.Spec PyProof.Rows
inductive D where
 |non|bl (b:Bool)|int (i:Int)|str (x:Str)|tup (ds:List D)|lst (ds:List D)
mutual
def BN:D→D→Bool
 | .non, .non=>true
 | .bl a, .bl b=>a==b
 | .bl a, .int j=>(if a then(1:Int) else 0)==j
 | .int i, .bl b=>i==(if b then(1:Int) else 0)
 | .int i, .int j=>i==j
 | .str x, .str y=>x==y
 | .tup a, .tup b=>G1 a b
 | .lst a, .lst b=>G1 a b
 |_,_=>false
def G1:List D→List D→Bool
 |[],[]=>true
 |x::xs,y::ys=>BN x y&&G1 xs ys
 |_,_=>false
end
mutual
def D.deep:D→Nat
 | .tup ds=>D.deeps ds+1
 | .lst ds=>D.deeps ds+1
 |_=>0
def D.deeps:List D→Nat
 |[]=>0
 |d::ds=>max d.deep (D.deeps ds)
end
mutual
theorem KP:∀d:D,BN d d=true
 | .non=>by simp[BN]
 | .bl _=>by simp[BN]
 | .int _=>by simp[BN]
 | .str _=>by simp[BN]
 | .tup ds=>by simp[BN,LL ds]
 | .lst ds=>by simp[BN,LL ds]
theorem LL:∀ds:List D,G1 ds ds=true
 |[]=>by simp[G1]
 |d::ds=>by simp[G1,KP d,LL ds]
end
theorem IP:∀{ds:List D} {d:D} {j:Nat},ds[j]? =some d→d.deep≤D.deeps ds
 |[],_,_,h=>by simp at h
 |d::ds,e,0,h=>by simp at h;subst h;simp[D.deeps];omega
 |d::ds,e,j+1,h=>by
  have:=IP (ds:=ds) (j:=j) (by simpa using h)
  simp[D.deeps];omega
theorem DF:∀{ds ds':List D},((List.range (min ds.length ds'.length)).all (fun j=>BN (ds.getD j .non) (ds'.getD j .non))&&(ds.length==ds'.length))=G1 ds ds'
 |[],[]=>by simp[G1]
 |[],_::_=>by simp[G1]
 |_::_,[]=>by simp[G1]
 |d::ds,d'::ds'=>by
  have ih:=DF (ds:=ds) (ds':=ds')
  have e:min (d::ds).length (d'::ds').length=min ds.length ds'.length+1:=by simp
  rw[e,List.range_succ_eq_map,List.all_cons,List.all_map]
  simp only[G1]
  rw[←ih]
  simp[Function.comp_def,Bool.and_assoc]
end L2
namespace L2
open PySem PySem.Spec PyProof.Rows
section
variable {X:Cx} {a b:Expr} {ta tb:TE} {pos:Pos}
def vV:R2:=fun x y H Q=>Y7 (fun i j=> .bl (decide (i<j))) x y H Q∨∃i j,x= .str i∧y= .str j∧Q (.bl (decide (i.cps.toList<j.cps.toList))) H
theorem GU:OpR X (compareOp .Lt) vV:=xG.or aS
def uA:R2:=fun x y H Q=>Y7 (fun i j=> .bl (decide (i≤j))) x y H Q∨∃i j,x= .str i∧y= .str j∧Q (.bl (!decide (j.cps.toList<i.cps.toList))) H
theorem K8:OpR X (compareOp .LtE) uA:=uL.or YQ
def wQ:R2:=fun x y H Q=>Y7 (fun i j=> .bl (decide (j<i))) x y H Q∨∃i j,x= .str i∧y= .str j∧Q (.bl (decide (j.cps.toList<i.cps.toList))) H
theorem R1:OpR X (compareOp .Gt) wQ:=tT.or aT
def wY:R2:=fun x y H Q=>Y7 (fun i j=> .bl (decide (j≤i))) x y H Q∨∃i j,x= .str i∧y= .str j∧Q (.bl (!decide (i.cps.toList<j.cps.toList))) H
theorem W5:OpR X (compareOp .GtE) wY:=vH.or ZH
def u6:R2:=fun x y H Q=>(y= .non∧Q (.bl (decide (x= .non))) H)∨∃i j,x= .bl i∧y= .bl j∧Q (.bl (i==j)) H
theorem W2:OpR X (compareOp .Is) u6:=oO.or bJ
theorem C4 (X:Cx) (scope:Scope) (h:(scope.names.all fun y=>y.2 != .free||(X.env.kindOf y.1==some .cell||X.env.kindOf y.1==some .free))=true):∀y∈scope.names,y.2= .free→X.env.kindOf y.1=some .cell∨X.env.kindOf y.1=some .free:=by
 intro y hy e
 have:=List.all_eq_true.mp h y hy
 rw[e]at this
 simpa using this
theorem DE (X:Cx) (N':List Str) (ix:List (Option Nat)) (scope:Scope) (h:((List.range ix.length).all fun i=>match ix[i]?,N'[i]?with
 |some (some j),some x=>decide (X.N[j]? =some x)&&decide (scope.names.lookup x=some .free)
 |_,_=>true)=true):∀(i j:Nat) (x:Str),ix[i]? =some (some j)→N'[i]? =some x→X.N[j]? =some x∧scope.names.lookup x=some .free:=by
 intro i j x h1 h2
 have hi:i<ix.length:=(List.getElem?_eq_some_iff.mp h1).1
 have:=List.all_eq_true.mp h i (List.mem_range.mpr hi)
 rw[h1,h2]at this
 simpa using this
def DX (t c:String):Bool:=t==c||(t== "bool" &&c== "int")
theorem Q4 (K:PySem.W.Frag) {t c:String} (ht:t= "NoneType" ∨t= "bool" ∨t= "int" ∨t= "str" ∨t= "list" ∨t= "tuple" ∨t= "dict") (hc:c= "str" ∨c= "int" ∨c= "bool" ∨c= "tuple" ∨c= "list"):
 PySem.W.kitOne K (.type t) (.type c)=some (DX t c):=by
 rcases ht with rfl|rfl|rfl|rfl|rfl|rfl|rfl<;>rcases hc with rfl|rfl|rfl|rfl|rfl<;>rfl
theorem B6 {A:Around} {k:Nat} (hr:Room k A):A.units+150<cLine:=by
 have:=hr.un
 omega
def BB:Expr→Bool
 | .Starred _ _=>false
 |_=>true
theorem DK {e:Expr} {es:List Expr} {env:Env} (h:BB e=true):starEach (e::es) env=(false,eval e env)::starEach es env:=by
 cases e<;>first|rfl|cases h
theorem RM {e:Expr} {es:List Expr} {te:TE} {t:TA} (ha:PE X e te) (hr:PA X es t) (h:BB e=true:=by rfl):PA X (e::es) (n9 te t):=jO ha hr (DK h)
end
structure NmOk (sc:Scope) (x:Str) (k:NameKind):Prop where
 lk:sc.names.lookup x=some k
 db:(x==("__debug__":Str))=false
 cd:(x==("__classdict__":Str))=false
 nn:x≠ "__name__"
def zV (k:NameKind):Bool:=match k with| .local=>true| .cell=>true| .free=>true|_=>false
theorem ER {env:Env} {x:Str}:∀{names:List (Str×NameKind)},names.lookup x=some .globalImplicit→
 (names.map fun(n,k)=>if(k==NameKind.free&&env.scope.kind== .function&&env.kindOf n==some .cell)=true then(n,NameKind.cell) else(n,k)).lookup x=some .globalImplicit
 |[],h=>by cases h
 |(n,k)::r,h=>by
  have ih:= @ER env x r
  rw[List.map_cons]
  rw[List.lookup_cons]at h
  cases hx:x==n with
  |true=>
   rw[hx]at h
   have hk:k= .globalImplicit:=Option.some.inj h
   subst hk
   have hc':(if(NameKind.globalImplicit==NameKind.free&&env.scope.kind== .function&&env.kindOf n==some .cell)=true then(n,NameKind.cell) else(n,NameKind.globalImplicit))=(n,NameKind.globalImplicit):=if_neg (by simp)
   simp only[hc',List.lookup_cons,hx]
  |false=>
   rw[hx]at h
   have q:=ih h
   by_cases hc:(k==NameKind.free&&env.scope.kind== .function&&env.kindOf n==some .cell)=true
   ·have hc':(if(k==NameKind.free&&env.scope.kind== .function&&env.kindOf n==some .cell)=true then(n,NameKind.cell) else(n,k))=(n,NameKind.cell):=if_pos hc
    simp only[hc',List.lookup_cons,hx]
    exact q
   ·have hc':(if(k==NameKind.free&&env.scope.kind== .function&&env.kindOf n==some .cell)=true then(n,NameKind.cell) else(n,k))=(n,k):=if_neg hc
    simp only[hc',List.lookup_cons,hx]
    exact q
section
variable {X:Cx} {x:Str} {p pos:Pos} {e:Expr} {es:List Expr} {t:TA} {k:NameKind}
theorem A7 (i:Nat) (q:NmOk X.env.scope x k) (hN:X.N[i]? =some x:=by rfl) (hk:zV k=true:=by rfl):PE X (.Name x pos) (kN i):=
 bK hN (by cases k<;>first|exact .inl q.lk|exact .inr (.inl q.lk)|exact .inr (.inr q.lk)|exact absurd hk (by decide)) q.db q.cd
theorem NmOk.own {scope:Scope} {cl:List (Str×Addr)} {C:Addr} {s₀:Shared} {H₀:Hp} {fp:List Addr} {N':List Str} (q:NmOk scope x .local):NmOk (X.comp scope cl C s₀ H₀ fp N').env.scope x .local:=
 ⟨lookup_relabel_local q.lk,q.db,q.cd,q.nn⟩
theorem NmOk.glob {scope:Scope} {cl:List (Str×Addr)} {C:Addr} {s₀:Shared} {H₀:Hp} {fp:List Addr} {N':List Str} (q:NmOk scope x .globalImplicit):NmOk (X.comp scope cl C s₀ H₀ fp N').env.scope x .globalImplicit:=
 ⟨ER q.lk,q.db,q.cd,q.nn⟩
theorem aN (i:Nat) {scope:Scope} {cl:List (Str×Addr)} {C:Addr} {s₀:Shared} {H₀:Hp} {fp:List Addr} {N':List Str} (q:NmOk scope x .free) (hN:N'[i]? =some x:=by rfl):PE (X.comp scope cl C s₀ H₀ fp N') (.Name x pos) (kN i):=
 bK (X:=X.comp scope cl C s₀ H₀ fp N') hN (by
  rcases DA (env:=X.env) q.lk with h|h
  ·exact .inr (.inl h)
  ·exact .inr (.inr h)) q.db q.cd
theorem aR {i:Nat} {scope:Scope} {cl:List (Str×Addr)} {C:Addr} {s₀:Shared} {H₀:Hp} {fp:List Addr} {N':List Str} (q:NmOk scope x .local) (hd:N'.Nodup) (hN:N'[i]? =some x:=by rfl):PG (X.comp scope cl C s₀ H₀ fp N') (.Name x pos) (MJ i):=
 C7 (X:=X.comp scope cl C s₀ H₀ fp N') hd hN (.inl (lookup_relabel_local q.lk)) (.inr (lookup_relabel_local q.lk))
section
variable {CX:UN} {n:Nat} {f:Addr} {fd:FuncData} {ps:List Str} {sp:Sp} {dvs:List V} {ds:List Value} {E:XK} {id T:String} {r:List V→Hp→VK→Prop}
theorem fJ (F:FnOk X.prog X.w X.K X.mg X.base CX n f fd ps sp) (hr:Room n X.A) (q:NmOk X.env.scope x .globalImplicit) (hm:X.mg x=some (.ref f)) (hk:PySem.W.keepIn X.K (.ref f)=true) (hb:Binds X.K fd ps ds) (hd:Vals dvs ds) (hx:N9 CX X E)
 (ha:PA X (e::es) t) (he:BB e=true:=by rfl) (hpl:(backTo pos (starEach es X.env)).any (·.1)=false:=by rfl):
 PE X (.Call (.Name x p) (e::es) [] pos) (mI sp dvs E t):=l9 F hr q.lk hm hk hb hd hx ha q.db (DK he) hpl
theorem M8 (hc:DC X (.builtin id) r) (q:NmOk X.env.scope x .globalImplicit) (hm:X.mg x=none) (hv:bootBuiltins x=some (.builtin id)) (ha:PA X (e::es) t)
 (he:BB e=true:=by rfl) (hpl:(backTo pos (starEach es X.env)).any (·.1)=false:=by rfl):PE X (.Call (.Name x p) (e::es) [] pos) (yC r t):=gC hc q.lk hm hv ha q.nn q.db (DK he) hpl
theorem FH (hc:DC X (.type T) r) (q:NmOk X.env.scope x .globalImplicit) (hm:X.mg x=none) (hv:bootBuiltins x=some (.type T)) (ha:PA X (e::es) t)
 (he:BB e=true:=by rfl) (hpl:(backTo pos (starEach es X.env)).any (·.1)=false:=by rfl):PE X (.Call (.Name x p) (e::es) [] pos) (yC r t):=ZS hc q.lk hm hv ha q.nn q.db (DK he) hpl
theorem LA {v:V} {u:Value} (q:NmOk X.env.scope x .globalImplicit) (hm:X.mg x=none) (hv:bootBuiltins x=some u) (r:RelV v u):PE X (.Name x pos) (tC v):=kJ q.lk hm hv r q.nn q.db
theorem SY {v:V} {u:Value} (q:NmOk X.env.scope x .globalImplicit) (hm:X.mg x=some u) (r:RelV v u):PE X (.Name x pos) (tC v):=kK q.lk hm r q.db
end
end
def LE:Expr→Bool
 | .ListComp _ _ _ _=>false
 | .SetComp _ _ _ _=>false
 | .DictComp _ _ _ _ _=>false
 |_=>true
theorem T2 {value:Expr} {tgt:Option Expr} {l:Nat} {env:Env} (h:LE value=true):swapsWith value tgt l env=pure false:=by
 cases value<;>first|rfl|cases h
section
variable {X:Cx}
theorem jS {i:Nat} {x:Str} {e:Expr} {te:TE} {pos pos':Pos} (hN:X.N.Nodup) (hi:X.N[i]? =some x) (hx:sZ X.env.scope x) (he:PE X e te) (hs:LE e=true:=by rfl) (hf:X.fn x=true:=by rfl):
 PS X (.Assign [.Name x pos'] e pos) (j6 te (MJ i)):=sT hN hi hx he (T2 hs) (.inl hf)
theorem dL {e:Expr} {te:TE} {pos:Pos} (he:PE X e te) (hs:LE e=true:=by rfl):PS X (.Expr e pos) (mZ te):=kP he (T2 hs)
end
end L2
namespace L2
open PySem PySem.Spec PyProof.Rows
section
variable {D:Ends} {σ:St} {H:Hp} {Q:VK} {B:Bool→Hp→Prop} {te ta tb tc:TE} {t u:TS} {g:TG} {tt uu:TT} {tr:TA} {r r':R2} {K:PySem.W.Frag}
def TH (ix:List (Option Nat)) (σ τ:St):Prop:=τ.length=ix.length∧∀(k:Nat) v,(tau ix σ)[k]? =some (some v)→τ[k]? =some (some v)
variable {ix:List (Option Nat)}
end
theorem MT {H:Hp} {b p:Addr} {o u:HO} (e:H b=some u) (hp:H p=none):BT H p o b=some u:=by rw[AR (DJ e hp)];exact e
theorem B4 {H:Hp} {p:Addr} (h:H p=none) (o:HO):Same H (BT H p o):=fun b u q=>by rw[AR (DJ q h)];exact q
end L2
namespace L2
open PySem PySem.Spec PyProof.Rows
section
variable {κ:Type} [DecidableEq κ]
def JF (kvs:List (κ×V)) (k:κ):Option V:=(kvs.find? fun kv=>decide (kv.1=k)).map (·.2)
def HM (kvs:List (κ×V)) (k:κ) (v:V):List (κ×V):=
 if(kvs.any fun kv=>decide (kv.1=k))=true then kvs.map (fun kv=>if kv.1=k then(kv.1,v) else kv) else kvs++[(k,v)]
theorem LH {p:κ×V} {r:List (κ×V)} {k:κ} (e:p.1=k):JF (p::r) k=some p.2:=by simp[JF,List.find?_cons,e]
theorem KH {p:κ×V} {r:List (κ×V)} {k:κ} (e:¬p.1=k):JF (p::r) k=JF r k:=by simp[JF,List.find?_cons,e]
theorem TL (k:κ):∀kvs:List (κ×V),(kvs.any fun kv=>decide (kv.1=k))=(JF kvs k).isSome
 |[]=>rfl
 |p::r=>by
  rw[List.any_cons]
  by_cases e:p.1=k
  ·simp only[LH e,decide_eq_true e,Bool.true_or,Option.isSome_some]
  ·rw[KH e,decide_eq_false e,Bool.false_or];exact TL k r
theorem IV (kvs:List (κ×V)) (k:κ) (v:V):(HM kvs k v).length≤kvs.length+1:=by
 unfold HM
 split
 ·rw[List.length_map];omega
 ·rw[List.length_append,List.length_cons,List.length_nil];omega
theorem RelO.isSome_eq {o:Option V} {u:Option Value} (r:RelO o u):o.isSome=u.isSome:=by
 cases o with
 |none=>cases u with
  |none=>rfl
  |some _=>exact(show False from r).elim
 |some _=>cases u with
  |none=>exact(show False from r).elim
  |some _=>rfl
theorem KV.val {kvs:List (κ×V)} {vs:List (κ×Value)} (r:KV kvs vs) (k:κ):RelO (JF kvs k) (valueAt vs k):=by
 unfold KV at r
 induction r with
 |nil=>exact True.intro
 | @cons p q ps qs h t ih=>
   obtain⟨h1,h2⟩:=h
   by_cases e:p.1=k
   ·have e':q.1=k:=h1.symm.trans e
    have b:valueAt (q::qs) k=some q.2:=by simp[valueAt,List.find?_cons,e']
    rw[LH e,b];exact h2
   ·have e':¬q.1=k:=fun z=>e (h1.trans z)
    have b:valueAt (q::qs) k=valueAt qs k:=by simp[valueAt,List.find?_cons,e']
    rw[KH e,b];exact ih
theorem KV.any {kvs:List (κ×V)} {vs:List (κ×Value)} (r:KV kvs vs) (k:κ):(kvs.any fun kv=>decide (kv.1=k))=vs.any fun kv=>decide (kv.1=k):=by
 unfold KV at r
 induction r with
 |nil=>rfl
 |cons h t ih=>rw[List.any_cons,List.any_cons,ih,h.1]
theorem KV.repl {kvs:List (κ×V)} {vs:List (κ×Value)} (r:KV kvs vs) (k:κ) {y:V} {u:Value} (ry:RelV y u):
 KV (kvs.map fun kv=>if kv.1=k then(kv.1,y) else kv) (vs.map fun kv=>if kv.1=k then(kv.1,u) else kv):=by
 unfold KV at r⊢
 induction r with
 |nil=>exact .nil
 | @cons p q ps qs h t ih=>
   rw[List.map_cons,List.map_cons]
   refine .cons ?_ ih
   obtain⟨h1,h2⟩:=h
   by_cases e:p.1=k
   ·rw[if_pos e,if_pos (h1.symm.trans e)];exact⟨h1,ry⟩
   ·rw[if_neg e,if_neg (fun z=>e (h1.trans z))];exact⟨h1,h2⟩
theorem KV.put {kvs:List (κ×V)} {vs:List (κ×Value)} (r:KV kvs vs) (k:κ) {y:V} {u:Value} (ry:RelV y u):KV (HM kvs k y) (stored vs k u):=by
 unfold HM stored
 rw[r.any k]
 by_cases e:(vs.any fun kv=>decide (kv.1=k))=true
 ·rw[if_pos e,if_pos e];exact r.repl k ry
 ·rw[if_neg e,if_neg e];exact Paired.snoc r ⟨rfl,ry⟩
theorem KV.length {kvs:List (κ×V)} {vs:List (κ×Value)} (r:KV kvs vs):kvs.length=vs.length:=Paired.length r
end
theorem MH {P:Program} {w:World} {k:BC} {u:Value} (r:RelV (kV k) u):(BE P w).is k u=true:=by
 cases k with
 |inl i=>obtain⟨t,e⟩:=(show∃t,u=Value.int i t from r);subst e;exact UC P w i t
 |inr x=>obtain⟨t,e⟩:=(show∃t,u=Value.str x t from r);subst e;exact II P w x t
theorem PF {P:Program} {w:World}:∀{ks:List BC} {us:List Value},Vals (ks.map kV) us→ItemsAre (BE P w) ks us
 |[],_,r=>by rw[List.map_nil]at r;cases r;exact .nil
 |k::ks,_,r=>by
  rw[List.map_cons]at r
  cases r with
  |cons h t=>exact .cons (MH h) (PF t)
abbrev KT (H:Hp):List (List BC×V)→List (List BC×Addr×Value)→Prop:=Paired fun p q=>p.1=q.1∧H q.2.1=some (.tup (p.1.map kV))∧RelV p.2 q.2.2
theorem KT.val {H:Hp} {kvs:List (List BC×V)} {xs:List (List BC×Addr×Value)} (r:KT H kvs xs) (k:List BC):RelO (JF kvs k) ((atKey xs k).map (·.2)):=by
 induction r with
 |nil=>exact True.intro
 | @cons p q ps qs h t ih=>
   obtain⟨h1,_,h2⟩:=h
   by_cases e:p.1=k
   ·have e':q.1=k:=h1.symm.trans e
    have b:atKey (q::qs) k=some q.2:=by simp[atKey,List.find?_cons,e']
    rw[LH e,b];exact h2
   ·have e':¬q.1=k:=fun z=>e (h1.trans z)
    have b:atKey (q::qs) k=atKey qs k:=by simp[atKey,List.find?_cons,e']
    rw[KH e,b];exact ih
theorem KT.repl {H:Hp} {kvs:List (List BC×V)} {xs:List (List BC×Addr×Value)} (r:KT H kvs xs) (k:List BC) {y:V} {u:Value} (ry:RelV y u):
 KT H (kvs.map fun kv=>if kv.1=k then(kv.1,y) else kv) (xs.map (putAt k u)):=by
 induction r with
 |nil=>exact .nil
 | @cons p q ps qs h t ih=>
   rw[List.map_cons,List.map_cons]
   refine .cons ?_ ih
   obtain⟨h1,h2,h3⟩:=h
   unfold putAt
   by_cases e:p.1=k
   ·rw[if_pos e,if_pos (h1.symm.trans e)];exact⟨h1,h2,ry⟩
   ·rw[if_neg e,if_neg (fun z=>e (h1.trans z))];exact⟨h1,h2,h3⟩
theorem KT.put {H:Hp} {kvs:List (List BC×V)} {xs:List (List BC×Addr×Value)} (r:KT H kvs xs) (k:List BC) {b:Addr} {y:V} {u:Value} (hb:H b=some (.tup (k.map kV))) (ry:RelV y u):
 KT H (HM kvs k y) (storedH xs k b u):=by
 have e:(kvs.any fun kv=>decide (kv.1=k))=(atKey xs k).isSome:=by
  rw[TL,(r.val k).isSome_eq,Option.isSome_map]
 unfold HM storedH
 rw[e]
 by_cases q:(atKey xs k).isSome=true
 ·rw[if_pos q,if_pos q];exact r.repl k ry
 ·rw[if_neg q,if_neg q];exact Paired.snoc r ⟨rfl,hb,ry⟩
theorem KT.keeps {H H':Hp} {kvs:List (List BC×V)} {xs:List (List BC×Addr×Value)} (r:KT H kvs xs) (ht:∀b ys,H b=some (.tup ys)→H' b=some (.tup ys)):KT H' kvs xs:=
 Paired.mapP r fun _ _ z=>⟨z.1,ht _ _ z.2.1,z.2.2⟩
section
variable {P:Program} {w:World} {H:Hp} {h:Heap} {a:Addr}
theorem mD {u:HO} (ok:HOk P w H h) (e:Rd H a u):ObjOk P w H h a u:=e.ok ok
theorem JM {kvs:List (BC×V)} (ok:HOk P w H h) (e:Rd H a (.dK kvs)):kvs.length≤sizeLine∧(a==sysModules)=false∧∃vs,KV kvs vs∧h.DictOf (BE P w) a vs:=
 show ObjOk P w H h a (.dK kvs) from mD ok e
theorem eS {kvs:List (BC×V)} (ok:HOk P w H h) (e:H a=some (.dK kvs)):kvs.length≤sizeLine∧(a==sysModules)=false∧∃vs,KV kvs vs∧h.DictOf (BE P w) a vs:=JM ok (.inl e)
theorem NM {ks:List BC} (ok:HOk P w H h) (e:H a=some (.tup (ks.map kV))):(tupleKind (BE P w)).is h ks a:=by
 obtain⟨_,its,r,o,h1,h2,n,h3⟩:=(show ObjOk P w H h a (.tup (ks.map kV)) from ok a _ e)
 exact⟨o,its.toArray,n,h1,h2.1,h3,by simpa using PF r⟩
theorem SN {kvs:List (List BC×V)} (ok:HOk P w H h) (e:Rd H a (.dT kvs)):kvs.length≤sizeLine∧(a==sysModules)=false∧
 ∃xs,KT H kvs xs∧h.DictOfH (tupleKind (BE P w)) a xs:=by
 obtain⟨z,y,xs,r,o,es,ep,h1,h2,h3,h4,h5⟩:=(show ObjOk P w H h a (.dT kvs) from mD ok e)
 refine⟨z,y,xs,r,o,es,ep,h1,h2,h3,h4,fun x hx=> ?_,h5⟩
 have all:∀{l:List (List BC×V)} {m:List (List BC×Addr×Value)},KT H l m→∀x∈m,(tupleKind (BE P w)).is h x.1 x.2.1:=by
  intro l m q
  induction q with
  |nil=>intro x hx;exact nomatch hx
  | @cons p q ps qs hq t ih=>
    intro x hx
    rcases List.mem_cons.mp hx with e|hx
    ·subst e
     exact NM ok (by rw[←hq.1];exact hq.2.1)
    ·exact ih x hx
 exact all r x hx
theorem wZ {kvs:List (List BC×V)} (ok:HOk P w H h) (e:H a=some (.dT kvs)):kvs.length≤sizeLine∧(a==sysModules)=false∧
 ∃xs,KT H kvs xs∧h.DictOfH (tupleKind (BE P w)) a xs:=SN ok (.inl e)
end
def V3 (H:Hp) (a:Addr) (y:V) (r:Option V):Prop:=
 (∃kvs k,Rd H a (.dK kvs)∧y=kV k∧r=JF kvs k)∨∃kvs k b,Rd H a (.dT kvs)∧y= .ref b∧H b=some (.tup (k.map kV))∧r=JF kvs k
def DPut (H:Hp) (a:Addr) (y v:V) (H':Hp):Prop:=
 (∃kvs k,H a=some (.dK kvs)∧y=kV k∧kvs.length<sizeLine∧H'=BT H a (.dK (HM kvs k v)))∨
 ∃kvs k b,H a=some (.dT kvs)∧y= .ref b∧H b=some (.tup (k.map kV))∧kvs.length<sizeLine∧H'=BT H a (.dT (HM kvs k v))
theorem DPut.k {H:Hp} {a:Addr} {kvs:List (BC×V)} {k:BC} {v:V} (e:H a=some (.dK kvs)) (hl:kvs.length<sizeLine):DPut H a (kV k) v (BT H a (.dK (HM kvs k v))):= .inl ⟨kvs,k,e,rfl,hl,rfl⟩
section
variable {X:Cx} {pins:List (Addr×Obj)} {σ:St} {H:Hp} {s:Shared} {a:Addr} {y v:V} {u r:Value} {o:Option V} {A:Around} {E:Value→Shared→Prop}
theorem Inv.big (I:Inv X pins σ H s):sysModules<s.heap.objs.size:=by
 have h:mainGlobals<s.heap.objs.size:=(I.mod.glob.keeps I.bk).lt
 exact Nat.lt_trans (by decide) h
theorem aI {Q:Value→Shared→Prop} (hu:A.units+1<cLine) (I:Inv X pins σ H s) (g:V3 H a y (some v)) (ry:RelV y u) (h:∀w' s',Inv X pins σ H s'→RelV v w'→Q w' s'):
 wpAny (model X.prog X.w) A (getItem (.ref a) u) Q E s:=by
 rcases g with⟨kvs,k,e,ey,l⟩|⟨kvs,k,b,e,ey,eb,l⟩
 ·subst ey
  obtain⟨z,hd,vs,rel,dd⟩:=JM I.hok e
  obtain⟨w',hw,rw'⟩:=RelO.some_of (v:=v) (o:=valueAt vs k) (by rw[l];exact rel.val k)
  exact wpAny_getItem_of (MH ry) dd.mapOf hw (h w' _ (I.tok _) rw')
 ·subst ey
  cases(show u=Value.ref b from ry)
  obtain⟨z,hd,xs,rel,dd⟩:=SN I.hok e
  obtain⟨w',hw,rw'⟩:=RelO.some_of (v:=v) (o:=(atKey xs k).map (·.2)) (by rw[l];exact rel.val k)
  obtain⟨p,hp,hp2⟩:=Option.map_eq_some_iff.mp hw
  refine wpAny_getItem_heap (tupleKind_room_in1 hu) (NM I.hok eb) dd hp ?_
  rw[hp2]
  exact h w' _ (I.tok _) rw'
theorem A1E {Q:Value→Shared→Prop} (hu:A.units+1<cLine) (I:Inv X pins σ H s) (g:V3 H a y o) (ry:RelV y u) (h:∀s',Inv X pins σ H s'→Q (.bool o.isSome) s'):
 wpAny (model X.prog X.w) A (compareOp .In u (.ref a)) Q E s:=by
 rcases g with⟨kvs,k,e,ey,l⟩|⟨kvs,k,b,e,ey,eb,l⟩
 ·subst ey
  obtain⟨z,hd,vs,rel,dd⟩:=JM I.hok e
  refine wpAny_in_of (MH ry) hd dd.mapOf ?_
  rw[←(rel.val k).isSome_eq,←l]
  exact h _ (I.tok _)
 ·subst ey
  cases(show u=Value.ref b from ry)
  obtain⟨z,hd,xs,rel,dd⟩:=SN I.hok e
  refine wpAny_in_heap (tupleKind_room_in1 hu) (NM I.hok eb) hd dd ?_
  have q:=(rel.val k).isSome_eq
  rw[Option.isSome_map]at q
  rw[←q,←l]
  exact h _ (I.tok _)
theorem iG {Q:Value→Shared→Prop} (hu:A.units+1<cLine) (I:Inv X pins σ H s) (g:V3 H a y o) (ry:RelV y u) (h:∀s',Inv X pins σ H s'→Q (.bool (!o.isSome)) s'):
 wpAny (model X.prog X.w) A (compareOp .NotIn u (.ref a)) Q E s:=by
 rcases g with⟨kvs,k,e,ey,l⟩|⟨kvs,k,b,e,ey,eb,l⟩
 ·subst ey
  obtain⟨z,hd,vs,rel,dd⟩:=JM I.hok e
  refine wpAny_notIn_of (MH ry) hd dd.mapOf ?_
  rw[←(rel.val k).isSome_eq,←l]
  exact h _ (I.tok _)
 ·subst ey
  cases(show u=Value.ref b from ry)
  obtain⟨z,hd,xs,rel,dd⟩:=SN I.hok e
  refine wpAny_notIn_heap (tupleKind_room_in1 hu) (NM I.hok eb) hd dd ?_
  have q:=(rel.val k).isSome_eq
  rw[Option.isSome_map]at q
  rw[←q,←l]
  exact h _ (I.tok _)
theorem S5 {h':Heap} {t':Nat} {ob:HO} (I:Inv X pins σ H s) (mu:vW (H a)) (hs:Heap.SameBut a s.heap h') (he:∃q,h'.get? a=some q) (new:ObjOk X.prog X.w (BT H a ob) h' a ob):
 Inv X pins σ (BT H a ob) {s with heap:=h',toks:=t'}:=
 I.write (x:=a) (e:=a) mu (.inl rfl) (fun b q hb z=>(hs.2 b hb).trans z) he new
theorem WC {P:Program} {w:World} {H':Hp} {h':Heap} {kvs:List (BC×V)} {vs:List (BC×Value)} (z:kvs.length≤sizeLine) (hd:(a==sysModules)=false) (rel:KV kvs vs) (dd:h'.DictOf (BE P w) a vs):
 ObjOk P w H' h' a (.dK kvs):=⟨z,hd,vs,rel,dd⟩
theorem YZ {H':Hp} {Q:Unit→Shared→Prop} (hu:A.units+1<cLine) (I:Inv X pins σ H s) (g:DPut H a y v H') (ry:RelV y u) (rv:RelV v r) (h:∀s',Inv X pins σ H' s'→Q () s'):
 wpAny (model X.prog X.w) A (setItem (.ref a) u r) Q E s:=by
 rcases g with⟨kvs,k,e,ey,l,eH⟩|⟨kvs,k,b,e,ey,eb,l,eH⟩
 ·subst ey eH
  obtain⟨z,hd,vs,rel,dd⟩:=eS I.hok e
  have hz:vs.length≤sizeLine:=by rw[←rel.length];exact z
  have hl:(HM kvs k v).length≤sizeLine:=by have:=IV kvs k v;omega
  refine wpAny_setItem_pairs (hsz:=hz) (MH ry) dd fun h' dd' hs=>h _ ?_
  have he:∃q,h'.get? a=some q:=let⟨q,_,_,hq,_⟩:=dd';⟨q,hq⟩
  exact S5 I (by rw[e];exact True.intro) hs he (WC hl hd (rel.put k rv) dd')
 ·subst ey eH
  cases(show u=Value.ref b from ry)
  obtain⟨z,hd,xs,rel,dd⟩:=wZ I.hok e
  have hz:xs.length≤sizeLine:=by rw[←Paired.length rel];exact z
  have hl:(HM kvs k v).length≤sizeLine:=by have:=IV kvs k v;omega
  refine wpAny_setItem_heap (hsz:=hz) (tupleKind_room_in1 hu) (NM I.hok eb) dd fun h' dd' hs=>h _ ?_
  obtain⟨q,es,ep,hq,h2,h3,h4,_,h5⟩:=dd'
  refine S5 I (by rw[e];exact True.intro) hs ⟨q,hq⟩ ⟨hl,hd,_,(rel.put k eb rv).keeps fun c ys ec=> ?_,q,es,ep,hq,h2,h3,h4,h5⟩
  rw[AR (xA ec e (fun z=>nomatch z))]
  exact ec
end
section
variable {X:Cx} {pins:List (Addr×Obj)} {σ:St} {H:Hp} {s:Shared} {a:Addr} {kvs:List (BC×V)} {k:BC} {u:Value} {A:Around} {E:Value→Shared→Prop}
theorem uD {Q:Value→Shared→Prop} (I:Inv X pins σ H s) (e:Rd H a (.dK kvs)) (h:∀t s',Inv X pins σ H s'→Q (.int kvs.length t) s'):wpAny (model X.prog X.w) A (call (.builtin "len") [.ref a]) Q E s:=by
 obtain⟨z,hd,vs,rel,dd⟩:=JM I.hok e
 refine call_len_dict hd dd (by rw[←rel.length];rw[sizeLine_eq]at z;omega) ?_
 rw[←rel.length]
 exact h _ _ (I.tok _)
end
theorem TF {X:Cx} {pins:List (Addr×Obj)} {σ:St} {H:Hp} {s:Shared} {a:Addr} {y:V} {o:Option V} (I:Inv X pins σ H s) (g:V3 H a y o):s.TypeIs (.ref a) "dict":=by
 rcases g with⟨kvs,k,e,_,_⟩|⟨kvs,k,b,e,_,_,_⟩
 ·obtain⟨_,_,vs,_,dd⟩:=JM I.hok e
  exact dd.typeIs
 ·obtain⟨_,_,xs,_,dd⟩:=SN I.hok e
  exact dd.typeIs
def xZ (td ty tv:TE):TS:=fun D σ H=>tv σ H fun v H1=>td σ H1 fun x H2=>ty σ H2 fun y H3=>∃a H4,x= .ref a∧DPut H3 a y v H4∧D.nx σ H4
section
variable {X:Cx} {o i e value:Expr} {pos pos' tpos:Pos} {td ty tv:TE}
theorem jC (hu:X.A.units+1<cLine) (ho:PE X o td) (hi:PE X i ty) (hv:PE X value tv) (hs:swapsWith value (some (.Subscript o i pos')) pos.line X.env=pure false):
 PS X (.Assign [.Subscript o i pos'] value pos) (xZ td ty tv):=by
 intro pins s σ H D I h
 refine wpAny_Assign_Subscript (thn (hv pins s σ H _ I h) fun r s1 ⟨v,H1,I1,rv,q1⟩=>thn (ho pins s1 σ H1 _ I1 q1) fun u s2 ⟨x,H2,I2,rx,q2⟩=>thn (hi pins s2 σ H2 _ I2 q2) fun iv s3 ⟨y,H3,I3,ry,a,H4,ex,g,q3⟩=> ?_) hs
 subst ex
 obtain rfl:u=Value.ref a:=rx
 exact YZ hu I3 g ry rv fun s4 I4=>⟨σ,H4,I4,q3⟩
end
theorem UA {P:Program} {w:World} {H:Hp} (h:Heap) (hb:sysModules<h.objs.size):ObjOk P w H (h.push {cls:= .type "dict",data:= .dict #[]}) h.objs.size (.dK []):=
 ⟨Nat.zero_le _,beq_eq_false_iff_ne.mpr (Ne.symm (Nat.ne_of_lt hb)),[], .nil,Heap.DictOf.new h⟩
def sP:TE:=fun _ H Q=>∀p,H p=none→Q (.ref p) (BT H p (.dK []))
section
variable {X:Cx} {pos:Pos}
theorem cK:PE X (.Dict [] [] pos) sP:=fun pins s σ H Q I h=>
 wpAny_Dict_empty ⟨.ref s.heap.objs.size,_,I.laid (a:=s.heap.objs.size) (o:= .dK []) (t':=s.toks) (fun _ _ q=>Heap.get?_push_of_some _ q) (Nat.le_refl _) (UA s.heap I.big),rfl,h _ (I.hok.fresh (Nat.le_refl _))⟩
end
abbrev VV:List (V×V)→List (Value×Value)→Prop:=Paired fun p q=>RelV p.1 q.1∧RelV p.2 q.2
def D2 (kvs more:List (BC×V)):List (BC×V):=more.foldl (fun acc kv=>HM acc kv.1 kv.2) kvs
theorem KV.merge:∀{more:List (BC×V)} {rs:List (BC×Value)} {kvs:List (BC×V)} {vs:List (BC×Value)},KV more rs→KV kvs vs→KV (D2 kvs more) (merged vs rs):=by
 intro more rs kvs vs r
 unfold KV at r
 induction r generalizing kvs vs with
 |nil=>intro q;exact q
 | @cons p q ps qs h t ih=>
   intro r0
   have e:KV (HM kvs p.1 p.2) (stored vs q.1 q.2):=by
    have:=r0.put p.1 h.2
    rw[←h.1];exact this
   exact ih e
theorem GE:∀(more kvs:List (BC×V)),(D2 kvs more).length≤kvs.length+more.length
 |[],kvs=>by show kvs.length≤kvs.length+0;omega
 |p::r,kvs=>by
  have h1:=GE r (HM kvs p.1 p.2)
  have h2:=IV kvs p.1 p.2
  show(D2 (HM kvs p.1 p.2) r).length≤_
  rw[List.length_cons];omega
theorem O9 {P:Program} {w:World}:∀{kvs:List (BC×V)} {ws:List (Value×Value)},VV (kvs.map fun kv=>(kV kv.1,kv.2)) ws→∃rs,Carries (BE P w) ws rs∧KV kvs rs
 |[],_,r=>by rw[List.map_nil]at r;cases r;exact⟨[],True.intro, .nil⟩
 |p::kvs,_,r=>by
  rw[List.map_cons]at r
  cases r with
  | @cons a b as bs h t=>
    obtain⟨rs,c,q⟩:=O9 (P:=P) (w:=w) t
    obtain⟨b1,b2⟩:=b
    exact⟨(p.1,b2)::rs,⟨MH h.1,rfl,c⟩, .cons ⟨rfl,h.2⟩ q⟩
end L2
namespace L2
open PySem PySem.Spec PyProof.Rows
section
open PySem.SeqAt
variable {X:Cx} {pins:List (Addr×Obj)} {σ:St} {H:Hp} {s:Shared}
theorem PZ (K:PySem.W.Frag) {t:String} (ht:t= "NoneType" ∨t= "bool" ∨t= "int" ∨t= "str" ∨t= "list" ∨t= "tuple" ∨t= "dict"):∀{cs:List String},(∀c∈cs,c= "str" ∨c= "int" ∨c= "bool" ∨c= "tuple" ∨c= "list")→
 PySem.W.kitAny K (.type t) (cs.map Value.type)=some (cs.any (DX t))
 |[],_=>rfl
 |c::r,h=>by
  have e:=Q4 K ht (h c List.mem_cons_self)
  have ih:=PZ K ht (cs:=r) fun c' hc=>h c' (List.mem_cons_of_mem _ hc)
  rw[List.map_cons,List.any_cons]
  unfold PySem.W.kitAny
  rw[e]
  cases DX t c with
  |true=>rfl
  |false=>simpa using ih
theorem jF {cs:List String}:∀{us:List Value},Vals (cs.map V.ty) us→us=cs.map Value.type:=by
 induction cs with
 |nil=>intro us r;cases r;rfl
 |cons b bs ih=>intro us r;cases r with|cons r1 r2=>rw[ih r2,show _=Value.type b from r1];rfl
end
theorem AC {A:Around} {k:Nat} (hr:Room k A):A.units+151<cLine:=by
 have:=hr.un
 omega
end L2
namespace L2
open PySem PySem.Spec PyProof.Rows HT
section
variable {prog:Program} {w:World} {A:Around} {E:Value→Shared→Prop} {s:Shared}
theorem U6 {t sl:Addr} {items:Array Value} {vl vu:Value} {lo hi:Option Int} {Q:Value→Shared→Prop} (ht:IsTup s.heap t items) (hs:s.heap.IsSliceOf sl vl vu .none) (pl:IsPart vl lo) (pu:IsPart vu hi)
 (hw:CY items.size 0 lo=0∧CY items.size items.size hi=items.size) (h:Q (.ref t) s):wpAny (model prog w) A (getItem (.ref t) (.ref sl)) Q E s:=by
 have hTs:s.TypeIs (.ref sl) "slice":=by
  obtain⟨os,hos,hcs,_⟩:=id hs
  exact⟨os,hos,hcs⟩
 unfold getItem
 try with_reducible refine wpAny_holding ?_
 first|refine wpAny_bind (wpAny_pure ?_)|skip
 refine wpAny_bind (wpAny_sequenceKey ht.typeIs (by decide) ?_)
 refine wpAny_bind (wpAny_callSpecial?_slot (name:=Str.ofString "__getitem__") ht.typeIs PyProof.Rows.slot_tuple_getitem
  (wpAny_call_entry PyProof.Rows.slot_tuple_getitem ht.typeIs entry_tuple_getitem ?_ (args_tuple_getitem _ _)))
 show wpAny _ _ (Builtin.Tuple.tupleItemsOf (.ref t)>>=_) _ _ s
 refine wpAny_bind (tupleItemsOf_ ht ?_)
 refine wpAny_bind (wpAny_typeOf hTs ?_)
 rw[if_pos (by decide)]
 refine wpAny_bind (GM hs pl pu ?_)
 have yes:(((CY items.size 0 lo:Nat):Int)==0&&(1:Int)==1&&(CY items.size items.size hi-CY items.size 0 lo)==items.size)=true:=by
  rw[hw.1,hw.2];simp
 show wpAny _ _ (if(((CY items.size 0 lo:Nat):Int)==0&&(1:Int)==1&&(CY items.size items.size hi-CY items.size 0 lo)==items.size)=true then _ else _) _ _ s
 rw[if_pos yes]
 refine wpAny_bind (m:=Builtin.Tuple.tupleIsExact _) (wpAny_bind (wpAny_typeOf ht.typeIs (wpAny_pure ?_)))
 show wpAny _ _ (if(Value.type "tuple"==Value.type "tuple")=true then _ else _) _ _ s
 rw[if_pos (by decide)]
 first
  |exact wpAny_bind (wpAny_pure (wpAny_pure ⟨_,rfl,wpAny_pure h⟩))
  |exact wpAny_bind (wpAny_rule (wpAny_pure ⟨_,rfl,wpAny_pure h⟩))
end
end L2
namespace L2
open PySem PySem.Spec PyProof.Rows
section
variable {X:Cx} {a b c e:Expr} {ta tb tc te:TE} {pos:Pos}
def jD (r r' r'':R2) (ta tb tc td:TE):TE:=fun σ H Q=>ta σ H fun x H1=>tb σ H1 fun y H2=>r x y H2 fun z H3=>∃k,z= .bl k∧
 (if k=true then tc σ H3 fun w H4=>r' y w H4 fun z' H5=>∃k',z'= .bl k'∧(if k'=true then td σ H5 fun u H6=>r'' w u H6 Q else Q (.bl false) H5) else Q (.bl false) H3)
theorem ZA {op op' op'':CmpOp} {r r' r'':R2} (ho:OpR X (compareOp op) r) (ho':OpR X (compareOp op') r') (ho'':OpR X (compareOp op'') r'') (ha:PE X a ta) (hb:PE X b tb) (hc:PE X c tc) (he:PE X e te)
 (hm:lastMarks [op,op',op''] [b,c,e]=false:=by with_unfolding_all rfl):PE X (.Compare a [op,op',op''] [b,c,e] pos) (jD r r' r'' ta tb tc te):=by
 intro pins s σ H Q I h
 refine Compare_chain (thn (ha pins s σ H _ I h) fun v s1 ⟨x,H1,I1,r1,q1⟩=>chain_link (thn (hb pins s1 σ H1 _ I1 q1) fun u s2 ⟨y,H2,I2,r2,q2⟩=>
  thn (ho pins s2 σ H2 x y v u _ I2 r1 r2 q2) fun d s3 ⟨z,H3,I3,r3,k,e3,q3⟩=> ?_)) hm
 subst e3
 cases r3
 refine wpAny_truthy_bool ?_
 cases k with
 |false=>exact ite_ff ⟨.bl false,H3,I3,rfl,q3⟩
 |true=>
  refine ite_tt (chain_link (thn (hc pins s3 σ H3 _ I3 q3) fun w' s4 ⟨z',H4,I4,r4,q4⟩=>thn (ho' pins s4 σ H4 y z' u w' _ I4 r2 r4 q4) fun d5 s5 ⟨z5,H5,I5,r5,k5,e5,q5⟩=> ?_))
  subst e5
  cases r5
  refine wpAny_truthy_bool ?_
  cases k5 with
  |false=>exact ite_ff ⟨.bl false,H5,I5,rfl,q5⟩
  |true=>exact ite_tt (chain_last (thn (he pins s5 σ H5 _ I5 q5) fun w6 s6 ⟨z6,H6,I6,r6,q6⟩=>ho'' pins s6 σ H6 z' z6 w' w6 Q I6 r4 r6 q6))
end
end L2
namespace L2
open PySem PySem.Spec PyProof.Rows
inductive M where
 |non|bl (b:Bool)|int (i:Int)|str (x:Str)|ty (n:String)
 |tup (xs:List M)|lst (xs:List M)|dct (ks:List BC) (xs:List M)|ref (k:Nat)|scr (ns:List Int)
inductive MO where
 |lst (xs:List M)|dct (kvs:List (BC×M))
abbrev AA:=List MO
abbrev BJ:=List (Option M)
abbrev FE:=BJ→AA→Option (M×AA)
abbrev FA:=BJ→AA→Option (List M×AA)
abbrev FT:=BJ→AA→Option (Bool×AA)
abbrev FF:=List M→AA→Option (M×AA)
inductive Out where
 |nx (ρ:BJ)|bk (ρ:BJ)|ct (ρ:BJ)|rt (d:M)
abbrev FS:=BJ→AA→Option (Out×AA)
abbrev FG:=M→BJ→AA→Option (BJ×AA)
structure Pl where
 a:List Addr
 g:List Addr
def Pl.no (α:Pl) (b:Addr):Prop:=b∉α.a∧b∉α.g
def Pl.add (α:Pl) (b:Addr):Pl:=⟨α.a++[b],α.g⟩
def Pl.hide (α:Pl) (b:Addr):Pl:=⟨α.a,b::α.g⟩
def TupAt (K:PySem.W.Frag) (α:Pl) (H:Hp) (a:Addr) (vs:List V):Prop:=
 (Rd H a (.tup vs)∧α.no a)∨
   ∃(o:Obj) (its:Array Value) (n:Nat),K.lookup a=some o∧rW o∧o.data= .seq its n∧its.size≤sizeLine∧Vals vs its.toList
def ScrAt (K:PySem.W.Frag) (α:Pl) (H:Hp) (a:Addr) (vs:List V):Prop:=
 (Rd H a (.lst vs)∧α.no a)∨
   ∃(o:Obj) (its:Array Value) (n:Nat),K.lookup a=some o∧o.cls= .type "list"∧o.dict=none∧o.data= .seq its n∧its.size≤sizeLine∧Vals vs its.toList
mutual
def RepA (K:PySem.W.Frag) (α:Pl) (H:Hp):M→V→Prop
 | .non,v=>v= .non
 | .bl b,v=>v= .bl b
 | .int i,v=>v= .int i
 | .str x,v=>v= .str x
 | .ty n,v=>v= .ty n
 | .tup xs,v=>∃a vs,v= .ref a∧TupAt K α H a vs∧RepAs K α H xs vs
 | .scr ns,v=>∃a,v= .ref a∧ScrAt K α H a (ns.map V.int)
 | .lst xs,v=>∃a vs,v= .ref a∧α.no a∧H a=some (.lst vs)∧RepAs K α H xs vs
 | .dct ks xs,v=>∃a ws,v= .ref a∧α.no a∧Rd H a (.dK ws)∧ws.map (·.1)=ks∧RepAs K α H xs (ws.map (·.2))
 | .ref k,v=>∃a,α.a[k]? =some a∧v= .ref a
def RepAs (K:PySem.W.Frag) (α:Pl) (H:Hp):List M→List V→Prop
 |[],vs=>vs=[]
 |x::xs,vs=>∃v r,vs=v::r∧RepA K α H x v∧RepAs K α H xs r
end
def fS (K:PySem.W.Frag) (α:Pl) (H:Hp):MO→Addr→Prop
 | .lst xs,a=>∃vs,H a=some (.lst vs)∧RepAs K α H xs vs
 | .dct kvs,a=>∃ws,H a=some (.dK ws)∧ws.map (·.1)=kvs.map (·.1)∧RepAs K α H (kvs.map (·.2)) (ws.map (·.2))
structure Rl (K:PySem.W.Frag) (α:Pl) (h:AA) (H:Hp):Prop where
 len:α.a.length=h.length
 nd:α.a.Nodup
 ap:∀b∈α.a,b∉α.g
 hid:∀b∈α.g,∃o,H b=some o
 obj:∀(k:Nat) (a:Addr) (o:MO),α.a[k]? =some a→h[k]? =some o→fS K α H o a
def uQ:HO→Prop
 | .dK _=>False
 |_=>True
structure Ev (α α':Pl) (H H':Hp):Prop where
 pre:α'.g=α.g∧∃β,α'.a=α.a++β∧∀b∈β,H b=none
 keep:∀b o,H b=some o→(uQ o∨b∈α.g)→b∉α.a→H' b=some o
 keepD:∀b ws,H b=some (.dK ws)→b∉α.a→Rd H' b (.dK ws)
 dom:∀b,H' b=none→H b=none
def REnv (K:PySem.W.Frag) (α:Pl) (H:Hp) (ρ:BJ) (σ:St):Prop:=
 ρ.length=σ.length∧∀(i:Nat) (m:M),ρ[i]? =some (some m)→∃v,σ[i]? =some (some v)∧RepA K α H m v
theorem Ev.mkk {α α':Pl} {H H':Hp} (pre:α'.g=α.g∧∃β,α'.a=α.a++β∧∀b∈β,H b=none) (keep:∀b o,H b=some o→b∉α.a→H' b=some o) (dom:∀b,H' b=none→H b=none):Ev α α' H H':=
 ⟨pre,fun b o h _ n=>keep b o h n,fun b ws h n=> .inl (keep b _ h n),dom⟩
theorem Ev.refl {α:Pl} {H:Hp}:Ev α α H H:= .mkk ⟨rfl,[],by simp,by simp⟩ (fun _ _ e _=>e) (fun _ e=>e)
theorem Ev.notA {α α':Pl} {H H':Hp} (e:Ev α α' H H') {b:Addr} {o:HO} (hb:H b=some o) (n:b∉α.a):b∉α'.a:=by
 obtain⟨_,β,e1,f⟩:=e.pre
 intro h
 rw[e1]at h
 rcases List.mem_append.mp h with h|h
 ·exact n h
 ·rw[f b h]at hb;cases hb
theorem Ev.notMem {α α':Pl} {H H':Hp} (e:Ev α α' H H') {b:Addr} {o:HO} (hb:H b=some o) (n:α.no b):α'.no b:=⟨e.notA hb n.1,by rw[e.pre.1];exact n.2⟩
theorem Ev.trans {α α1 α2:Pl} {H H1 H2:Hp} (e:Ev α α1 H H1) (f:Ev α1 α2 H1 H2):Ev α α2 H H2:=by
 refine⟨?_,fun b o hb q n=>f.keep b o (e.keep b o hb q n) (q.imp id fun z=>by rw[e.pre.1];exact z) (e.notA hb n),fun b ws hb n=> ?_,fun b hb=>e.dom b (f.dom b hb)⟩
 rotate_left
 ·rcases e.keepD b ws hb n with z|⟨o,z⟩
  ·exact f.keepD b ws z (e.notA hb n)
  ·exact .inr ⟨o,f.keep b _ z (.inl trivial) (e.notA hb n)⟩
 obtain⟨g1,β,e1,f1⟩:=e.pre
 obtain⟨g2,γ,e2,f2⟩:=f.pre
 refine⟨g2.trans g1,β++γ,by rw[e2,e1,List.append_assoc],fun b hb=> ?_⟩
 rcases List.mem_append.mp hb with hb|hb
 ·exact f1 b hb
 ·exact e.dom b (f2 b hb)
theorem Ev.same {α:Pl} {H H':Hp} (s:Same H H'):Ev α α H H':= .mkk ⟨rfl,[],by simp,by simp⟩ (fun b o e _=>s b o e) (fun b e=>by
 cases h:H b with
 |none=>rfl
 |some o=>rw[s b o h]at e;cases e)
theorem Ev.rd {α α':Pl} {H H':Hp} (e:Ev α α' H H') {a:Addr} {u:HO} (r:Rd H a u) (n:α.no a) (hd:uQ u):Rd H' a u∧α'.no a:=by
 rcases r with r|⟨o,r⟩
 ·exact⟨.inl (e.keep _ _ r (.inl hd) n.1),e.notMem r n⟩
 ·exact⟨.inr ⟨o,e.keep _ _ r (.inl trivial) n.1⟩,e.notMem r n⟩
theorem Ev.rdD {α α':Pl} {H H':Hp} (e:Ev α α' H H') {a:Addr} {ws:List (BC×V)} (r:Rd H a (.dK ws)) (n:α.no a):Rd H' a (.dK ws)∧α'.no a:=by
 rcases r with r|⟨o,r⟩
 ·exact⟨e.keepD _ _ r n.1,e.notMem r n⟩
 ·exact⟨.inr ⟨o,e.keep _ _ r (.inl trivial) n.1⟩,e.notMem r n⟩
theorem Ev.ix {α α':Pl} {H H':Hp} (e:Ev α α' H H') {k:Nat} {a:Addr} (h:α.a[k]? =some a):α'.a[k]? =some a:=by
 obtain⟨_,β,e1,_⟩:=e.pre
 have hk:k<α.a.length:=(List.getElem?_eq_some_iff.mp h).1
 rw[e1,List.getElem?_append_left hk];exact h
theorem TupAt.ev {K:PySem.W.Frag} {α α':Pl} {H H':Hp} (e:Ev α α' H H') {a:Addr} {vs:List V} (t:TupAt K α H a vs):TupAt K α' H' a vs:=by
 rcases t with⟨r,n⟩|t
 ·exact .inl (e.rd r n trivial)
 ·exact .inr t
theorem TupAt.sq {K:PySem.W.Frag} {α:Pl} {H:Hp} {a:Addr} {vs:List V} (t:TupAt K α H a vs):GO K H a vs:=by
 rcases t with⟨r,_⟩|t
 ·exact .inl r
 ·exact .inr t
theorem ScrAt.ev {K:PySem.W.Frag} {α α':Pl} {H H':Hp} (e:Ev α α' H H') {a:Addr} {vs:List V} (t:ScrAt K α H a vs):ScrAt K α' H' a vs:=by
 rcases t with⟨r,n⟩|t
 ·exact .inl (e.rd r n trivial)
 ·exact .inr t
theorem ScrAt.sq {K:PySem.W.Frag} {α:Pl} {H:Hp} {a:Addr} {vs:List V} (t:ScrAt K α H a vs):SqL K H a vs:=by
 rcases t with⟨r,_⟩|t
 ·exact .inl r
 ·exact .inr t
mutual
theorem RepA.ev {K:PySem.W.Frag} {α α':Pl} {H H':Hp} (e:Ev α α' H H'):∀{m:M} {v:V},RepA K α H m v→RepA K α' H' m v
 | .non,_,h=>h
 | .bl _,_,h=>h
 | .int _,_,h=>h
 | .str _,_,h=>h
 | .ty _,_,h=>h
 | .tup xs,_,⟨a,vs,e1,t,r⟩=>⟨a,vs,e1,t.ev e,RepAs.ev e r⟩
 | .scr ns,_,⟨a,e1,t⟩=>⟨a,e1,t.ev e⟩
 | .lst xs,_,⟨a,vs,e1,n,t,r⟩=>⟨a,vs,e1,e.notMem t n,e.keep _ _ t (.inl trivial) n.1,RepAs.ev e r⟩
 | .dct ks xs,_,⟨a,ws,e1,n,t,ek,r⟩=>⟨a,ws,e1,(e.rdD t n).2,(e.rdD t n).1,ek,RepAs.ev e r⟩
 | .ref k,_,⟨a,h,e1⟩=>⟨a,e.ix h,e1⟩
theorem RepAs.ev {K:PySem.W.Frag} {α α':Pl} {H H':Hp} (e:Ev α α' H H'):∀{xs:List M} {vs:List V},RepAs K α H xs vs→RepAs K α' H' xs vs
 |[],_,h=>h
 |x::xs,_,⟨v,r,e1,h1,h2⟩=>⟨v,r,e1,RepA.ev e h1,RepAs.ev e h2⟩
end
theorem REnv.ev {K:PySem.W.Frag} {α α':Pl} {H H':Hp} (e:Ev α α' H H') {ρ:BJ} {σ:St} (r:REnv K α H ρ σ):REnv K α' H' ρ σ:=
 ⟨r.1,fun i m h=>by obtain⟨v,h1,h2⟩:=r.2 i m h;exact⟨v,h1,h2.ev e⟩⟩
theorem RepAs.length {K:PySem.W.Frag} {α:Pl} {H:Hp}:∀{xs:List M} {vs:List V},RepAs K α H xs vs→xs.length=vs.length
 |[],_,h=>by cases(show _=[] from h);rfl
 |x::xs,_,⟨v,r,e1,_,h2⟩=>by subst e1;simp[RepAs.length h2]
theorem RepAs.get {K:PySem.W.Frag} {α:Pl} {H:Hp}:∀{xs:List M} {vs:List V} {i:Nat} {m:M},RepAs K α H xs vs→xs[i]? =some m→∃v,vs[i]? =some v∧RepA K α H m v
 |[],_,_,_,_,h=>by simp at h
 |x::xs,_,0,m,⟨v,r,e1,h1,h2⟩,h=>by subst e1;simp at h;subst h;exact⟨v,rfl,h1⟩
 |x::xs,_,i+1,m,⟨v,r,e1,h1,h2⟩,h=>by subst e1;simpa using RepAs.get (i:=i) h2 (by simpa using h)
theorem RepAs.app {K:PySem.W.Frag} {α:Pl} {H:Hp}:∀{xs:List M} {vs:List V} {ys:List M} {ws:List V},RepAs K α H xs vs→RepAs K α H ys ws→RepAs K α H (xs++ys) (vs++ws)
 |[],_,_,_,h,h'=>by cases(show _=[] from h);exact h'
 |x::xs,_,_,_,⟨v,r,e1,h1,h2⟩,h'=>by subst e1;exact⟨v,_,rfl,h1,RepAs.app h2 h'⟩
theorem RepAs.drop {K:PySem.W.Frag} {α:Pl} {H:Hp}:∀{xs:List M} {vs:List V} (n:Nat),RepAs K α H xs vs→RepAs K α H (xs.drop n) (vs.drop n)
 |_,_,0,h=>h
 |[],_,_+1,h=>by cases(show _=[] from h);exact rfl
 |x::xs,_,n+1,⟨v,r,e1,h1,h2⟩=>by subst e1;exact RepAs.drop n h2
theorem RepAs.take {K:PySem.W.Frag} {α:Pl} {H:Hp}:∀{xs:List M} {vs:List V} (n:Nat),RepAs K α H xs vs→RepAs K α H (xs.take n) (vs.take n)
 |_,_,0,h=>by simp only[List.take_zero];exact rfl
 |[],_,_+1,h=>by cases(show _=[] from h);exact rfl
 |x::xs,_,n+1,⟨v,r,e1,h1,h2⟩=>by subst e1;exact⟨v,_,rfl,h1,RepAs.take n h2⟩
theorem RepAs.set {K:PySem.W.Frag} {α:Pl} {H:Hp} {m:M} {v:V} (hm:RepA K α H m v):∀{xs:List M} {vs:List V} (n:Nat),RepAs K α H xs vs→RepAs K α H (xs.set n m) (vs.set n v)
 |[],_,n,h=>by cases(show _=[] from h);exact rfl
 |x::xs,_,0,⟨v,r,e1,h1,h2⟩=>by subst e1;exact⟨_,_,rfl,hm,h2⟩
 |x::xs,_,n+1,⟨v,r,e1,h1,h2⟩=>by subst e1;exact⟨v,_,rfl,h1,RepAs.set hm n h2⟩
theorem RepAs.snoc {K:PySem.W.Frag} {α:Pl} {H:Hp} {xs:List M} {vs:List V} {m:M} {v:V} (h:RepAs K α H xs vs) (hm:RepA K α H m v):RepAs K α H (xs++[m]) (vs++[v]):=h.app ⟨v,[],rfl,hm,rfl⟩
theorem RepAs.at {K:PySem.W.Frag} {α:Pl} {H:Hp} {xs:List M} {vs:List V} {i:Int} {m:M} (h:RepAs K α H xs vs) (e:NH xs i=some m):∃v,NH vs i=some v∧RepA K α H m v:=by
 unfold NH at e⊢
 rw[←h.length]
 cases q:dP xs.length i with
 |none=>rw[q]at e;cases e
 |some j=>
  rw[q]at e
  exact h.get e
theorem Rl.same {K:PySem.W.Frag} {α:Pl} {h:AA} {H H':Hp} (r:Rl K α h H) (s:Same H H'):Rl K α h H':=
 ⟨r.len,r.nd,r.ap,fun b hb=>by
   obtain⟨o,e⟩:=r.hid b hb
   exact⟨o,s b o e⟩,fun k a o hk ho=>by
   have e:Ev α α H H':=Ev.same s
   have q:=r.obj k a o hk ho
   cases o with
   |lst xs=>obtain⟨vs,h1,h2⟩:=q;exact⟨vs,s _ _ h1,h2.ev e⟩
   |dct kvs=>obtain⟨ws,h1,h2,h3⟩:=q;exact⟨ws,s _ _ h1,h2,h3.ev e⟩⟩
theorem Rl.some_at {K:PySem.W.Frag} {α:Pl} {h:AA} {H:Hp} (r:Rl K α h H) {a:Addr} (ha:a∈α.a):∃o,H a=some o:=by
 obtain⟨k,hk⟩:=List.getElem?_of_mem ha
 have hl:k<h.length:=by rw[←r.len];exact(List.getElem?_eq_some_iff.mp hk).1
 have q:=r.obj k a h[k] hk (by simp[hl])
 revert q
 cases h[k]with
 |lst xs=>rintro⟨vs,h1,_⟩;exact⟨_,h1⟩
 |dct kvs=>rintro⟨vs,h1,_⟩;exact⟨_,h1⟩
theorem Ev.write {K:PySem.W.Frag} {α:Pl} {h:AA} {H:Hp} (r:Rl K α h H) {a:Addr} (ha:a∈α.a) {u:HO}:Ev α α H (BT H a u):=
 .mkk ⟨rfl,[],by simp,by simp⟩ (fun b o e n=>by
   have hba:b≠a:=by intro z;subst z;exact n ha
   rw[AR hba];exact e) (fun b e=>by
   by_cases hb:b=a
   ·subst hb;rw[B3]at e;cases e
   ·rw[AR hb]at e;exact e)
theorem Rl.write {K:PySem.W.Frag} {α:Pl} {h:AA} {H:Hp} (r:Rl K α h H) {k:Nat} {a:Addr} (ha:α.a[k]? =some a) {u:HO} {o:MO} (ho:fS K α (BT H a u) o a):Rl K α (h.set k o) (BT H a u):=by
 have e:Ev α α H (BT H a u):=Ev.write r (List.mem_of_getElem? ha)
 refine⟨by simp[r.len],r.nd,r.ap,fun b hb=>by
  obtain⟨o,e⟩:=r.hid b hb
  by_cases z:b=a
  ·subst z;exact⟨_,B3⟩
  ·exact⟨o,by rw[AR z];exact e⟩,fun j b o' hj ho'=> ?_⟩
 by_cases hjk:j=k
 ·subst hjk
  rw[ha]at hj;cases hj
  have hl:j<h.length:=by rw[←r.len];exact(List.getElem?_eq_some_iff.mp ha).1
  rw[List.getElem?_set_self hl]at ho';cases ho'
  exact ho
 ·rw[List.getElem?_set_ne (fun z=>hjk z.symm)]at ho'
  have hba:b≠a:=fun z=>by
   subst z
   have hjl:=(List.getElem?_eq_some_iff.mp hj)
   have hkl:=(List.getElem?_eq_some_iff.mp ha)
   exact hjk ((List.getElem_inj r.nd).mp (hjl.2.trans hkl.2.symm))
  have q:=r.obj j b o' hj ho'
  cases o' with
  |lst xs=>obtain⟨vs,h1,h2⟩:=q;exact⟨vs,by rw[AR hba];exact h1,h2.ev e⟩
  |dct kvs=>obtain⟨ws,h1,h2,h3⟩:=q;exact⟨ws,by rw[AR hba];exact h1,h2,h3.ev e⟩
theorem Ev.alloc {α:Pl} {H:Hp} {p:Addr} (hp:H p=none) {u:HO}:Ev α (α.add p) H (BT H p u):=
 .mkk ⟨rfl,[p],rfl,fun b hb=>by rw[List.mem_singleton.mp hb];exact hp⟩ (fun b o e _=>MT e hp) (fun b e=>by
   by_cases hb:b=p
   ·subst hb;exact hp
   ·rw[AR hb]at e;exact e)
theorem Rl.newA {K:PySem.W.Frag} {α:Pl} {h:AA} {H:Hp} (r:Rl K α h H) {p:Addr} (hp:H p=none):p∉α.a:=fun hm=>by
 obtain⟨o,e⟩:=r.some_at hm
 rw[hp]at e;cases e
theorem Rl.new {K:PySem.W.Frag} {α:Pl} {h:AA} {H:Hp} (r:Rl K α h H) {p:Addr} (hp:H p=none):α.no p:=⟨r.newA hp,fun hm=>by
 obtain⟨o,e⟩:=r.hid p hm
 rw[hp]at e;cases e⟩
theorem Rl.alloc {K:PySem.W.Frag} {α:Pl} {h:AA} {H:Hp} (r:Rl K α h H) {p:Addr} (hp:H p=none) {u:HO} {o:MO} (ho:fS K (α.add p) (BT H p u) o p):Rl K (α.add p) (h++[o]) (BT H p u):=by
 have e:Ev α (α.add p) H (BT H p u):=Ev.alloc hp
 refine⟨by simp[r.len,Pl.add],?_,fun b hb=> ?_,fun b hb=> ?_,fun j b o' hj ho'=> ?_⟩
 ·show(α.a++[p]).Nodup
  rw[List.nodup_append]
  refine⟨r.nd,by simp,fun x hx y hy=> ?_⟩
  rw[List.mem_singleton.mp hy]
  exact fun z=>r.newA hp (z▸hx)
 ·rcases List.mem_append.mp (show b∈α.a++[p] from hb) with hb|hb
  ·exact r.ap b hb
  ·rw[List.mem_singleton.mp hb];exact(r.new hp).2
 ·obtain⟨o,e⟩:=r.hid b hb
  exact⟨o,MT e hp⟩
 ·have hj:(α.a++[p])[j]? =some b:=hj
  by_cases hl:j<α.a.length
  ·rw[List.getElem?_append_left hl]at hj
   rw[List.getElem?_append_left (by rw[←r.len];exact hl)]at ho'
   have q:=r.obj j b o' hj ho'
   cases o' with
   |lst xs=>obtain⟨vs,h1,h2⟩:=q;exact⟨vs,MT h1 hp,h2.ev e⟩
   |dct kvs=>obtain⟨ws,h1,h2,h3⟩:=q;exact⟨ws,MT h1 hp,h2,h3.ev e⟩
  ·have hj':j<α.a.length+1:=by simpa using(List.getElem?_eq_some_iff.mp hj).1
   have ej:j=α.a.length:=by omega
   subst ej
   rw[List.getElem?_append_right (Nat.le_refl _)]at hj
   simp at hj
   rw[r.len,List.getElem?_append_right (Nat.le_refl _)]at ho'
   simp at ho'
   subst hj ho'
   exact ho
mutual
theorem RepA.hide {K:PySem.W.Frag} {α:Pl} {H:Hp} {p:Addr} (hp:H p=none):∀{m:M} {v:V},RepA K α H m v→RepA K (α.hide p) H m v
 | .non,_,h=>h
 | .bl _,_,h=>h
 | .int _,_,h=>h
 | .str _,_,h=>h
 | .ty _,_,h=>h
 | .tup xs,_,⟨a,vs,e1,t,r⟩=>⟨a,vs,e1,t.elim (fun⟨q,n⟩=> .inl ⟨q,n.1,fun hm=>by
     rcases List.mem_cons.mp hm with z|z
     ·subst z;rcases q with q|⟨_,q⟩<;>(rw[hp]at q;cases q)
     ·exact n.2 z⟩) .inr,RepAs.hide hp r⟩
 | .scr ns,_,⟨a,e1,t⟩=>⟨a,e1,t.elim (fun⟨q,n⟩=> .inl ⟨q,n.1,fun hm=>by
     rcases List.mem_cons.mp hm with z|z
     ·subst z;rcases q with q|⟨_,q⟩<;>(rw[hp]at q;cases q)
     ·exact n.2 z⟩) .inr⟩
 | .lst xs,_,⟨a,vs,e1,n,t,r⟩=>⟨a,vs,e1,⟨n.1,fun hm=>by
     rcases List.mem_cons.mp hm with z|z
     ·subst z;rw[hp]at t;cases t
     ·exact n.2 z⟩,t,RepAs.hide hp r⟩
 | .dct ks xs,_,⟨a,ws,e1,n,t,ek,r⟩=>⟨a,ws,e1,⟨n.1,fun hm=>by
     rcases List.mem_cons.mp hm with z|z
     ·subst z;rcases t with t|⟨_,t⟩<;>(rw[hp]at t;cases t)
     ·exact n.2 z⟩,t,ek,RepAs.hide hp r⟩
 | .ref k,_,h=>h
theorem RepAs.hide {K:PySem.W.Frag} {α:Pl} {H:Hp} {p:Addr} (hp:H p=none):∀{xs:List M} {vs:List V},RepAs K α H xs vs→RepAs K (α.hide p) H xs vs
 |[],_,h=>h
 |x::xs,_,⟨v,r,e1,h1,h2⟩=>⟨v,r,e1,RepA.hide hp h1,RepAs.hide hp h2⟩
end
mutual
theorem RepA.show {K:PySem.W.Frag} {α:Pl} {H:Hp} {p:Addr}:∀{m:M} {v:V},RepA K (α.hide p) H m v→RepA K α H m v
 | .non,_,h=>h
 | .bl _,_,h=>h
 | .int _,_,h=>h
 | .str _,_,h=>h
 | .ty _,_,h=>h
 | .tup xs,_,⟨a,vs,e1,t,r⟩=>⟨a,vs,e1,t.elim (fun⟨q,n⟩=> .inl ⟨q,n.1,fun hm=>n.2 (List.mem_cons_of_mem _ hm)⟩) .inr,RepAs.show r⟩
 | .scr ns,_,⟨a,e1,t⟩=>⟨a,e1,t.elim (fun⟨q,n⟩=> .inl ⟨q,n.1,fun hm=>n.2 (List.mem_cons_of_mem _ hm)⟩) .inr⟩
 | .lst xs,_,⟨a,vs,e1,n,t,r⟩=>⟨a,vs,e1,⟨n.1,fun hm=>n.2 (List.mem_cons_of_mem _ hm)⟩,t,RepAs.show r⟩
 | .dct ks xs,_,⟨a,ws,e1,n,t,ek,r⟩=>⟨a,ws,e1,⟨n.1,fun hm=>n.2 (List.mem_cons_of_mem _ hm)⟩,t,ek,RepAs.show r⟩
 | .ref k,_,h=>h
theorem RepAs.show {K:PySem.W.Frag} {α:Pl} {H:Hp} {p:Addr}:∀{xs:List M} {vs:List V},RepAs K (α.hide p) H xs vs→RepAs K α H xs vs
 |[],_,h=>h
 |x::xs,_,⟨v,r,e1,h1,h2⟩=>⟨v,r,e1,RepA.show h1,RepAs.show h2⟩
end
mutual
theorem RepA.hw {K:PySem.W.Frag} {α:Pl} {H:Hp} {p:Addr} {u:HO} (hp:p∈α.g):∀{m:M} {v:V},RepA K α H m v→RepA K α (BT H p u) m v
 | .non,_,h=>h
 | .bl _,_,h=>h
 | .int _,_,h=>h
 | .str _,_,h=>h
 | .ty _,_,h=>h
 | .tup xs,_,⟨a,vs,e1,t,r⟩=>⟨a,vs,e1,t.elim (fun⟨q,n⟩=> .inl ⟨by
     have hn:a≠p:=by intro z;subst z;exact n.2 hp
     rcases q with q|⟨o,q⟩
     ·exact .inl (by rw[AR hn];exact q)
     ·exact .inr ⟨o,by rw[AR hn];exact q⟩,n⟩) .inr,RepAs.hw hp r⟩
 | .scr ns,_,⟨a,e1,t⟩=>⟨a,e1,t.elim (fun⟨q,n⟩=> .inl ⟨by
     have hn:a≠p:=by intro z;subst z;exact n.2 hp
     rcases q with q|⟨o,q⟩
     ·exact .inl (by rw[AR hn];exact q)
     ·exact .inr ⟨o,by rw[AR hn];exact q⟩,n⟩) .inr⟩
 | .lst xs,_,⟨a,vs,e1,n,t,r⟩=>⟨a,vs,e1,n,by
     have hn:a≠p:=by intro z;subst z;exact n.2 hp
     rw[AR hn];exact t,RepAs.hw hp r⟩
 | .dct ks xs,_,⟨a,ws,e1,n,t,ek,r⟩=>⟨a,ws,e1,n,by
     have hn:a≠p:=by intro z;subst z;exact n.2 hp
     rcases t with t|⟨o,t⟩
     ·exact .inl (by rw[AR hn];exact t)
     ·exact .inr ⟨o,by rw[AR hn];exact t⟩,ek,RepAs.hw hp r⟩
 | .ref k,_,h=>h
theorem RepAs.hw {K:PySem.W.Frag} {α:Pl} {H:Hp} {p:Addr} {u:HO} (hp:p∈α.g):∀{xs:List M} {vs:List V},RepAs K α H xs vs→RepAs K α (BT H p u) xs vs
 |[],_,h=>h
 |x::xs,_,⟨v,r,e1,h1,h2⟩=>⟨v,r,e1,RepA.hw hp h1,RepAs.hw hp h2⟩
end
theorem Rl.hw {K:PySem.W.Frag} {α:Pl} {h:AA} {H:Hp} {p:Addr} {u:HO} (r:Rl K α h H) (hp:p∈α.g):Rl K α h (BT H p u):=
 ⟨r.len,r.nd,r.ap,fun b hb=>by
   by_cases z:b=p
   ·subst z;exact⟨_,B3⟩
   ·obtain⟨o,e⟩:=r.hid b hb
    exact⟨o,by rw[AR z];exact e⟩,fun k a o hk ho=>by
   have hn:a≠p:=by intro z;subst z;exact r.ap _ (List.mem_of_getElem? hk) hp
   have q:=r.obj k a o hk ho
   cases o with
   |lst xs=>obtain⟨vs,h1,h2⟩:=q;exact⟨vs,by rw[AR hn];exact h1,h2.hw hp⟩
   |dct kvs=>obtain⟨ws,h1,h2,h3⟩:=q;exact⟨ws,by rw[AR hn];exact h1,h2,h3.hw hp⟩⟩
theorem REnv.hw {K:PySem.W.Frag} {α:Pl} {H:Hp} {ρ:BJ} {σ:St} {p:Addr} {u:HO} (r:REnv K α H ρ σ) (hp:p∈α.g):REnv K α (BT H p u) ρ σ:=
 ⟨r.1,fun i m h=>by obtain⟨v,h1,h2⟩:=r.2 i m h;exact⟨v,h1,h2.hw hp⟩⟩
theorem REnv.hide {K:PySem.W.Frag} {α:Pl} {H:Hp} {ρ:BJ} {σ:St} {p:Addr} (r:REnv K α H ρ σ) (hp:H p=none):REnv K (α.hide p) H ρ σ:=
 ⟨r.1,fun i m h=>by obtain⟨v,h1,h2⟩:=r.2 i m h;exact⟨v,h1,h2.hide hp⟩⟩
theorem Rl.lay {K:PySem.W.Frag} {α:Pl} {h:AA} {H:Hp} {p:Addr} {u:HO} (r:Rl K α h H) (hp:H p=none):Rl K (α.hide p) h (BT H p u):=
 have s:Same H (BT H p u):=B4 hp u
 ⟨r.len,r.nd,fun b hb hm=>by
   rcases List.mem_cons.mp hm with z|z
   ·subst z;exact r.newA hp hb
   ·exact r.ap b hb z,fun b hb=>by
   rcases List.mem_cons.mp hb with z|z
   ·subst z;exact⟨_,B3⟩
   ·obtain⟨o,e⟩:=r.hid b z
    exact⟨o,s b o e⟩,fun k a o hk ho=>by
   have q:=r.obj k a o hk ho
   cases o with
   |lst xs=>obtain⟨vs,h1,h2⟩:=q;exact⟨vs,s _ _ h1,(h2.hide hp).ev (.same s)⟩
   |dct kvs=>obtain⟨ws,h1,h2,h3⟩:=q;exact⟨ws,s _ _ h1,h2,(h3.hide hp).ev (.same s)⟩⟩
theorem Rl.show {K:PySem.W.Frag} {α:Pl} {h:AA} {H:Hp} {p:Addr} (r:Rl K (α.hide p) h H):Rl K α h H:=
 ⟨r.len,r.nd,fun b hb hm=>r.ap b hb (List.mem_cons_of_mem _ hm),fun b hb=>r.hid b (List.mem_cons_of_mem _ hb),fun k a o hk ho=>by
   have q:=r.obj k a o hk ho
   cases o with
   |lst xs=>obtain⟨vs,h1,h2⟩:=q;exact⟨vs,h1,h2.show⟩
   |dct kvs=>obtain⟨ws,h1,h2,h3⟩:=q;exact⟨ws,h1,h2,h3.show⟩⟩
theorem Ev.unhide {α α':Pl} {H H':Hp} {p:Addr} (e:Ev (α.hide p) (α'.hide p) H H'):Ev α α' H H':=
 ⟨⟨(List.cons.inj e.pre.1).2,e.pre.2⟩,fun b o h q n=>e.keep b o h (q.imp id fun z=>List.mem_cons_of_mem _ z) n,e.keepD,e.dom⟩
theorem Ev.hw {α α':Pl} {H H':Hp} {p:Addr} {u:HO} (e:Ev α α' H H') (hp:H p=none):Ev α α' H (BT H' p u):=
 ⟨e.pre,fun b o hb q n=>by
   have z:b≠p:=by intro z;subst z;rw[hp]at hb;cases hb
   rw[AR z];exact e.keep b o hb q n,fun b ws hb n=>by
   have z:b≠p:=by intro z;subst z;rw[hp]at hb;cases hb
   rcases e.keepD b ws hb n with r|⟨o,r⟩
   ·exact .inl (by rw[AR z];exact r)
   ·exact .inr ⟨o,by rw[AR z];exact r⟩,fun b hb=>by
   by_cases z:b=p
   ·subst z;exact hp
   ·rw[AR z]at hb;exact e.dom b hb⟩
def tM (K:PySem.W.Frag) (m:FE):TE:=fun σ H Q=>∃α ρ h d h',REnv K α H ρ σ∧Rl K α h H∧m ρ h=some (d,h')∧∀α' H' v,Ev α α' H H'→Rl K α' h' H'→RepA K α' H' d v→Q v H'
def aM (K:PySem.W.Frag) (m:FA):TA:=fun σ H Q=>∃α ρ h d h',REnv K α H ρ σ∧Rl K α h H∧m ρ h=some (d,h')∧∀α' H' v,Ev α α' H H'→Rl K α' h' H'→RepAs K α' H' d v→Q v H'
def bM (K:PySem.W.Frag) (m:FT):TT:=fun σ H Q=>∃α ρ h d h',REnv K α H ρ σ∧Rl K α h H∧m ρ h=some (d,h')∧∀α' H',Ev α α' H H'→Rl K α' h' H'→Q d H'
def Fin (K:PySem.W.Frag) (D:Ends) (α':Pl) (H':Hp):Out→Prop
 | .nx ρ=>∀σ,REnv K α' H' ρ σ→D.nx σ H'
 | .bk ρ=>∀σ,REnv K α' H' ρ σ→D.bk σ H'
 | .ct ρ=>∀σ,REnv K α' H' ρ σ→D.ct σ H'
 | .rt d=>∀v,RepA K α' H' d v→D.rt v H'
def sM (K:PySem.W.Frag) (m:FS):TS:=fun D σ H=>∃α ρ h o h',REnv K α H ρ σ∧Rl K α h H∧m ρ h=some (o,h')∧∀α' H',Ev α α' H H'→Rl K α' h' H'→Fin K D α' H' o
def gM (K:PySem.W.Frag) (m:FG):TG:=fun v σ H Q=>∃α ρ h x ρ' h',REnv K α H ρ σ∧Rl K α h H∧RepA K α H x v∧m x ρ h=some (ρ',h')∧∀α' H' σ',Ev α α' H H'→Rl K α' h' H'→REnv K α' H' ρ' σ'→Q σ' H'
abbrev aX:=List M→BJ→AA→Option (BJ×AA)
def yE (K:PySem.W.Frag) (m:aX):aV:=fun v σ H Q=>∃α ρ h x ρ' h',REnv K α H ρ σ∧Rl K α h H∧RepAs K α H x v∧m x ρ h=some (ρ',h')∧∀α' H' σ',Ev α α' H H'→Rl K α' h' H'→REnv K α' H' ρ' σ'→Q σ' H'
def GG (K:PySem.W.Frag) (m:FF):Sp:=fun vs H Q _=>∃α h ds d h',RepAs K α H ds vs∧Rl K α h H∧m ds h=some (d,h')∧∀α' H' v,Ev α α' H H'→Rl K α' h' H'→RepA K α' H' d v→Q v H'
section
variable {X:Cx}
theorem PE.imp {e:Expr} {t t':TE} (h:PE X e t) (i:∀σ H Q,t' σ H Q→t σ H Q):PE X e t':=fun pins s σ H Q I q=>h pins s σ H Q I (i σ H Q q)
theorem PT.imp {e:Expr} {t t':TT} (h:PT X e t) (i:∀σ H Q,t' σ H Q→t σ H Q):PT X e t':=fun pins s σ H Q I q=>h pins s σ H Q I (i σ H Q q)
theorem PW.imp {e:Expr} {t t':TT} (h:PW X e t) (i:∀σ H Q,t' σ H Q→t σ H Q):PW X e t':=fun wh pins s σ H Q I q=>h wh pins s σ H Q I (i σ H Q q)
theorem PA.imp {e:List Expr} {t t':TA} (h:PA X e t) (i:∀σ H Q,t' σ H Q→t σ H Q):PA X e t':=fun pos pins s σ H Q I q=>h pos pins s σ H Q I (i σ H Q q)
theorem PS.imp {e:Stmt} {t t':TS} (h:PS X e t) (i:∀D σ H,t' D σ H→t D σ H):PS X e t':=fun pins s σ H D I q=>h pins s σ H D I (i D σ H q)
theorem PSs.imp {e:List Stmt} {t t':TS} (h:PSs X e t) (i:∀D σ H,t' D σ H→t D σ H):PSs X e t':=fun pins s σ H D I q=>h pins s σ H D I (i D σ H q)
theorem PG.imp {e:Expr} {t t':TG} (h:PG X e t) (i:∀v σ H Q,t' v σ H Q→t v σ H Q):PG X e t':=fun pins s σ H v u Q I r q=>h pins s σ H v u Q I r (i v σ H Q q)
theorem PGs.imp {e:List Expr} {t t':aV} (h:PGs X e t) (i:∀v σ H Q,t' v σ H Q→t v σ H Q):PGs X e t':=fun pins s σ H v u Q I r q=>h pins s σ H v u Q I r (i v σ H Q q)
end
def bnd {a b:Type} (x:Option (a×AA)) (f:a→AA→Option b):Option b:=match x with|some (y,h)=>f y h|none=>none
theorem A8 {a b:Type} {x:Option (a×AA)} {f:a→AA→Option b} {r:b} (e:bnd x f=some r):∃y h,x=some (y,h)∧f y h=some r:=by
 unfold bnd at e
 split at e
 ·exact⟨_,_,rfl,e⟩
 ·cases e
end L2
namespace L2
open PySem PySem.Spec PyProof.Rows
def mC (d:M):FE:=fun _ h=>some (d,h)
def A2 (i:Nat):FE:=fun ρ h=>match ρ[i]?with|some (some m)=>some (m,h)|_=>none
def A5:FA:=fun _ h=>some ([],h)
def A1 (a:FE) (r:FA):FA:=fun ρ h=>bnd (a ρ h) fun x h1=>bnd (r ρ h1) fun xs h2=>some (x::xs,h2)
def BS (a:FA):FE:=fun ρ h=>bnd (a ρ h) fun xs h1=>if xs.length≤16777216 then some (.tup xs,h1) else none
def HV (a:FA):FE:=fun ρ h=>bnd (a ρ h) fun xs h1=>if xs.length≤16777216 then some (.lst xs,h1) else none
def JQ (a:FA):FE:=fun ρ h=>bnd (a ρ h) fun xs h1=>if xs.length≤16777216 then some (.ref h1.length,h1++[.lst xs]) else none
def AG (f:M→M→AA→Option M) (a b:FE):FE:=fun ρ h=>bnd (a ρ h) fun x h1=>bnd (b ρ h1) fun y h2=>(f x y h2).map (·,h2)
def lQ (f:M→AA→Option M) (a:FE):FE:=fun ρ h=>bnd (a ρ h) fun x h1=>(f x h1).map (·,h1)
def E3 (f:List M→AA→Option M) (a:FA):FE:=fun ρ h=>bnd (a ρ h) fun xs h1=>(f xs h1).map (·,h1)
def AB (f:FF) (a:FA):FE:=fun ρ h=>bnd (a ρ h) fun xs h1=>f xs h1
def gV (ok:M→AA→Bool) (f:M→List M→AA→Option (M×AA)) (o:FE) (a:FA):FE:=fun ρ h=>bnd (o ρ h) fun x h1=>if ok x h1=true then bnd (a ρ h1) fun xs h2=>f x xs h2 else none
def i5 {a:Type} (x:M) (f:Bool→Option a):Option a:=match x with| .bl b=>f b|_=>none
def K4 (a b:FE):FE:=fun ρ h=>bnd (a ρ h) fun x h1=>i5 x fun c=>if c=true then b ρ h1 else some (.bl false,h1)
def zK (a b:FE):FE:=fun ρ h=>bnd (a ρ h) fun x h1=>i5 x fun c=>if c=true then some (.bl true,h1) else b ρ h1
def o8 (a:FE):FE:=fun ρ h=>bnd (a ρ h) fun x h1=>i5 x fun c=>some (.bl (!c),h1)
def y6 (c:FT) (a b:FE):FE:=fun ρ h=>bnd (c ρ h) fun c h1=>if c=true then a ρ h1 else b ρ h1
def OO (f g:M→M→AA→Option M) (a b c:FE):FE:=fun ρ h=>bnd (a ρ h) fun x h1=>bnd (b ρ h1) fun y h2=>(f x y h2).bind fun z=>i5 z fun k=>if k=true then bnd (c ρ h2) fun w h3=>(g y w h3).map (·,h3) else some (.bl false,h2)
def QL (f g g':M→M→AA→Option M) (a b c d:FE):FE:=fun ρ h=>bnd (a ρ h) fun x h1=>bnd (b ρ h1) fun y h2=>(f x y h2).bind fun z=>i5 z fun k=>if k=true then
 bnd (c ρ h2) fun w h3=>(g y w h3).bind fun z=>i5 z fun k=>if k=true then bnd (d ρ h3) fun u h4=>(g' w u h4).map (·,h4) else some (.bl false,h3) else some (.bl false,h2)
def tV (a:FE):FT:=fun ρ h=>bnd (a ρ h) fun x h1=>i5 x fun c=>some (c,h1)
def HX (a b:FT):FT:=fun ρ h=>bnd (a ρ h) fun c h1=>if c=true then b ρ h1 else some (false,h1)
def OC (a b:FT):FT:=fun ρ h=>bnd (a ρ h) fun c h1=>if c=true then some (true,h1) else b ρ h1
def NC (a:FT):FT:=fun ρ h=>bnd (a ρ h) fun c h1=>some (!c,h1)
theorem E9 {a:Type} {x:M} {f:Bool→Option a} {r:a} (e:i5 x f=some r):∃b,x= .bl b∧f b=some r:=by
 cases x<;>first|exact⟨_,rfl,e⟩|cases e
theorem CQ {a:Type} {x:Option a} {h:AA} {r:a×AA} (e:x.map (·,h)=some r):x=some r.1∧r.2=h:=by
 cases x with
 |none=>cases e
 |some y=>cases e;exact⟨rfl,rfl⟩
def LM (K:PySem.W.Frag) (r:R2) (f:M→M→AA→Option M):Prop:=∀(α:Pl) (h:AA) (H:Hp) (x y d:M) (u v:V) (Q:VK),Rl K α h H→RepA K α H x u→RepA K α H y v→f x y h=some d→(∀H' w,Same H H'→RepA K α H' d w→Q w H')→r u v H Q
def HS (K:PySem.W.Frag) (r:List V→Hp→VK→Prop) (f:List M→AA→Option M):Prop:=∀(α:Pl) (h:AA) (H:Hp) (xs:List M) (d:M) (us:List V) (Q:VK),Rl K α h H→RepAs K α H xs us→f xs h=some d→(∀H' w,Same H H'→RepA K α H' d w→Q w H')→r us H Q
def vM (K:PySem.W.Frag) (r:V→List V→Hp→VK→Prop) (f:M→List M→AA→Option (M×AA)):Prop:=∀(α:Pl) (h h':AA) (H:Hp) (x:M) (xs:List M) (d:M) (u:V) (us:List V) (Q:VK),Rl K α h H→RepA K α H x u→RepAs K α H xs us→f x xs h=some (d,h')→
 (∀α' H' w,Ev α α' H H'→Rl K α' h' H'→RepA K α' H' d w→Q w H')→r u us H Q
section
variable {X:Cx} {a b c e:Expr} {es:List Expr} {ma mb mc me:FE} {mas:FA} {ta tb:FT} {pos p:Pos}
theorem RU {v:V} {d:M} (h:PE X e (tC v)) (r:∀α H,RepA X.K α H d v):PE X e (tM X.K (mC d)):=h.imp fun σ H Q ⟨α,ρ,h,d',h',hσ,hr,e,k⟩=>by
 cases e
 exact k α H v .refl hr (r α H)
theorem A4 {i j pos}:PE X (.Constant (.int i) j pos) (tM X.K (mC (.int i))):=RU nQ fun _ _=>rfl
theorem MF {b j pos}:PE X (.Constant (.bool b) j pos) (tM X.K (mC (.bl b))):=RU uR fun _ _=>rfl
theorem IL {j pos}:PE X (.Constant .none j pos) (tM X.K (mC .non)):=RU pW fun _ _=>rfl
theorem AD {x j pos}:PE X (.Constant (.str x) j pos) (tM X.K (mC (.str x))):=RU qQ fun _ _=>rfl
theorem A0 {i:Nat} (h:PE X e (kN i)):PE X e (tM X.K (A2 i)):=h.imp fun σ H Q ⟨α,ρ,h,d',h',hσ,hr,e,k⟩=>by
 unfold A2 at e
 split at e
 ·rename_i m em
  cases e
  obtain⟨v,h1,h2⟩:=hσ.2 i _ em
  exact⟨v,h1,k α H v .refl hr h2⟩
 ·cases e
theorem EK:PA X [] (aM X.K A5):=HN.imp fun σ H Q ⟨α,ρ,h,d',h',hσ,hr,e,k⟩=>by
 cases e
 exact k α H [] .refl hr rfl
theorem GT (ha:PE X e (tM X.K ma)) (hr:PA X es (aM X.K mas)) (h:BB e=true):PA X (e::es) (aM X.K (A1 ma mas)):=(RM ha hr h).imp fun σ H Q ⟨α,ρ,h,d',h',hσ,hr,e,k⟩=>by
 obtain⟨x,h1,e1,e⟩:=A8 e
 obtain⟨xs,h2,e2,e⟩:=A8 e
 cases e
 exact⟨α,ρ,h,x,h1,hσ,hr,e1,fun α1 H1 u ev1 hr1 rx=>⟨α1,ρ,h1,xs,_,hσ.ev ev1,hr1,e2,fun α2 H2 us ev2 hr2 rs=>k α2 H2 _ (ev1.trans ev2) hr2 ⟨u,us,rfl,rx.ev ev2,rs⟩⟩⟩
theorem B9 {x1} (h:PA X es (aM X.K mas)):PE X (.Tuple es x1 pos) (tM X.K (BS mas)):=(pF h).imp fun σ H Q ⟨α,ρ,h,d',h',hσ,hr,e,k⟩=>by
 obtain⟨xs,h1,e1,e⟩:=A8 e
 split at e
 ·rename_i hl
  cases e
  refine⟨α,ρ,h,xs,_,hσ,hr,e1,fun α1 H1 us ev1 hr1 rs=>⟨by rw[←rs.length,sizeLine_eq];exact hl,fun p hp=> ?_⟩⟩
  have s:=B4 hp (.tup us)
  exact k α1 _ _ (ev1.trans (.same s)) (hr1.same s) ⟨p,us,rfl, .inl ⟨.inl B3,hr1.new hp⟩,rs.ev (.same s)⟩
 ·cases e
theorem DN (h:PA X es (aM X.K mas)):PE X (.List es pos) (tM X.K (HV mas)):=(cC h).imp fun σ H Q ⟨α,ρ,h,d',h',hσ,hr,e,k⟩=>by
 obtain⟨xs,h1,e1,e⟩:=A8 e
 split at e
 ·rename_i hl
  cases e
  refine⟨α,ρ,h,xs,_,hσ,hr,e1,fun α1 H1 us ev1 hr1 rs=>⟨by rw[←rs.length,sizeLine_eq];exact hl,fun p hp=> ?_⟩⟩
  have s:=B4 hp (.lst us)
  exact k α1 _ _ (ev1.trans (.same s)) (hr1.same s) ⟨p,us,rfl,hr1.new hp,B3,rs.ev (.same s)⟩
 ·cases e
theorem GW (h:PA X es (aM X.K mas)):PE X (.List es pos) (tM X.K (JQ mas)):=(cC h).imp fun σ H Q ⟨α,ρ,h,d',h',hσ,hr,e,k⟩=>by
 obtain⟨xs,h1,e1,e⟩:=A8 e
 split at e
 ·rename_i hl
  cases e
  refine⟨α,ρ,h,xs,h1,hσ,hr,e1,fun α1 H1 us ev1 hr1 rs=>⟨by rw[←rs.length,sizeLine_eq];exact hl,fun p hp=> ?_⟩⟩
  have ea:Ev α1 (α1.add p) H1 (BT H1 p (.lst us)):= .alloc hp
  exact k (α1.add p) _ _ (ev1.trans ea) (hr1.alloc hp ⟨us,B3,rs.ev ea⟩) ⟨p,by rw[←hr1.len];simp[Pl.add],rfl⟩
 ·cases e
theorem AO {op:Operator} {r:R2} {f:M→M→AA→Option M} (ho:OpR X (binaryOp op) r) (hf:LM X.K r f) (ha:PE X a (tM X.K ma)) (hb:PE X b (tM X.K mb)):PE X (.BinOp a op b pos) (tM X.K (AG f ma mb)):=(dE ho ha hb).imp fun σ H Q ⟨α,ρ,h,d,h',hσ,hr,e,k⟩=>by
 obtain⟨x,h1,e1,e⟩:=A8 e
 obtain⟨y,h2,e2,e⟩:=A8 e
 obtain⟨e3,e4⟩:=CQ e
 dsimp only at e3 e4
 subst e4
 exact⟨α,ρ,h,x,h1,hσ,hr,e1,fun α1 H1 u ev1 hr1 rx=>⟨α1,ρ,h1,y,_,hσ.ev ev1,hr1,e2,fun α2 H2 v ev2 hr2 ry=>
  hf α2 _ H2 x y d u v Q hr2 (rx.ev ev2) ry e3 fun H3 w s rw=>k α2 H3 w ((ev1.trans ev2).trans (.same s)) (hr2.same s) rw⟩⟩
theorem DI {op:CmpOp} {r:R2} {f:M→M→AA→Option M} (ho:OpR X (compareOp op) r) (hf:LM X.K r f) (ha:PE X a (tM X.K ma)) (hb:PE X b (tM X.K mb)) (hm:behindInMarks op b=false):PE X (.Compare a [op] [b] pos) (tM X.K (AG f ma mb)):=(jQ ho ha hb hm).imp fun σ H Q ⟨α,ρ,h,d,h',hσ,hr,e,k⟩=>by
 obtain⟨x,h1,e1,e⟩:=A8 e
 obtain⟨y,h2,e2,e⟩:=A8 e
 obtain⟨e3,e4⟩:=CQ e
 dsimp only at e3 e4
 subst e4
 exact⟨α,ρ,h,x,h1,hσ,hr,e1,fun α1 H1 u ev1 hr1 rx=>⟨α1,ρ,h1,y,_,hσ.ev ev1,hr1,e2,fun α2 H2 v ev2 hr2 ry=>
  hf α2 _ H2 x y d u v Q hr2 (rx.ev ev2) ry e3 fun H3 w s rw=>k α2 H3 w ((ev1.trans ev2).trans (.same s)) (hr2.same s) rw⟩⟩
theorem AI {op:CmpOp} {r:R2} {f:M→M→AA→Option M} (ho:OpR X (compareOp op) r) (hf:LM X.K r f) (ha:PE X a (tM X.K ma)) (hb:PE X b (tM X.K mb)) (hm:behindInMarks op b=false):PT X (.Compare a [op] [b] pos) (bM X.K (tV (AG f ma mb))):=(lE ho ha hb hm).imp fun σ H Q ⟨α,ρ,h,d,h',hσ,hr,e,k⟩=>by
 obtain⟨z,h0,e0,e⟩:=A8 e
 obtain⟨q,rfl,e⟩:=E9 e
 cases e
 obtain⟨x,h1,e1,e⟩:=A8 e0
 obtain⟨y,h2,e2,e⟩:=A8 e
 obtain⟨e3,e4⟩:=CQ e
 dsimp only at e3 e4
 subst e4
 exact⟨α,ρ,h,x,h1,hσ,hr,e1,fun α1 H1 u ev1 hr1 rx=>⟨α1,ρ,h1,y,_,hσ.ev ev1,hr1,e2,fun α2 H2 v ev2 hr2 ry=>
  hf α2 _ H2 x y _ u v _ hr2 (rx.ev ev2) ry e3 fun H3 w s rw=>⟨d,rw,k α2 H3 ((ev1.trans ev2).trans (.same s)) (hr2.same s)⟩⟩⟩
theorem bW {op op':CmpOp} {r r':R2} {f f':M→M→AA→Option M} (ho:OpR X (compareOp op) r) (hf:LM X.K r f) (ho':OpR X (compareOp op') r') (hf':LM X.K r' f') (ha:PE X a (tM X.K ma)) (hb:PE X b (tM X.K mb)) (hc:PE X c (tM X.K mc)) (hm:lastMarks [op,op'] [b,c]=false):
 PE X (.Compare a [op,op'] [b,c] pos) (tM X.K (OO f f' ma mb mc)):=(cA ho ho' ha hb hc hm).imp fun σ H Q ⟨α,ρ,h,d,h',hσ,hr,e,k⟩=>by
 obtain⟨x,h1,e1,e⟩:=A8 e
 obtain⟨y,h2,e2,e⟩:=A8 e
 obtain⟨z,e3,e⟩:=Option.bind_eq_some_iff.mp e
 obtain⟨q,rfl,e⟩:=E9 e
 refine⟨α,ρ,h,x,h1,hσ,hr,e1,fun α1 H1 u ev1 hr1 rx=>⟨α1,ρ,h1,y,h2,hσ.ev ev1,hr1,e2,fun α2 H2 v ev2 hr2 ry=>
  hf α2 _ H2 x y _ u v _ hr2 (rx.ev ev2) ry e3 fun H3 w s rw=>⟨q,rw,?_⟩⟩⟩
 have hr3:=hr2.same s
 have ev3:=(ev1.trans ev2).trans (Ev.same (α:=α2) s)
 cases q with
 |false=>cases e;exact k α2 H3 _ ev3 hr3 rfl
 |true=>
  obtain⟨w',h4,e4,e⟩:=A8 e
  obtain⟨e5,e6⟩:=CQ e
  dsimp only at e5 e6
  subst e6
  exact⟨α2,ρ,h2,w',_,hσ.ev ev3,hr3,e4,fun α4 H4 v4 ev4 hr4 r4=>hf' α4 _ H4 y w' _ v v4 _ hr4 ((ry.ev (.same s)).ev ev4) r4 e5 fun H5 w5 s5 r5=>k α4 H5 w5 ((ev3.trans ev4).trans (.same s5)) (hr4.same s5) r5⟩
theorem KA {t:FE} (h:PE X e (tM X.K t)) (he:∀whole,isTrue e X.env whole=(do let v←whole;standAt e.pos;holding [v] (truthy v))):PT X e (bM X.K (tV t)):=(nW h he).imp fun σ H Q ⟨α,ρ,h,d,h',hσ,hr,e,k⟩=>by
 obtain⟨z,h0,e0,e⟩:=A8 e
 obtain⟨q,rfl,e⟩:=E9 e
 cases e
 exact⟨α,ρ,h,_,_,hσ,hr,e0,fun α1 H1 u ev1 hr1 rx=>⟨d,rx,k α1 H1 ev1 hr1⟩⟩
theorem fW {op op':CmpOp} {r r':R2} {f f':M→M→AA→Option M} (ho:OpR X (compareOp op) r) (hf:LM X.K r f) (ho':OpR X (compareOp op') r') (hf':LM X.K r' f') (ha:PE X a (tM X.K ma)) (hb:PE X b (tM X.K mb)) (hc:PE X c (tM X.K mc)) (hm:lastMarks [op,op'] [b,c]=false):
 PT X (.Compare a [op,op'] [b,c] pos) (bM X.K (tV (OO f f' ma mb mc))):=(dX ho ho' ha hb hc hm).imp fun σ H Q ⟨α,ρ,h,d,h',hσ,hr,e,k⟩=>by
 obtain⟨z,h0,e0,e'⟩:=A8 e
 obtain⟨q0,rfl,e'⟩:=E9 e'
 cases e'
 obtain⟨x,h1,e1,e⟩:=A8 e0
 obtain⟨y,h2,e2,e⟩:=A8 e
 obtain⟨z,e3,e⟩:=Option.bind_eq_some_iff.mp e
 obtain⟨q,rfl,e⟩:=E9 e
 refine⟨α,ρ,h,x,h1,hσ,hr,e1,fun α1 H1 u ev1 hr1 rx=>⟨α1,ρ,h1,y,h2,hσ.ev ev1,hr1,e2,fun α2 H2 v ev2 hr2 ry=>
  hf α2 _ H2 x y _ u v _ hr2 (rx.ev ev2) ry e3 fun H3 w s rw=>⟨q,rw,?_⟩⟩⟩
 have hr3:=hr2.same s
 have ev3:=(ev1.trans ev2).trans (Ev.same (α:=α2) s)
 cases q with
 |false=>cases e;exact⟨false,rfl,k α2 H3 ev3 hr3⟩
 |true=>
  obtain⟨w',h4,e4,e⟩:=A8 e
  obtain⟨e5,e6⟩:=CQ e
  dsimp only at e5 e6
  subst e6
  exact⟨α2,ρ,h2,w',_,hσ.ev ev3,hr3,e4,fun α4 H4 v4 ev4 hr4 r4=>hf' α4 _ H4 y w' _ v v4 _ hr4 ((ry.ev (.same s)).ev ev4) r4 e5 fun H5 w5 s5 r5=>⟨d,r5,k α4 H5 ((ev3.trans ev4).trans (.same s5)) (hr4.same s5)⟩⟩
theorem JE (ha:PT X a (bM X.K ta)):PW X (.BoolOp .And [a] pos) (bM X.K ta):=lJ ha
theorem OD (ha:PT X a (bM X.K ta)):PW X (.BoolOp .Or [a] pos) (bM X.K ta):=rX ha
theorem LT {rest:List Expr} (ha:PT X a (bM X.K ta)) (hb:PW X (.BoolOp .And (b::rest) pos) (bM X.K tb)):PW X (.BoolOp .And (a::b::rest) pos) (bM X.K (HX ta tb)):=(pZ ha hb).imp fun σ H Q ⟨α,ρ,h,d,h',hσ,hr,e,k⟩=>by
 obtain⟨z,h0,e0,e⟩:=A8 e
 refine⟨α,ρ,h,z,h0,hσ,hr,e0,fun α1 H1 ev1 hr1=> ?_⟩
 cases z with
 |false=>cases e;exact k α1 H1 ev1 hr1
 |true=>exact⟨α1,ρ,h0,d,h',hσ.ev ev1,hr1,e,fun α2 H2 ev2 hr2=>k α2 H2 (ev1.trans ev2) hr2⟩
theorem OB {rest:List Expr} (ha:PT X a (bM X.K ta)) (hb:PW X (.BoolOp .Or (b::rest) pos) (bM X.K tb)):PW X (.BoolOp .Or (a::b::rest) pos) (bM X.K (OC ta tb)):=(vB ha hb).imp fun σ H Q ⟨α,ρ,h,d,h',hσ,hr,e,k⟩=>by
 obtain⟨z,h0,e0,e⟩:=A8 e
 refine⟨α,ρ,h,z,h0,hσ,hr,e0,fun α1 H1 ev1 hr1=> ?_⟩
 cases z with
 |true=>cases e;exact k α1 H1 ev1 hr1
 |false=>exact⟨α1,ρ,h0,d,h',hσ.ev ev1,hr1,e,fun α2 H2 ev2 hr2=>k α2 H2 (ev1.trans ev2) hr2⟩
theorem QI (ha:PT X a (bM X.K ta)):PT X (.UnaryOp .Not a pos) (bM X.K (NC ta)):=(nU ha).imp fun σ H Q ⟨α,ρ,h,d,h',hσ,hr,e,k⟩=>by
 obtain⟨z,h0,e0,e⟩:=A8 e
 cases e
 exact⟨α,ρ,h,z,_,hσ,hr,e0,fun α1 H1 ev1 hr1=>k α1 H1 ev1 hr1⟩
theorem GZ {op} (h:PE X a (tM X.K ma)):PE X (.BoolOp op [a] pos) (tM X.K ma):=qK h
theorem E7 {rest:List Expr} (ha:PE X a (tM X.K ma)) (hb:PE X (.BoolOp .And (b::rest) pos) (tM X.K mb)):PE X (.BoolOp .And (a::b::rest) pos) (tM X.K (K4 ma mb)):=(sR ha hb).imp fun σ H Q ⟨α,ρ,h,d,h',hσ,hr,e,k⟩=>by
 obtain⟨z,h0,e0,e⟩:=A8 e
 obtain⟨q,rfl,e⟩:=E9 e
 refine⟨α,ρ,h,_,h0,hσ,hr,e0,fun α1 H1 u ev1 hr1 ru=>⟨q,ru,?_⟩⟩
 cases q with
 |false=>cases e;exact k α1 H1 _ ev1 hr1 rfl
 |true=>exact⟨α1,ρ,h0,d,h',hσ.ev ev1,hr1,e,fun α2 H2 w ev2 hr2 rw=>k α2 H2 w (ev1.trans ev2) hr2 rw⟩
theorem wR {rest:List Expr} (ha:PE X a (tM X.K ma)) (hb:PE X (.BoolOp .Or (b::rest) pos) (tM X.K mb)):PE X (.BoolOp .Or (a::b::rest) pos) (tM X.K (zK ma mb)):=(uK ha hb).imp fun σ H Q ⟨α,ρ,h,d,h',hσ,hr,e,k⟩=>by
 obtain⟨z,h0,e0,e⟩:=A8 e
 obtain⟨q,rfl,e⟩:=E9 e
 refine⟨α,ρ,h,_,h0,hσ,hr,e0,fun α1 H1 u ev1 hr1 ru=>⟨q,ru,?_⟩⟩
 cases q with
 |true=>cases e;exact k α1 H1 _ ev1 hr1 rfl
 |false=>exact⟨α1,ρ,h0,d,h',hσ.ev ev1,hr1,e,fun α2 H2 w ev2 hr2 rw=>k α2 H2 w (ev1.trans ev2) hr2 rw⟩
theorem nY (ha:PE X a (tM X.K ma)):PE X (.UnaryOp .Not a pos) (tM X.K (o8 ma)):=(nV ha).imp fun σ H Q ⟨α,ρ,h,d,h',hσ,hr,e,k⟩=>by
 obtain⟨z,h0,e0,e⟩:=A8 e
 obtain⟨q,rfl,e⟩:=E9 e
 cases e
 exact⟨α,ρ,h,_,_,hσ,hr,e0,fun α1 H1 u ev1 hr1 ru=>⟨q,ru,k α1 H1 _ ev1 hr1 rfl⟩⟩
theorem m7 (hc:PT X c (bM X.K ta)) (ha:PE X a (tM X.K ma)) (hb:PE X b (tM X.K mb)):PE X (.IfExp c a b pos) (tM X.K (y6 ta ma mb)):=(eL hc ha hb).imp fun σ H Q ⟨α,ρ,h,d,h',hσ,hr,e,k⟩=>by
 obtain⟨z,h0,e0,e⟩:=A8 e
 refine⟨α,ρ,h,z,h0,hσ,hr,e0,fun α1 H1 ev1 hr1=> ?_⟩
 cases z with
 |true=>exact⟨α1,ρ,h0,d,h',hσ.ev ev1,hr1,e,fun α2 H2 w ev2 hr2 rw=>k α2 H2 w (ev1.trans ev2) hr2 rw⟩
 |false=>exact⟨α1,ρ,h0,d,h',hσ.ev ev1,hr1,e,fun α2 H2 w ev2 hr2 rw=>k α2 H2 w (ev1.trans ev2) hr2 rw⟩
section
variable {CX:UN} {n:Nat} {f:Addr} {fd:FuncData} {ps:List Str} {m:FF} {E:XK} {id T:String} {r:List V→Hp→VK→Prop} {g:List M→AA→Option M} {x:Str}
theorem lK (F:FnOk X.prog X.w X.K X.mg X.base CX n f fd ps (GG X.K m)) (hr:Room n X.A) (q:NmOk X.env.scope x .globalImplicit) (hm:X.mg x=some (.ref f)) (hk:PySem.W.keepIn X.K (.ref f)=true) (hb:Binds X.K fd ps []) (hx:N9 CX X E)
 (ha:PA X (e::es) (aM X.K mas)) (he:BB e=true) (hpl:(backTo pos (starEach es X.env)).any (·.1)=false):PE X (.Call (.Name x p) (e::es) [] pos) (tM X.K (AB m mas)):=
 (fJ F hr q hm hk hb .nil hx ha he hpl).imp fun σ H Q ⟨α,ρ,h,d,h',hσ,hr,e,k⟩=>by
 obtain⟨xs,h0,e0,e⟩:=A8 e
 exact⟨α,ρ,h,xs,h0,hσ,hr,e0,fun α1 H1 us ev1 hr1 rs=>⟨α1,h0,xs,d,h',by rw[List.append_nil];exact rs,hr1,e,fun α2 H2 w ev2 hr2 rw=>k α2 H2 w (ev1.trans ev2) hr2 rw⟩⟩
theorem C8 (hc:DC X (.builtin id) r) (hg:HS X.K r g) (q:NmOk X.env.scope x .globalImplicit) (hm:X.mg x=none) (hv:bootBuiltins x=some (.builtin id)) (ha:PA X (e::es) (aM X.K mas)) (he:BB e=true) (hpl:(backTo pos (starEach es X.env)).any (·.1)=false):
 PE X (.Call (.Name x p) (e::es) [] pos) (tM X.K (E3 g mas)):=(M8 hc q hm hv ha he hpl).imp fun σ H Q ⟨α,ρ,h,d,h',hσ,hr,e,k⟩=>by
 obtain⟨xs,h0,e0,e⟩:=A8 e
 obtain⟨e5,e6⟩:=CQ e
 dsimp only at e5 e6
 subst e6
 exact⟨α,ρ,h,xs,_,hσ,hr,e0,fun α1 H1 us ev1 hr1 rs=>hg α1 _ H1 xs d us Q hr1 rs e5 fun H2 w s rw=>k α1 H2 w (ev1.trans (.same s)) (hr1.same s) rw⟩
theorem HK (hc:DC X (.type T) r) (hg:HS X.K r g) (q:NmOk X.env.scope x .globalImplicit) (hm:X.mg x=none) (hv:bootBuiltins x=some (.type T)) (ha:PA X (e::es) (aM X.K mas)) (he:BB e=true) (hpl:(backTo pos (starEach es X.env)).any (·.1)=false):
 PE X (.Call (.Name x p) (e::es) [] pos) (tM X.K (E3 g mas)):=(FH hc q hm hv ha he hpl).imp fun σ H Q ⟨α,ρ,h,d,h',hσ,hr,e,k⟩=>by
 obtain⟨xs,h0,e0,e⟩:=A8 e
 obtain⟨e5,e6⟩:=CQ e
 dsimp only at e5 e6
 subst e6
 exact⟨α,ρ,h,xs,_,hσ,hr,e0,fun α1 H1 us ev1 hr1 rs=>hg α1 _ H1 xs d us Q hr1 rs e5 fun H2 w s rw=>k α1 H2 w (ev1.trans (.same s)) (hr1.same s) rw⟩
end
section
variable {o:Expr} {mo:FE} {name:Str} {apos cpos:Pos} {T id:String} {r:V→List V→Hp→VK→Prop} {ok:M→AA→Bool} {f:M→List M→AA→Option (M×AA)}
theorem cV (pa:PlainAttrs T) (slot:Slot T name id) (hty:typeOf (.builtin id)=pure (.type "method_descriptor")) (hm:sY X id r) (hok:∀α h H x v,Rl X.K α h H→RepA X.K α H x v→ok x h=true→rA X.K T v H) (hf:vM X.K r f)
 (ho:PE X o (tM X.K mo)) (ha:PA X (e::es) (aM X.K mas)) (hbase:attributeBase o name X.env (eval o X.env)=eval o X.env)
 (hfew:((backTo cpos (starEach (e::es) X.env)).all (fun x=> !x.1)&&(backToKw cpos (keywordEach [] X.env)).all (fun x=>x.1.isSome)
   &&decide ((e::es).length+([]:List Keyword).length+(if([]:List Keyword).isEmpty then 0 else 1)<30))=true)
 (hline:(apos.endLine==cpos.line)=true) (hs:starEach (e::es) X.env=(false,eval e X.env)::starEach es X.env) (hplain:(backTo cpos (starEach es X.env)).any (·.1)=false):
 PE X (.Call (.Attribute o name apos) (e::es) [] cpos) (tM X.K (gV ok f mo mas)):=(uW pa slot hty hm ho ha hbase hfew hline hs hplain).imp fun σ H Q ⟨α,ρ,h,d,h',hσ,hr,e,k⟩=>by
 obtain⟨x,h0,e0,e⟩:=A8 e
 split at e
 ·rename_i hk
  obtain⟨xs,h1,e1,e⟩:=A8 e
  exact⟨α,ρ,h,x,h0,hσ,hr,e0,fun α1 H1 u ev1 hr1 ru=>⟨hok α1 h0 H1 x u hr1 ru hk,α1,ρ,h0,xs,h1,hσ.ev ev1,hr1,e1,fun α2 H2 us ev2 hr2 rs=>
   hf α2 h1 h' H2 x xs d u us Q hr2 (ru.ev ev2) rs e fun α3 H3 w ev3 hr3 rw=>k α3 H3 w ((ev1.trans ev2).trans ev3) hr3 rw⟩⟩
 ·cases e
theorem qW (pa:PlainAttrs T) (slot:Slot T name id) (hty:typeOf (.builtin id)=pure (.type "method_descriptor")) (hm:sY X id r) (hok:∀α h H x v,Rl X.K α h H→RepA X.K α H x v→ok x h=true→rA X.K T v H) (hf:vM X.K r f)
 (ho:PE X o (tM X.K mo)) (hbase:attributeBase o name X.env (eval o X.env)=eval o X.env) (hline:(apos.endLine==cpos.line)=true):
 PE X (.Call (.Attribute o name apos) [] [] cpos) (tM X.K (gV ok f mo A5)):=(cG pa slot hty hm ho hbase hline).imp fun σ H Q ⟨α,ρ,h,d,h',hσ,hr,e,k⟩=>by
 obtain⟨x,h0,e0,e⟩:=A8 e
 split at e
 ·rename_i hk
  obtain⟨xs,h1,e1,e⟩:=A8 e
  cases e1
  exact⟨α,ρ,h,x,_,hσ,hr,e0,fun α1 H1 u ev1 hr1 ru=>⟨hok α1 _ H1 x u hr1 ru hk,
   hf α1 _ h' H1 x [] d u [] Q hr1 ru rfl e fun α3 H3 w ev3 hr3 rw=>k α3 H3 w (ev1.trans ev3) hr3 rw⟩⟩
 ·cases e
end
theorem AM {r:R2} {f:M→M→AA→Option M} (ho:IxR X r) (hf:LM X.K r f) (ha:PE X a (tM X.K ma)) (hb:PE X b (tM X.K mb)) (hs:MS b):PE X (.Subscript a b pos) (tM X.K (AG f ma mb)):=(vG ho ha hb hs).imp fun σ H Q ⟨α,ρ,h,d,h',hσ,hr,e,k⟩=>by
 obtain⟨x,h1,e1,e⟩:=A8 e
 obtain⟨y,h2,e2,e⟩:=A8 e
 obtain⟨e3,e4⟩:=CQ e
 dsimp only at e3 e4
 subst e4
 exact⟨α,ρ,h,x,h1,hσ,hr,e1,fun α1 H1 u ev1 hr1 rx=>⟨α1,ρ,h1,y,_,hσ.ev ev1,hr1,e2,fun α2 H2 v ev2 hr2 ry=>
  hf α2 _ H2 x y d u v Q hr2 (rx.ev ev2) ry e3 fun H3 w s rw=>k α2 H3 w ((ev1.trans ev2).trans (.same s)) (hr2.same s) rw⟩⟩
abbrev FO:=BJ→AA→Option (Option Int×AA)
def oM (K:PySem.W.Frag) (m:FO):TO:=fun σ H Q=>∃α ρ h d h',REnv K α H ρ σ∧Rl K α h H∧m ρ h=some (d,h')∧∀α' H',Ev α α' H H'→Rl K α' h' H'→Q d H'
def PU:FO:=fun _ h=>some (none,h)
def D0 (a:FE):FO:=fun ρ h=>bnd (a ρ h) fun x h1=>match x with| .int i=>some (some i,h1)|_=>none
theorem PO.imp {e:Option Expr} {t t':TO} (h:PO X e t) (i:∀σ H Q,t' σ H Q→t σ H Q):PO X e t':=fun pins s σ H Q I q=>h pins s σ H Q I (i σ H Q q)
theorem C6:PO X none (oM X.K PU):=k3.imp fun σ H Q ⟨α,ρ,h,d,h',hσ,hr,e,k⟩=>by
 cases e
 exact k α H .refl hr
theorem C0 (ha:PE X a (tM X.K ma)):PO X (some a) (oM X.K (D0 ma)):=(hZ ha).imp fun σ H Q ⟨α,ρ,h,d,h',hσ,hr,e,k⟩=>by
 obtain⟨x,h1,e1,e⟩:=A8 e
 split at e
 ·cases e
  exact⟨α,ρ,h,_,_,hσ,hr,e1,fun α1 H1 u ev1 hr1 ru=>⟨_,ru,k α1 H1 ev1 hr1⟩⟩
 ·cases e
def SlM (K:PySem.W.Frag) (r:V→Option Int→Option Int→Hp→VK→Prop) (f:M→Option Int→Option Int→AA→Option M):Prop:=∀(α:Pl) (h:AA) (H:Hp) (x d:M) (lo hi:Option Int) (u:V) (Q:VK),Rl K α h H→RepA K α H x u→f x lo hi h=some d→(∀H' w,Same H H'→RepA K α H' d w→Q w H')→r u lo hi H Q
def OR (f:M→Option Int→Option Int→AA→Option M) (a:FE) (lo hi:FO):FE:=fun ρ h=>bnd (a ρ h) fun x h1=>bnd (lo ρ h1) fun l h2=>bnd (hi ρ h2) fun u h3=>(f x l u h3).map (·,h3)
theorem BU {lo hi:Option Expr} {p2:Pos} {r:V→Option Int→Option Int→Hp→VK→Prop} {f:M→Option Int→Option Int→AA→Option M} {ml mh:FO} (hr:SlR X r) (hf:SlM X.K r f) (he:PE X a (tM X.K ma)) (hl:PO X lo (oM X.K ml)) (hu:PO X hi (oM X.K mh)):
 PE X (.Subscript a (.Slice lo hi none p2) pos) (tM X.K (OR f ma ml mh)):=(eZ hr he hl hu).imp fun σ H Q ⟨α,ρ,h,d,h',hσ,hr,e,k⟩=>by
 obtain⟨x,h1,e1,e⟩:=A8 e
 obtain⟨l,h2,e2,e⟩:=A8 e
 obtain⟨u,h3,e3,e⟩:=A8 e
 obtain⟨e5,e6⟩:=CQ e
 dsimp only at e5 e6
 subst e6
 exact⟨α,ρ,h,x,h1,hσ,hr,e1,fun α1 H1 v ev1 hr1 rx=>⟨α1,ρ,h1,l,h2,hσ.ev ev1,hr1,e2,fun α2 H2 ev2 hr2=>⟨α2,ρ,h2,u,_,hσ.ev (ev1.trans ev2),hr2,e3,fun α3 H3 ev3 hr3=>
  hf α3 _ H3 x d l u v Q hr3 ((rx.ev ev2).ev ev3) e5 fun H4 w s rw=>k α3 H4 w (((ev1.trans ev2).trans ev3).trans (.same s)) (hr3.same s) rw⟩⟩⟩
end
end L2
namespace L2
open PySem PySem.Spec PyProof.Rows
def AT:FS:=fun ρ h=>some (.nx ρ,h)
def AY (a:FE):FS:=fun ρ h=>bnd (a ρ h) fun x h1=>some (.rt x,h1)
def MA (a:FE):FS:=fun ρ h=>bnd (a ρ h) fun _ h1=>some (.nx ρ,h1)
def AJ (a b:FS):FS:=fun ρ h=>bnd (a ρ h) fun o h1=>match o with| .nx ρ'=>b ρ' h1|o=>some (o,h1)
def CV (c:FT) (a b:FS):FS:=fun ρ h=>bnd (c ρ h) fun c h1=>if c=true then a ρ h1 else b ρ h1
def BI (i:Nat):FG:=fun x ρ h=>some (ρ.set i (some x),h)
def MD:aX:=fun xs ρ h=>match xs with|[]=>some (ρ,h)|_=>none
def DM (g:FG) (gs:aX):aX:=fun xs ρ h=>match xs with|x::r=>bnd (g x ρ h) fun ρ' h'=>gs r ρ' h'|[]=>none
def gX (n:Nat) (gs:aX):FG:=fun x ρ h=>match x with| .tup xs=>if xs.length=n then gs xs ρ h else none|_=>none
def B2 (a:FE) (g:FG):FS:=fun ρ h=>bnd (a ρ h) fun x h1=>bnd (g x ρ h1) fun ρ' h2=>some (.nx ρ',h2)
abbrev FI:=BJ→AA→Option ((List M×Option Nat)×AA)
def KF (xs:List M) (k:Option Nat) (h:AA):Prop:=match k with|none=>True|some k=>h[k]? =some (.lst xs)
section
open Classical
noncomputable def FN (xs:List M) (k:Option Nat) (b:M→FS):List M→BJ→AA→Option (Out×AA)
 |[],ρ,h=>if KF xs k h then some (.nx ρ,h) else none
 |x::r,ρ,h=>if KF xs k h then bnd (b x ρ h) fun o h1=>match o with
   | .nx ρ'=>FN xs k b r ρ' h1
   | .ct ρ'=>FN xs k b r ρ' h1
   | .bk ρ'=>some (.nx ρ',h1)
   | .rt d=>some (.rt d,h1)
  else none
noncomputable def D1 (xs:List M) (k:Option Nat) (g:FG) (c:FT) (e:FE) (τ:BJ):List M→AA→Option (List M×AA)
 |[],h=>if KF xs k h then some ([],h) else none
 |x::r,h=>if KF xs k h then bnd (g x τ h) fun τ' h1=>bnd (c τ' h1) fun t h2=>if t=true then bnd (e τ' h2) fun y h3=>bnd (D1 xs k g c e τ r h3) fun ys h4=>some (y::ys,h4) else D1 xs k g c e τ r h2
  else none
end
noncomputable def GB (i:FI) (g:FG) (b:FS):FS:=fun ρ h=>bnd (i ρ h) fun s h1=>FN s.1 s.2 (fun x ρ h=>bnd (g x ρ h) fun ρ' h'=>b ρ' h') s.1 ρ h1
def U2 (ix:List (Option Nat)) (ρ:BJ):BJ:=ix.map fun o=>match o with|none=>none|some j=>(ρ[j]?).join
noncomputable def DW (ix:List (Option Nat)) (i:FI) (g:FG) (c:FT) (e:FE):FE:=fun ρ h=>bnd (i ρ h) fun s h1=>if s.1.length≤16777216 then bnd (D1 s.1 s.2 g c e (U2 ix ρ) s.1 h1) fun ys h2=>some (.lst ys,h2) else none
def F0 (c:FT) (b:FS):Nat→FS
 |0,_,_=>none
 |n+1,ρ,h=>bnd (c ρ h) fun t h1=>if t=true then bnd (b ρ h1) fun o h2=>match o with
   | .nx ρ'=>F0 c b n ρ' h2
   | .ct ρ'=>F0 c b n ρ' h2
   | .bk ρ'=>some (.nx ρ',h2)
   | .rt d=>some (.rt d,h2)
  else some (.nx ρ,h1)
def Wk (K:PySem.W.Frag) (α:Pl) (H:Hp) (xs:List M) (k:Option Nat) (J:It):Prop:=∀γ:List Addr,(∀b∈γ,H b=none)→∀α1 h1 H1,Ev ⟨α.a,γ++α.g⟩ α1 H H1→Rl K α1 h1 H1→KF xs k h1→∀i:Nat,
 (∀x,xs[i]? =some x→J.go i H1∧∀v H2,J.yld i H1 v H2→Same H1 H2∧RepA K α1 H2 x v)∧(i=xs.length→J.stop i H1)
def iM (K:PySem.W.Frag) (m:FI):TI:=fun σ H R=>∃α ρ h s h',REnv K α H ρ σ∧Rl K α h H∧m ρ h=some (s,h')∧∀α' H' J,Ev α α' H H'→Rl K α' h' H'→Wk K α' H' s.1 s.2 J→R J H'
theorem REnv.set {K:PySem.W.Frag} {α:Pl} {H:Hp} {ρ:BJ} {σ:St} {i:Nat} {x:M} {v:V} (r:REnv K α H ρ σ) (hx:RepA K α H x v):REnv K α H (ρ.set i (some x)) (σ.set i (some v)):=by
 refine⟨by simp[r.1],fun j m hj=> ?_⟩
 by_cases e:i=j
 ·subst e
  have hl:i<ρ.length:=by have:=(List.getElem?_eq_some_iff.mp hj).1;simpa using this
  rw[List.getElem?_set_self hl]at hj
  cases hj
  exact⟨v,by rw[List.getElem?_set_self (by rw[←r.1];exact hl)],hx⟩
 ·rw[List.getElem?_set_ne e]at hj
  obtain⟨w,h1,h2⟩:=r.2 j m hj
  exact⟨w,by rw[List.getElem?_set_ne e];exact h1,h2⟩
theorem REnv.tau {K:PySem.W.Frag} {α:Pl} {H:Hp} {ρ:BJ} {σ:St} {ix:List (Option Nat)} (r:REnv K α H ρ σ):REnv K α H (U2 ix ρ) (tau ix σ):=by
 refine⟨by simp[U2,L2.tau],fun j m hj=> ?_⟩
 unfold U2 at hj
 rw[List.getElem?_map]at hj
 cases e:ix[j]?with
 |none=>rw[e]at hj;cases hj
 |some o=>
  rw[e]at hj
  cases o with
  |none=>cases hj
  |some q=>
   have hj':(ρ[q]?).join=some m:=Option.some.inj hj
   have hq:ρ[q]? =some (some m):=by
    cases e2:ρ[q]?with
    |none=>rw[e2]at hj';cases hj'
    |some z=>rw[e2]at hj';exact congrArg some hj'
   obtain⟨v,h1,h2⟩:=r.2 q m hq
   refine⟨v,?_,h2⟩
   unfold L2.tau
   rw[List.getElem?_map,e]
   show some (σ[q]?).join=_
   rw[h1]
   rfl
section
variable {X:Cx} {a b c e o:Expr} {es:List Expr} {ma mb mc me:FE} {mas:FA} {tc:FT} {st:Stmt} {rest:List Stmt} {ms mr:FS} {g:FG} {gs:aX} {pos p:Pos}
theorem AF:PSs X [] (sM X.K AT):=jY.imp fun D σ H ⟨α,ρ,h,d,h',hσ,hr,e,k⟩=>by
 cases e
 exact k α H .refl hr σ hσ
theorem A6 (h:PS X st (sM X.K ms)):PSs X [st] (sM X.K ms):=jZ h
theorem A3 (h1:PS X st (sM X.K ms)) (h2:PSs X rest (sM X.K mr)):PSs X (st::rest) (sM X.K (AJ ms mr)):=(bN h1 h2).imp fun D σ H ⟨α,ρ,h,d,h',hσ,hr,e,k⟩=>by
 obtain⟨o,h1,e1,e⟩:=A8 e
 refine⟨α,ρ,h,o,h1,hσ,hr,e1,fun α1 H1 ev1 hr1=> ?_⟩
 cases o with
 |nx ρ'=>exact fun σ' hσ'=>⟨α1,ρ',h1,d,h',hσ',hr1,e,fun α2 H2 ev2 hr2=>k α2 H2 (ev1.trans ev2) hr2⟩
 |bk ρ'=>cases e;exact k α1 H1 ev1 hr1
 |ct ρ'=>cases e;exact k α1 H1 ev1 hr1
 |rt x=>cases e;exact k α1 H1 ev1 hr1
theorem AE (he:PE X e (tM X.K me)):PS X (.Return (some e) pos) (sM X.K (AY me)):=(qL he).imp fun D σ H ⟨α,ρ,h,d,h',hσ,hr,e,k⟩=>by
 obtain⟨x,h1,e1,e⟩:=A8 e
 cases e
 exact⟨α,ρ,h,x,_,hσ,hr,e1,fun α1 H1 v ev1 hr1 rv=>k α1 H1 ev1 hr1 v rv⟩
theorem RS (he:PE X e (tM X.K me)) (hs:LE e=true):PS X (.Expr e pos) (sM X.K (MA me)):=(dL he hs).imp fun D σ H ⟨α,ρ,h,d,h',hσ,hr,e,k⟩=>by
 obtain⟨x,h1,e1,e⟩:=A8 e
 cases e
 exact⟨α,ρ,h,x,_,hσ,hr,e1,fun α1 H1 v ev1 hr1 rv=>k α1 H1 ev1 hr1 σ (hσ.ev ev1)⟩
theorem B0 {s1 s2:List Stmt} (hc:PT X c (bM X.K tc)) (ha:PSs X s1 (sM X.K ms)) (hb:PSs X s2 (sM X.K mr)):PS X (.If c s1 s2 pos) (sM X.K (CV tc ms mr)):=(vF hc ha hb).imp fun D σ H ⟨α,ρ,h,d,h',hσ,hr,e,k⟩=>by
 obtain⟨z,h1,e1,e⟩:=A8 e
 refine⟨α,ρ,h,z,h1,hσ,hr,e1,fun α1 H1 ev1 hr1=> ?_⟩
 cases z with
 |true=>exact⟨α1,ρ,h1,d,h',hσ.ev ev1,hr1,e,fun α2 H2 ev2 hr2=>k α2 H2 (ev1.trans ev2) hr2⟩
 |false=>exact⟨α1,ρ,h1,d,h',hσ.ev ev1,hr1,e,fun α2 H2 ev2 hr2=>k α2 H2 (ev1.trans ev2) hr2⟩
theorem C9 {i:Nat} (h:PG X e (MJ i)):PG X e (gM X.K (BI i)):=h.imp fun v σ H Q ⟨α,ρ,h,x,ρ',h',hσ,hr,rx,e,k⟩=>by
 cases e
 exact k α H _ .refl hr (hσ.set rx)
theorem XJ:PGs X [] (yE X.K MD):=XF.imp fun v σ H Q ⟨α,ρ,h,x,ρ',h',hσ,hr,rx,e,k⟩=>by
 cases x with
 |nil=>cases e;exact⟨rx,k α H _ .refl hr hσ⟩
 |cons _ _=>cases e
theorem IE (h1:PG X e (gM X.K g)) (h2:PGs X es (yE X.K gs)) (hs:(assignEach (e::es) X.env).map (·.2)=assign e X.env::(assignEach es X.env).map (·.2)):PGs X (e::es) (yE X.K (DM g gs)):=(OJ h1 h2 hs).imp fun v σ H Q ⟨α,ρ,h,x,ρ',h',hσ,hr,rx,e,k⟩=>by
 cases x with
 |nil=>cases e
 |cons x r=>
  obtain⟨u,us,rfl,ru,rs⟩:=rx
  obtain⟨ρ1,h1,e1,e⟩:=A8 e
  exact⟨u,us,rfl,α,ρ,h,x,ρ1,h1,hσ,hr,ru,e1,fun α1 H1 σ1 ev1 hr1 hσ1=>⟨α1,ρ1,h1,r,ρ',h',hσ1,hr1,rs.ev ev1,e,fun α2 H2 σ2 ev2 hr2 hσ2=>k α2 H2 σ2 (ev1.trans ev2) hr2 hσ2⟩⟩
theorem aY {k:Nat} {n:Nat} (hc:X.calm=true) (h:PGs X es (yE X.K gs)) (hn:(assignEach es X.env).length=n) (hst:(assignEach es X.env).findIdx? (·.1)=none):PG X (.Tuple es k pos) (gM X.K (gX n gs)):=(bD hc h hn hst).imp fun v σ H Q ⟨α,ρ,h,x,ρ',h',hσ,hr,rx,e,k⟩=>by
 unfold gX at e
 split at e
 ·split at e
  ·rename_i xs hl
   obtain⟨a,vs,rfl,t,rs⟩:=rx
   exact⟨a,vs,rfl,t.sq,by rw[←rs.length];exact hl,α,ρ,h,xs,ρ',h',hσ,hr,rs,e,k⟩
  ·cases e
 ·cases e
theorem RK {tg:Expr} (he:PE X e (tM X.K me)) (hg:PG X tg (gM X.K g)) (hs:swapsWithSole [tg] e pos.line X.env=pure false) (hw:swappedStores [tg] e X.env=pure none) (h1:(assignEach [tg] X.env).map (·.2)=[assign tg X.env]):
 PS X (.Assign [tg] e pos) (sM X.K (B2 me g)):=(nX he hg hs hw h1).imp fun D σ H ⟨α,ρ,h,d,h',hσ,hr,e,k⟩=>by
 obtain⟨x,h1,e1,e⟩:=A8 e
 obtain⟨ρ1,h2,e2,e⟩:=A8 e
 cases e
 exact⟨α,ρ,h,x,h1,hσ,hr,e1,fun α1 H1 v ev1 hr1 rv=>⟨α1,ρ,h1,x,ρ1,_,hσ.ev ev1,hr1,rv,e2,fun α2 H2 σ2 ev2 hr2 hσ2=>k α2 H2 (ev1.trans ev2) hr2 σ2 hσ2⟩⟩
theorem AK {i:Nat} {x:Str} {pos':Pos} (hN:X.N.Nodup) (hi:X.N[i]? =some x) (hx:sZ X.env.scope x) (he:PE X e (tM X.K me)) (hs:LE e=true) (hf:X.fn x=true):
 PS X (.Assign [.Name x pos'] e pos) (sM X.K (B2 me (BI i))):=(jS hN hi hx he hs hf).imp fun D σ H ⟨α,ρ,h,d,h',hσ,hr,e,k⟩=>by
 obtain⟨x,h1,e1,e⟩:=A8 e
 cases e
 exact⟨α,ρ,h,x,_,hσ,hr,e1,fun α1 H1 v ev1 hr1 rv=>k α1 H1 ev1 hr1 _ ((hσ.ev ev1).set rv)⟩
theorem NR {body:List Stmt} (N:Nat) (hp:PassesOwn (model X.prog X.w) X.A X.env X.xe) (hc:PT X c (bM X.K tc)) (hb:PSs X body (sM X.K ms)):PS X (.While c body [] pos) (sM X.K (F0 tc ms N)):=(bO hp hc hb).imp fun D σ H ⟨α,ρ,h,d,h',hσ,hr,e,k⟩=>by
 refine⟨fun m σ H=>∃α ρ h,REnv X.K α H ρ σ∧Rl X.K α h H∧F0 tc ms m ρ h=some (d,h')∧∀α' H',Ev α α' H H'→Rl X.K α' h' H'→Fin X.K D α' H' d,⟨N,α,ρ,h,hσ,hr,e,k⟩,?_⟩
 rintro m σ H ⟨α,ρ,h,hσ,hr,e,k⟩
 cases m with
 |zero=>cases e
 |succ m=>
  obtain⟨t,h1,e1,e⟩:=A8 e
  refine⟨α,ρ,h,t,h1,hσ,hr,e1,fun α1 H1 ev1 hr1=> ?_⟩
  cases t with
  |false=>cases e;exact k α1 H1 ev1 hr1 σ (hσ.ev ev1)
  |true=>
   obtain⟨o,h2,e2,e⟩:=A8 e
   refine⟨fun σ' H'=>∃α ρ h,REnv X.K α H' ρ σ'∧Rl X.K α h H'∧F0 tc ms m ρ h=some (d,h')∧∀α' H'',Ev α α' H' H''→Rl X.K α' h' H''→Fin X.K D α' H'' d,fun σ' H' q=>⟨m,Nat.lt_succ_self m,q⟩,α1,ρ,h1,o,h2,hσ.ev ev1,hr1,e2,fun α2 H2 ev2 hr2=> ?_⟩
   cases o with
   |nx ρ'=>exact fun σ' hσ'=>⟨α2,ρ',h2,hσ',hr2,e,fun α3 H3 ev3 hr3=>k α3 H3 ((ev1.trans ev2).trans ev3) hr3⟩
   |ct ρ'=>exact fun σ' hσ'=>⟨α2,ρ',h2,hσ',hr2,e,fun α3 H3 ev3 hr3=>k α3 H3 ((ev1.trans ev2).trans ev3) hr3⟩
   |bk ρ'=>cases e;exact fun σ' hσ'=>k α2 H2 (ev1.trans ev2) hr2 σ' hσ'
   |rt x=>cases e;exact fun v rv=>k α2 H2 (ev1.trans ev2) hr2 v rv
theorem EN {iter tg:Expr} {body:List Stmt} {mi:FI} (hp:PassesOwn (model X.prog X.w) X.A X.env X.xe) (hc:X.calm=true) (hi:PI X tg iter (iM X.K mi)) (hg:PG X tg (gM X.K g)) (hb:PSs X body (sM X.K ms)) (hs:∀x,foldedSetIterable iter X.env x=pure x):
 PS X (.For tg iter body [] pos) (sM X.K (GB mi g ms)):=(nJ hp hc hi hg hb hs).imp fun D σ H ⟨α,ρ,h,d,h',hσ,hr,e,k⟩=>by
 obtain⟨s,h1,e1,e⟩:=A8 e
 refine⟨α,ρ,h,s,h1,hσ,hr,e1,fun α1 H1 J ev1 hr1 wk=> ?_⟩
 refine⟨fun i m σ2 H2=>m=s.1.length-i∧i≤s.1.length∧∃α2 ρ2 h2,Ev α1 α2 H1 H2∧REnv X.K α2 H2 ρ2 σ2∧Rl X.K α2 h2 H2∧FN s.1 s.2 (fun x ρ h=>bnd (g x ρ h) fun ρ' h'=>ms ρ' h') (s.1.drop i) ρ2 h2=some (d,h'),⟨_,rfl,Nat.zero_le _,α1,ρ,h1, .refl,hσ.ev ev1,hr1,e⟩,?_⟩
 rintro i m σ2 H2 ⟨rfl,hi,α2,ρ2,h2,ev2,hσ2,hr2,e⟩
 by_cases hlt:i<s.1.length
 ·right
  rw[List.drop_eq_getElem_cons hlt]at e
  unfold FN at e
  split at e
  ·rename_i ok
   obtain⟨go,yl⟩:=(wk [] (by simp) α2 h2 H2 ev2 hr2 ok i).1 s.1[i] (by simp[hlt])
   refine⟨go,fun σ' H'=>∃α3 ρ3 h3,Ev α1 α3 H1 H'∧REnv X.K α3 H' ρ3 σ'∧Rl X.K α3 h3 H'∧FN s.1 s.2 (fun x ρ h=>bnd (g x ρ h) fun ρ' h'=>ms ρ' h') (s.1.drop (i+1)) ρ3 h3=some (d,h'),fun σ' H' q=>⟨_,by omega,rfl,hlt,q⟩,fun v H3 y=> ?_⟩
   obtain⟨s3,rv⟩:=yl v H3 y
   obtain⟨o,h4,e4,e⟩:=A8 e
   obtain⟨ρ5,h5,e5,e4⟩:=A8 e4
   refine⟨α2,ρ2,h2,_,ρ5,h5,hσ2.ev (.same s3),hr2.same s3,rv,e5,fun α5 H5 σ5 ev5 hr5 hσ5=> ?_⟩
   refine⟨α5,ρ5,h5,o,h4,hσ5,hr5,e4,fun α6 H6 ev6 hr6=> ?_⟩
   have evA:Ev α1 α6 H1 H6:=((ev2.trans (.same s3)).trans ev5).trans ev6
   cases o with
   |nx ρ'=>exact fun σ' hσ'=>⟨α6,ρ',h4,evA,hσ',hr6,e⟩
   |ct ρ'=>exact fun σ' hσ'=>⟨α6,ρ',h4,evA,hσ',hr6,e⟩
   |bk ρ'=>cases e;exact fun σ' hσ'=>k α6 H6 (ev1.trans evA) hr6 σ' hσ'
   |rt x=>cases e;exact fun v rv=>k α6 H6 (ev1.trans evA) hr6 v rv
  ·cases e
 ·left
  have ei:i=s.1.length:=by omega
  subst ei
  rw[List.drop_length]at e
  unfold FN at e
  split at e
  ·rename_i ok
   cases e
   exact⟨(wk [] (by simp) α2 _ H2 ev2 hr2 ok _).2 rfl,k α2 H2 (ev1.trans ev2) hr2 σ2 hσ2⟩
  ·cases e
def CG (K:PySem.W.Frag) (ix:List (Option Nat)) (g0:TG) (g:FG):Prop:=∀(α:Pl) (h:AA) (H:Hp) (σ σ1:St) (ρ1:BJ) (x:M) (v:V) (ρ':BJ) (h':AA) (Q:St→Hp→Prop),TH ix σ σ1→REnv K α H ρ1 σ1→RepA K α H x v→g x ρ1 h=some (ρ',h')→
 (∀σ',TH ix σ σ'→REnv K α H ρ' σ'→h'=h→Q σ' H)→g0 v σ1 H Q
def yD (K:PySem.W.Frag) (ix:List (Option Nat)) (g0:aV) (g:aX):Prop:=∀(α:Pl) (h:AA) (H:Hp) (σ σ1:St) (ρ1:BJ) (x:List M) (v:List V) (ρ':BJ) (h':AA) (Q:St→Hp→Prop),TH ix σ σ1→REnv K α H ρ1 σ1→RepAs K α H x v→g x ρ1 h=some (ρ',h')→
 (∀σ',TH ix σ σ'→REnv K α H ρ' σ'→h'=h→Q σ' H)→g0 v σ1 H Q
theorem D7 {K:PySem.W.Frag} {ix:List (Option Nat)} {i:Nat} (hi:ix[i]? =some none):CG K ix (MJ i) (BI i):=by
 intro α h H σ σ1 ρ1 x v ρ' h' Q kp hσ rx e k
 cases e
 refine k _ ⟨by simp[kp.1],fun q w hq=> ?_⟩ (hσ.set rx) rfl
 by_cases z:i=q
 ·subst z
  unfold L2.tau at hq
  rw[List.getElem?_map,hi]at hq
  cases hq
 ·rw[List.getElem?_set_ne z];exact kp.2 q w hq
theorem jR {K:PySem.W.Frag} {ix:List (Option Nat)}:yD K ix vS MD:=by
 intro α h H σ σ1 ρ1 x v ρ' h' Q kp hσ rx e k
 cases x with
 |nil=>cases e;exact⟨rx,k _ kp hσ rfl⟩
 |cons _ _=>cases e
theorem TB {K:PySem.W.Frag} {ix:List (Option Nat)} {g0:TG} {gs0:aV} {g:FG} {gs:aX} (h1:CG K ix g0 g) (h2:yD K ix gs0 gs):yD K ix (mS g0 gs0) (DM g gs):=by
 intro α h H σ σ1 ρ1 x v ρ' h' Q kp hσ rx e k
 cases x with
 |nil=>cases e
 |cons x r=>
  obtain⟨u,us,rfl,ru,rs⟩:=rx
  obtain⟨ρ2,h3,e1,e⟩:=A8 e
  exact⟨u,us,rfl,h1 α h H σ σ1 ρ1 x u ρ2 h3 _ kp hσ ru e1 fun σ2 kp2 hσ2 eh=>h2 α h3 H σ σ2 ρ2 r us ρ' h' Q kp2 hσ2 rs e fun σ3 kp3 hσ3 eh3=>k σ3 kp3 hσ3 (eh3.trans eh)⟩
theorem oA {K:PySem.W.Frag} {ix:List (Option Nat)} {n:Nat} {gs0:aV} {gs:aX} (h:yD K ix gs0 gs):CG K ix (tN K n gs0) (gX n gs):=by
 intro α h0 H σ σ1 ρ1 x v ρ' h' Q kp hσ rx e k
 unfold gX at e
 split at e
 ·split at e
  ·rename_i xs hl
   obtain⟨a,vs,rfl,t,rs⟩:=rx
   exact⟨a,vs,rfl,t.sq,by rw[←rs.length];exact hl,h α h0 H σ σ1 ρ1 xs vs ρ' h' Q kp hσ rs e k⟩
  ·cases e
 ·cases e
theorem PTs.imp {es:List Expr} {t t':TT} (h:PTs X es t) (i:∀σ H Q,t' σ H Q→t σ H Q):PTs X es t':=fun pins s σ H Q I q=>h pins s σ H Q I (i σ H Q q)
def FU:FT:=fun _ h=>some (true,h)
theorem HQ:PTs X [] (bM X.K FU):=kC.imp fun σ H Q ⟨α,ρ,h,d,h',hσ,hr,e,k⟩=>by
 cases e
 exact k α H .refl hr
theorem L9 (h:PT X c (bM X.K tc)):PTs X [c] (bM X.K tc):=k4 h
theorem c0 {ix:List (Option Nat)} {σ:St}:TH ix σ (tau ix σ):=⟨by simp[L2.tau],fun _ _ h=>h⟩
theorem NW {K:PySem.W.Frag} {ix:List (Option Nat)} {mi:FI} {g0:TG} {g:FG} {tc:FT} {me:FE} (cg:CG K ix g0 g) {σ:St} {H:Hp} {Q:VK} (q:tM K (DW ix mi g tc me) σ H Q):bV ix (iM K mi) g0 (bM K tc) (tM K me) σ H Q:=by
 obtain⟨α,ρ,h,d,h',hσ,hr,e,k⟩:=q
 obtain⟨s,h1,e1,e⟩:=A8 e
 split at e
 ·rename_i hl
  obtain⟨ys,h2,e2,e⟩:=A8 e
  cases e
  refine⟨α,ρ,h,s,h1,hσ,hr,e1,fun α1 H1 J ev1 hr1 wk D hD=> ?_⟩
  have hσ1:=(hσ.ev ev1).tau (ix:=ix)
  have hDg:D∉α1.g:=fun hm=>by
   obtain⟨o,e⟩:=hr1.hid D hm
   rw[hD]at e;cases e
  have hγ:∀b∈[D],H1 b=none:=fun b hb=>by rw[List.mem_singleton.mp hb];exact hD
  refine⟨fun i m acc H2=>m=s.1.length-i∧i≤s.1.length∧acc.length≤i∧∃a2 h2 zs rs,ys=zs++rs∧Ev (α1.hide D) (Pl.hide ⟨a2,α1.g⟩ D) H1 H2∧Rl K (Pl.hide ⟨a2,α1.g⟩ D) h2 H2∧REnv K (Pl.hide ⟨a2,α1.g⟩ D) H2 (U2 ix ρ) (tau ix σ)∧RepAs K (Pl.hide ⟨a2,α1.g⟩ D) H2 zs acc∧D1 s.1 s.2 g tc me (U2 ix ρ) (s.1.drop i) h2=some (rs,h'),
   ⟨_,rfl,Nat.zero_le _,Nat.zero_le _,α1.a,h1,[],ys,rfl, .same (B4 hD _),hr1.lay hD,(hσ1.hide hD).ev (.same (B4 hD _)),rfl,e2⟩,?_⟩
  rintro i m acc H2 ⟨rfl,hi,hacc,a2,h2,zs,rs,ey,ev2,hr2,hσ2,rz,e⟩ hDa
  have hDm:D∈(Pl.hide ⟨a2,α1.g⟩ D).g:=List.mem_cons_self
  have hDn:D∉a2:=fun hm=>hr2.ap D hm hDm
  by_cases hlt:i<s.1.length
  ·right
   rw[List.drop_eq_getElem_cons hlt]at e
   unfold D1 at e
   split at e
   ·rename_i ok
    obtain⟨go,yl⟩:=(wk [D] hγ _ h2 H2 ev2 hr2 ok i).1 s.1[i] (by simp[hlt])
    refine⟨go,by rw[sizeLine_eq];omega,fun v H3 y=> ?_⟩
    obtain⟨s3,rv⟩:=yl v H3 y
    obtain⟨τ',h3,e3,e⟩:=A8 e
    obtain⟨t,h4,e4,e⟩:=A8 e
    refine cg _ h2 H3 σ (tau ix σ) (U2 ix ρ) _ v τ' h3 _ c0 (hσ2.ev (.same s3)) rv e3 fun σ' kp hσ' eh=>⟨kp,?_⟩
    subst eh
    refine⟨_,τ',_,t,h4,hσ',hr2.same s3,e4,fun α4 H4 ev4 hr4=> ?_⟩
    have hD4:H4 D=some (.lst acc):=ev4.keep _ _ (s3 _ _ hDa) (.inl trivial) hDn
    have hg4:α4.g=D::α1.g:=ev4.pre.1
    have ea4:α4=Pl.hide ⟨α4.a,α1.g⟩ D:=by cases α4;cases hg4;rfl
    have evA:Ev (α1.hide D) α4 H1 H4:=(ev2.trans (.same s3)).trans ev4
    cases t with
    |false=>
     refine⟨hD4,_,?_,rfl,hlt,by omega,α4.a,h4,zs,rs,ey,?_,?_,?_,?_,e⟩
     ·omega
     ·rw[←ea4];exact evA
     ·rw[←ea4];exact hr4
     ·rw[←ea4];exact(hσ2.ev (.same s3)).ev ev4
     ·rw[←ea4];exact(rz.ev (.same s3)).ev ev4
    |true=>
     obtain⟨y,h5,e5,e⟩:=A8 e
     obtain⟨rs',h6,e6,e⟩:=A8 e
     cases e
     refine⟨α4,τ',h4,y,h5,hσ'.ev ev4,hr4,e5,fun α5 H5 w ev5 hr5 rw'=> ?_⟩
     have hD4n:D∉α4.a:=fun hm=>hr4.ap D hm (by rw[hg4];exact List.mem_cons_self)
     have hD5:H5 D=some (.lst acc):=ev5.keep _ _ hD4 (.inl trivial) hD4n
     have hg5:α5.g=D::α1.g:=ev5.pre.1.trans hg4
     have hD5m:D∈α5.g:=by rw[hg5];exact List.mem_cons_self
     have ea5:α5=Pl.hide ⟨α5.a,α1.g⟩ D:=by cases α5;cases hg5;rfl
     refine⟨hD5,_,?_,rfl,hlt,by simp;omega,α5.a,h5,zs++[y],rs',by rw[ey];simp,?_,?_,?_,?_,e6⟩
     ·omega
     ·rw[←ea5];exact(evA.trans ev5).hw hD
     ·rw[←ea5];exact hr5.hw hD5m
     ·rw[←ea5];exact(((hσ2.ev (.same s3)).ev ev4).ev ev5).hw hD5m
     ·rw[←ea5];exact((((rz.ev (.same s3)).ev ev4).ev ev5).snoc rw').hw hD5m
   ·cases e
  ·left
   have ei:i=s.1.length:=by omega
   subst ei
   rw[List.drop_length]at e
   unfold D1 at e
   split at e
   ·rename_i ok
    cases e
    refine⟨(wk [D] hγ _ _ H2 ev2 hr2 ok _).2 rfl,k ⟨a2,α1.g⟩ H2 _ (ev1.trans ev2.unhide) hr2.show ⟨D,acc,rfl,⟨hDn,hDg⟩,hDa,?_⟩⟩
    rw[ey,List.append_nil];exact rz.show
   ·cases e
 ·cases e
theorem DO {elt tg iter:Expr} {ifs:List Expr} {scope:Scope} {N':List Str} {ix:List (Option Nat)} {mi:FI} {g0:TG}
 (S:CompScope X N' ix scope) (hcalm:X.calm=true) (cg:CG X.K ix g0 g) (hi:PI X tg iter (iM X.K mi))
 (hg:∀C s₀ H₀ fp,PG (X.comp scope (CU X.env.cells scope.names []) C s₀ H₀ fp N') tg g0)
 (ht:∀C s₀ H₀ fp,PTs (X.comp scope (CU X.env.cells scope.names []) C s₀ H₀ fp N') ifs (bM (X.comp scope (CU X.env.cells scope.names []) C s₀ H₀ fp N').K tc))
 (he:∀C s₀ H₀ fp,PE (X.comp scope (CU X.env.cells scope.names []) C s₀ H₀ fp N') elt (tM (X.comp scope (CU X.env.cells scope.names []) C s₀ H₀ fp N').K me))
 (hs:∀x,foldedSetIterable iter X.env x=pure x):PE X (.ListComp elt [⟨tg,iter,ifs,0⟩] scope pos) (tM X.K (DW ix mi g tc me)):=
 (lG S hcalm hi hg ht he hs).imp fun σ H Q q=>NW cg q
end
end L2
namespace L2
open PySem PySem.Spec PyProof.Rows
section
variable {X:Cx} {a b c e o:Expr} {es:List Expr} {ma mb mc me:FE} {mas:FA} {tc:FT} {st:Stmt} {rest:List Stmt} {ms mr:FS} {g:FG} {gs:aX} {pos p:Pos}
theorem jG {elt tg iter:Expr} {ifs:List Expr} {scope:Scope} {pos' spos:Pos} {N':List Str} {ix:List (Option Nat)} {mi:FI} {g0:TG} {k:Nat} {x:Str}
 (hN:X.N.Nodup) (hk:X.N[k]? =some x) (hx:X.env.scope.names.lookup x=some .local)
 (S:CompScope X N' ix scope) (hcalm:X.calm=true) (cg:CG X.K ix g0 g) (hi:PI X tg iter (iM X.K mi))
 (hg:∀C s₀ H₀ fp,PG (X.comp scope (CU X.env.cells scope.names []) C s₀ H₀ fp N') tg g0)
 (ht:∀C s₀ H₀ fp,PTs (X.comp scope (CU X.env.cells scope.names []) C s₀ H₀ fp N') ifs (bM (X.comp scope (CU X.env.cells scope.names []) C s₀ H₀ fp N').K tc))
 (he:∀C s₀ H₀ fp,PE (X.comp scope (CU X.env.cells scope.names []) C s₀ H₀ fp N') elt (tM (X.comp scope (CU X.env.cells scope.names []) C s₀ H₀ fp N').K me))
 (hsw:swapsWith (.ListComp elt [⟨tg,iter,ifs,0⟩] scope pos) (some (.Name x pos')) spos.line X.env=pure true)
 (hs:∀x,foldedSetIterable iter X.env x=pure x):
 PS X (.Assign [.Name x pos'] (.ListComp elt [⟨tg,iter,ifs,0⟩] scope pos) spos) (sM X.K (B2 (DW ix mi g tc me) (BI k))):=
 (k9 hN hk hx S hcalm hi hg ht he hsw hs).imp fun D σ H ⟨α,ρ,h,d,h',hσ,hr,e,kk⟩=>by
   obtain⟨x,h1,e1,e⟩:=A8 e
   cases e
   exact NW cg ⟨α,ρ,h,x,_,hσ,hr,e1,fun α1 H1 v ev1 hr1 rv=>kk α1 H1 ev1 hr1 _ ((hσ.ev ev1).set rv)⟩
theorem PI.imp {tg iter:Expr} {t t':TI} (h:PI X tg iter t) (i:∀σ H R,t' σ H R→t σ H R):PI X tg iter t':=fun pins s σ H R I q=>h pins s σ H R I (i σ H R q)
def iL (a:FE):FI:=fun ρ h=>bnd (a ρ h) fun x h1=>match x with
 | .lst xs=>some ((xs,none),h1)
 | .scr ns=>some ((ns.map M.int,none),h1)
 | .ref k=>(match h1[k]?with|some (.lst xs)=>some ((xs,some k),h1)|_=>none)
 |_=>none
def iT (a:FE):FI:=fun ρ h=>bnd (a ρ h) fun x h1=>match x with| .tup xs=>some ((xs,none),h1)|_=>none
def iS (a:FE):FI:=fun ρ h=>bnd (a ρ h) fun x h1=>match x with| .str z=>some ((z.cps.toList.map fun c=>M.str ⟨#[c]⟩,none),h1)|_=>none
def kZ (a:FA):FI:=fun ρ h=>bnd (a ρ h) fun xs h1=>match xs with|[.int j]=>if-4611686018427387904≤j∧j<4611686018427387904 then some (((List.range j.toNat).map fun(i:Nat)=>M.int (i:Int),none),h1) else none|_=>none
theorem RepAs.ints {K:PySem.W.Frag} {α:Pl} {H:Hp}:∀{ns:List Int},RepAs K α H (ns.map M.int) (ns.map V.int)
 |[]=>rfl
 |n::ns=>⟨_,_,rfl,rfl,RepAs.ints⟩
theorem RepA.hides {K:PySem.W.Frag} {α:Pl} {H:Hp} {m:M} {v:V} (r:RepA K α H m v):∀{γ:List Addr},(∀b∈γ,H b=none)→RepA K ⟨α.a,γ++α.g⟩ H m v
 |[],_=>r
 |p::γ,h=>RepA.hide (α:=⟨α.a,γ++α.g⟩) (h p List.mem_cons_self) (RepA.hides r fun b hb=>h b (List.mem_cons_of_mem _ hb))
theorem QM {K:PySem.W.Frag} {α:Pl} {H:Hp} {a:Addr} {xs:List M} {k:Option Nat} (hs:∀γ,(∀b∈γ,H b=none)→∀α1 h1 H1,Ev ⟨α.a,γ++α.g⟩ α1 H H1→Rl K α1 h1 H1→KF xs k h1→∃vs,SqL K H1 a vs∧RepAs K α1 H1 xs vs):Wk K α H xs k (z8 K a):=by
 intro γ hγ α1 h1 H1 ev hr ok i
 obtain⟨vs,sq,rs⟩:=hs γ hγ α1 h1 H1 ev hr ok
 refine⟨fun x hx=> ?_,fun hl=>⟨vs,sq,by rw[←rs.length];omega⟩⟩
 obtain⟨v,hv,rv⟩:=rs.get hx
 refine⟨⟨vs,v,sq,hv⟩,fun w H2 y=> ?_⟩
 obtain⟨e1,e2⟩:=y
 subst e1
 have:=e2 vs sq
 rw[hv]at this
 cases this
 exact⟨Same.refl _,rv⟩
theorem pK {K:PySem.W.Frag} {α:Pl} {H:Hp} {a:Addr} {xs:List M} {k:Option Nat} (hs:∀γ,(∀b∈γ,H b=none)→∀α1 h1 H1,Ev ⟨α.a,γ++α.g⟩ α1 H H1→Rl K α1 h1 H1→KF xs k h1→∃vs,GO K H1 a vs∧RepAs K α1 H1 xs vs):Wk K α H xs k (zR K a):=by
 intro γ hγ α1 h1 H1 ev hr ok i
 obtain⟨vs,sq,rs⟩:=hs γ hγ α1 h1 H1 ev hr ok
 refine⟨fun x hx=> ?_,fun hl=>⟨vs,sq,by rw[←rs.length];omega⟩⟩
 obtain⟨v,hv,rv⟩:=rs.get hx
 refine⟨⟨vs,v,sq,hv⟩,fun w H2 y=> ?_⟩
 obtain⟨e1,e2⟩:=y
 subst e1
 have:=e2 vs sq
 rw[hv]at this
 cases this
 exact⟨Same.refl _,rv⟩
theorem D5 {l tg:Expr} {ml:FE} (hl:PE X l (tM X.K ml)):PI X tg l (iM X.K (iL ml)):=(l8 hl).imp fun σ H R ⟨α,ρ,h,s,h',hσ,hr,e,k⟩=>by
 obtain⟨x,h1,e1,e⟩:=A8 e
 split at e
 ·cases e
  refine⟨α,ρ,h,_,_,hσ,hr,e1,fun α1 H1 v ev1 hr1 rv=> ?_⟩
  obtain⟨a,vs,rfl,n,ha,rs⟩:=id rv
  refine⟨a,rfl,⟨vs, .of ha⟩,k α1 H1 _ ev1 hr1 (QM fun γ hγ α2 h2 H2 ev2 hr2 _=> ?_)⟩
  obtain⟨a',vs',ea,n',ha',rs'⟩:=(rv.hides hγ).ev ev2
  cases ea
  exact⟨vs', .of ha',rs'⟩
 ·cases e
  refine⟨α,ρ,h,_,_,hσ,hr,e1,fun α1 H1 v ev1 hr1 rv=> ?_⟩
  obtain⟨a,rfl,ha⟩:=id rv
  refine⟨a,rfl,⟨_,ha.sq⟩,k α1 H1 _ ev1 hr1 (QM fun γ hγ α2 h2 H2 ev2 hr2 _=> ?_)⟩
  obtain⟨a',ea,ha'⟩:=(rv.hides hγ).ev ev2
  cases ea
  exact⟨_,ha'.sq,RepAs.ints⟩
 ·split at e
  ·rename_i k0 xs hk
   cases e
   refine⟨α,ρ,h,_,_,hσ,hr,e1,fun α1 H1 v ev1 hr1 rv=> ?_⟩
   obtain⟨a,ha,rfl⟩:=id rv
   obtain⟨vs,hv,rs⟩:=hr1.obj _ a _ ha hk
   refine⟨a,rfl,⟨_, .of hv⟩,k α1 H1 _ ev1 hr1 (QM fun γ hγ α2 h2 H2 ev2 hr2 ok=> ?_)⟩
   obtain⟨vs',hv',rs'⟩:=hr2.obj _ a _ (ev2.ix ha) ok
   exact⟨_, .of hv',rs'⟩
  ·cases e
 ·cases e
theorem S2 {l tg:Expr} {ml:FE} (hl:PE X l (tM X.K ml)):PI X tg l (iM X.K (iT ml)):=(pR hl).imp fun σ H R ⟨α,ρ,h,s,h',hσ,hr,e,k⟩=>by
 obtain⟨x,h1,e1,e⟩:=A8 e
 split at e
 ·cases e
  refine⟨α,ρ,h,_,_,hσ,hr,e1,fun α1 H1 v ev1 hr1 rv=> ?_⟩
  obtain⟨a,vs,rfl,ha,rs⟩:=id rv
  refine⟨a,rfl,⟨vs,ha.sq⟩,k α1 H1 _ ev1 hr1 (pK fun γ hγ α2 h2 H2 ev2 hr2 _=> ?_)⟩
  obtain⟨a',vs',ea,ha',rs'⟩:=(rv.hides hγ).ev ev2
  cases ea
  exact⟨vs',ha'.sq,rs'⟩
 ·cases e
theorem oV {l tg:Expr} {ml:FE} (hl:PE X l (tM X.K ml)):PI X tg l (iM X.K (iS ml)):=(pD hl).imp fun σ H R ⟨α,ρ,h,s,h',hσ,hr,e,k⟩=>by
 obtain⟨x,h1,e1,e⟩:=A8 e
 split at e
 ·rename_i z
  cases e
  refine⟨α,ρ,h,_,_,hσ,hr,e1,fun α1 H1 v ev1 hr1 rv=>⟨z,rv,k α1 H1 _ ev1 hr1 fun γ hγ α2 h2 H2 ev2 hr2 _ i=>⟨fun x hx=> ?_,fun hl=>show z.cps.size≤i by simp at hl;omega⟩⟩⟩
  rw[List.getElem?_map]at hx
  cases q:z.cps.toList[i]?with
  |none=>rw[q]at hx;cases hx
  |some c=>
   rw[q]at hx
   cases hx
   have hi:i<z.cps.size:=by simpa using(List.getElem?_eq_some_iff.mp q).1
   refine⟨hi,fun w H3 y=> ?_⟩
   obtain⟨e1,c',ec,ew⟩:=y
   subst e1 ew
   have:z.cps[i]? =some c:=by simpa using q
   rw[this]at ec
   cases ec
   exact⟨Same.refl _,rfl⟩
 ·cases e
theorem fI {K:PySem.W.Frag} {α:Pl} {H:Hp} {lo:Int} {n:Nat}:Wk K α H ((List.range n).map fun(q:Nat)=>M.int (lo+q)) none (yJ lo n):=by
 intro γ hγ α2 h2 H2 ev2 hr2 _ i
 refine⟨fun x hx=> ?_,fun hl=>show n≤i by simp at hl;omega⟩
 have hi:i<n:=by simpa using(List.getElem?_eq_some_iff.mp hx).1
 rw[List.getElem?_map,List.getElem?_range hi]at hx
 cases hx
 refine⟨hi,fun w H3 y=> ?_⟩
 obtain⟨e1,ew⟩:=y
 subst e1 ew
 exact⟨Same.refl _,rfl⟩
theorem GJ {a tg:Expr} (hg:Gl X "range") (hm:X.mg "range"=none) (ha:PA X [a] (aM X.K mas)) (hs:starEach [a] X.env=[(false,eval a X.env)]):PI X tg (.Call (.Name "range" p) [a] [] pos) (iM X.K (kZ mas)):=(ZE hg hm ha hs).imp fun σ H R ⟨α,ρ,h,s,h',hσ,hr,e,k⟩=>by
 obtain⟨xs,h1,e1,e⟩:=A8 e
 split at e
 ·rename_i j
  split at e
  ·rename_i hj
   cases e
   refine⟨α,ρ,h,_,_,hσ,hr,e1,fun α1 H1 vs ev1 hr1 rv=> ?_⟩
   obtain⟨v,r,rfl,rv,rr⟩:=rv
   cases(show r=[] from rr)
   cases(show v= .int j from rv)
   refine⟨j,rfl,by omega,by omega,k α1 H1 _ ev1 hr1 ?_⟩
   have:=fI (K:=X.K) (α:=α1) (H:=H1) (lo:=0) (n:=j.toNat)
   simp only[Int.zero_add]at this
   exact this
  ·cases e
 ·cases e
def B5 (n k:Nat) (b:FS):FF:=fun ds h=>if ds.length=n then bnd (b (ds.map some++List.replicate k none) h) fun o h1=>match o with
 | .rt d=>some (d,h1)
 | .nx _=>some (.non,h1)
 |_=>none else none
theorem REnv.start {K:PySem.W.Frag} {α:Pl} {H:Hp}:∀{ds:List M} {vs:List V} {k:Nat},RepAs K α H ds vs→REnv K α H (ds.map some++List.replicate k none) (vs.map some++List.replicate k none)
 |[],vs,k,h=>by
  cases(show vs=[] from h)
  refine⟨by simp,fun i m hi=> ?_⟩
  simp[List.getElem?_replicate]at hi
 |d::ds,vs,k,⟨v,r,e,h1,h2⟩=>by
  subst e
  obtain⟨q1,q2⟩:=REnv.start (k:=k) h2
  refine⟨by simpa using q1,fun i m hi=> ?_⟩
  cases i with
  |zero=>simp at hi;subst hi;exact⟨v,by simp,h1⟩
  |succ i=>simpa using q2 i m (by simpa using hi)
end
section
variable {P:Program} {w:World} {K:PySem.W.Frag} {mg:Str→Option Value} {base:Heap}
theorem Fun.okM {x qual:Str} {st:Stmt} {f:Addr} {fd:FuncData} {N ps:List Str} {k n:Nat} {b:FS} (F:Fun K x qual st f fd) (S:FnScope N ps (AH st)) (hn:N.length=ps.length+n)
 (hb:∀(cdv:Value) (A:Around) (outer:List Env) (s:Shared) (H:Hp) (E:XK),Room k (A.deeper (envOfC qual (AH st) s.heap.objs.size f cdv))→
   PSs (SR FY P w K mg base N qual (AH st) f cdv A outer s H E).nox (DR st) (sM (SR FY P w K mg base N qual (AH st) f cdv A outer s H E).nox.K b)):FnOk P w K mg base FY (k+1) f fd ps (GG K (B5 ps.length n b)):=by
 refine F.ok S (fun vs H Q E q=> ?_) (fun cdv A outer s H vs Q E hr q=>⟨sM K b,hb cdv A outer s H E hr,?_⟩)
 ·obtain⟨α,h,ds,d,h',rs,hr,e,_⟩:=q
  unfold B5 at e
  split at e
  ·rename_i hl
   rw[←rs.length];exact hl
  ·cases e
 ·obtain⟨α,h,ds,d,h',rs,hr,e,k⟩:=q
  unfold B5 at e
  split at e
  ·rename_i hl
   obtain⟨o,h1,e1,e⟩:=A8 e
   have ek:N.length-vs.length=n:=by rw[←rs.length,hl,hn];omega
   refine⟨α,ds.map some++List.replicate n none,h,o,h1,?_,hr,e1,fun α' H' ev hr'=> ?_⟩
   ·unfold start
    rw[ek]
    exact REnv.start rs
   ·cases o with
    |nx ρ=>cases e;exact fun σ _=>k α' H' .non ev hr' rfl
    |rt d=>cases e;exact fun v rv=>k α' H' v ev hr' rv
    |bk ρ=>cases e
    |ct ρ=>cases e
  ·cases e
end
end L2
namespace L2
open PySem PySem.Spec PyProof.Rows
def G0 (h:AA):M→Option (List M)
 | .lst xs=>some xs
 | .ref k=>(match h[k]?with|some (.lst xs)=>some xs|_=>none)
 |_=>none
theorem DL {K:PySem.W.Frag} {α:Pl} {h:AA} {H:Hp} {m:M} {v:V} {xs:List M} (hr:Rl K α h H) (rm:RepA K α H m v) (e:G0 h m=some xs):∃a vs,v= .ref a∧H a=some (.lst vs)∧RepAs K α H xs vs:=by
 unfold G0 at e
 split at e
 ·cases e
  obtain⟨a,vs,e1,n,ha,rs⟩:=rm
  exact⟨a,vs,e1,ha,rs⟩
 ·split at e
  ·rename_i hk
   cases e
   obtain⟨a,ha,e1⟩:=rm
   obtain⟨vs,hv,rs⟩:=hr.obj _ a _ ha hk
   exact⟨a,vs,e1,hv,rs⟩
  ·cases e
 ·cases e
def GV (h:AA):M→Option (List M)
 | .scr ns=>some (ns.map M.int)
 |m=>G0 h m
theorem DT {K:PySem.W.Frag} {α:Pl} {h:AA} {H:Hp} {m:M} {v:V} {xs:List M} (hr:Rl K α h H) (rm:RepA K α H m v) (e:GV h m=some xs):∃a vs,v= .ref a∧SqL K H a vs∧RepAs K α H xs vs:=by
 unfold GV at e
 split at e
 ·cases e
  obtain⟨a,e1,t⟩:=rm
  exact⟨a,_,e1,t.sq,RepAs.ints⟩
 ·obtain⟨a,vs,e1,ha,rs⟩:=DL hr rm e
  exact⟨a,vs,e1, .of ha,rs⟩
def DB (xs:List M) (lo hi:Option Int):List M:=(xs.drop (HT.CY xs.length 0 lo)).take (HT.CY xs.length xs.length hi-HT.CY xs.length 0 lo)
theorem RepAs.cut {K:PySem.W.Frag} {α:Pl} {H:Hp} {xs:List M} {vs:List V} {lo hi:Option Int} (r:RepAs K α H xs vs):RepAs K α H (DB xs lo hi) (NJ vs lo hi):=by
 unfold DB NJ
 rw[←r.length]
 exact(r.drop _).take _
theorem P7 {K:PySem.W.Frag} {α:Pl} {h:AA} {H:Hp} {p:Addr} {xs:List M} {vs:List V} (hr:Rl K α h H) (hp:H p=none) (rs:RepAs K α H xs vs):RepA K α (BT H p (.lst vs)) (.lst xs) (.ref p):=
 ⟨p,vs,rfl,hr.new hp,B3,rs.ev (.same (B4 hp _))⟩
theorem XA {K:PySem.W.Frag} {α:Pl} {h:AA} {H:Hp} {p:Addr} {xs:List M} {vs:List V} (hr:Rl K α h H) (hp:H p=none) (rs:RepAs K α H xs vs):RepA K α (BT H p (.tup vs)) (.tup xs) (.ref p):=
 ⟨p,vs,rfl, .inl ⟨.inl B3,hr.new hp⟩,rs.ev (.same (B4 hp _))⟩
section
variable {X:Cx} {K:PySem.W.Frag}
def m9 (K:PySem.W.Frag):R2:=fun x y H Q=>∃(a b:Addr) (xs ys:List V),x= .ref a∧y= .ref b∧GO K H a xs∧GO K H b ys∧xs.length+ys.length≤sizeLine∧
 (xs=[]→Q (.ref b) H)∧(xs≠[]→ys=[]→Q (.ref a) H)∧(xs≠[]→ys≠[]→∀p,H p=none→Q (.ref p) (BT H p (.tup (xs++ys))))
theorem kY:OpR X (binaryOp .Add) (m9 X.K):=by
 intro pins s σ H x y v u Q I rx ry h
 obtain⟨a,b,xs,ys,rfl,rfl,ha,hb,hz,q0,q1,q2⟩:=h
 by_cases hx:xs=[]
 ·subst hx
  cases rx
  cases ry
  obtain⟨its,r1,p1,_⟩:=I.tuple ha
  obtain⟨its2,r2,p2,_⟩:=I.tuple hb
  cases r1
  obtain⟨⟨cls,dd,data,sl⟩,ho,hc,n,hd⟩:=id p1
  obtain⟨⟨cls2,dd2,data2,sl2⟩,ho2,hc2,n2,hd2⟩:=id p2
  simp only at hc hd hc2 hd2
  subst hc hd hc2 hd2
  refine concat_meets ⟨_,ho,rfl⟩ ⟨_,ho2,rfl⟩ noFill_tuple_add seq_tuple_add PySem.F.slot_tuple_add PySem.F.entry_tuple_add (PySem.F.args_tuple_add_2 _ _)
   (tuple_addW0 a b _ _ n n2 dd dd2 sl sl2 (by simp)) ⟨ho,ho2,?_⟩
  exact⟨.ref b,H,I,rfl,q0 rfl⟩
 ·exact l7 pins s σ H _ _ v u Q I rx ry ⟨a,b,xs,ys,rfl,rfl,ha,hb,hx,hz,fun e=>q1 hx e,fun e=>q2 hx e⟩
def AW (x y:M) (h:AA):Option M:=match x,y with
 | .int i, .int j=>some (.int (i+j))
 | .str a, .str b=>if a.length+b.length≤16777216 then some (.str (a++b)) else none
 | .tup xs, .tup ys=>if xs.length+ys.length≤16777216 then some (.tup (xs++ys)) else none
 |x,y=>(G0 h x).bind fun xs=>(G0 h y).bind fun ys=>if xs.length+ys.length≤16777216 then some (.lst (xs++ys)) else none
def mE (K:PySem.W.Frag):R2:=fun x y H Q=>Y7 (fun i j=> .int (i+j)) x y H Q∨(∃i j,x= .str i∧y= .str j∧i.length+j.length≤sizeLine∧Q (.str (i++j)) H)∨vE x y H Q∨m9 K x y H Q
theorem AQ:OpR X (binaryOp .Add) (mE X.K):=by
 intro pins s σ H x y v u Q I rx ry h
 rcases h with h|h|h|h
 ·exact sJ pins s σ H x y v u Q I rx ry h
 ·exact VM pins s σ H x y v u Q I rx ry h
 ·exact g8 pins s σ H x y v u Q I rx ry h
 ·exact kY pins s σ H x y v u Q I rx ry h
theorem AZ:LM K (mE K) AW:=by
 intro α h H x y d u v Q hr rx ry e k
 unfold AW at e
 split at e
 ·cases e
  exact .inl ⟨_,_,rx,ry,k H _ (Same.refl _) rfl⟩
 ·split at e
  ·rename_i hl
   cases e
   exact .inr (.inl ⟨_,_,rx,ry,by rw[sizeLine_eq];exact hl,k H _ (Same.refl _) rfl⟩)
  ·cases e
 ·split at e
  ·rename_i xs ys hl
   cases e
   obtain⟨a,vs,rfl,ta,rs⟩:=id rx
   obtain⟨b,ws,rfl,tb,rt⟩:=id ry
   refine .inr (.inr (.inr ⟨a,b,vs,ws,rfl,rfl,ta.sq,tb.sq,by rw[←rs.length,←rt.length,sizeLine_eq];exact hl,fun e=> ?_,fun _ e=> ?_,fun _ _ p hp=> ?_⟩))
   ·have:xs=[]:=by have:=rs.length;rw[e]at this;simpa using this
    subst this
    exact k H _ (Same.refl _) ry
   ·have:ys=[]:=by have:=rt.length;rw[e]at this;simpa using this
    subst this
    rw[List.append_nil]at k
    exact k H _ (Same.refl _) rx
   ·exact k _ _ (B4 hp _) (XA hr hp (rs.app rt))
  ·cases e
 ·obtain⟨xs,e1,e⟩:=Option.bind_eq_some_iff.mp e
  obtain⟨ys,e2,e⟩:=Option.bind_eq_some_iff.mp e
  split at e
  ·rename_i hl
   cases e
   obtain⟨a,vs,rfl,ta,rs⟩:=DL hr rx e1
   obtain⟨b,ws,rfl,tb,rt⟩:=DL hr ry e2
   exact .inr (.inr (.inl ⟨a,b,vs,ws,rfl,rfl,ta,tb,by rw[←rs.length,←rt.length,sizeLine_eq];exact hl,fun p hp=>k _ _ (B4 hp _) (P7 hr hp (rs.app rt))⟩))
  ·cases e
def sW (f:Int→Int→Option M) (x y:M) (_:AA):Option M:=match x,y with| .int i, .int j=>f i j|_,_=>none
def GN:M→M→AA→Option M:=sW fun i j=>some (.int (i-j))
def HR:M→M→AA→Option M:=sW fun i j=>if 0<j then some (.int (i % j)) else none
def SU:M→M→AA→Option M:=sW fun i j=>if 0<j∧j<1073741824 then some (.int (i/j)) else none
def Y0:M→M→AA→Option M:=sW fun i j=>if 0≤j∧j≤1000000∧i.natAbs<18446744073709551616 then some (.int (i^j.toNat)) else none
theorem MR {f:Int→Int→Option M} {x y d:M} {h:AA} (e:sW f x y h=some d):∃i j,x= .int i∧y= .int j∧f i j=some d:=by
 unfold sW at e
 split at e
 ·exact⟨_,_,rfl,rfl,e⟩
 ·cases e
theorem FM:LM K (Y7 fun i j=> .int (i-j)) GN:=by
 intro α h H x y d u v Q hr rx ry e k
 obtain⟨i,j,rfl,rfl,e'⟩:=MR e
 clear e
 have e:=e'
 clear e'
 cases e
 exact⟨i,j,rx,ry,k H _ (Same.refl _) rfl⟩
theorem IH:LM K (rI (fun _ j=>0<j) fun i j=> .int (i % j)) HR:=by
 intro α h H x y d u v Q hr rx ry e k
 obtain⟨i,j,rfl,rfl,e'⟩:=MR e
 clear e
 have e:=e'
 clear e'
 split at e
 ·rename_i hj
  cases e
  exact⟨i,j,rx,ry,hj,k H _ (Same.refl _) rfl⟩
 ·cases e
theorem VL:LM K (rI vT fun i j=> .int (i/j)) SU:=by
 intro α h H x y d u v Q hr rx ry e k
 obtain⟨i,j,rfl,rfl,e'⟩:=MR e
 clear e
 have e:=e'
 clear e'
 split at e
 ·rename_i hj
  cases e
  exact⟨i,j,rx,ry,hj,k H _ (Same.refl _) rfl⟩
 ·cases e
theorem nK:LM K (rI wX fun i j=> .int (i^j.toNat)) Y0:=by
 intro α h H x y d u v Q hr rx ry e k
 obtain⟨i,j,rfl,rfl,e'⟩:=MR e
 clear e
 have e:=e'
 clear e'
 split at e
 ·rename_i hj
  cases e
  exact⟨i,j,rx,ry,⟨hj.1,hj.2.1,by have:=hj.2.2;omega⟩,k H _ (Same.refl _) rfl⟩
 ·cases e
def reps (n:Nat) (xs:List M):List M:=(List.replicate n xs).flatten
def EQ (x y:M) (h:AA):Option M:=match x,y with
 | .int i, .int j=>if(-18446744073709551616<i∧i<18446744073709551616)∨(-18446744073709551616<j∧j<18446744073709551616) then some (.int (i*j)) else none
 | .str z, .int j=>if z.length≤16∧0≤j∧j≤1000 then some (.str (Txt.mul z j)) else none
 |x, .int j=>(G0 h x).bind fun xs=>if-9223372036854775808≤j∧j<9223372036854775808∧xs.length*j.toNat≤16777216 then some (.lst (reps j.toNat xs)) else none
 |_,_=>none
def mP:R2:=fun x y H Q=>rI CMul (fun i j=> .int (i*j)) x y H Q∨(∃i j,x= .str i∧y= .int j∧(i.length≤16∧0≤j∧j≤1000)∧Q (.str (Txt.mul i j)) H)∨w4 x y H Q
theorem E8:OpR X (binaryOp .Mult) mP:=by
 intro pins s σ H x y v u Q I rx ry h
 rcases h with h|h|h
 ·exact pG pins s σ H x y v u Q I rx ry h
 ·exact VR pins s σ H x y v u Q I rx ry h
 ·exact oR pins s σ H x y v u Q I rx ry h
theorem RepAs.reps {α:Pl} {H:Hp} {xs:List M} {vs:List V} (r:RepAs K α H xs vs):∀n:Nat,RepAs K α H (L2.reps n xs) (List.replicate n vs).flatten
 |0=>rfl
 |n+1=>by
  unfold L2.reps
  rw[List.replicate_succ,List.replicate_succ,List.flatten_cons,List.flatten_cons]
  exact r.app (RepAs.reps r n)
theorem GC:LM K mP EQ:=by
 intro α h H x y d u v Q hr rx ry e k
 unfold EQ at e
 split at e
 ·split at e
  ·rename_i hl
   cases e
   refine .inl ⟨_,_,rx,ry,?_,k H _ (Same.refl _) rfl⟩
   unfold CMul
   omega
  ·cases e
 ·split at e
  ·rename_i hl
   cases e
   exact .inr (.inl ⟨_,_,rx,ry,hl,k H _ (Same.refl _) rfl⟩)
  ·cases e
 ·obtain⟨xs,e1,e⟩:=Option.bind_eq_some_iff.mp e
  split at e
  ·rename_i hl
   cases e
   obtain⟨a,vs,rfl,ta,rs⟩:=DL hr rx e1
   exact .inr (.inr ⟨a,_,vs,rfl,ry,ta,by omega,by omega,by rw[←rs.length,sizeLine_eq];omega,fun p hp=>k _ _ (B4 hp _) (P7 hr hp (rs.reps _))⟩)
  ·cases e
 ·cases e
def t4 (f:Int→Int→Bool) (g:List Nat→List Nat→Bool) (x y:M) (_:AA):Option M:=match x,y with
 | .int i, .int j=>some (.bl (f i j))
 | .str a, .str b=>some (.bl (g a.cps.toList b.cps.toList))
 |_,_=>none
def KY:=t4 (fun i j=>decide (i<j)) fun a b=>decide (a<b)
def OU:=t4 (fun i j=>decide (i≤j)) fun a b=> !decide (b<a)
def ZW:=t4 (fun i j=>decide (j<i)) fun a b=>decide (b<a)
def W8:=t4 (fun i j=>decide (j≤i)) fun a b=> !decide (a<b)
theorem MQ {f:Int→Int→Bool} {g:List Nat→List Nat→Bool} {x y d:M} {h:AA} (e:t4 f g x y h=some d):(∃i j,x= .int i∧y= .int j∧d= .bl (f i j))∨∃a b,x= .str a∧y= .str b∧d= .bl (g a.cps.toList b.cps.toList):=by
 unfold t4 at e
 split at e
 ·cases e;exact .inl ⟨_,_,rfl,rfl,rfl⟩
 ·cases e;exact .inr ⟨_,_,rfl,rfl,rfl⟩
 ·cases e
theorem LC:LM K vV KY:=by
 intro α h H x y d u v Q hr rx ry e k
 rcases MQ e with⟨i,j,rfl,rfl,rfl⟩|⟨i,j,rfl,rfl,rfl⟩
 ·exact .inl ⟨i,j,rx,ry,k H _ (Same.refl _) rfl⟩
 ·exact .inr ⟨i,j,rx,ry,k H _ (Same.refl _) rfl⟩
theorem OF:LM K uA OU:=by
 intro α h H x y d u v Q hr rx ry e k
 rcases MQ e with⟨i,j,rfl,rfl,rfl⟩|⟨i,j,rfl,rfl,rfl⟩
 ·exact .inl ⟨i,j,rx,ry,k H _ (Same.refl _) rfl⟩
 ·exact .inr ⟨i,j,rx,ry,k H _ (Same.refl _) rfl⟩
theorem X3:LM K wQ ZW:=by
 intro α h H x y d u v Q hr rx ry e k
 rcases MQ e with⟨i,j,rfl,rfl,rfl⟩|⟨i,j,rfl,rfl,rfl⟩
 ·exact .inl ⟨i,j,rx,ry,k H _ (Same.refl _) rfl⟩
 ·exact .inr ⟨i,j,rx,ry,k H _ (Same.refl _) rfl⟩
theorem cW:LM K wY W8:=by
 intro α h H x y d u v Q hr rx ry e k
 rcases MQ e with⟨i,j,rfl,rfl,rfl⟩|⟨i,j,rfl,rfl,rfl⟩
 ·exact .inl ⟨i,j,rx,ry,k H _ (Same.refl _) rfl⟩
 ·exact .inr ⟨i,j,rx,ry,k H _ (Same.refl _) rfl⟩
def isN:M→Bool
 | .non=>true
 |_=>false
theorem iI {α:Pl} {H:Hp} {m:M} {v:V} (r:RepA K α H m v):decide (v= .non)=isN m:=by
 cases m with
 |non=>cases(show v= .non from r);rfl
 |bl b=>cases(show v= .bl b from r);rfl
 |int b=>cases(show v= .int b from r);rfl
 |str b=>cases(show v= .str b from r);rfl
 |ty b=>cases(show v= .ty b from r);rfl
 |tup xs=>obtain⟨a,vs,e,_⟩:=r;subst e;rfl
 |lst xs=>obtain⟨a,vs,e,_⟩:=r;subst e;rfl
 |dct xs=>obtain⟨a,vs,e,_⟩:=r;subst e;rfl
 |ref k=>obtain⟨a,_,e⟩:=r;subst e;rfl
 |scr ns=>obtain⟨a,e,_⟩:=r;subst e;rfl
def YY (x y:M) (_:AA):Option M:=match y with
 | .non=>some (.bl (isN x))
 | .bl j=>(match x with| .bl i=>some (.bl (i==j))|_=>none)
 |_=>none
theorem dF:LM K u6 YY:=by
 intro α h H x y d u v Q hr rx ry e k
 unfold YY at e
 split at e
 ·cases e
  exact .inl ⟨ry,by rw[iI rx];exact k H _ (Same.refl _) rfl⟩
 ·split at e
  ·cases e
   exact .inr ⟨_,_,rx,ry,k H _ (Same.refl _) rfl⟩
  ·cases e
 ·cases e
def JG:M→Option BC
 | .int i=>some (.inl i)
 | .str z=>some (.inr z)
 |_=>none
theorem FD {K:PySem.W.Frag} {α:Pl} {H:Hp} {m:M} {v:V} {k:BC} (e:JG m=some k) (r:RepA K α H m v):v=kV k:=by
 cases m<;>cases e<;>exact r
def EE (h:AA):M→Option (List (BC×M))
 | .dct ks xs=>if ks.length=xs.length then some (ks.zip xs) else none
 | .ref k=>(match h[k]?with|some (.dct kvs)=>some kvs|_=>none)
 |_=>none
theorem EY {K:PySem.W.Frag} {α:Pl} {h:AA} {H:Hp} {m:M} {v:V} {kvs:List (BC×M)} (hr:Rl K α h H) (rm:RepA K α H m v) (e:EE h m=some kvs):∃a ws,v= .ref a∧Rd H a (.dK ws)∧ws.map (·.1)=kvs.map (·.1)∧RepAs K α H (kvs.map (·.2)) (ws.map (·.2)):=by
 unfold EE at e
 split at e
 ·split at e
  ·rename_i hl
   cases e
   obtain⟨a,ws,e1,n,ha,ek,rs⟩:=rm
   exact⟨a,ws,e1,ha,by rw[ek,List.map_fst_zip (by omega)],by rw[List.map_snd_zip (by omega)];exact rs⟩
  ·cases e
 ·split at e
  ·rename_i hk
   cases e
   obtain⟨a,ha,e1⟩:=rm
   obtain⟨ws,hv,ek,rs⟩:=hr.obj _ a _ ha hk
   exact⟨a,ws,e1, .inl hv,ek,rs⟩
  ·cases e
 ·cases e
def E5 (kvs:List (BC×M)) (k:BC):Option M:=(kvs.find? fun kv=>decide (kv.1=k)).map (·.2)
theorem J1 {K:PySem.W.Frag} {α:Pl} {H:Hp} (k:BC):∀{kvs:List (BC×M)} {ws:List (BC×V)},ws.map (·.1)=kvs.map (·.1)→RepAs K α H (kvs.map (·.2)) (ws.map (·.2))→
 (JF ws k).isSome=(E5 kvs k).isSome∧∀m,E5 kvs k=some m→∃v,JF ws k=some v∧RepA K α H m v
 |[],[],_,_=>⟨rfl,fun m h=>by cases h⟩
 |[],_::_,e,_=>by cases e
 |_::_,[],e,_=>by cases e
 |kv::kvs,w::ws,e,r=>by
  obtain⟨v,q,e1,h1,h2⟩:=r
  have e1':w.2::ws.map (·.2)=v::q:=e1
  injection e1' with ev eq
  subst ev eq
  have e':w.1::ws.map (·.1)=kv.1::kvs.map (·.1):=e
  injection e' with ek es
  obtain⟨i1,i2⟩:=J1 k es h2
  by_cases hk:kv.1=k
  ·have hw:w.1=k:=ek.trans hk
   have a1:E5 (kv::kvs) k=some kv.2:=by simp[E5,List.find?_cons,hk]
   have a2:JF (w::ws) k=some w.2:=LH hw
   rw[a1,a2]
   exact⟨rfl,fun m h=>by cases h;exact⟨_,rfl,h1⟩⟩
  ·have hw:¬w.1=k:=fun z=>hk (ek.symm.trans z)
   have a1:E5 (kv::kvs) k=E5 kvs k:=by simp[E5,List.find?_cons,hk]
   have a2:JF (w::ws) k=JF ws k:=KH hw
   rw[a1,a2]
   exact⟨i1,i2⟩
def BH (x y:M) (h:AA):Option M:=match EE h x with
 |some kvs=>(JG y).bind (E5 kvs)
 |none=>(match y with
 | .int i=>(match x with
   | .tup xs=>NH xs i
   | .str z=>if z.length≤16777216 then(NH z.cps.toList i).map fun c=> .str ⟨#[c]⟩ else none
   |x=>(GV h x).bind fun xs=>NH xs i)
 |_=>none)
def tW:R2:=fun x y H Q=>∃a v,x= .ref a∧V3 H a y (some v)∧Q v H
theorem lZ (hu:X.A.units+1<cLine):IxR X tW:=by
 intro value slice pins s σ H x y v u Q I rx ry q hs
 obtain⟨a,z,rfl,g,q⟩:=q
 cases(show v= .ref a from rx)
 have hT:=TF I g
 unfold subscriptTail
 refine wpAny_bind ?_
 rw[getitemInPython_of_ne hT.not_modules]
 refine wpAny_bind (wpAny_specialOf hT PySem.F.slot_dict_getitem.lookup ?_)
 have fin:wpAny (model X.prog X.w) X.A (subscripted slice false (.ref a) u) (fun r s₃=>wpAny (model X.prog X.w) X.A (letTemporaryGo value (.ref a) r>>=fun _=>pure r) (EP X pins σ Q) X.xe s₃) X.xe s:=by
  rw[hs]
  exact wpAny_operating (wpAny_mono (aI hu I g ry fun w' s3 I3 rw'=>(⟨z,H,I3,rw',q⟩:EP X pins σ Q w' s3)) (fun r s₃ h₃=>wpAny_bind (wpAny_letTemporaryGo (wpAny_pure h₃))) fun _ _ x=>x)
 first
  |exact wpAny_pure (wpAny_bind fin)
  |exact wpAny_bind (wpAny_pure (wpAny_bind fin))
  |exact wpAny_bind fin
def t8 (K:PySem.W.Frag):R2:=fun x y H Q=>tW x y H Q∨rIx K x y H Q
theorem AX (hu:X.A.units+151<cLine):IxR X (t8 X.K):=(lZ (by omega)).or pV
theorem AL:LM K (t8 K) BH:=by
 intro α h H x y d u v Q hr rx ry e k
 unfold BH at e
 split at e
 ·rename_i kvs hk
  obtain⟨key,e1,e2⟩:=Option.bind_eq_some_iff.mp e
  obtain⟨a,ws,rfl,ha,ek,rs⟩:=EY hr rx hk
  obtain⟨w,hw,rw'⟩:=(J1 key ek rs).2 d e2
  cases(FD e1 ry)
  exact .inl ⟨a,w,rfl,by rw[←hw];exact .inl ⟨_,_,ha,rfl,rfl⟩,k H _ (Same.refl _) rw'⟩
 refine .inr ?_
 split at e
 ·rename_i i
  split at e
  ·obtain⟨a,vs,rfl,t,rs⟩:=rx
   obtain⟨w,hw,rw'⟩:=rs.at e
   exact .inr (.inl ⟨a,vs,i,w,rfl,ry,t.sq,hw,k H _ (Same.refl _) rw'⟩)
  ·split at e
   ·rename_i hl
    obtain⟨c,e1,e2⟩:=Option.map_eq_some_iff.mp e
    subst e2
    exact .inr (.inr ⟨_,i,c,rx,ry,by rw[sizeLine_eq];exact hl,e1,k H _ (Same.refl _) rfl⟩)
   ·cases e
  ·obtain⟨xs,e1,e⟩:=Option.bind_eq_some_iff.mp e
   obtain⟨a,vs,rfl,t,rs⟩:=DT hr rx e1
   obtain⟨w,hw,rw'⟩:=rs.at e
   exact .inl ⟨a,vs,i,w,rfl,ry,t,hw,k H _ (Same.refl _) rw'⟩
 ·cases e
def vK (K:PySem.W.Frag):V→Option Int→Option Int→Hp→VK→Prop:=fun x lo hi H Q=>∃a xs,x= .ref a∧GO K H a xs∧(NJ xs lo hi=xs→Q (.ref a) H)∧∀p,H p=none→Q (.ref p) (BT H p (.tup (NJ xs lo hi)))
theorem kA:SlR X (vK X.K):=by
 intro pins s σ H x v vl vu lo hi sl Q I rx hs pl pu h
 obtain⟨a,xs,rfl,hx,q1,q2⟩:=h
 by_cases hw:HT.CY xs.length 0 lo=0∧HT.CY xs.length xs.length hi=xs.length
 ·cases rx
  obtain⟨its,r,ht,_⟩:=I.tuple hx
  have hlen:its.toArray.size=xs.length:=by rw[List.size_toArray];exact r.length.symm
  refine⟨"tuple",_,PyProof.Rows.slot_tuple_getitem.lookup,ht.typeIs,?_⟩
  refine U6 ht hs pl pu (by rw[hlen];exact hw) ⟨.ref a,H,I,rfl,q1 ?_⟩
  unfold NJ;rw[hw.1,hw.2];simp
 ·exact pX pins s σ H _ v vl vu lo hi sl Q I rx hs pl pu ⟨a,xs,rfl,hx,hw,q2⟩
def MN (x:M) (lo hi:Option Int) (h:AA):Option M:=match x with
 | .tup xs=>some (.tup (DB xs lo hi))
 | .str z=>if z.length≤16777216 then some (.str (Txt.slice z lo hi)) else none
 |x=>(GV h x).map fun xs=> .lst (DB xs lo hi)
def xT (K:PySem.W.Frag):V→Option Int→Option Int→Hp→VK→Prop:=fun x lo hi H Q=>tE K x lo hi H Q∨vK K x lo hi H Q∨wA x lo hi H Q
theorem HW:SlR X (xT X.K):=j5.or (kA.or sK)
theorem DY:SlM K (xT K) MN:=by
 intro α h H x d lo hi u Q hr rx e k
 unfold MN at e
 split at e
 ·cases e
  obtain⟨a,vs,rfl,t,rs⟩:=id rx
  refine .inr (.inl ⟨a,vs,rfl,t.sq,fun e=> ?_,fun p hp=>k _ _ (B4 hp _) (XA hr hp rs.cut)⟩)
  have rc:=rs.cut (lo:=lo) (hi:=hi)
  rw[e]at rc
  exact k H _ (Same.refl _) ⟨a,vs,rfl,t,rc⟩
 ·split at e
  ·rename_i hl
   cases e
   exact .inr (.inr ⟨_,rx,by rw[sizeLine_eq];exact hl,k H _ (Same.refl _) rfl⟩)
  ·cases e
 ·obtain⟨xs,e1,e2⟩:=Option.map_eq_some_iff.mp e
  subst e2
  obtain⟨a,vs,rfl,t,rs⟩:=DT hr rx e1
  exact .inl ⟨a,vs,rfl,t,fun p hp=>k _ _ (B4 hp _) (P7 hr hp rs.cut)⟩
end
end L2
namespace L2
open PySem PySem.Spec PyProof.Rows
mutual
def RepK (K:PySem.W.Frag) (H:Hp):D→V→Prop
 | .non,v=>v= .non
 | .bl b,v=>v= .bl b
 | .int i,v=>v= .int i
 | .str x,v=>v= .str x
 | .tup ds,v=>∃a xs,v= .ref a∧GO K H a xs∧RepKs K H ds xs
 | .lst ds,v=>∃a xs,v= .ref a∧SqL K H a xs∧RepKs K H ds xs
def RepKs (K:PySem.W.Frag) (H:Hp):List D→List V→Prop
 |[],xs=>xs=[]
 |d::ds,xs=>∃x r,xs=x::r∧RepK K H d x∧RepKs K H ds r
end
section
open PySem.SeqAt
variable {X:Cx} {pins:List (Addr×Obj)} {σ:St} {H:Hp} {s:Shared}
theorem Inv.tupK (I:Inv X pins σ H s) {a:Addr} {xs:List V} (h:GO X.K H a xs):∃its:List Value,Vals xs its∧s.heap.IsTuple a its.toArray:=by
 obtain⟨its,r,t,_⟩:=I.tuple h
 exact⟨its,r,t⟩
theorem Inv.lstK (I:Inv X pins σ H s) {a:Addr} {xs:List V} (h:SqL X.K H a xs):∃its:List Value,Vals xs its∧s.heap.IsList a its.toArray:=by
 obtain⟨its,r,t,_⟩:=I.list h
 exact⟨its,r,t.isList⟩
theorem Inv.apartK (I:Inv X pins σ H s) {a:Addr} {xs ys:List V} (h:GO X.K H a xs) (h':SqL X.K H a ys):False:=by
 obtain⟨its,r,o,e,c,_⟩:=I.tupK h
 obtain⟨its',r',o',e',c',_⟩:=I.lstK h'
 rw[e]at e'
 cases e'
 rw[c]at c'
 exact absurd c' (by decide)
mutual
theorem RepK.inj (I:Inv X pins σ H s):∀{d d':D} {v:V},RepK X.K H d v→RepK X.K H d' v→d=d'
 | .non,d',v,h,h'=>by
   cases(show v= .non from h)
   cases d'<;>simp_all[RepK]
 | .bl b,d',v,h,h'=>by
   cases(show v= .bl b from h)
   cases d'<;>simp_all[RepK]
 | .int b,d',v,h,h'=>by
   cases(show v= .int b from h)
   cases d'<;>simp_all[RepK]
 | .str b,d',v,h,h'=>by
   cases(show v= .str b from h)
   cases d'<;>simp_all[RepK]
 | .tup ds,d',v,h,h'=>by
   obtain⟨a,xs,rfl,ha,hs⟩:=h
   cases d' with
   |tup ds'=>
    obtain⟨a',xs',e,ha',hs'⟩:=h'
    cases e
    cases I.tuple_inj ha ha'
    rw[RepKs.inj I hs hs']
   |lst ds'=>
    obtain⟨a',xs',e,ha',hs'⟩:=h'
    cases e
    exact(I.apartK ha ha').elim
   |_=>cases(show V.ref a=_ from h')
 | .lst ds,d',v,h,h'=>by
   obtain⟨a,xs,rfl,ha,hs⟩:=h
   cases d' with
   |lst ds'=>
    obtain⟨a',xs',e,ha',hs'⟩:=h'
    cases e
    cases I.list_inj ha ha'
    rw[RepKs.inj I hs hs']
   |tup ds'=>
    obtain⟨a',xs',e,ha',hs'⟩:=h'
    cases e
    exact(I.apartK ha' ha).elim
   |_=>cases(show V.ref a=_ from h')
theorem RepKs.inj (I:Inv X pins σ H s):∀{ds ds':List D} {xs:List V},RepKs X.K H ds xs→RepKs X.K H ds' xs→ds=ds'
 |[],ds',xs,h,h'=>by
  cases(show xs=[] from h)
  cases ds' with
  |nil=>rfl
  |cons d r=>obtain⟨x,r',e,_⟩:=h';cases e
 |d::ds,ds',xs,h,h'=>by
  obtain⟨x,r,rfl,h1,h2⟩:=h
  cases ds' with
  |nil=>cases(show x::r=[] from h')
  |cons d2 r2=>
   obtain⟨x',r',e,h1',h2'⟩:=h'
   cases e
   rw[RepK.inj I h1 h1',RepKs.inj I h2 h2']
end
theorem RepKs.length {K:PySem.W.Frag} {H:Hp}:∀{ds:List D} {xs:List V},RepKs K H ds xs→ds.length=xs.length
 |[],xs,h=>by cases(show xs=[] from h);rfl
 |d::ds,xs,h=>by
  obtain⟨x,r,rfl,_,h2⟩:=h
  simp[RepKs.length h2]
theorem RepKs.get' {K:PySem.W.Frag} {H:Hp}:∀{ds:List D} {xs:List V} {j:Nat} {d:D},RepKs K H ds xs→ds[j]? =some d→∃x,xs[j]? =some x∧RepK K H d x
 |[],xs,j,x,h,e=>by simp at e
 |d::ds,xs,0,x,h,e=>by
  obtain⟨y,r,rfl,h1,h2⟩:=h
  simp at e;subst e
  exact⟨y,rfl,h1⟩
 |d::ds,xs,j+1,x,h,e=>by
  obtain⟨y,r,rfl,h1,h2⟩:=h
  obtain⟨d',e',h'⟩:=RepKs.get' (j:=j) h2 (by simpa using e)
  exact⟨d',by simpa using e',h'⟩
theorem HA {A:Around} {xs ys:List V} {its its2:List Value} {ds ds':List D} (rv:Vals xs its) (rv2:Vals ys its2) (hx:RepKs X.K H ds xs) (hy:RepKs X.K H ds' ys)
 (ih:∀(j:Nat) d d' x y u v,ds[j]? =some d→ds'[j]? =some d'→RepK X.K H d x→RepK X.K H d' y→RelV x u→RelV y v→EqAt A s u v (BN d d')):
 ∀j (h1:j<its.toArray.size) (h2:j<its2.toArray.size),EqAt A s its.toArray[j] its2.toArray[j] (BN (ds.getD j .non) (ds'.getD j .non)):=by
 intro j h1 h2
 have l1:=rv.length
 have l2:=rv2.length
 have k1:=hx.length
 have k2:=hy.length
 have h1':j<its.length:=by simpa using h1
 have h2':j<its2.length:=by simpa using h2
 have j1:j<ds.length:=by omega
 have j2:j<ds'.length:=by omega
 obtain⟨x,ex,rx⟩:=hx.get' (j:=j) (d:=ds[j]) (by simp[j1])
 obtain⟨y,ey,ry⟩:=hy.get' (j:=j) (d:=ds'[j]) (by simp[j2])
 obtain⟨u,eu,ru⟩:=rv.get ex
 obtain⟨v,ev,rv'⟩:=rv2.get ey
 have e1:its.toArray[j]=u:=by
  have:its[j]? =some its[j]:=by simp[h1']
  rw[this]at eu
  simpa using Option.some.inj eu
 have e2:its2.toArray[j]=v:=by
  have:its2[j]? =some its2[j]:=by simp[h2']
  rw[this]at ev
  simpa using Option.some.inj ev
 have e3:ds.getD j .non=ds[j]:=by simp[List.getD_eq_getElem?_getD,j1]
 have e4:ds'.getD j .non=ds'[j]:=by simp[List.getD_eq_getElem?_getD,j2]
 rw[e1,e2,e3,e4]
 exact ih j _ _ x y u v (by simp[j1]) (by simp[j2]) rx ry ru rv'
theorem GP (I:Inv X pins σ H s):∀(n:Nat) (A:Around) (d d':D) (x y:V) (u v:Value),d.deep≤n→A.units+n<cLine→RepK X.K H d x→RepK X.K H d' y→RelV x u→RelV y v→
 RcAt A s u v (BN d d')∧EqAt A s u v (BN d d'):=by
 intro n
 induction n with
 |zero=>
  intro A d d' x y u v hd hu hx hy ru rv
  have hu':A.units<cLine:=by omega
  cases d with
  |tup ds=>simp[D.deep]at hd
  |lst ds=>simp[D.deep]at hd
  |non=>
   cases(show x= .non from hx);cases ru
   cases d' with
   |non=>cases(show y= .non from hy);cases rv;simp only[BN];exact⟨RcAt.none_none,EqAt.same _⟩
   |bl b=>cases(show y= .bl b from hy);cases rv;simp only[BN];exact⟨RcAt.none_bool b,EqAt.none_bool b⟩
   |int i=>cases(show y= .int i from hy);obtain⟨t,rfl⟩:=rv;simp only[BN];exact⟨RcAt.none_int i t,EqAt.none_int i t⟩
   |str i=>cases(show y= .str i from hy);obtain⟨t,rfl⟩:=rv;simp only[BN];exact⟨RcAt.none_str i t,EqAt.none_str i t⟩
   |tup ds=>obtain⟨a,xs,rfl,ha,_⟩:=hy;cases rv;obtain⟨its,r,ht⟩:=I.tupK ha;simp only[BN];exact⟨RcAt.none_tuple ht hu',EqAt.none_tuple ht hu'⟩
   |lst ds=>obtain⟨a,xs,rfl,ha,_⟩:=hy;cases rv;obtain⟨its,r,ht⟩:=I.lstK ha;simp only[BN];exact⟨RcAt.none_list ht hu',EqAt.none_list ht hu'⟩
  |bl a=>
   cases(show x= .bl a from hx);cases ru
   cases d' with
   |non=>cases(show y= .non from hy);cases rv;simp only[BN];exact⟨RcAt.bool_none a,EqAt.bool_none a⟩
   |bl b=>cases(show y= .bl b from hy);cases rv;simp only[BN];exact⟨RcAt.bool_bool a b,EqAt.bool_bool a b⟩
   |int i=>cases(show y= .int i from hy);obtain⟨t,rfl⟩:=rv;simp only[BN];exact⟨RcAt.bool_int a i t,EqAt.bool_int a i t⟩
   |str i=>cases(show y= .str i from hy);obtain⟨t,rfl⟩:=rv;simp only[BN];exact⟨RcAt.bool_str a i t,EqAt.bool_str a i t⟩
   |tup ds=>obtain⟨a',xs,rfl,ha,_⟩:=hy;cases rv;obtain⟨its,r,ht⟩:=I.tupK ha;simp only[BN];exact⟨RcAt.bool_tuple a ht hu',EqAt.bool_tuple a ht hu'⟩
   |lst ds=>obtain⟨a',xs,rfl,ha,_⟩:=hy;cases rv;obtain⟨its,r,ht⟩:=I.lstK ha;simp only[BN];exact⟨RcAt.bool_list a ht hu',EqAt.bool_list a ht hu'⟩
  |int a=>
   cases(show x= .int a from hx);obtain⟨ta,rfl⟩:=ru
   cases d' with
   |non=>cases(show y= .non from hy);cases rv;simp only[BN];exact⟨RcAt.int_none a ta,EqAt.int_none a ta⟩
   |bl b=>cases(show y= .bl b from hy);cases rv;simp only[BN];exact⟨RcAt.int_bool a ta b,EqAt.int_bool a ta b⟩
   |int i=>cases(show y= .int i from hy);obtain⟨t,rfl⟩:=rv;simp only[BN];exact⟨RcAt.int_int a ta i t,EqAt.int_int a ta i t⟩
   |str i=>cases(show y= .str i from hy);obtain⟨t,rfl⟩:=rv;simp only[BN];exact⟨RcAt.int_str a ta i t,EqAt.int_str a ta i t⟩
   |tup ds=>obtain⟨a',xs,rfl,ha,_⟩:=hy;cases rv;obtain⟨its,r,ht⟩:=I.tupK ha;simp only[BN];exact⟨RcAt.int_tuple a ta ht hu',EqAt.int_tuple a ta ht hu'⟩
   |lst ds=>obtain⟨a',xs,rfl,ha,_⟩:=hy;cases rv;obtain⟨its,r,ht⟩:=I.lstK ha;simp only[BN];exact⟨RcAt.int_list a ta ht hu',EqAt.int_list a ta ht hu'⟩
  |str a=>
   cases(show x= .str a from hx);obtain⟨ta,rfl⟩:=ru
   cases d' with
   |non=>cases(show y= .non from hy);cases rv;simp only[BN];exact⟨RcAt.str_none a ta,EqAt.str_none a ta⟩
   |bl b=>cases(show y= .bl b from hy);cases rv;simp only[BN];exact⟨RcAt.str_bool a ta b,EqAt.str_bool a ta b⟩
   |int i=>cases(show y= .int i from hy);obtain⟨t,rfl⟩:=rv;simp only[BN];exact⟨RcAt.str_int a ta i t,EqAt.str_int a ta i t⟩
   |str i=>cases(show y= .str i from hy);obtain⟨t,rfl⟩:=rv;simp only[BN];exact⟨RcAt.str_str a ta i t,EqAt.str_str a ta i t⟩
   |tup ds=>obtain⟨a',xs,rfl,ha,_⟩:=hy;cases rv;obtain⟨its,r,ht⟩:=I.tupK ha;simp only[BN];exact⟨RcAt.str_tuple a ta ht hu',EqAt.str_tuple a ta ht hu'⟩
   |lst ds=>obtain⟨a',xs,rfl,ha,_⟩:=hy;cases rv;obtain⟨its,r,ht⟩:=I.lstK ha;simp only[BN];exact⟨RcAt.str_list a ta ht hu',EqAt.str_list a ta ht hu'⟩
 |succ n ih=>
  intro A d d' x y u v hd hu hx hy ru rv
  have hu':A.units<cLine:=by omega
  have hin:A.in1.units+n<cLine:=by show A.units+1+n<cLine;omega
  by_cases h0:d.deep≤n
  ·exact ih A d d' x y u v h0 (by omega) hx hy ru rv
  cases d with
  |tup ds=>
   have hds:D.deeps ds≤n:=by simp[D.deep]at hd;exact hd
   obtain⟨a,xs,rfl,ha,hs⟩:=id hx
   cases ru
   obtain⟨its,r,ht⟩:=I.tupK ha
   cases d' with
   |non=>cases(show y= .non from hy);cases rv;simp only[BN];exact⟨RcAt.tuple_none ht hu',EqAt.tuple_none ht hu'⟩
   |bl b=>cases(show y= .bl b from hy);cases rv;simp only[BN];exact⟨RcAt.tuple_bool b ht hu',EqAt.tuple_bool b ht hu'⟩
   |int i=>cases(show y= .int i from hy);obtain⟨t,rfl⟩:=rv;simp only[BN];exact⟨RcAt.tuple_int i t ht hu',EqAt.tuple_int i t ht hu'⟩
   |str i=>cases(show y= .str i from hy);obtain⟨t,rfl⟩:=rv;simp only[BN];exact⟨RcAt.tuple_str i t ht hu',EqAt.tuple_str i t ht hu'⟩
   |lst ds'=>obtain⟨a',xs',rfl,ha',_⟩:=hy;cases rv;obtain⟨its',r',ht'⟩:=I.lstK ha';simp only[BN];exact⟨RcAt.tuple_list ht ht' hu',EqAt.tuple_list ht ht' hu'⟩
   |tup ds'=>
    obtain⟨a',xs',rfl,ha',hs'⟩:=id hy
    cases rv
    obtain⟨its',r',ht'⟩:=I.tupK ha'
    have rc:RcAt A s (.ref a) (.ref a') (BN (.tup ds) (.tup ds')):=by
     have z:=RcAt.tuples (A:=A) (s:=s) (e:=fun j=>BN (ds.getD j .non) (ds'.getD j .non)) ht ht' hu' (HA r r' hs hs' fun j e e' x y u v h1 h2 h3 h4 h5 h6=>(ih A.in1 e e' x y u v (Nat.le_trans (IP h1) hds) hin h3 h4 h5 h6).2)
     have e1:its.toArray.size=ds.length:=by rw[List.size_toArray,←r.length,hs.length]
     have e2:its'.toArray.size=ds'.length:=by rw[List.size_toArray,←r'.length,hs'.length]
     rw[e1,e2,DF]at z
     simp only[BN]
     exact z
    refine⟨rc,?_⟩
    by_cases hne:a=a'
    ·subst hne
     have:D.tup ds=D.tup ds':=RepK.inj I hx hy
     rw[←this,KP]
     exact EqAt.same _
    ·exact EqAt.of_refs hne rc
  |lst ds=>
   have hds:D.deeps ds≤n:=by simp[D.deep]at hd;exact hd
   obtain⟨a,xs,rfl,ha,hs⟩:=id hx
   cases ru
   obtain⟨its,r,ht⟩:=I.lstK ha
   cases d' with
   |non=>cases(show y= .non from hy);cases rv;simp only[BN];exact⟨RcAt.list_none ht hu',EqAt.list_none ht hu'⟩
   |bl b=>cases(show y= .bl b from hy);cases rv;simp only[BN];exact⟨RcAt.list_bool b ht hu',EqAt.list_bool b ht hu'⟩
   |int i=>cases(show y= .int i from hy);obtain⟨t,rfl⟩:=rv;simp only[BN];exact⟨RcAt.list_int i t ht hu',EqAt.list_int i t ht hu'⟩
   |str i=>cases(show y= .str i from hy);obtain⟨t,rfl⟩:=rv;simp only[BN];exact⟨RcAt.list_str i t ht hu',EqAt.list_str i t ht hu'⟩
   |tup ds'=>obtain⟨a',xs',rfl,ha',_⟩:=hy;cases rv;obtain⟨its',r',ht'⟩:=I.tupK ha';simp only[BN];exact⟨RcAt.list_tuple ht ht' hu',EqAt.list_tuple ht ht' hu'⟩
   |lst ds'=>
    obtain⟨a',xs',rfl,ha',hs'⟩:=id hy
    cases rv
    obtain⟨its',r',ht'⟩:=I.lstK ha'
    have e1:its.toArray.size=ds.length:=by rw[List.size_toArray,←r.length,hs.length]
    have e2:its'.toArray.size=ds'.length:=by rw[List.size_toArray,←r'.length,hs'.length]
    have rc:RcAt A s (.ref a) (.ref a') (BN (.lst ds) (.lst ds')):=by
     simp only[BN]
     by_cases hl:ds.length=ds'.length
     ·have z:=RcAt.lists (A:=A) (s:=s) (e:=fun j=>BN (ds.getD j .non) (ds'.getD j .non)) ht ht' (by rw[e1,e2];exact hl) hu' (HA r r' hs hs' fun j e e' x y u v h1 h2 h3 h4 h5 h6=>(ih A.in1 e e' x y u v (Nat.le_trans (IP h1) hds) hin h3 h4 h5 h6).2)
      have q:=DF (ds:=ds) (ds':=ds')
      rw[←hl,Nat.min_self,beq_self_eq_true,Bool.and_true]at q
      rw[e1,q]at z
      exact z
     ·have z:=RcAt.lists_lengths (A:=A) (s:=s) ht ht' (by rw[e1,e2];simpa using hl) hu'
      have q:=DF (ds:=ds) (ds':=ds')
      rw[show(ds.length==ds'.length)=false from beq_eq_false_iff_ne.mpr hl,Bool.and_false]at q
      rw[←q]
      exact z
    refine⟨rc,?_⟩
    by_cases hne:a=a'
    ·subst hne
     have:D.lst ds=D.lst ds':=RepK.inj I hx hy
     rw[←this,KP]
     exact EqAt.same _
    ·exact EqAt.of_refs hne rc
  |_=>exact absurd (by simp[D.deep]) h0
def wL (K:PySem.W.Frag):R2:=fun x y H Q=>∃d d',RepK K H d x∧RepK K H d' y∧d.deep≤150∧Q (.bl (BN d d')) H
theorem AS (hu:X.A.units+150<cLine):OpR X (compareOp .Eq) (wL X.K):=by
 intro pins s σ H x y v u Q I rx ry h
 obtain⟨d,d',h1,h2,h3,q⟩:=h
 exact(GP I 150 X.A d d' x y v u h3 hu h1 h2 rx ry).1 X.prog X.w X.xe _ ⟨.bl _,H,I,rfl,q⟩
theorem p8 (I:Inv X pins σ H s) (A:Around) (d d':D) (x y:V) (u v:Value) (hd:d.deep≤150) (hu:A.units+151<cLine) (hx:RepK X.K H d x) (hy:RepK X.K H d' y) (ru:RelV x u) (rv:RelV y v):RcNeAt A s u v (!BN d d'):=by
 have hu':A.units<cLine:=by omega
 have hin:A.in1.units+150<cLine:=by show A.units+1+150<cLine;omega
 cases d with
 |non=>
  cases(show x= .non from hx);cases ru
  cases d' with
  |non=>cases(show y= .non from hy);cases rv;simp only[BN];exact RcNeAt.none_none
  |bl b2=>cases(show y= .bl b2 from hy);cases rv;simp only[BN];exact RcNeAt.none_bool b2
  |int b2=>cases(show y= .int b2 from hy);obtain⟨t2,rfl⟩:=rv;simp only[BN];exact RcNeAt.none_int b2 t2
  |str b2=>cases(show y= .str b2 from hy);obtain⟨t2,rfl⟩:=rv;simp only[BN];exact RcNeAt.none_str b2 t2
  |tup ds2=>obtain⟨a2,xs2,rfl,ha2,hs2⟩:=id hy;cases rv;obtain⟨its2,r2,ht2⟩:=I.tupK ha2;simp only[BN];exact RcNeAt.none_tuple ht2 hu'
  |lst ds2=>obtain⟨a2,xs2,rfl,ha2,hs2⟩:=id hy;cases rv;obtain⟨its2,r2,ht2⟩:=I.lstK ha2;simp only[BN];exact RcNeAt.none_list ht2 hu'
 |bl b1=>
  cases(show x= .bl b1 from hx);cases ru
  cases d' with
  |non=>cases(show y= .non from hy);cases rv;simp only[BN];exact RcNeAt.bool_none b1
  |bl b2=>cases(show y= .bl b2 from hy);cases rv;simp only[BN];exact RcNeAt.bool_bool b1 b2
  |int b2=>cases(show y= .int b2 from hy);obtain⟨t2,rfl⟩:=rv;simp only[BN];exact RcNeAt.bool_int b1 b2 t2
  |str b2=>cases(show y= .str b2 from hy);obtain⟨t2,rfl⟩:=rv;simp only[BN];exact RcNeAt.bool_str b1 b2 t2
  |tup ds2=>obtain⟨a2,xs2,rfl,ha2,hs2⟩:=id hy;cases rv;obtain⟨its2,r2,ht2⟩:=I.tupK ha2;simp only[BN];exact RcNeAt.bool_tuple b1 ht2 hu'
  |lst ds2=>obtain⟨a2,xs2,rfl,ha2,hs2⟩:=id hy;cases rv;obtain⟨its2,r2,ht2⟩:=I.lstK ha2;simp only[BN];exact RcNeAt.bool_list b1 ht2 hu'
 |int b1=>
  cases(show x= .int b1 from hx);obtain⟨t1,rfl⟩:=ru
  cases d' with
  |non=>cases(show y= .non from hy);cases rv;simp only[BN];exact RcNeAt.int_none b1 t1
  |bl b2=>cases(show y= .bl b2 from hy);cases rv;simp only[BN];exact RcNeAt.int_bool b1 t1 b2
  |int b2=>cases(show y= .int b2 from hy);obtain⟨t2,rfl⟩:=rv;simp only[BN];exact RcNeAt.int_int b1 t1 b2 t2
  |str b2=>cases(show y= .str b2 from hy);obtain⟨t2,rfl⟩:=rv;simp only[BN];exact RcNeAt.int_str b1 t1 b2 t2
  |tup ds2=>obtain⟨a2,xs2,rfl,ha2,hs2⟩:=id hy;cases rv;obtain⟨its2,r2,ht2⟩:=I.tupK ha2;simp only[BN];exact RcNeAt.int_tuple b1 t1 ht2 hu'
  |lst ds2=>obtain⟨a2,xs2,rfl,ha2,hs2⟩:=id hy;cases rv;obtain⟨its2,r2,ht2⟩:=I.lstK ha2;simp only[BN];exact RcNeAt.int_list b1 t1 ht2 hu'
 |str b1=>
  cases(show x= .str b1 from hx);obtain⟨t1,rfl⟩:=ru
  cases d' with
  |non=>cases(show y= .non from hy);cases rv;simp only[BN];exact RcNeAt.str_none b1 t1
  |bl b2=>cases(show y= .bl b2 from hy);cases rv;simp only[BN];exact RcNeAt.str_bool b1 t1 b2
  |int b2=>cases(show y= .int b2 from hy);obtain⟨t2,rfl⟩:=rv;simp only[BN];exact RcNeAt.str_int b1 t1 b2 t2
  |str b2=>cases(show y= .str b2 from hy);obtain⟨t2,rfl⟩:=rv;simp only[BN];exact RcNeAt.str_str b1 t1 b2 t2
  |tup ds2=>obtain⟨a2,xs2,rfl,ha2,hs2⟩:=id hy;cases rv;obtain⟨its2,r2,ht2⟩:=I.tupK ha2;simp only[BN];exact RcNeAt.str_tuple b1 t1 ht2 hu'
  |lst ds2=>obtain⟨a2,xs2,rfl,ha2,hs2⟩:=id hy;cases rv;obtain⟨its2,r2,ht2⟩:=I.lstK ha2;simp only[BN];exact RcNeAt.str_list b1 t1 ht2 hu'
 |tup ds1=>
  obtain⟨a1,xs1,rfl,ha1,hs1⟩:=id hx;cases ru;obtain⟨its1,r1,ht1⟩:=I.tupK ha1
  cases d' with
  |non=>cases(show y= .non from hy);cases rv;simp only[BN];exact RcNeAt.tuple_none ht1 hu'
  |bl b2=>cases(show y= .bl b2 from hy);cases rv;simp only[BN];exact RcNeAt.tuple_bool b2 ht1 hu'
  |int b2=>cases(show y= .int b2 from hy);obtain⟨t2,rfl⟩:=rv;simp only[BN];exact RcNeAt.tuple_int b2 t2 ht1 hu'
  |str b2=>cases(show y= .str b2 from hy);obtain⟨t2,rfl⟩:=rv;simp only[BN];exact RcNeAt.tuple_str b2 t2 ht1 hu'
  |tup ds2=>
   obtain⟨a2,xs2,rfl,ha2,hs2⟩:=id hy;cases rv;obtain⟨its2,r2,ht2⟩:=I.tupK ha2
   have hds:D.deeps ds1≤150:=by have:=hd;simp[D.deep]at this;omega
   have z:=RcNeAt.tuples (A:=A) (s:=s) (e:=fun j=>BN (ds1.getD j .non) (ds2.getD j .non)) ht1 ht2 hu' (HA r1 r2 hs1 hs2 fun j e e' x y u v h1 h2 h3 h4 h5 h6=>(GP I 150 A.in1 e e' x y u v (Nat.le_trans (IP h1) hds) hin h3 h4 h5 h6).2)
   have e1:its1.toArray.size=ds1.length:=by rw[List.size_toArray,←r1.length,hs1.length]
   have e2:its2.toArray.size=ds2.length:=by rw[List.size_toArray,←r2.length,hs2.length]
   rw[e1,e2,DF]at z
   simp only[BN]
   exact z
  |lst ds2=>obtain⟨a2,xs2,rfl,ha2,hs2⟩:=id hy;cases rv;obtain⟨its2,r2,ht2⟩:=I.lstK ha2;simp only[BN];exact RcNeAt.tuple_list ht1 ht2 hu'
 |lst ds1=>
  obtain⟨a1,xs1,rfl,ha1,hs1⟩:=id hx;cases ru;obtain⟨its1,r1,ht1⟩:=I.lstK ha1
  cases d' with
  |non=>cases(show y= .non from hy);cases rv;simp only[BN];exact RcNeAt.list_none ht1 hu'
  |bl b2=>cases(show y= .bl b2 from hy);cases rv;simp only[BN];exact RcNeAt.list_bool b2 ht1 hu'
  |int b2=>cases(show y= .int b2 from hy);obtain⟨t2,rfl⟩:=rv;simp only[BN];exact RcNeAt.list_int b2 t2 ht1 hu'
  |str b2=>cases(show y= .str b2 from hy);obtain⟨t2,rfl⟩:=rv;simp only[BN];exact RcNeAt.list_str b2 t2 ht1 hu'
  |tup ds2=>obtain⟨a2,xs2,rfl,ha2,hs2⟩:=id hy;cases rv;obtain⟨its2,r2,ht2⟩:=I.tupK ha2;simp only[BN];exact RcNeAt.list_tuple ht1 ht2 hu'
  |lst ds2=>
   obtain⟨a2,xs2,rfl,ha2,hs2⟩:=id hy;cases rv;obtain⟨its2,r2,ht2⟩:=I.lstK ha2
   have hds:D.deeps ds1≤150:=by have:=hd;simp[D.deep]at this;omega
   have e1:its1.toArray.size=ds1.length:=by rw[List.size_toArray,←r1.length,hs1.length]
   have e2:its2.toArray.size=ds2.length:=by rw[List.size_toArray,←r2.length,hs2.length]
   simp only[BN]
   by_cases hl:ds1.length=ds2.length
   ·have z:=RcNeAt.lists (A:=A) (s:=s) (e:=fun j=>BN (ds1.getD j .non) (ds2.getD j .non)) ht1 ht2 (by rw[e1,e2];exact hl) hu' (HA r1 r2 hs1 hs2 fun j e e' x y u v h1 h2 h3 h4 h5 h6=>(GP I 150 A.in1 e e' x y u v (Nat.le_trans (IP h1) hds) hin h3 h4 h5 h6).2)
    have q:=DF (ds:=ds1) (ds':=ds2)
    rw[←hl,Nat.min_self,beq_self_eq_true,Bool.and_true]at q
    rw[e1,q]at z
    exact z
   ·have z:=RcNeAt.lists_lengths (A:=A) (s:=s) ht1 ht2 (by rw[e1,e2];simpa using hl) hu'
    have q:=DF (ds:=ds1) (ds':=ds2)
    rw[show(ds1.length==ds2.length)=false from beq_eq_false_iff_ne.mpr hl,Bool.and_false]at q
    rw[←q]
    exact z
def vD (K:PySem.W.Frag):R2:=fun x y H Q=>∃d d',RepK K H d x∧RepK K H d' y∧d.deep≤150∧Q (.bl (!BN d d')) H
theorem NO (hu:X.A.units+151<cLine):OpR X (compareOp .NotEq) (vD X.K):=by
 intro pins s σ H x y v u Q I rx ry h
 obtain⟨d,d',h1,h2,h3,q⟩:=h
 exact p8 I X.A d d' x y v u h3 hu h1 h2 rx ry X.prog X.w X.xe _ ⟨.bl _,H,I,rfl,q⟩
noncomputable def JH (K:PySem.W.Frag) (H:Hp) (d:D) (y:Value):Bool:= @decide (∃(d':D) (v':V),RelV v' y∧RepK K H d' v'∧BN d' d=true) (Classical.propDecidable _)
theorem WY (I:Inv X pins σ H s) {d d':D} {v':V} {y:Value} (r:RelV v' y) (h:RepK X.K H d' v'):JH X.K H d y=BN d' d:=by
 unfold JH
 cases e:BN d' d with
 |true=>exact @decide_eq_true _ (Classical.propDecidable _) ⟨d',v',r,h,e⟩
 |false=>
  refine @decide_eq_false _ (Classical.propDecidable _) ?_
  rintro⟨d2,v2,r2,h2,e2⟩
  rw[r2.inj r]at h2
  rw[RepK.inj I h2 h,e]at e2
  cases e2
theorem IJ (I:Inv X pins σ H s) {d:D}:∀{ds:List D} {xs:List V} {us:List Value},Vals xs us→RepKs X.K H ds xs→us.any (JH X.K H d)=ds.any fun e=>BN e d
 |[],xs,us,r,h=>by cases(show xs=[] from h);cases r;rfl
 |e::ds,xs,us,r,h=>by
  obtain⟨x,xr,rfl,h1,h2⟩:=h
  cases r with
  |cons r1 r2=>rw[List.any_cons,List.any_cons,WY I r1 h1,IJ I r2 h2]
theorem IG (I:Inv X pins σ H s) {A:Around} (hu:A.units+150<cLine) {d:D} {x:V} {v:Value} (rx:RelV x v) (hx:RepK X.K H d x):∀{ds:List D} {xs:List V} {us:List Value},Vals xs us→RepKs X.K H ds xs→D.deeps ds≤150→∀u∈us,EqAt A s u v (JH X.K H d u)
 |[],xs,us,r,h,_,u,hm=>by cases(show xs=[] from h);cases r;cases hm
 |e::ds,xs,us,r,h,hd,u,hm=>by
  obtain⟨y,xr,rfl,h1,h2⟩:=h
  have hd':e.deep≤150∧D.deeps ds≤150:=by simp[D.deeps]at hd;omega
  cases r with
  |cons r1 r2=>
   rcases List.mem_cons.mp hm with rfl|hm
   ·rw[WY I r1 h1]
    exact(GP I 150 A e d y x u v hd'.1 hu h1 hx r1 rx).2
   ·exact IG I hu rx hx r2 h2 hd'.2 u hm
def jP (K:PySem.W.Frag) (neg:Bool):R2:=fun x y H Q=>∃(p:Addr) (xs:List V) (ds:List D) (d:D),y= .ref p∧(SqL K H p xs∨GO K H p xs)∧RepKs K H ds xs∧RepK K H d x∧D.deeps ds≤150∧Q (.bl (if neg then !(ds.any fun e=>BN e d) else ds.any fun e=>BN e d)) H
theorem rG (hu:X.A.units+151<cLine):OpR X (compareOp .In) (jP X.K false):=by
 intro pins s σ H x y v u Q I rx ry h
 obtain⟨p,xs,ds,d,rfl,hq,hs,hx,hd,q⟩:=h
 cases ry
 have hu':X.A.in1.units+150<cLine:=by show X.A.units+1+150<cLine;omega
 rcases hq with hq|hq
 ·obtain⟨its,r,pl⟩:=I.lstK hq
  refine SeqAt.in_listAt (JH X.K H d) pl (fun w hw=>IG I hu' rx hx r hs hd w (by simpa using hw)) ⟨.bl _,H,I,rfl,?_⟩
  rw[show its.toArray.any (JH X.K H d)=its.any (JH X.K H d) by simp,IJ I r hs]
  exact q
 ·obtain⟨its,r,pl⟩:=I.tupK hq
  refine SeqAt.in_tupleAt (JH X.K H d) pl (fun w hw=>IG I hu' rx hx r hs hd w (by simpa using hw)) ⟨.bl _,H,I,rfl,?_⟩
  rw[show its.toArray.any (JH X.K H d)=its.any (JH X.K H d) by simp,IJ I r hs]
  exact q
theorem ZI (hu:X.A.units+151<cLine):OpR X (compareOp .NotIn) (jP X.K true):=by
 intro pins s σ H x y v u Q I rx ry h
 obtain⟨p,xs,ds,d,rfl,hq,hs,hx,hd,q⟩:=h
 cases ry
 have hu':X.A.in1.units+150<cLine:=by show X.A.units+1+150<cLine;omega
 rcases hq with hq|hq
 ·obtain⟨its,r,pl⟩:=I.lstK hq
  refine SeqAt.notIn_listAt (JH X.K H d) pl (fun w hw=>IG I hu' rx hx r hs hd w (by simpa using hw)) ⟨.bl _,H,I,rfl,?_⟩
  rw[show its.toArray.any (JH X.K H d)=its.any (JH X.K H d) by simp,IJ I r hs]
  exact q
 ·obtain⟨its,r,pl⟩:=I.tupK hq
  refine SeqAt.notIn_tupleAt (JH X.K H d) pl (fun w hw=>IG I hu' rx hx r hs hd w (by simpa using hw)) ⟨.bl _,H,I,rfl,?_⟩
  rw[show its.toArray.any (JH X.K H d)=its.any (JH X.K H d) by simp,IJ I r hs]
  exact q
end
end L2
namespace L2
open PySem PySem.Spec PyProof.Rows
mutual
def LU (f:Nat→Option D):M→Option D
 | .non=>some .non
 | .bl b=>some (.bl b)
 | .int i=>some (.int i)
 | .str x=>some (.str x)
 | .tup xs=>(EF f xs).map .tup
 | .lst xs=>(EF f xs).map .lst
 | .ref k=>f k
 | .scr ns=>some (.lst (ns.map D.int))
 |_=>none
def EF (f:Nat→Option D):List M→Option (List D)
 |[]=>some []
 |x::xs=>(LU f x).bind fun d=>(EF f xs).map (d:: ·)
end
def F3 (h:AA):Nat→Nat→Option D
 |0,_=>none
 |q+1,k=>match h[k]?with|some (.lst xs)=>(EF (F3 h q) xs).map .lst|_=>none
def UO (h:AA):M→Option D:=LU (F3 h 20)
def WA (h:AA):List M→Option (List D):=EF (F3 h 20)
theorem RepKs.ints {K:PySem.W.Frag} {H:Hp}:∀{ns:List Int},RepKs K H (ns.map D.int) (ns.map V.int)
 |[]=>rfl
 |n::ns=>⟨_,_,rfl,rfl,RepKs.ints⟩
mutual
theorem SM {K:PySem.W.Frag} {α:Pl} {H:Hp} {f:Nat→Option D} (hf:∀k d v,f k=some d→RepA K α H (.ref k) v→RepK K H d v):∀{m:M} {d:D} {v:V},LU f m=some d→RepA K α H m v→RepK K H d v
 | .non,_,_,e,r=>by cases e;exact r
 | .bl b,_,_,e,r=>by cases e;exact r
 | .int b,_,_,e,r=>by cases e;exact r
 | .str b,_,_,e,r=>by cases e;exact r
 | .tup xs,_,_,e,r=>by
   obtain⟨ds,e1,e2⟩:=Option.map_eq_some_iff.mp e
   subst e2
   obtain⟨a,vs,e3,t,rs⟩:=r
   exact⟨a,vs,e3,t.sq,GI hf e1 rs⟩
 | .lst xs,_,_,e,r=>by
   obtain⟨ds,e1,e2⟩:=Option.map_eq_some_iff.mp e
   subst e2
   obtain⟨a,vs,e3,n,t,rs⟩:=r
   exact⟨a,vs,e3, .of t,GI hf e1 rs⟩
 | .ref k,_,_,e,r=>hf k _ _ e r
 | .scr ns,_,_,e,r=>by
   cases e
   obtain⟨a,e3,t⟩:=r
   exact⟨a,_,e3,t.sq,RepKs.ints⟩
 | .ty _,_,_,e,_=>by cases e
 | .dct _ _,_,_,e,_=>by cases e
theorem GI {K:PySem.W.Frag} {α:Pl} {H:Hp} {f:Nat→Option D} (hf:∀k d v,f k=some d→RepA K α H (.ref k) v→RepK K H d v):∀{m:List M} {d:List D} {v:List V},EF f m=some d→RepAs K α H m v→RepKs K H d v
 |[],_,_,e,r=>by cases e;exact r
 |x::xs,_,_,e,r=>by
  obtain⟨d,e1,e2⟩:=Option.bind_eq_some_iff.mp e
  obtain⟨ds,e3,e4⟩:=Option.map_eq_some_iff.mp e2
  subst e4
  obtain⟨v,vs,rfl,h1,h2⟩:=r
  exact⟨v,vs,rfl,SM hf e1 h1,GI hf e3 h2⟩
end
theorem LO {K:PySem.W.Frag} {α:Pl} {h:AA} {H:Hp} (hr:Rl K α h H):∀(q k:Nat) (d:D) (v:V),F3 h q k=some d→RepA K α H (.ref k) v→RepK K H d v
 |0,_,_,_,e,_=>by cases e
 |q+1,k,d,v,e,⟨a,ha,e2⟩=>by
  unfold F3 at e
  split at e
  ·rename_i xs hx
   obtain⟨ds,e3,e4⟩:=Option.map_eq_some_iff.mp e
   subst e4
   obtain⟨vs,hv,rs⟩:=hr.obj k a _ ha hx
   exact⟨a,vs,e2, .of hv,GI (fun k d v=>LO hr q k d v) e3 rs⟩
  ·cases e
theorem EV {K:PySem.W.Frag} {α:Pl} {h:AA} {H:Hp} {m:M} {d:D} {v:V} (hr:Rl K α h H) (e:UO h m=some d) (r:RepA K α H m v):RepK K H d v:=SM (fun k d v=>LO hr 20 k d v) e r
theorem LF {K:PySem.W.Frag} {α:Pl} {h:AA} {H:Hp} {m:List M} {d:List D} {v:List V} (hr:Rl K α h H) (e:WA h m=some d) (r:RepAs K α H m v):RepKs K H d v:=GI (fun k d v=>LO hr 20 k d v) e r
def BO (x y:M) (h:AA):Option M:=(UO h x).bind fun d=>(UO h y).bind fun d'=>if d.deep≤150 then some (.bl (BN d d')) else none
def JW (x y:M) (h:AA):Option M:=(UO h x).bind fun d=>(UO h y).bind fun d'=>if d.deep≤150 then some (.bl (!BN d d')) else none
section
variable {X:Cx} {K:PySem.W.Frag}
theorem B8:LM K (wL K) BO:=by
 intro α h H x y d u v Q hr rx ry e k
 obtain⟨d1,e1,e⟩:=Option.bind_eq_some_iff.mp e
 obtain⟨d2,e2,e⟩:=Option.bind_eq_some_iff.mp e
 split at e
 ·rename_i hd
  cases e
  exact⟨d1,d2,EV hr e1 rx,EV hr e2 ry,hd,k H _ (Same.refl _) rfl⟩
 ·cases e
theorem UF:LM K (vD K) JW:=by
 intro α h H x y d u v Q hr rx ry e k
 obtain⟨d1,e1,e⟩:=Option.bind_eq_some_iff.mp e
 obtain⟨d2,e2,e⟩:=Option.bind_eq_some_iff.mp e
 split at e
 ·rename_i hd
  cases e
  exact⟨d1,d2,EV hr e1 rx,EV hr e2 ry,hd,k H _ (Same.refl _) rfl⟩
 ·cases e
def mQ (i j:Str):Bool:= !(Builtin.Str.occurrences j i 0 j.length 1).isEmpty
def O5 (x:M) (xs:List M) (h:AA) (f:Bool→M):Option M:=(WA h xs).bind fun ds=>(UO h x).bind fun d=>if D.deeps ds≤150 then some (f (ds.any fun e=>BN e d)) else none
def J0 (x y:M) (h:AA):Option M:=match EE h y with
 |some kvs=>(JG x).map fun k=> .bl (E5 kvs k).isSome
 |none=>(match y with
 | .str j=>(match x with| .str i=>some (.bl (mQ i j))|_=>none)
 | .tup xs=>O5 x xs h fun b=> .bl b
 |y=>(GV h y).bind fun xs=>O5 x xs h fun b=> .bl b)
def CP (x y:M) (h:AA):Option M:=match EE h y with
 |some kvs=>(JG x).map fun k=> .bl (!(E5 kvs k).isSome)
 |none=>(match y with
 | .str j=>(match x with| .str i=>some (.bl (!mQ i j))|_=>none)
 | .tup xs=>O5 x xs h fun b=> .bl (!b)
 |y=>(GV h y).bind fun xs=>O5 x xs h fun b=> .bl (!b))
def fU:R2:=fun x y H Q=>∃a o,y= .ref a∧V3 H a x o∧Q (.bl o.isSome) H
def Q7:R2:=fun x y H Q=>∃a o,y= .ref a∧V3 H a x o∧Q (.bl (!o.isSome)) H
theorem bS (hu:X.A.units+1<cLine):OpR X (compareOp .In) fU:=by
 intro pins s σ H x y v u Q I rx ry q
 obtain⟨a,o,rfl,g,q⟩:=q
 cases(show u= .ref a from ry)
 exact A1E hu I g rx fun s' I'=>⟨.bl o.isSome,H,I',rfl,q⟩
theorem U8 (hu:X.A.units+1<cLine):OpR X (compareOp .NotIn) Q7:=by
 intro pins s σ H x y v u Q I rx ry q
 obtain⟨a,o,rfl,g,q⟩:=q
 cases(show u= .ref a from ry)
 exact iG hu I g rx fun s' I'=>⟨.bl (!o.isSome),H,I',rfl,q⟩
def xS (K:PySem.W.Frag):R2:=fun x y H Q=>fU x y H Q∨jP K false x y H Q∨∃i j,x= .str i∧y= .str j∧Q (.bl (!(Builtin.Str.occurrences j i 0 j.length 1).isEmpty)) H
def WM (K:PySem.W.Frag):R2:=fun x y H Q=>Q7 x y H Q∨jP K true x y H Q∨∃i j,x= .str i∧y= .str j∧Q (.bl (!(!(Builtin.Str.occurrences j i 0 j.length 1).isEmpty))) H
theorem HJ (hu:X.A.units+151<cLine):OpR X (compareOp .In) (xS X.K):=(bS (by omega)).or ((rG hu).or YO)
theorem JA (hu:X.A.units+151<cLine):OpR X (compareOp .NotIn) (WM X.K):=(U8 (by omega)).or ((ZI hu).or RT)
theorem L6 {x:M} {xs:List M} {h:AA} {f:Bool→M} {d:M} (e:O5 x xs h f=some d):∃ds dx,WA h xs=some ds∧UO h x=some dx∧D.deeps ds≤150∧d=f (ds.any fun e=>BN e dx):=by
 obtain⟨ds,e1,e⟩:=Option.bind_eq_some_iff.mp e
 obtain⟨dx,e2,e⟩:=Option.bind_eq_some_iff.mp e
 split at e
 ·rename_i hd;cases e;exact⟨ds,dx,e1,e2,hd,rfl⟩
 ·cases e
theorem LD:LM K (xS K) J0:=by
 intro α h H x y d u v Q hr rx ry e k
 unfold J0 at e
 split at e
 ·rename_i kvs hk
  obtain⟨key,e1,e2⟩:=Option.map_eq_some_iff.mp e
  subst e2
  obtain⟨a,ws,rfl,ha,ek,rs⟩:=EY hr ry hk
  cases(FD e1 rx)
  exact .inl ⟨a,_,rfl,(.inl ⟨_,_,ha,rfl,rfl⟩),by rw[(J1 key ek rs).1];exact k H _ (Same.refl _) rfl⟩
 refine .inr ?_
 split at e
 ·split at e
  ·cases e
   exact .inr ⟨_,_,rx,ry,k H _ (Same.refl _) rfl⟩
  ·cases e
 ·obtain⟨ds,dx,e1,e2,hd,rfl⟩:=L6 e
  obtain⟨a,vs,rfl,t,rs⟩:=ry
  exact .inl ⟨a,vs,ds,dx,rfl, .inr t.sq,LF hr e1 rs,EV hr e2 rx,hd,k H _ (Same.refl _) rfl⟩
 ·obtain⟨xs,e0,e⟩:=Option.bind_eq_some_iff.mp e
  obtain⟨ds,dx,e1,e2,hd,rfl⟩:=L6 e
  obtain⟨a,vs,rfl,t,rs⟩:=DT hr ry e0
  exact .inl ⟨a,vs,ds,dx,rfl, .inl t,LF hr e1 rs,EV hr e2 rx,hd,k H _ (Same.refl _) rfl⟩
theorem L3:LM K (WM K) CP:=by
 intro α h H x y d u v Q hr rx ry e k
 unfold CP at e
 split at e
 ·rename_i kvs hk
  obtain⟨key,e1,e2⟩:=Option.map_eq_some_iff.mp e
  subst e2
  obtain⟨a,ws,rfl,ha,ek,rs⟩:=EY hr ry hk
  cases(FD e1 rx)
  exact .inl ⟨a,_,rfl,(.inl ⟨_,_,ha,rfl,rfl⟩),by rw[(J1 key ek rs).1];exact k H _ (Same.refl _) rfl⟩
 refine .inr ?_
 split at e
 ·split at e
  ·cases e
   exact .inr ⟨_,_,rx,ry,k H _ (Same.refl _) rfl⟩
  ·cases e
 ·obtain⟨ds,dx,e1,e2,hd,rfl⟩:=L6 e
  obtain⟨a,vs,rfl,t,rs⟩:=ry
  exact .inl ⟨a,vs,ds,dx,rfl, .inr t.sq,LF hr e1 rs,EV hr e2 rx,hd,k H _ (Same.refl _) rfl⟩
 ·obtain⟨xs,e0,e⟩:=Option.bind_eq_some_iff.mp e
  obtain⟨ds,dx,e1,e2,hd,rfl⟩:=L6 e
  obtain⟨a,vs,rfl,t,rs⟩:=DT hr ry e0
  exact .inl ⟨a,vs,ds,dx,rfl, .inl t,LF hr e1 rs,EV hr e2 rx,hd,k H _ (Same.refl _) rfl⟩
def DH (xs:List M) (h:AA):Option M:=match xs with
 |[.str z]=>if z.length≤16777216 then some (.int z.length) else none
 |[.tup ys]=>some (.int ys.length)
 |[.dct ks ys]=>some (.int ks.length)
 |[x]=>(match GV h x with
  |some ys=>some (.int ys.length)
  |none=>(EE h x).map fun kvs=> .int kvs.length)
 |_=>none
def n6 (K:PySem.W.Frag):List V→Hp→VK→Prop:=fun xs H Q=>(∃z,xs=[.str z]∧z.length≤sizeLine∧Q (.int z.length) H)∨(∃p ys,xs=[.ref p]∧(SqL K H p ys∨GO K H p ys)∧Q (.int ys.length) H)∨∃a kvs,xs=[V.ref a]∧Rd H a (.dK kvs)∧Q (.int kvs.length) H
theorem BL:DC X (.builtin "len") (n6 X.K):=by
 intro pins s σ H xs us Q I r h
 rcases h with h|h|h
 ·exact QV pins s σ H _ us Q I r h
 ·exact RE pins s σ H _ us Q I r h
 ·obtain⟨a,kvs,rfl,ha,q⟩:=h
  obtain⟨u,rfl,ru⟩:=G4 r
  cases ru
  exact uD I ha fun t s' I'=>⟨.int kvs.length,H,I',⟨t,rfl⟩,q⟩
theorem K7 {α:Pl} {H:Hp} {x:M} {us:List V} (r:RepAs K α H [x] us):∃u,us=[u]∧RepA K α H x u:=by
 obtain⟨u,q,rfl,h1,h2⟩:=r
 cases(show q=[] from h2)
 exact⟨u,rfl,h1⟩
theorem ZG {α:Pl} {H:Hp} {x y:M} {us:List V} (r:RepAs K α H [x,y] us):∃u v,us=[u,v]∧RepA K α H x u∧RepA K α H y v:=by
 obtain⟨u,q,rfl,h1,h2⟩:=r
 obtain⟨v,rfl,h3⟩:=K7 h2
 exact⟨u,v,rfl,h1,h3⟩
theorem CM:HS K (n6 K) DH:=by
 intro α h H xs d us Q hr rs e k
 unfold DH at e
 split at e
 ·split at e
  ·rename_i hl
   cases e
   obtain⟨u,rfl,ru⟩:=K7 rs
   cases(show u= .str _ from ru)
   exact .inl ⟨_,rfl,by rw[sizeLine_eq];exact hl,k H _ (Same.refl _) rfl⟩
  ·cases e
 ·cases e
  obtain⟨u,rfl,a,vs,rfl,t,rv⟩:=K7 rs
  exact .inr (.inl ⟨a,vs,rfl, .inr t.sq,k H _ (Same.refl _) (by rw[rv.length];rfl)⟩)
 ·cases e
  obtain⟨u,rfl,a,ws,rfl,n,ha,ek,rv⟩:=K7 rs
  exact .inr (.inr ⟨a,ws,rfl,ha,k H _ (Same.refl _) (by rw[←ek,List.length_map];rfl)⟩)
 ·obtain⟨u,rfl,ru⟩:=K7 rs
  split at e
  ·rename_i ys hy
   cases e
   obtain⟨a,vs,rfl,t,rv⟩:=DT hr ru hy
   exact .inr (.inl ⟨a,vs,rfl, .inl t,k H _ (Same.refl _) (by rw[rv.length];rfl)⟩)
  ·obtain⟨kvs,e1,e2⟩:=Option.map_eq_some_iff.mp e
   subst e2
   obtain⟨a,ws,rfl,ha,ek,rv⟩:=EY hr ru e1
   refine .inr (.inr ⟨a,ws,rfl,ha,k H _ (Same.refl _) ?_⟩)
   have:ws.length=kvs.length:=by have:=congrArg List.length ek;simpa using this
   rw[this];rfl
 ·cases e
def VD (xs:List M) (_:AA):Option M:=match xs with|[.int i]=>some (.int (if i<0 then-i else i))|_=>none
theorem eQ:HS K (fun xs H Q=>∃i,xs=[.int i]∧Q (.int (if i<0 then-i else i)) H) VD:=by
 intro α h H xs d us Q hr rs e k
 unfold VD at e
 split at e
 ·cases e
  obtain⟨u,rfl,ru⟩:=K7 rs
  cases(show u= .int _ from ru)
  exact⟨_,rfl,k H _ (Same.refl _) rfl⟩
 ·cases e
def kD (xs:List M) (_:AA):Option M:=match xs with|[.int i, .int j]=>some (.int (if j<i then j else i))|_=>none
def kL (xs:List M) (_:AA):Option M:=match xs with|[.int i, .int j]=>some (.int (if j>i then j else i))|_=>none
theorem qH:HS K (fun xs H Q=>∃i j,xs=[.int i, .int j]∧Q (.int (if j<i then j else i)) H) kD:=by
 intro α h H xs d us Q hr rs e k
 unfold kD at e
 split at e
 ·cases e
  obtain⟨u,v,rfl,ru,rv⟩:=ZG rs
  cases(show u= .int _ from ru)
  cases(show v= .int _ from rv)
  exact⟨_,_,rfl,k H _ (Same.refl _) rfl⟩
 ·cases e
theorem qG:HS K (fun xs H Q=>∃i j,xs=[.int i, .int j]∧Q (.int (if j>i then j else i)) H) kL:=by
 intro α h H xs d us Q hr rs e k
 unfold kL at e
 split at e
 ·cases e
  obtain⟨u,v,rfl,ru,rv⟩:=ZG rs
  cases(show u= .int _ from ru)
  cases(show v= .int _ from rv)
  exact⟨_,_,rfl,k H _ (Same.refl _) rfl⟩
 ·cases e
def c7 (xs:List M) (_:AA):Option M:=match xs with|[.int i]=>some (.int i)|[.bl b]=>some (.int (if b then 1 else 0))|_=>none
theorem p0:HS K (fun xs H Q=>(∃i,xs=[.int i]∧Q (.int i) H)∨∃k,xs=[.bl k]∧Q (.int (if k then 1 else 0)) H) c7:=by
 intro α h H xs d us Q hr rs e k
 unfold c7 at e
 split at e
 ·cases e
  obtain⟨u,rfl,ru⟩:=K7 rs
  cases(show u= .int _ from ru)
  exact .inl ⟨_,rfl,k H _ (Same.refl _) rfl⟩
 ·cases e
  obtain⟨u,rfl,ru⟩:=K7 rs
  cases(show u= .bl _ from ru)
  exact .inr ⟨_,rfl,k H _ (Same.refl _) rfl⟩
 ·cases e
def gW:List M→Option (List Bool)
 |[]=>some []
 | .bl b::r=>(gW r).map (b:: ·)
 |_=>none
theorem R5 {α:Pl} {H:Hp}:∀{xs:List M} {bs:List Bool} {vs:List V},gW xs=some bs→RepAs K α H xs vs→vs=bs.map V.bl
 |[],_,vs,e,r=>by cases e;exact r
 | .bl b::xs,_,vs,e,r=>by
   obtain⟨cs,e1,e2⟩:=Option.map_eq_some_iff.mp e
   subst e2
   obtain⟨v,q,rfl,h1,h2⟩:=r
   rw[R5 e1 h2,show v= .bl b from h1]
   rfl
 | .non::_,_,_,e,_| .int _::_,_,_,e,_| .str _::_,_,_,e,_| .ty _::_,_,_,e,_| .tup _::_,_,_,e,_| .lst _::_,_,_,e,_| .dct _ _::_,_,_,e,_| .ref _::_,_,_,e,_| .scr _::_,_,_,e,_=>by cases e
def YH (xs:List M) (h:AA):Option M:=match xs with|[x]=>(G0 h x).bind fun ys=>(gW ys).map fun bs=> .bl (bs.all id)|_=>none
def gY (xs:List M) (h:AA):Option M:=match xs with|[x]=>(G0 h x).bind fun ys=>(gW ys).map fun bs=> .bl (bs.any id)|_=>none
theorem OG:HS K (fun xs H Q=>∃(p:Addr) (bs:List Bool),xs=[.ref p]∧H p=some (.lst (bs.map V.bl))∧Q (.bl (bs.all id)) H) YH:=by
 intro α h H xs d us Q hr rs e k
 unfold YH at e
 split at e
 ·obtain⟨ys,e1,e⟩:=Option.bind_eq_some_iff.mp e
  obtain⟨bs,e2,e3⟩:=Option.map_eq_some_iff.mp e
  subst e3
  obtain⟨u,rfl,ru⟩:=K7 rs
  obtain⟨a,vs,rfl,ha,rv⟩:=DL hr ru e1
  rw[R5 e2 rv]at ha
  exact⟨a,bs,rfl,ha,k H _ (Same.refl _) rfl⟩
 ·cases e
theorem pP:HS K (fun xs H Q=>∃(p:Addr) (bs:List Bool),xs=[.ref p]∧H p=some (.lst (bs.map V.bl))∧Q (.bl (bs.any id)) H) gY:=by
 intro α h H xs d us Q hr rs e k
 unfold gY at e
 split at e
 ·obtain⟨ys,e1,e⟩:=Option.bind_eq_some_iff.mp e
  obtain⟨bs,e2,e3⟩:=Option.map_eq_some_iff.mp e
  subst e3
  obtain⟨u,rfl,ru⟩:=K7 rs
  obtain⟨a,vs,rfl,ha,rv⟩:=DL hr ru e1
  rw[R5 e2 rv]at ha
  exact⟨a,bs,rfl,ha,k H _ (Same.refl _) rfl⟩
 ·cases e
def RL (xs:List M) (h:AA):Option M:=match xs with|[.tup ys]=>some (.tup ys)|[x]=>(GV h x).map .tup|_=>none
theorem T7:HS K (fun xs H Q=>∃p ys,xs=[.ref p]∧((SqL K H p ys∧∀l,H l=none→Q (.ref l) (BT H l (.tup ys)))∨(GO K H p ys∧Q (.ref p) H))) RL:=by
 intro α h H xs d us Q hr rs e k
 unfold RL at e
 split at e
 ·cases e
  obtain⟨u,rfl,a,vs,rfl,t,rv⟩:=K7 rs
  exact⟨a,vs,rfl, .inr ⟨t.sq,k H _ (Same.refl _) ⟨a,vs,rfl,t,rv⟩⟩⟩
 ·obtain⟨ys,e1,e2⟩:=Option.map_eq_some_iff.mp e
  subst e2
  obtain⟨u,rfl,ru⟩:=K7 rs
  obtain⟨a,vs,rfl,ha,rv⟩:=DT hr ru e1
  exact⟨a,vs,rfl, .inl ⟨ha,fun l hl=>k _ _ (B4 hl _) (XA hr hl rv)⟩⟩
 ·cases e
def YJ (h:AA):M→String
 | .non=> "NoneType"
 | .bl _=> "bool"
 | .int _=> "int"
 | .str _=> "str"
 | .tup _=> "tuple"
 | .lst _=> "list"
 | .scr _=> "list"
 | .dct _ _=> "dict"
 | .ref k=>(match h[k]?with|some (.lst _)=> "list"|some (.dct _)=> "dict"|none=> "")
 | .ty _=> ""
def sI:List M→Option (List String)
 |[]=>some []
 | .ty c::r=>(sI r).map (c:: ·)
 |_=>none
def V8 (c:String):Bool:=c== "str"||c== "int"||c== "bool"||c== "tuple"||c== "list"
def IU (xs:List M) (h:AA):Option M:=match xs with
 |[x, .ty c]=>if YJ h x≠ ""∧V8 c=true then some (.bl (DX (YJ h x) c)) else none
 |[x, .tup ts]=>(sI ts).bind fun cs=>if YJ h x≠ ""∧cs.all V8=true then some (.bl (cs.any (DX (YJ h x)))) else none
 |_=>none
inductive TyK (K:PySem.W.Frag) (H:Hp):V→String→Prop where
 |non:TyK K H .non "NoneType"
 |bl (x:Bool):TyK K H (.bl x) "bool"
 |int (i:Int):TyK K H (.int i) "int"
 |str (x:Str):TyK K H (.str x) "str"
 |lst {a:Addr} {xs:List V} (e:SqL K H a xs):TyK K H (.ref a) "list"
 |tup {a:Addr} {xs:List V} (e:GO K H a xs):TyK K H (.ref a) "tuple"
 |dK {a:Addr} {kvs:List (BC×V)} (e:Rd H a (.dK kvs)):TyK K H (.ref a) "dict"
theorem WL {α:Pl} {h:AA} {H:Hp} {m:M} {v:V} (hr:Rl K α h H) (r:RepA K α H m v) (n:YJ h m≠ ""):TyK K H v (YJ h m):=by
 cases m with
 |non=>cases(show v= .non from r);exact .non
 |bl b=>cases(show v= .bl b from r);exact .bl b
 |int b=>cases(show v= .int b from r);exact .int b
 |str b=>cases(show v= .str b from r);exact .str b
 |ty b=>exact absurd rfl n
 |tup xs=>obtain⟨a,vs,rfl,t,_⟩:=r;exact .tup t.sq
 |lst xs=>obtain⟨a,vs,rfl,_,t,_⟩:=r;exact .lst (.of t)
 |scr xs=>obtain⟨a,rfl,t⟩:=r;exact .lst t.sq
 |dct ks xs=>obtain⟨a,vs,rfl,_,t,_⟩:=r;exact .dK t
 |ref k=>
  obtain⟨a,ha,rfl⟩:=r
  unfold YJ at n⊢
  dsimp only at n⊢
  cases e:h[k]?with
  |none=>rw[e]at n;exact absurd rfl n
  |some o=>
   cases o with
   |lst xs=>obtain⟨vs,hv,_⟩:=hr.obj k a _ ha e;exact .lst (.of hv)
   |dct xs=>obtain⟨vs,hv,_⟩:=hr.obj k a _ ha e;exact .dK (.inl hv)
theorem TyK.name {H:Hp} {x:V} {t:String} (h:TyK K H x t):t= "NoneType" ∨t= "bool" ∨t= "int" ∨t= "str" ∨t= "list" ∨t= "tuple" ∨t= "dict":=by cases h<;>simp
def fR (K:PySem.W.Frag):List V→Hp→VK→Prop:=fun xs H Q=>(∃x t c,xs=[x, .ty c]∧TyK K H x t∧V8 c=true∧Q (.bl (DX t c)) H)∨
 ∃(x:V) (t:String) (p:Addr) (cs:List String),xs=[x, .ref p]∧TyK K H x t∧GO K H p (cs.map V.ty)∧cs.all V8=true∧Q (.bl (cs.any (DX t))) H
theorem WR {c:String} (h:V8 c=true):c= "str" ∨c= "int" ∨c= "bool" ∨c= "tuple" ∨c= "list":=by
 simpa[V8,or_assoc]using h
theorem GS:DC X (.builtin "isinstance") (fR X.K):=by
 intro pins s σ H xs us Q I r h
 rcases h with⟨x,t,c,rfl,ty,hc,q⟩|⟨x,t,p,cs,rfl,ty,hp,hc,q⟩
 ·obtain⟨u,w',rfl,ru,rw'⟩:=TM r
  obtain rfl:w'=Value.type c:=rw'
  have e:=Q4 X.K ty.name (WR hc)
  have fin:∀tk,EP X pins σ Q (.bool (DX t c)) {s with toks:=tk}:=fun tk=>⟨.bl _,H,I.tok _,rfl,q⟩
  cases ty with
  |non=>cases(show u=Value.none from ru);exact PySem.W.kia_one PySem.W.kitx_none I.kIn True.intro e (fun z=>nomatch z) fin
  |bl y=>cases(show u=Value.bool y from ru);exact PySem.W.kia_one PySem.W.kitx_bool I.kIn True.intro e (fun z=>nomatch z) fin
  |int i=>obtain⟨t,q⟩:=(show∃t,u=Value.int i t from ru);cases q;exact PySem.W.kia_one PySem.W.kitx_int I.kIn True.intro e (fun z=>nomatch z) fin
  |str y=>obtain⟨t,q⟩:=(show∃t,u=Value.str y t from ru);cases q;exact PySem.W.kia_one PySem.W.kitx_str I.kIn True.intro e (fun z=>nomatch z) fin
  |lst hx=>
   cases(show u=Value.ref _ from ru)
   obtain⟨its,_,o,e1,c1,_⟩:=I.lstK hx
   exact PySem.W.kia_one PySem.W.kitx_list I.kIn ⟨o,e1,c1⟩ e (fun z=>nomatch z) fin
  |tup hx=>
   cases(show u=Value.ref _ from ru)
   obtain⟨its,_,o,e1,c1,_⟩:=I.tupK hx
   exact PySem.W.kia_one PySem.W.kitx_tuple I.kIn ⟨o,e1,c1⟩ e (fun z=>nomatch z) fin
  | @dK a kvs ea=>
    cases(show u=Value.ref a from ru)
    obtain⟨_,_,vs,_,p⟩:=JM I.hok ea
    obtain⟨o,es,ep,h1,h2,_⟩:=p
    exact PySem.W.kia_one PySem.W.kitx_dict I.kIn ⟨o,h1,h2.1⟩ e (fun z=>nomatch z) fin
 ·obtain⟨u,w',rfl,ru,rw'⟩:=TM r
  obtain rfl:w'=Value.ref p:=rw'
  have e:=PZ X.K ty.name (cs:=cs) fun c hm=>WR (List.all_eq_true.mp hc c hm)
  obtain⟨its,rv,ht⟩:=I.tupK hp
  have ei:=jF rv
  obtain⟨⟨cls,dd,data,sl⟩,ho,hcl,n,hd⟩:=id ht
  simp only at hcl hd
  subst hcl hd
  rw[←ei]at e
  have fin:∀tk,EP X pins σ Q (.bool (cs.any (DX t))) {s with toks:=tk}:=fun tk=>⟨.bl _,H,I.tok _,rfl,q⟩
  cases ty with
  |non=>cases(show u=Value.none from ru);exact PySem.W.kia_tup PySem.W.kitx_none I.kIn True.intro ho e (fun z=>nomatch z) fin
  |bl y=>cases(show u=Value.bool y from ru);exact PySem.W.kia_tup PySem.W.kitx_bool I.kIn True.intro ho e (fun z=>nomatch z) fin
  |int i=>obtain⟨t,q⟩:=(show∃t,u=Value.int i t from ru);cases q;exact PySem.W.kia_tup PySem.W.kitx_int I.kIn True.intro ho e (fun z=>nomatch z) fin
  |str y=>obtain⟨t,q⟩:=(show∃t,u=Value.str y t from ru);cases q;exact PySem.W.kia_tup PySem.W.kitx_str I.kIn True.intro ho e (fun z=>nomatch z) fin
  |lst hx=>
   cases(show u=Value.ref _ from ru)
   obtain⟨its,_,o,e1,c1,_⟩:=I.lstK hx
   exact PySem.W.kia_tup PySem.W.kitx_list I.kIn ⟨o,e1,c1⟩ ho e (fun z=>nomatch z) fin
  |tup hx=>
   cases(show u=Value.ref _ from ru)
   obtain⟨its,_,o,e1,c1,_⟩:=I.tupK hx
   exact PySem.W.kia_tup PySem.W.kitx_tuple I.kIn ⟨o,e1,c1⟩ ho e (fun z=>nomatch z) fin
  | @dK a kvs ea=>
    cases(show u=Value.ref a from ru)
    obtain⟨_,_,vs,_,p⟩:=JM I.hok ea
    obtain⟨o,es,ep,h1,h2,_⟩:=p
    exact PySem.W.kia_tup PySem.W.kitx_dict I.kIn ⟨o,h1,h2.1⟩ ho e (fun z=>nomatch z) fin
theorem U4 {α:Pl} {H:Hp}:∀{xs:List M} {cs:List String} {vs:List V},sI xs=some cs→RepAs K α H xs vs→vs=cs.map V.ty
 |[],_,vs,e,r=>by cases e;exact r
 | .ty b::xs,_,vs,e,r=>by
   obtain⟨cs,e1,e2⟩:=Option.map_eq_some_iff.mp e
   subst e2
   obtain⟨v,q,rfl,h1,h2⟩:=r
   rw[U4 e1 h2,show v= .ty b from h1]
   rfl
 | .non::_,_,_,e,_| .int _::_,_,_,e,_| .str _::_,_,_,e,_| .bl _::_,_,_,e,_| .tup _::_,_,_,e,_| .lst _::_,_,_,e,_| .dct _ _::_,_,_,e,_| .ref _::_,_,_,e,_| .scr _::_,_,_,e,_=>by cases e
theorem MZ:HS K (fR K) IU:=by
 intro α h H xs d us Q hr rs e k
 unfold IU at e
 split at e
 ·split at e
  ·rename_i hc
   cases e
   obtain⟨u,v,rfl,ru,rv⟩:=ZG rs
   cases(show v= .ty _ from rv)
   exact .inl ⟨u,_,_,rfl,WL hr ru hc.1,hc.2,k H _ (Same.refl _) rfl⟩
  ·cases e
 ·obtain⟨cs,e1,e⟩:=Option.bind_eq_some_iff.mp e
  split at e
  ·rename_i hc
   cases e
   obtain⟨u,v,rfl,ru,a,vs,rfl,t,rv⟩:=ZG rs
   rw[U4 e1 rv]at t
   exact .inr ⟨u,_,a,cs,rfl,WL hr ru hc.1,t.sq,hc.2,k H _ (Same.refl _) rfl⟩
  ·cases e
 ·cases e
end
end L2
namespace L2
open PySem PySem.Spec PyProof.Rows
section
variable {X:Cx} {K:PySem.W.Frag}
def n5 (x:M) (h:AA):Bool:=(G0 h x).isSome
theorem WI {α:Pl} {h:AA} {H:Hp} {x:M} {v:V} (hr:Rl K α h H) (r:RepA K α H x v) (e:n5 x h=true):rA K "list" v H:=by
 obtain⟨xs,e1⟩:=Option.isSome_iff_exists.mp e
 obtain⟨a,vs,rfl,ha,_⟩:=DL hr r e1
 exact .inl ⟨rfl,vs, .of ha⟩
def mX (f:List M→Option (M×List M)) (x:M) (h:AA):Option (M×AA):=match x with
 | .ref k=>(match h[k]?with|some (.lst xs)=>(f xs).map fun(d,ys)=>(d,h.set k (.lst ys))|_=>none)
 |_=>none
theorem RN {f:List M→Option (M×List M)} {x:M} {h:AA} {d:M} {h':AA} (e:mX f x h=some (d,h')):∃k xs ys,x= .ref k∧h[k]? =some (.lst xs)∧f xs=some (d,ys)∧h'=h.set k (.lst ys):=by
 unfold mX at e
 split at e
 ·split at e
  ·rename_i hk
   obtain⟨⟨d1,ys⟩,e1,e2⟩:=Option.map_eq_some_iff.mp e
   cases e2
   exact⟨_,_,ys,rfl,hk,e1,rfl⟩
  ·cases e
 ·cases e
theorem fX {α:Pl} {h:AA} {H:Hp} {k:Nat} {a:Addr} {ys:List M} {ws:List V} {d:M} {w:V} {Q:VK} (hr:Rl K α h H) (ha:α.a[k]? =some a) (rs:RepAs K α H ys ws) (rd:RepA K α H d w)
 (q:∀α' H' w,Ev α α' H H'→Rl K α' (h.set k (.lst ys)) H'→RepA K α' H' d w→Q w H'):Q w (BT H a (.lst ws)):=by
 have ev:Ev α α H (BT H a (.lst ws)):=Ev.write hr (List.mem_of_getElem? ha)
 exact q α _ w ev (hr.write ha ⟨ws,B3,rs.ev ev⟩) (rd.ev ev)
def G8 (x:M) (xs:List M) (h:AA):Option (M×AA):=match xs with|[y]=>mX (fun ys=>if ys.length<16777216 then some (.non,ys++[y]) else none) x h|_=>none
theorem Q5:vM K X4 G8:=by
 intro α h h' H x xs d u us Q hr rx rs e k
 unfold G8 at e
 split at e
 ·obtain⟨q,xs,ys,rfl,hq,e1,rfl⟩:=RN e
  split at e1
  ·rename_i hl
   cases e1
   obtain⟨a,ha,rfl⟩:=rx
   obtain⟨v,rfl,rv⟩:=K7 rs
   obtain⟨vs,hv,rvs⟩:=hr.obj q a _ ha hq
   exact⟨a,vs,v,rfl,rfl,hv,by rw[←rvs.length,sizeLine_eq];exact hl,fX hr ha (rvs.snoc rv) (d:= .non) (w:= .non) rfl k⟩
  ·cases e1
 ·cases e
theorem RepAs.dropLast {α:Pl} {H:Hp} {xs:List M} {vs:List V} (r:RepAs K α H xs vs):RepAs K α H xs.dropLast vs.dropLast:=by
 rw[List.dropLast_eq_take,List.dropLast_eq_take,←r.length]
 exact r.take _
def TV (x:M) (xs:List M) (h:AA):Option (M×AA):=match xs with|[]=>mX (fun ys=>(ys[ys.length-1]?).map fun y=>(y,ys.dropLast)) x h|_=>none
theorem j9:vM K wV TV:=by
 intro α h h' H x xs d u us Q hr rx rs e k
 unfold TV at e
 split at e
 ·obtain⟨q,xs,ys,rfl,hq,e1,rfl⟩:=RN e
  obtain⟨y,e2,e3⟩:=Option.map_eq_some_iff.mp e1
  cases e3
  obtain⟨a,ha,rfl⟩:=rx
  cases(show us=[] from rs)
  obtain⟨vs,hv,rvs⟩:=hr.obj q a _ ha hq
  obtain⟨w,hw,rw'⟩:=rvs.get e2
  exact⟨a,vs,w,rfl,rfl,hv,by rw[←rvs.length];exact hw,fX hr ha rvs.dropLast rw' k⟩
 ·cases e
def PL (o i:FE):FG:=fun x ρ h=>bnd (o ρ h) fun oo h1=>bnd (i ρ h1) fun ii h2=>match ii with
 | .int j=>bnd (mX (fun ys=>(dP ys.length j).map fun q=>(.non,ys.set q x)) oo h2) fun _ h3=>some (ρ,h3)
 |_=>none
theorem WE {o i:Expr} {mo mi:FE} {pos:Pos} (ho:PE X o (tM X.K mo)) (hi:PE X i (tM X.K mi))
 (ha:∀v,assign (.Subscript o i pos) X.env v=(do
   let ov←holding [v] (eval o X.env)
   let iv←holding [v,ov] (eval i X.env)
   standAt pos
   holding [v,ov,iv] (setItem ov iv v)
   release [v,ov,iv] [])):PG X (.Subscript o i pos) (gM X.K (PL mo mi)):=(rN ho hi bC ha).imp fun v σ H Q ⟨α,ρ,h,x,ρ',h',hσ,hr,rx,e,k⟩=>by
 obtain⟨oo,h1,e1,e⟩:=A8 e
 obtain⟨ii,h2,e2,e⟩:=A8 e
 split at e
 ·obtain⟨_,h3,e3,e⟩:=A8 e
  cases e
  obtain⟨q,xs,ys,rfl,hq,e4,rfl⟩:=RN e3
  obtain⟨j,e5,e6⟩:=Option.map_eq_some_iff.mp e4
  cases e6
  refine⟨α,ρ,h,_,h1,hσ,hr,e1,fun α1 H1 u ev1 hr1 ru=>⟨α1,ρ,h1,_,h2,hσ.ev ev1,hr1,e2,fun α2 H2 w ev2 hr2 rw'=> ?_⟩⟩
  obtain⟨a,ha,rfl⟩:=ru
  have ha2:=ev2.ix ha
  obtain⟨vs,hv,rvs⟩:=hr2.obj q a _ ha2 hq
  refine⟨a,vs,_,j,rfl,rw',hv,by rw[←rvs.length];exact e5,?_⟩
  have ev:Ev α2 α2 H2 (BT H2 a (.lst (vs.set j v))):=Ev.write hr2 (List.mem_of_getElem? ha2)
  have evA:=(ev1.trans ev2).trans ev
  exact k α2 _ σ evA (hr2.write ha2 ⟨_,B3,(rvs.set ((rx.ev ev1).ev ev2) j).ev ev⟩) (hσ.ev evA)
 ·cases e
end
end L2
namespace L2
open PySem PySem.Spec PyProof.Rows
def HF (K:PySem.W.Frag) (d:M) (u:Value):Prop:=∃v,RelV v u∧∀α H,RepA K α H d v
section
variable {X:Cx} {a b c e o e':Expr} {es:List Expr} {ma mb mc me:FE} {mas:FA} {tc:FT} {ms mr:FS} {g:FG} {pos p:Pos}
theorem JD {x:Str} {u:Value} {d:M} (q:NmOk X.env.scope x .globalImplicit) (hm:X.mg x=some u) (r:HF X.K d u):PE X (.Name x pos) (tM X.K (mC d)):=by
 obtain⟨v,rv,rd⟩:=r
 exact RU (SY q hm rv) rd
def rB (i j:Nat) (a:FA):FS:=fun ρ h=>bnd (a ρ h) fun xs h1=>match xs with|[x,y]=>some (.nx ((ρ.set i (some x)).set j (some y)),h1)|_=>none
theorem qX {i j:Nat} {x y:Str} {px py pt:Pos} {kt k2 pt2} (hc:X.calm=true) (hN:X.N.Nodup) (hi:X.N[i]? =some x) (hj:X.N[j]? =some y) (hij:i≠j)
 (hx:X.env.scope.names.lookup x=some .local) (hy:X.env.scope.names.lookup y=some .local) (ha:PA X [a,b] (aM X.K mas))
 (hw:swappedStores [.Tuple [.Name x px, .Name y py] kt pt] (.Tuple [a,b] k2 pt2) X.env=pure (some [x,y]))
 (hs:swapsWithSole [.Tuple [.Name x px, .Name y py] kt pt] (.Tuple [a,b] k2 pt2) pos.line X.env=pure false):
 PS X (.Assign [.Tuple [.Name x px, .Name y py] kt pt] (.Tuple [a,b] k2 pt2) pos) (sM X.K (rB i j mas)):=(nN hc hN hi hj hij hx hy ha hw hs).imp fun D σ H ⟨α,ρ,h,d,h',hσ,hr,e,k⟩=>by
 obtain⟨xs,h1,e1,e⟩:=A8 e
 split at e
 ·cases e
  refine⟨α,ρ,h,_,_,hσ,hr,e1,fun α1 H1 vs ev1 hr1 rs=> ?_⟩
  obtain⟨u,v,rfl,ru,rv⟩:=ZG rs
  exact⟨u,v,rfl,k α1 H1 ev1 hr1 _ (((hσ.ev ev1).set ru).set rv)⟩
 ·cases e
theorem YD {op op' op'':CmpOp} {r r' r'':R2} {f f' f'':M→M→AA→Option M} {md:FE} (ho:OpR X (compareOp op) r) (hf:LM X.K r f) (ho':OpR X (compareOp op') r') (hf':LM X.K r' f') (ho'':OpR X (compareOp op'') r'') (hf'':LM X.K r'' f'')
 (ha:PE X a (tM X.K ma)) (hb:PE X b (tM X.K mb)) (hc:PE X c (tM X.K mc)) (he:PE X e (tM X.K md)) (hm:lastMarks [op,op',op''] [b,c,e]=false):
 PE X (.Compare a [op,op',op''] [b,c,e] pos) (tM X.K (QL f f' f'' ma mb mc md)):=(ZA ho ho' ho'' ha hb hc he hm).imp fun σ H Q ⟨α,ρ,h,d,h',hσ,hr,e,k⟩=>by
 obtain⟨x,h1,e1,e⟩:=A8 e
 obtain⟨y,h2,e2,e⟩:=A8 e
 obtain⟨z,e3,e⟩:=Option.bind_eq_some_iff.mp e
 obtain⟨q,rfl,e⟩:=E9 e
 refine⟨α,ρ,h,x,h1,hσ,hr,e1,fun α1 H1 u ev1 hr1 rx=>⟨α1,ρ,h1,y,h2,hσ.ev ev1,hr1,e2,fun α2 H2 v ev2 hr2 ry=>
  hf α2 _ H2 x y _ u v _ hr2 (rx.ev ev2) ry e3 fun H3 w s rw=>⟨q,rw,?_⟩⟩⟩
 have hr3:=hr2.same s
 have ev3:=(ev1.trans ev2).trans (Ev.same (α:=α2) s)
 cases q with
 |false=>cases e;exact k α2 H3 _ ev3 hr3 rfl
 |true=>
  obtain⟨w',h4,e4,e⟩:=A8 e
  obtain⟨z',e5,e⟩:=Option.bind_eq_some_iff.mp e
  obtain⟨q',rfl,e⟩:=E9 e
  refine⟨α2,ρ,h2,w',h4,hσ.ev ev3,hr3,e4,fun α4 H4 v4 ev4 hr4 r4=>hf' α4 _ H4 y w' _ v v4 _ hr4 ((ry.ev (.same s)).ev ev4) r4 e5 fun H5 w5 s5 r5=>⟨q',r5,?_⟩⟩
  have hr5:=hr4.same s5
  have ev5:=(ev3.trans ev4).trans (Ev.same (α:=α4) s5)
  cases q' with
  |false=>cases e;exact k α4 H5 _ ev5 hr5 rfl
  |true=>
   obtain⟨w6,h6,e6,e⟩:=A8 e
   obtain⟨e7,e8⟩:=CQ e
   dsimp only at e7 e8
   subst e8
   exact⟨α4,ρ,h4,w6,_,hσ.ev ev5,hr5,e6,fun α6 H6 v6 ev6 hr6 r6=>hf'' α6 _ H6 w' w6 _ v4 v6 _ hr6 ((r4.ev (.same s5)).ev ev6) r6 e7 fun H7 w7 s7 r7=>k α6 H7 w7 ((ev5.trans ev6).trans (.same s7)) (hr6.same s7) r7⟩
end
section
variable {P:Program} {w:World} {K:PySem.W.Frag} {mg:Str→Option Value} {base:Heap}
theorem FnOk.empty {CX:UN} {k:Nat} {f:Addr} {fd:FuncData} {ps:List Str}:FnOk P w K mg base CX k f fd ps (GG K fun _ _=>none):=
 ⟨fun vs H Q E ⟨_,_,_,_,_,_,_,e,_⟩=>(nomatch e),fun A outer s H args us vs Q E _ _ _ _ ⟨_,_,_,_,_,_,_,e,_⟩=>(nomatch e)⟩
end
def WQ (K:PySem.W.Frag):Sp:=fun vs H Q _=>∃(a:Addr) (ns:List Int),vs=[.ref a]∧SqL K H a (ns.map V.int)∧ns.length≤63∧∀H',Q (.bl true) H'
theorem cP {K:PySem.W.Frag} {H:Hp} {a:Addr} {ns:List Int} (hl:ns.length≤63) (hS:SqL K H a (ns.map V.int)):WQ K [.ref a] H (fun v _=>v= .bl true) fun _ _ _=>False:=⟨a,ns,rfl,hS,hl,fun _=>rfl⟩
theorem YX {K:PySem.W.Frag} {m:FF} (hm:∀ns:List Int,ns.length≤63→∃h',m [.scr ns] []=some (.bl true,h')) {vs:List V} {H:Hp} {Q:VK} {E:XK} (q:WQ K vs H Q E):GG K m vs H Q E:=by
 obtain⟨a,ns,rfl,hS,hl,k⟩:=q
 obtain⟨h',e⟩:=hm ns hl
 refine⟨⟨[],[]⟩,[],[.scr ns], .bl true,h',⟨_,_,rfl,⟨a,rfl,?_⟩,rfl⟩,⟨rfl,by simp,by simp,by simp,fun k a o hk=>by simp at hk⟩,e,fun α' H' v _ _ rv=> ?_⟩
 ·rcases hS with hS|hS
  ·exact .inl ⟨hS,by simp,by simp⟩
  ·exact .inr hS
 ·cases(show v= .bl true from rv);exact k H'
end L2
namespace L2
open PySem PySem.Spec PyProof.Rows
section
variable {X:Cx} {K:PySem.W.Frag} {mas:FA} {p pos:Pos}
def T0:List M→Option (List Int)
 |[]=>some []
 | .int z::r=>(T0 r).map (z:: ·)
 |_=>none
theorem PY {α:Pl} {H:Hp}:∀{xs:List M} {cs:List Int} {vs:List V},T0 xs=some cs→RepAs K α H xs vs→vs=cs.map V.int
 |[],_,vs,e,r=>by cases e;exact r
 | .int b::xs,_,vs,e,r=>by
   obtain⟨cs,e1,e2⟩:=Option.map_eq_some_iff.mp e
   subst e2
   obtain⟨v,q,rfl,h1,h2⟩:=r
   rw[PY e1 h2,show v= .int b from h1]
   rfl
 | .non::_,_,_,e,_| .str _::_,_,_,e,_| .ty _::_,_,_,e,_| .bl _::_,_,_,e,_| .tup _::_,_,_,e,_| .lst _::_,_,_,e,_| .dct _ _::_,_,_,e,_| .ref _::_,_,_,e,_| .scr _::_,_,_,e,_=>by cases e
theorem SZ {ys:List Int}:∀{us:List Value},Vals (ys.map V.int) us→IntsAre us ys:=by
 induction ys with
 |nil=>intro us r;rw[List.map_nil]at r;cases r;exact .nil
 |cons n ns ih=>
  intro us r
  rw[List.map_cons]at r
  cases r with
  |cons r1 r2=>
   obtain⟨t,e⟩:=r1
   subst e
   exact .cons n t (ih r2)
theorem OL:∀{us:List Value} {ys:List Int},IntsAre us ys→Vals (ys.map V.int) us
 |_,_, .nil=> .nil
 |_,_, .cons n t h=> .cons ⟨t,rfl⟩ (OL h)
end
end L2
namespace L2
open PySem
def Ens {a:Type} (x:Option (a×AA)) (Q:a→AA→Prop):Prop:=∃y h,x=some (y,h)∧Q y h
def Enp {a:Type} (x:Option a) (Q:a→Prop):Prop:=∃y,x=some y∧Q y
def EB (x:M) (R:Bool→Prop):Prop:=∃b,x= .bl b∧R b
def SQ (b:FS) (Q:Out→AA→Prop):Out→AA→Prop
 | .nx ρ,h=>Ens (b ρ h) Q
 |o,h=>Q o h
def FQ (Q:M→AA→Prop):Out→AA→Prop
 | .rt d,h=>Q d h
 | .nx _,h=>Q .non h
 |_,_=>False
section
variable {a b:Type} {Q:a→AA→Prop} {R:M→AA→Prop} {S:Out→AA→Prop} {T:Bool→AA→Prop} {U:List M→AA→Prop} {ρ:BJ} {h:AA} {m ma mb mc:FE} {mas:FA} {ta tb:FT} {sa sb:FS} {d x y:M}
theorem Ens.mono {x:Option (a×AA)} {Q Q':a→AA→Prop} (e:Ens x Q) (i:∀y h,Q y h→Q' y h):Ens x Q':=by obtain⟨y,h,e,q⟩:=e;exact⟨y,h,e,i y h q⟩
theorem Ens.ret {y:a} (q:Q y h):Ens (some (y,h)) Q:=⟨y,h,rfl,q⟩
theorem Ens.bnd {x:Option (a×AA)} {f:a→AA→Option (b×AA)} {Q:b→AA→Prop} (e:Ens x fun y h=>Ens (f y h) Q):Ens (L2.bnd x f) Q:=by
 obtain⟨y,h,rfl,e⟩:=e;exact e
theorem Enp.map {x:Option a} (e:Enp x fun y=>Q y h):Ens (x.map (·,h)) Q:=by obtain⟨y,rfl,q⟩:=e;exact⟨y,h,rfl,q⟩
theorem c9 (q:R d h):Ens (mC d ρ h) R:= .ret q
theorem BG {i:Nat} {v:M} (e:ρ[i]? =some (some v)) (q:R v h):Ens (A2 i ρ h) R:=⟨v,h,by unfold A2;rw[e],q⟩
theorem CO (q:U [] h):Ens (A5 ρ h) U:= .ret q
theorem QD (q:Ens (ma ρ h) fun x h1=>Ens (mas ρ h1) fun xs h2=>U (x::xs) h2):Ens (A1 ma mas ρ h) U:= .bnd (q.mono fun x h1 q=> .bnd (q.mono fun xs h2 q=> .ret q))
theorem mG (q:Ens (mas ρ h) fun xs h1=>xs.length≤16777216∧R (.tup xs) h1):Ens (BS mas ρ h) R:= .bnd (q.mono fun xs h1 q=>by rw[if_pos q.1];exact .ret q.2)
theorem wC (q:Ens (mas ρ h) fun xs h1=>xs.length≤16777216∧R (.lst xs) h1):Ens (HV mas ρ h) R:= .bnd (q.mono fun xs h1 q=>by rw[if_pos q.1];exact .ret q.2)
theorem pA (q:Ens (mas ρ h) fun xs h1=>xs.length≤16777216∧R (.ref h1.length) (h1++[.lst xs])):Ens (JQ mas ρ h) R:= .bnd (q.mono fun xs h1 q=>by rw[if_pos q.1];exact .ret q.2)
theorem VH {f:M→M→AA→Option M} (q:Ens (ma ρ h) fun x h1=>Ens (mb ρ h1) fun y h2=>Enp (f x y h2) fun d=>R d h2):Ens (AG f ma mb ρ h) R:= .bnd (q.mono fun x h1 q=> .bnd (q.mono fun y h2 q=>q.map))
theorem A1L {f:M→AA→Option M} (q:Ens (ma ρ h) fun x h1=>Enp (f x h1) fun d=>R d h1):Ens (lQ f ma ρ h) R:= .bnd (q.mono fun x h1 q=>q.map)
theorem u9 {f:List M→AA→Option M} (q:Ens (mas ρ h) fun xs h1=>Enp (f xs h1) fun d=>R d h1):Ens (E3 f mas ρ h) R:= .bnd (q.mono fun x h1 q=>q.map)
theorem o4 {f:FF} (q:Ens (mas ρ h) fun xs h1=>Ens (f xs h1) R):Ens (AB f mas ρ h) R:= .bnd q
theorem jV {ok:M→AA→Bool} {f:M→List M→AA→Option (M×AA)} (q:Ens (ma ρ h) fun x h1=>ok x h1=true∧Ens (mas ρ h1) fun xs h2=>Ens (f x xs h2) R):Ens (gV ok f ma mas ρ h) R:= .bnd (q.mono fun x h1 q=>by rw[if_pos q.1];exact .bnd q.2)
theorem SH {f:Bool→Option (a×AA)} (q:EB x fun c=>Ens (f c) Q):Ens (i5 x f) Q:=by obtain⟨c,rfl,q⟩:=q;exact q
theorem FX {c:Bool} {R:Bool→Prop} (q:R c):EB (.bl c) R:=⟨c,rfl,q⟩
theorem wD (q:Ens (ma ρ h) fun x h1=>EB x fun c=>if c=true then Ens (mb ρ h1) R else R (.bl false) h1):Ens (K4 ma mb ρ h) R:= .bnd (q.mono fun x h1 q=>SH (by
 obtain⟨c,rfl,q⟩:=q
 refine⟨c,rfl,?_⟩
 cases c
 ·exact .ret q
 ·exact q))
theorem A1B (q:Ens (ma ρ h) fun x h1=>EB x fun c=>if c=true then R (.bl true) h1 else Ens (mb ρ h1) R):Ens (zK ma mb ρ h) R:= .bnd (q.mono fun x h1 q=>SH (by
 obtain⟨c,rfl,q⟩:=q
 refine⟨c,rfl,?_⟩
 cases c
 ·exact q
 ·exact .ret q))
theorem uE (q:Ens (ma ρ h) fun x h1=>EB x fun c=>R (.bl (!c)) h1):Ens (o8 ma ρ h) R:= .bnd (q.mono fun x h1 q=>SH (by
 obtain⟨c,rfl,q⟩:=q
 exact⟨c,rfl, .ret q⟩))
theorem y2 (q:Ens (ta ρ h) fun c h1=>if c=true then Ens (ma ρ h1) R else Ens (mb ρ h1) R):Ens (y6 ta ma mb ρ h) R:= .bnd (q.mono fun c h1 q=>by cases c<;>exact q)
theorem lH {f g:M→M→AA→Option M} (q:Ens (ma ρ h) fun x h1=>Ens (mb ρ h1) fun y h2=>Enp (f x y h2) fun z=>EB z fun k=>if k=true then Ens (mc ρ h2) fun w h3=>Enp (g y w h3) fun d=>R d h3 else R (.bl false) h2):Ens (OO f g ma mb mc ρ h) R:=
 .bnd (q.mono fun x h1 q=> .bnd (q.mono fun y h2 q=>by
   obtain⟨z,e,k,rfl,q⟩:=q
   rw[e,Option.bind_some]
   refine SH ⟨k,rfl,?_⟩
   cases k
   ·exact .ret q
   ·exact .bnd (q.mono fun w h3 q=>q.map)))
theorem iC (q:Ens (ma ρ h) fun x h1=>EB x fun c=>T c h1):Ens (tV ma ρ h) T:= .bnd (q.mono fun x h1 q=>SH (by obtain⟨c,rfl,q⟩:=q;exact⟨c,rfl, .ret q⟩))
theorem WH (q:Ens (ta ρ h) fun c h1=>if c=true then Ens (tb ρ h1) T else T false h1):Ens (HX ta tb ρ h) T:= .bnd (q.mono fun c h1 q=>by cases c;exact .ret q;exact q)
theorem bP (q:Ens (ta ρ h) fun c h1=>if c=true then T true h1 else Ens (tb ρ h1) T):Ens (OC ta tb ρ h) T:= .bnd (q.mono fun c h1 q=>by cases c;exact q;exact .ret q)
theorem qN (q:Ens (ta ρ h) fun c h1=>T (!c) h1):Ens (NC ta ρ h) T:= .bnd (q.mono fun c h1 q=> .ret q)
theorem HP (q:T true h):Ens (FU ρ h) T:= .ret q
theorem gB {O:Option Int→AA→Prop} (q:O none h):Ens (PU ρ h) O:= .ret q
theorem lL {O:Option Int→AA→Prop} (q:Ens (ma ρ h) fun x h1=>∃i,x= .int i∧O (some i) h1):Ens (D0 ma ρ h) O:= .bnd (q.mono fun x h1 q=>by obtain⟨i,rfl,q⟩:=q;exact .ret q)
theorem A0P {f:M→Option Int→Option Int→AA→Option M} {lo hi:FO} (q:Ens (ma ρ h) fun x h1=>Ens (lo ρ h1) fun l h2=>Ens (hi ρ h2) fun u h3=>Enp (f x l u h3) fun d=>R d h3):Ens (OR f ma lo hi ρ h) R:=
 .bnd (q.mono fun x h1 q=> .bnd (q.mono fun l h2 q=> .bnd (q.mono fun u h3 q=>q.map)))
theorem CN (q:S (.nx ρ) h):Ens (AT ρ h) S:= .ret q
theorem TX (q:Ens (ma ρ h) fun x h1=>S (.rt x) h1):Ens (AY ma ρ h) S:= .bnd (q.mono fun x h1 q=> .ret q)
theorem cU (q:Ens (ma ρ h) fun _ h1=>S (.nx ρ) h1):Ens (MA ma ρ h) S:= .bnd (q.mono fun x h1 q=> .ret q)
theorem IW (q:Ens (sa ρ h) (SQ sb S)):Ens (AJ sa sb ρ h) S:= .bnd (q.mono fun o h1 q=>by
 cases o with
 |nx ρ'=>exact q
 |bk ρ'=>exact .ret q
 |ct ρ'=>exact .ret q
 |rt d=>exact .ret q)
theorem CS (q:Ens (sb ρ h) S):SQ sb S (.nx ρ) h:=q
theorem t9 (q:S (.rt d) h):SQ sb S (.rt d) h:=q
theorem xJ (q:R d h):FQ R (.rt d) h:=q
theorem PJ (q:Ens (ta ρ h) fun c h1=>if c=true then Ens (sa ρ h1) S else Ens (sb ρ h1) S):Ens (CV ta sa sb ρ h) S:= .bnd (q.mono fun c h1 q=>by cases c<;>exact q)
theorem SG {g:FG} (q:Ens (ma ρ h) fun x h1=>Ens (g x ρ h1) fun ρ' h2=>S (.nx ρ') h2):Ens (B2 ma g ρ h) S:= .bnd (q.mono fun x h1 q=> .bnd (q.mono fun ρ' h2 q=> .ret q))
theorem EA {i:Nat} {G:BJ→AA→Prop} (q:G (ρ.set i (some x)) h):Ens (BI i x ρ h) G:= .ret q
theorem qC {G:BJ→AA→Prop} (q:G ρ h):Ens (MD [] ρ h) G:= .ret q
theorem lY {g:FG} {gs:aX} {xs:List M} {G:BJ→AA→Prop} (q:Ens (g x ρ h) fun ρ' h'=>Ens (gs xs ρ' h') G):Ens (DM g gs (x::xs) ρ h) G:= .bnd q
theorem mH {n:Nat} {gs:aX} {xs:List M} {G:BJ→AA→Prop} (e:xs.length=n) (q:Ens (gs xs ρ h) G):Ens (gX n gs (.tup xs) ρ h) G:=by show Ens (if xs.length=n then _ else _) G;rw[if_pos e];exact q
theorem vC {i j:Nat} (q:Ens (mas ρ h) fun xs h1=>∃x y,xs=[x,y]∧S (.nx ((ρ.set i (some x)).set j (some y))) h1):Ens (rB i j mas ρ h) S:= .bnd (q.mono fun xs h1 q=>by obtain⟨x,y,rfl,q⟩:=q;exact .ret q)
theorem eT {o i:FE} {G:BJ→AA→Prop} (q:Ens (o ρ h) fun oo h1=>Ens (i ρ h1) fun ii h2=>∃k j xs q,oo= .ref k∧ii= .int j∧h2[k]? =some (.lst xs)∧dP xs.length j=some q∧G ρ (h2.set k (.lst (xs.set q x)))):Ens (PL o i x ρ h) G:=
 .bnd (q.mono fun oo h1 q=> .bnd (q.mono fun ii h2 q=>by
   obtain⟨k,j,xs,q,rfl,rfl,e1,e2,q'⟩:=q
   exact⟨ρ,_,by unfold mX;dsimp only;rw[e1];dsimp only;rw[e2];rfl,q'⟩))
theorem AV {n k:Nat} {ds:List M} (e:ds.length=n) (q:Ens (sa (ds.map some++List.replicate k none) h) (FQ R)):Ens (B5 n k sa ds h) R:=by
 unfold B5
 rw[if_pos e]
 refine .bnd (q.mono fun o h1 q=> ?_)
 cases o with
 |nx ρ'=>exact .ret q
 |bk ρ'=>exact q.elim
 |ct ρ'=>exact q.elim
 |rt d=>exact .ret q
def LQ (I:BJ→AA→Prop) (S:Out→AA→Prop):Out→AA→Prop
 | .nx ρ,h=>I ρ h
 | .ct ρ,h=>I ρ h
 | .bk ρ,h=>S (.nx ρ) h
 | .rt d,h=>S (.rt d) h
theorem VC {xs:List M} {bd:M→FS} (I:Nat→BJ→AA→Prop):∀{l:List M} {i:Nat} {ρ:BJ} {h:AA},l=xs.drop i→i≤xs.length→I i ρ h→
 (∀i x ρ h,xs[i]? =some x→I i ρ h→Ens (bd x ρ h) (LQ (I (i+1)) S))→(∀ρ h,I xs.length ρ h→S (.nx ρ) h)→Ens (FN xs none bd l ρ h) S
 |[],i,ρ,h,e,hi,hI,_,hd=>by
  have:i=xs.length:=by
   have:=congrArg List.length e
   simp at this;omega
  subst this
  unfold FN
  rw[if_pos (show KF xs none h from trivial)]
  exact .ret (hd ρ h hI)
 |x::r,i,ρ,h,e,hi,hI,hs,hd=>by
  have hx:xs[i]? =some x:=by
   have:=congrArg (fun l:List M=>l[0]?) e
   simpa using this.symm
  have hr:r=xs.drop (i+1):=by
   have:=congrArg List.tail e
   simpa using this
  have hlt:i<xs.length:=(List.getElem?_eq_some_iff.mp hx).1
  unfold FN
  rw[if_pos (show KF xs none h from trivial)]
  refine .bnd ((hs i x ρ h hx hI).mono fun o h1 q=> ?_)
  cases o with
  |nx ρ'=>exact VC I hr hlt q hs hd
  |ct ρ'=>exact VC I hr hlt q hs hd
  |bk ρ'=>exact .ret q
  |rt d=>exact .ret q
theorem PC {i:FI} {g:FG} (q:Ens (i ρ h) fun s h1=>Ens (FN s.1 s.2 (fun x ρ h=>L2.bnd (g x ρ h) fun ρ' h'=>sa ρ' h') s.1 ρ h1) S):Ens (GB i g sa ρ h) S:= .bnd q
theorem NT {g:FG} (q:Ens (g x ρ h) fun ρ' h'=>Ens (sa ρ' h') S):Ens (L2.bnd (g x ρ h) fun ρ' h'=>sa ρ' h') S:= .bnd q
theorem GF {xs:List M} {bd:M→FS} (I:Nat→BJ→AA→Prop) (h0:I 0 ρ h) (hs:∀i x ρ h,xs[i]? =some x→I i ρ h→Ens (bd x ρ h) (LQ (I (i+1)) S)) (hd:∀ρ h,I xs.length ρ h→S (.nx ρ) h):Ens (FN xs none bd xs ρ h) S:=
 VC I (i:=0) (by simp) (Nat.zero_le _) h0 hs hd
abbrev SI:=(List M×Option Nat)→AA→Prop
theorem UM {s:SI} (q:Ens (ma ρ h) fun x h1=>∃xs,x= .lst xs∧s (xs,none) h1):Ens (iL ma ρ h) s:= .bnd (q.mono fun x h1 q=>by obtain⟨xs,rfl,q⟩:=q;exact .ret q)
theorem jA {s:SI} (q:Ens (ma ρ h) fun x h1=>∃xs,x= .tup xs∧s (xs,none) h1):Ens (iT ma ρ h) s:= .bnd (q.mono fun x h1 q=>by obtain⟨xs,rfl,q⟩:=q;exact .ret q)
theorem A08 {s:SI} (q:Ens (ma ρ h) fun x h1=>∃z:Str,x= .str z∧s (z.cps.toList.map fun c=>M.str ⟨#[c]⟩,none) h1):Ens (iS ma ρ h) s:= .bnd (q.mono fun x h1 q=>by obtain⟨xs,rfl,q⟩:=q;exact .ret q)
theorem UB {s:SI} (q:Ens (mas ρ h) fun xs h1=>∃j:Int,xs=[.int j]∧(-4611686018427387904≤j∧j<4611686018427387904)∧s ((List.range j.toNat).map fun(i:Nat)=>M.int (i:Int),none) h1):Ens (kZ mas ρ h) s:= .bnd (q.mono fun x h1 q=>by
 obtain⟨j,rfl,hj,q⟩:=q
 show Ens (if _ then _ else _) s
 rw[if_pos hj];exact .ret q)
theorem RZ {xs:List M} {g:FG} {c:FT} {e:FE} {τ:BJ} {V:List M→AA→Prop} (J:Nat→List M→AA→Prop):∀{l:List M} {i:Nat} {acc:List M} {h:AA},l=xs.drop i→i≤xs.length→J i acc h→
 (∀i x acc h,xs[i]? =some x→J i acc h→Ens (g x τ h) fun τ' h1=>Ens (c τ' h1) fun t h2=>if t=true then Ens (e τ' h2) fun y h3=>J (i+1) (acc++[y]) h3 else J (i+1) acc h2)→
 (∀acc h,J xs.length acc h→V acc h)→Ens (D1 xs none g c e τ l h) fun ys h'=>V (acc++ys) h'
 |[],i,acc,h,e,hi,hJ,_,hd=>by
  have:i=xs.length:=by
   have:=congrArg List.length e
   simp at this;omega
  subst this
  unfold D1
  rw[if_pos (show KF xs none h from trivial)]
  refine .ret ?_
  rw[List.append_nil]
  exact hd acc h hJ
 |x::r,i,acc,h,e,hi,hJ,hs,hd=>by
  have hx:xs[i]? =some x:=by
   have:=congrArg (fun l:List M=>l[0]?) e
   simpa using this.symm
  have hr:r=xs.drop (i+1):=by
   have:=congrArg List.tail e
   simpa using this
  have hlt:i<xs.length:=(List.getElem?_eq_some_iff.mp hx).1
  unfold D1
  rw[if_pos (show KF xs none h from trivial)]
  refine .bnd ((hs i x acc h hx hJ).mono fun τ' h1 q=> .bnd (q.mono fun t h2 q=> ?_))
  cases t with
  |false=>exact RZ J hr hlt q hs hd
  |true=>
   refine .bnd (q.mono fun y h3 q=> .bnd ((RZ J hr hlt q hs hd).mono fun ys h4 q=> .ret ?_))
   simpa using q
theorem cM {ix:List (Option Nat)} {i:FI} {g:FG} {c:FT} {e:FE} (q:Ens (i ρ h) fun s h1=>s.1.length≤16777216∧Ens (D1 s.1 s.2 g c e (U2 ix ρ) s.1 h1) fun ys h2=>R (.lst ys) h2):Ens (DW ix i g c e ρ h) R:=
 .bnd (q.mono fun s h1 q=>by rw[if_pos q.1];exact .bnd (q.2.mono fun ys h2 q=> .ret q))
theorem Y2 {xs:List M} {g:FG} {c:FT} {e:FE} {τ:BJ} {V:List M→AA→Prop} (J:Nat→List M→AA→Prop) (h0:J 0 [] h)
 (hs:∀i x acc h,xs[i]? =some x→J i acc h→Ens (g x τ h) fun τ' h1=>Ens (c τ' h1) fun t h2=>if t=true then Ens (e τ' h2) fun y h3=>J (i+1) (acc++[y]) h3 else J (i+1) acc h2)
 (hd:∀acc h,J xs.length acc h→V acc h):Ens (D1 xs none g c e τ xs h) V:=(RZ (V:=V) J (i:=0) (acc:=[]) (by simp) (Nat.zero_le _) h0 hs hd).mono fun ys h q=>by simpa using q
end
section
variable {R:M→Prop} {h:AA}
theorem NA {i j:Int} (q:R (.int (i+j))):Enp (AW (.int i) (.int j) h) R:=⟨_,rfl,q⟩
theorem oF {i j:Int} (q:R (.int (i-j))):Enp (GN (.int i) (.int j) h) R:=⟨_,rfl,q⟩
theorem rH {i j:Int} (e:(-18446744073709551616<i∧i<18446744073709551616)∨(-18446744073709551616<j∧j<18446744073709551616)) (q:R (.int (i*j))):Enp (EQ (.int i) (.int j) h) R:=⟨_,if_pos e,q⟩
theorem tQ {i j:Int} (e:0<j) (q:R (.int (i % j))):Enp (HR (.int i) (.int j) h) R:=⟨_,if_pos e,q⟩
theorem uN {i j:Int} (e:0<j∧j<1073741824) (q:R (.int (i/j))):Enp (SU (.int i) (.int j) h) R:=⟨_,if_pos e,q⟩
theorem xD {i j:Int} (e:0≤j∧j≤1000000∧i.natAbs<18446744073709551616) (q:R (.int (i^j.toNat))):Enp (Y0 (.int i) (.int j) h) R:=⟨_,if_pos e,q⟩
theorem WN {i j:Int} (q:R (.bl (decide (i<j)))):Enp (KY (.int i) (.int j) h) R:=⟨_,rfl,q⟩
theorem mR {i j:Int} (q:R (.bl (decide (i≤j)))):Enp (OU (.int i) (.int j) h) R:=⟨_,rfl,q⟩
theorem m8 {i j:Int} (q:R (.bl (decide (j<i)))):Enp (ZW (.int i) (.int j) h) R:=⟨_,rfl,q⟩
theorem y3 {i j:Int} (q:R (.bl (decide (j≤i)))):Enp (W8 (.int i) (.int j) h) R:=⟨_,rfl,q⟩
theorem wT {i j:Int} (q:R (.bl (i==j))):Enp (BO (.int i) (.int j) h) R:=⟨_,rfl,q⟩
theorem m5 {i j:Str} (q:R (.bl (i==j))):Enp (BO (.str i) (.str j) h) R:=⟨_,rfl,q⟩
theorem X1 {i j:Bool} (q:R (.bl (!(i==j)))):Enp (JW (.bl i) (.bl j) h) R:=⟨_,rfl,q⟩
theorem n0 {x:M} (q:R (.bl (isN x))):Enp (YY x .non h) R:=⟨_,rfl,q⟩
theorem u5 {i:Int} (q:R (.int (if i<0 then-i else i))):Enp (VD [.int i] h) R:=⟨_,rfl,q⟩
theorem qR {i:Bool} (q:R (.int (if i then 1 else 0))):Enp (c7 [.bl i] h) R:=⟨_,rfl,q⟩
theorem uX {i j:Int} (q:R (.int (if j<i then j else i))):Enp (kD [.int i, .int j] h) R:=⟨_,rfl,q⟩
theorem xI {i j:Int} (q:R (.int (if j>i then j else i))):Enp (kL [.int i, .int j] h) R:=⟨_,rfl,q⟩
theorem QA {xs:List M} (q:R (.int xs.length)):Enp (DH [.lst xs] h) R:=⟨_,rfl,q⟩
theorem OM {xs:List M} (q:R (.int xs.length)):Enp (DH [.tup xs] h) R:=⟨_,rfl,q⟩
theorem rJ {xs:List Int} (q:R (.int xs.length)):Enp (DH [.scr xs] h) R:=⟨_,by show some (M.int (xs.map M.int).length)=_;rw[List.length_map],q⟩
theorem nG {z:Str} (e:z.length≤16777216) (q:R (.int z.length)):Enp (DH [.str z] h) R:=⟨_,if_pos e,q⟩
theorem b9 {xs:List M} {i:Int} {d:M} (e:NH xs i=some d) (q:R d):Enp (BH (.lst xs) (.int i) h) R:=⟨d,e,q⟩
theorem gQ {xs:List M} {i:Int} {d:M} (e:NH xs i=some d) (q:R d):Enp (BH (.tup xs) (.int i) h) R:=⟨d,e,q⟩
theorem KO {xs:List M} {k:Nat} {i:Int} {d:M} (e0:h[k]? =some (.lst xs)) (e:NH xs i=some d) (q:R d):Enp (BH (.ref k) (.int i) h) R:=⟨d,by
 unfold BH
 rw[show EE h (.ref k)=none by show(match h[k]?with|some (.dct kvs)=>some kvs|_=>none)=none;rw[e0]]
 show(GV h (.ref k)).bind _=_;rw[show GV h (.ref k)=some xs by show(match h[k]?with|some (.lst xs)=>some xs|_=>none)=some xs;rw[e0]];exact e,q⟩
theorem HZ {xs ys:List M} (e:xs.length+ys.length≤16777216) (q:R (.lst (xs++ys))):Enp (AW (.lst xs) (.lst ys) h) R:=⟨_,by show(if _ then _ else _)=_;rw[if_pos e],q⟩
theorem N7 {xs ys:List M} (e:xs.length+ys.length≤16777216) (q:R (.tup (xs++ys))):Enp (AW (.tup xs) (.tup ys) h) R:=⟨_,by show(if _ then _ else _)=_;rw[if_pos e],q⟩
theorem wU {xs:List M} {lo hi:Option Int} (q:R (.lst (DB xs lo hi))):Enp (MN (.lst xs) lo hi h) R:=⟨_,rfl,q⟩
theorem tK {ns:List Int} {lo hi:Option Int} (q:R (.lst (DB (ns.map M.int) lo hi))):Enp (MN (.scr ns) lo hi h) R:=⟨_,rfl,q⟩
theorem WZ {xs:List M} {lo hi:Option Int} (q:R (.tup (DB xs lo hi))):Enp (MN (.tup xs) lo hi h) R:=⟨_,rfl,q⟩
theorem QC {x:M} {c:String} (e:YJ h x≠ "") (e2:V8 c=true) (q:R (.bl (DX (YJ h x) c))):Enp (IU [x, .ty c] h) R:=⟨_,if_pos ⟨e,e2⟩,q⟩
end
theorem BM {A B:Prop} {c:Bool} (h1:c=true→A) (h2:c=false→B):if c=true then A else B:=by cases c;exact h2 rfl;exact h1 rfl
theorem mW {A B:Prop} (h:A):if(true=true) then A else B:=h
theorem mY {A B:Prop} (h:B):if(false=true) then A else B:=h
end L2
namespace L2
open PySem
section
variable {R:M→Prop} {h:AA}
theorem UZ {x:Int} (q:R (.bl true)):Enp (IU [(.int x), .ty "int"] h) R:=QC (by show "int" ≠ "";decide) (by decide) (by rw[show DX (YJ h (.int x)) "int"=true from(by show DX "int" "int"=_;decide)];exact q)
theorem T3 {x:Int} (q:R (.bl false)):Enp (IU [(.int x), .ty "bool"] h) R:=QC (by show "int" ≠ "";decide) (by decide) (by rw[show DX (YJ h (.int x)) "bool"=false from(by show DX "int" "bool"=_;decide)];exact q)
theorem WJ {x:Str} (q:R (.bl true)):Enp (IU [(.str x), .ty "str"] h) R:=QC (by show "str" ≠ "";decide) (by decide) (by rw[show DX (YJ h (.str x)) "str"=true from(by show DX "str" "str"=_;decide)];exact q)
theorem R3 {x:List M} (q:R (.bl true)):Enp (IU [(.tup x), .ty "tuple"] h) R:=QC (by show "tuple" ≠ "";decide) (by decide) (by rw[show DX (YJ h (.tup x)) "tuple"=true from(by show DX "tuple" "tuple"=_;decide)];exact q)
theorem M5 {A B:Prop} (h:B):if(!true)=true then A else B:=h
theorem dG {A B:Prop} (h:A):if(!false)=true then A else B:=h
theorem xR {I:BJ→AA→Prop} {S:Out→AA→Prop} {ρ:BJ} (q:I ρ h):LQ I S (.nx ρ) h:=q
end
end L2
namespace L2
open PySem PySem.Spec PyProof.Rows
section
variable {X:Cx} {K:PySem.W.Frag} {a b e:Expr} {es:List Expr} {ma mb:FE} {mas:FA} {pos p:Pos}
theorem qU {α:Pl} {h:AA} {H:Hp} {l:Addr} {ys:List M} {vs:List V} {Q:VK} (hr:Rl K α h H) (hl:H l=none) (rs:RepAs K α H ys vs) (k:∀α' H' w,Ev α α' H H'→Rl K α' (h++[.lst ys]) H'→RepA K α' H' (.ref h.length) w→Q w H'):Q (.ref l) (BT H l (.lst vs)):=by
 have ea:Ev α (α.add l) H (BT H l (.lst vs)):= .alloc hl
 exact k (α.add l) _ _ ea (hr.alloc hl ⟨vs,B3,rs.ev ea⟩) ⟨l,by rw[←hr.len];simp[Pl.add],rfl⟩
def dZ (a b:FE):FE:=fun ρ h=>bnd (a ρ h) fun x h1=>bnd (b ρ h1) fun y h2=>(G0 h2 x).bind fun xs=>(G0 h2 y).bind fun ys=>if xs.length+ys.length≤16777216 then some (.ref h2.length,h2++[.lst (xs++ys)]) else none
theorem kO (ha:PE X a (tM X.K ma)) (hb:PE X b (tM X.K mb)):PE X (.BinOp a .Add b pos) (tM X.K (dZ ma mb)):=(dE g8 ha hb).imp fun σ H Q ⟨α,ρ,h,d,h',hσ,hr,e,k⟩=>by
 obtain⟨x,h1,e1,e⟩:=A8 e
 obtain⟨y,h2,e2,e⟩:=A8 e
 obtain⟨xs,e3,e⟩:=Option.bind_eq_some_iff.mp e
 obtain⟨ys,e4,e⟩:=Option.bind_eq_some_iff.mp e
 split at e
 ·rename_i hl
  cases e
  refine⟨α,ρ,h,x,h1,hσ,hr,e1,fun α1 H1 u ev1 hr1 rx=>⟨α1,ρ,h1,y,h2,hσ.ev ev1,hr1,e2,fun α2 H2 v ev2 hr2 ry=> ?_⟩⟩
  obtain⟨a,vs,rfl,ta,rs⟩:=DL hr2 (rx.ev ev2) e3
  obtain⟨b,ws,rfl,tb,rt⟩:=DL hr2 ry e4
  exact⟨a,b,vs,ws,rfl,rfl,ta,tb,by rw[←rs.length,←rt.length,sizeLine_eq];exact hl,fun l hl=>qU hr2 hl (rs.app rt) fun α' H' w ev hr' rw=>k α' H' w ((ev1.trans ev2).trans ev) hr' rw⟩
 ·cases e
theorem aQ {a:Addr} {ds:List M} {vs:List V} {us:List Value} {n:Nat} {sl:Array (Option Value)} (hl:K.lookup a=some {cls:= .type "tuple",dict:=none,data:= .seq us.toArray n,slots:=sl}) (hz:us.length≤1000) (hv:Vals vs us) (hr:∀α H,RepAs K α H ds vs):HF K (.tup ds) (.ref a):=
 ⟨.ref a,rfl,fun α H=>⟨a,vs,rfl, .inr ⟨_,us.toArray,n,hl,⟨rfl,rfl⟩,rfl,by rw[List.size_toArray,sizeLine_eq];omega,by simpa using hv⟩,hr α H⟩⟩
theorem VW {d:M} {u:Value} {ds:List M} {us:List Value} (h:HF K d u) (hs:∃vs,Vals vs us∧∀α H,RepAs K α H ds vs):∃vs,Vals vs (u::us)∧∀α H,RepAs K α H (d::ds) vs:=by
 obtain⟨v,r,q⟩:=h
 obtain⟨vs,rs,qs⟩:=hs
 exact⟨v::vs, .cons r rs,fun α H=>⟨v,vs,rfl,q α H,qs α H⟩⟩
theorem Z2:∃vs,Vals vs []∧∀α H,RepAs K α H [] vs:=⟨[], .nil,fun _ _=>rfl⟩
theorem eC {a:Addr} {ds:List M} {us:List Value} {n:Nat} {sl:Array (Option Value)} (hl:K.lookup a=some {cls:= .type "tuple",dict:=none,data:= .seq us.toArray n,slots:=sl}) (hz:us.length≤1000) (h:∃vs,Vals vs us∧∀α H,RepAs K α H ds vs):HF K (.tup ds) (.ref a):=by
 obtain⟨vs,hv,hr⟩:=h
 exact aQ hl hz hv hr
theorem PD {i:Int} {t:Tok}:HF K (.int i) (.int i t):=⟨.int i,⟨t,rfl⟩,fun _ _=>rfl⟩
theorem aJ {z:Str} {t:Tok}:HF K (.str z) (.str z t):=⟨.str z,⟨t,rfl⟩,fun _ _=>rfl⟩
end
section
variable {R:M→AA→Prop} {ρ:BJ} {h:AA} {ma mb:FE} {mas:FA}
theorem pJ (q:Ens (ma ρ h) fun x h1=>Ens (mb ρ h1) fun y h2=>∃xs ys,G0 h2 x=some xs∧G0 h2 y=some ys∧xs.length+ys.length≤16777216∧R (.ref h2.length) (h2++[.lst (xs++ys)])):Ens (dZ ma mb ρ h) R:= .bnd (q.mono fun x h1 q=> .bnd (q.mono fun y h2 q=>by
 obtain⟨xs,ys,e1,e2,hl,q⟩:=q
 exact⟨_,_,by rw[e1,Option.bind_some,e2,Option.bind_some,if_pos hl],q⟩))
end
end L2
namespace L2
open PySem PySem.Spec PyProof.Rows
structure Cal (P:Program) (w:World) (K:PySem.W.Frag) (mg:Str→Option Value) (base:Heap) (n:Nat) (x:Str) (m:FF):Prop where
 ex:∃f fd ps,FnOk P w K mg base FY n f fd ps (GG K m)∧mg x=some (.ref f)∧PySem.W.keepIn K (.ref f)=true∧Binds K fd ps []
theorem Cal.of {P:Program} {w:World} {K:PySem.W.Frag} {mg:Str→Option Value} {base:Heap} {n:Nat} {x:Str} {m:FF} {f:Addr} {fd:FuncData} {ps:List Str} (F:FnOk P w K mg base FY n f fd ps (GG K m)) (h1:mg x=some (.ref f)) (h2:PySem.W.keepIn K (.ref f)=true) (h3:Binds K fd ps []):Cal P w K mg base n x m:=⟨f,fd,ps,F,h1,h2,h3⟩
section
variable {X:Cx} {e:Expr} {es:List Expr} {mas:FA} {pos p:Pos} {n:Nat} {x:Str} {m:FF}
theorem A9 (C:Cal X.prog X.w X.K X.mg X.base n x m) (hr:Room n X.A) (q:NmOk X.env.scope x .globalImplicit) (ha:PA X (e::es) (aM X.K mas)) (he:BB e=true) (hpl:(backTo pos (starEach es X.env)).any (·.1)=false):PE X (.Call (.Name x p) (e::es) [] pos) (tM X.K (AB m mas)):=by
 obtain⟨f,fd,ps,F,h1,h2,h3⟩:=C.ex
 exact lK F hr q h1 h2 h3 xV ha he hpl
end
end L2
namespace L2
open PySem
def Kp (p:Nat) (h h':AA):Prop:=h'.length=h.length∧∀q,q≠p→h'[q]? =h[q]?
theorem Kp.refl {p:Nat} {h:AA}:Kp p h h:=⟨rfl,fun _ _=>rfl⟩
theorem Kp.trans {p:Nat} {h h1 h2:AA} (a:Kp p h h1) (b:Kp p h1 h2):Kp p h h2:=⟨b.1.trans a.1,fun q hq=>(b.2 q hq).trans (a.2 q hq)⟩
theorem Kp.set {p:Nat} {h:AA} {o:MO}:Kp p h (h.set p o):=⟨by simp,fun q hq=>List.getElem?_set_ne (Ne.symm hq)⟩
theorem qI {p:Nat} {h:AA} {o o':MO} (e:h[p]? =some o):(h.set p o')[p]? =some o':=List.getElem?_set_self (List.getElem?_eq_some_iff.mp e).1
theorem mU {o i:FE} {x:M} {ρ:BJ} {h:AA} {G:BJ→AA→Prop} {k:Nat} {j:Int} {xs:List M} {n:Nat} (ho:o ρ h=some (.ref k,h)) (hi:i ρ h=some (.int j,h)) (e1:h[k]? =some (.lst xs)) (e2:dP xs.length j=some n)
 (q:∀h',h'[k]? =some (.lst (xs.set n x))→Kp k h h'→G ρ h'):Ens (PL o i x ρ h) G:=
 eT ⟨_,_,ho,_,_,hi,k,j,xs,n,rfl,rfl,e1,e2,q _ (qI e1) Kp.set⟩
theorem NG {α:Type} {l:List α} {i:Nat} {x:α} (h:l[i]? =some x):l.take (i+1)=l.take i++[x]:=by rw[List.take_add_one,h];rfl
theorem nC {xs:List M} {k:Nat} (hk:k≤xs.length):DB xs none (some (k:Int))=xs.take k:=by
 unfold DB;rw[HT.UL,HT.XU,Nat.min_eq_left hk];simp
theorem TY {xs:List M} {k:Nat} (hk:k≤xs.length):DB xs (some (k:Int)) none=xs.drop k:=by
 unfold DB;rw[HT.UL,HT.XU,Nat.min_eq_left hk]
 rw[List.take_of_length_le (by rw[List.length_drop];exact Nat.le_refl _)]
section
variable {R:M→Prop} {h:AA} {k:Nat} {x:M}
theorem P9:∀(ss:List Str),WA h (ss.map M.str)=some (ss.map D.str)
 |[]=>rfl
 |s::ss=>by
  show(LU (F3 h 20) (M.str s)).bind (fun d=>(EF (F3 h 20) (ss.map M.str)).map (d:: ·))=_
  rw[show EF (F3 h 20) (ss.map M.str)=some (ss.map D.str) from P9 ss];rfl
theorem ON:∀(ss:List Str),D.deeps (ss.map D.str)=0
 |[]=>rfl
 |s::ss=>by rw[List.map_cons,D.deeps,ON ss];rfl
theorem mO {bs:List Bool} (q:R (.bl (bs.all id))):Enp (YH [.lst (bs.map M.bl)] h) R:=by
 refine⟨_,?_,q⟩
 show(gW (bs.map M.bl)).map _=_
 have:∀bs:List Bool,gW (bs.map M.bl)=some bs:=by
  intro bs
  induction bs with
  |nil=>rfl
  |cons b bs ih=>show(gW (bs.map M.bl)).map (b:: ·)=_;rw[ih];rfl
 rw[this];rfl
end
end L2
namespace L2
open PySem PySem.Spec PyProof.Rows
section
variable {X:Cx} {K:PySem.W.Frag} {mas:FA} {p pos:Pos}
def RW {α:Type}:List α→List (α×α)
 |k::v::r=>(k,v)::RW r
 |_=>[]
def P5:List M→Option (List (BC×M))
 |[]=>some []
 |[_]=>none
 |k::v::r=>(JG k).bind fun k'=>(P5 r).map ((k',v):: ·)
def GD (kvs:List (BC×M)) (k:BC) (v:M):List (BC×M):=if(kvs.any fun kv=>decide (kv.1=k)) then kvs.map fun kv=>if kv.1=k then(kv.1,v) else kv else kvs++[(k,v)]
def D8 (kvs more:List (BC×M)):List (BC×M):=more.foldl (fun acc kv=>GD acc kv.1 kv.2) kvs
def RepD (K:PySem.W.Frag) (α:Pl) (H:Hp) (kvs:List (BC×M)) (ws:List (BC×V)):Prop:=ws.map (·.1)=kvs.map (·.1)∧RepAs K α H (kvs.map (·.2)) (ws.map (·.2))
theorem RepD.inv {α:Pl} {H:Hp} {kv:BC×M} {kvs:List (BC×M)} {ws:List (BC×V)} (r:RepD K α H (kv::kvs) ws):∃w ws',ws=w::ws'∧w.1=kv.1∧RepA K α H kv.2 w.2∧RepD K α H kvs ws':=by
 obtain⟨e,r⟩:=r
 cases ws with
 |nil=>cases e
 |cons w ws=>
  obtain⟨v,q,e1,h1,h2⟩:=r
  have e1':w.2::ws.map (·.2)=v::q:=e1
  injection e1' with ev eq
  subst ev eq
  have e':w.1::ws.map (·.1)=kv.1::kvs.map (·.1):=e
  injection e' with ek es
  exact⟨w,ws,rfl,ek,h1,es,h2⟩
theorem RepD.nil {α:Pl} {H:Hp}:RepD K α H [] []:=⟨rfl,rfl⟩
theorem RepD.nil_inv {α:Pl} {H:Hp} {ws:List (BC×V)} (r:RepD K α H [] ws):ws=[]:=by
 have:=r.1
 cases ws with
 |nil=>rfl
 |cons _ _=>cases this
theorem RepD.cons {α:Pl} {H:Hp} {kv:BC×M} {kvs:List (BC×M)} {w:BC×V} {ws:List (BC×V)} (e:w.1=kv.1) (h:RepA K α H kv.2 w.2) (r:RepD K α H kvs ws):RepD K α H (kv::kvs) (w::ws):=
 ⟨by rw[List.map_cons,List.map_cons,e,r.1],⟨_,_,rfl,h,r.2⟩⟩
theorem RepD.ev {α α':Pl} {H H':Hp} (e:Ev α α' H H') {kvs:List (BC×M)} {ws:List (BC×V)} (r:RepD K α H kvs ws):RepD K α' H' kvs ws:=⟨r.1,r.2.ev e⟩
theorem RepD.put {α:Pl} {H:Hp} {k:BC} {m:M} {v:V} (hm:RepA K α H m v) {kvs:List (BC×M)} {ws:List (BC×V)} (r:RepD K α H kvs ws):RepD K α H (GD kvs k m) (HM ws k v):=by
 have ha:∀{kvs:List (BC×M)} {ws:List (BC×V)},RepD K α H kvs ws→(kvs.any fun kv=>decide (kv.1=k))=ws.any fun kv=>decide (kv.1=k):=by
  intro kvs
  induction kvs with
  |nil=>intro ws r;cases r.nil_inv;rfl
  |cons kv kvs ih=>
   intro ws r
   obtain⟨w,ws',rfl,e,_,r'⟩:=r.inv
   rw[List.any_cons,List.any_cons,ih r',e]
 unfold GD HM
 rw[ha r]
 split
 ·rename_i hc
  clear hc
  induction kvs generalizing ws with
  |nil=>cases r.nil_inv;exact .nil
  |cons kv kvs ih=>
   obtain⟨w,ws',rfl,e,h1,r'⟩:=r.inv
   rw[List.map_cons,List.map_cons]
   refine RepD.cons ?_ ?_ (ih r')
   ·by_cases hk:kv.1=k
    ·rw[if_pos hk,if_pos (e.trans hk)];exact e
    ·rw[if_neg hk,if_neg (fun z=>hk (e.symm.trans z))];exact e
   ·by_cases hk:kv.1=k
    ·rw[if_pos hk,if_pos (e.trans hk)];exact hm
    ·rw[if_neg hk,if_neg (fun z=>hk (e.symm.trans z))];exact h1
 ·refine⟨?_,?_⟩
  ·rw[List.map_append,List.map_append,r.1];rfl
  ·rw[List.map_append,List.map_append];exact r.2.snoc hm
theorem RepD.merge {α:Pl} {H:Hp}:∀{more:List (BC×M)} {mw:List (BC×V)} {kvs:List (BC×M)} {ws:List (BC×V)},RepD K α H more mw→RepD K α H kvs ws→RepD K α H (D8 kvs more) (D2 ws mw)
 |[],mw,kvs,ws,h,r=>by cases h.nil_inv;exact r
 |kv::more,mw,kvs,ws,h,r=>by
  obtain⟨w,mw',rfl,e,h1,h'⟩:=h.inv
  show RepD K α H (D8 (GD kvs kv.1 kv.2) more) (D2 (HM ws w.1 w.2) mw')
  rw[e]
  exact RepD.merge h' (r.put h1)
def pB (a:FA):FE:=fun ρ h=>bnd (a ρ h) fun xs h1=>(P5 xs).bind fun kvs=>if kvs.length≤15 then some (.dct ((D8 [] kvs).map (·.1)) ((D8 [] kvs).map (·.2)),h1) else none
def dR (a:FA):FE:=fun ρ h=>bnd (a ρ h) fun xs h1=>(P5 xs).bind fun kvs=>if kvs.length≤15 then some (.ref h1.length,h1++[.dct (D8 [] kvs)]) else none
abbrev yU:=St→Hp→(List (V×V)→Hp→Prop)→Prop
def sX (X:Cx) (pos:Pos) (keys:List (Option Expr)) (values:List Expr) (t:yU):Prop:=
 ∀(pins:List (Addr×Obj)) (s:Shared) (σ:St) (H:Hp) (Q:List (V×V)→Hp→Prop),Inv X pins σ H s→t σ H Q→
  wpAny (model X.prog X.w) X.A (evalPairs (pairTrees keys values X.env pos)) (fun vs s'=>∃ps H',Inv X pins σ H' s'∧VV ps vs∧Q ps H') X.xe s
def pM (K:PySem.W.Frag) (m:FA):yU:=fun σ H Q=>∃α ρ h d h',REnv K α H ρ σ∧Rl K α h H∧m ρ h=some (d,h')∧∀α' H' vs,Ev α α' H H'→Rl K α' h' H'→RepAs K α' H' d vs→Q (RW vs) H'
theorem eW:sX X pos [] [] (pM X.K A5):=fun pins s σ H Q I ⟨α,ρ,h,d,h',hσ,hr,e,k⟩=>by
 cases e
 exact pairTrees_nil_walk ⟨[],H,I, .nil,k α H [] .refl hr rfl⟩
theorem S4 {k v:Expr} {ks:List (Option Expr)} {vs:List Expr} {mk mv:FE} (hk:PE X k (tM X.K mk)) (hv:PE X v (tM X.K mv)) (hr:sX X pos ks vs (pM X.K mas)):
 sX X pos (some k::ks) (v::vs) (pM X.K (A1 mk (A1 mv mas))):=fun pins s σ H Q I ⟨α,ρ,h,d,h',hσ,hR,e,kk⟩=>by
 obtain⟨x,h1,e1,e⟩:=A8 e
 obtain⟨xs,h2,e2,e⟩:=A8 e
 cases e
 obtain⟨y,h3,e3,e2⟩:=A8 e2
 obtain⟨ys,h4,e4,e2⟩:=A8 e2
 cases e2
 refine pairTrees_cons_walk (thn (hk pins s σ H (fun u H1=>tM X.K mv σ H1 fun u2 H2=>pM X.K mas σ H2 fun ps H3=>Q ((u,u2)::ps) H3) I ⟨α,ρ,h,x,h1,hσ,hR,e1,fun α1 H1 u ev1 hr1 ru=>⟨α1,ρ,h1,y,h3,hσ.ev ev1,hr1,e3,fun α2 H2 u2 ev2 hr2 ru2=>⟨α2,ρ,h3,ys,_,(hσ.ev ev1).ev ev2,hr2,e4,fun α3 H3 us ev3 hr3 rus=> ?_⟩⟩⟩) fun w1 s1 ⟨u,H1,I1,rx,q1⟩=>thn (hv pins s1 σ H1 _ I1 q1) fun w2 s2 ⟨u2,H2,I2,ry,q2⟩=>
  thn (hr pins s2 σ H2 _ I2 q2) fun ws s3 ⟨ps,H3,I3,rel,q3⟩=>⟨(u,u2)::ps,H3,I3, .cons ⟨rx,ry⟩ rel,q3⟩)
 exact kk α3 H3 (u::u2::us) ((ev1.trans ev2).trans ev3) hr3 ⟨u,_,rfl,(ru.ev ev2).ev ev3,u2,_,rfl,ru2.ev ev3,rus⟩
def rS (t:yU):TE:=fun σ H Q=>∀p,H p=none→t σ (BT H p (.dK [])) fun ps H2=>H2 p=some (.dK [])∧∃kvs:List (BC×V),ps=kvs.map (fun kv=>(kV kv.1,kv.2))∧kvs.length≤15∧Q (.ref p) (BT H2 p (.dK (D2 [] kvs)))
theorem SE {keys:List (Option Expr)} {values:List Expr} {t:yU} (h:sX X pos keys values t) (hall:keys.all (·.isSome)=true) (hl:keys.length=values.length) (h0:keys≠[])
 (h15:keys.length≤15):PE X (.Dict keys values pos) (rS t):=by
 intro pins s σ H Q I q
 have hn:=I.hok.fresh (Nat.le_refl s.heap.objs.size)
 have I1:=I.laid (a:=s.heap.objs.size) (o:= .dK []) (h':=s.heap.push {cls:= .type "dict",data:= .dict #[]}) (t':=s.toks) (fun _ _ q=>Heap.get?_push_of_some _ q) (Nat.le_refl _) (UA s.heap I.big)
 refine wpAny_Dict_walk (knd:=BE X.prog X.w) hall hl h0 h15 (thn (h pins _ σ _ _ I1 (q _ hn)) fun ws s2 ⟨ps,H2,I2,rel,e,kvs,ep,lk,q2⟩=> ?_)
 subst ep
 obtain⟨rs,c,rk⟩:=O9 (P:=X.prog) (w:=X.w) rel
 obtain⟨z,hd,vs0,r0,dd⟩:=eS I2.hok e
 cases r0
 refine⟨rs,c,dd,fun h' dd' hs=>⟨.ref s.heap.objs.size,_,?_,rfl,q2⟩⟩
 have hz:(D2 [] kvs).length≤sizeLine:=by
  have h1:=GE kvs []
  rw[List.length_nil]at h1
  rw[sizeLine_eq];omega
 have he:∃q,h'.get? s.heap.objs.size=some q:=let⟨q,_,_,hq,_⟩:=dd';⟨q,hq⟩
 exact S5 I2 (by rw[e];exact True.intro) hs he (WC hz hd (rk.merge .nil) dd')
theorem LN {α:Pl} {H:Hp}:∀{xs:List M} {kvs:List (BC×M)} {vs:List V},P5 xs=some kvs→RepAs K α H xs vs→∃ws:List (BC×V),RW vs=ws.map (fun kv=>(kV kv.1,kv.2))∧ws.length=kvs.length∧RepD K α H kvs ws
 |[],kvs,vs,e,r=>by
  cases e
  cases(show vs=[] from r)
  exact⟨[],rfl,rfl, .nil⟩
 |[_],_,_,e,_=>by cases e
 |k::v::xs,kvs,vs,e,r=>by
  obtain⟨k',e1,e⟩:=Option.bind_eq_some_iff.mp e
  obtain⟨kvs',e2,rfl⟩:=Option.map_eq_some_iff.mp e
  obtain⟨u,q,rfl,ru,u2,q2,rfl,ru2,rq⟩:=r
  obtain⟨ws,h1,h2,h3⟩:=LN e2 rq
  refine⟨(k',u2)::ws,?_,by simp[h2], .cons rfl ru2 h3⟩
  show(u,u2)::RW q2=_
  rw[h1,FD e1 ru];rfl
theorem nL {keys:List (Option Expr)} {values:List Expr} (h:sX X pos keys values (pM X.K mas)) (hall:keys.all (·.isSome)=true) (hl:keys.length=values.length) (h0:keys≠[])
 (h15:keys.length≤15):PE X (.Dict keys values pos) (tM X.K (pB mas)):=(SE h hall hl h0 h15).imp fun σ H Q ⟨α,ρ,h,d,h',hσ,hr,e,k⟩=>by
 obtain⟨xs,h1,e1,e⟩:=A8 e
 obtain⟨kvs,e2,e⟩:=Option.bind_eq_some_iff.mp e
 split at e
 ·rename_i h15
  cases e
  intro p hp
  refine⟨α.hide p,ρ,h,xs,_,(hσ.hide hp).ev (.same (B4 hp _)),hr.lay hp,e1,fun α2 H2 vs ev2 hr2 rvs=> ?_⟩
  have hg:α2.g=p::α.g:=ev2.pre.1
  have ea:α2=Pl.hide ⟨α2.a,α.g⟩ p:=by cases α2;cases hg;rfl
  have hpm:p∈α2.g:=by rw[hg];exact List.mem_cons_self
  have hpn:p∉α2.a:=fun hm=>hr2.ap p hm hpm
  have hpa:p∉(α.hide p).a:=hr.newA hp
  have hp2:H2 p=some (.dK []):=ev2.keep _ _ B3 (.inr List.mem_cons_self) hpa
  obtain⟨ws,w1,w2,w3⟩:=LN e2 rvs
  refine⟨hp2,ws,w1,by omega,?_⟩
  have hr3:=hr2.hw (u:= .dK (D2 [] ws)) hpm
  have r3:RepD X.K α2 (BT H2 p (.dK (D2 [] ws))) (D8 [] kvs) (D2 [] ws):=by
   have:=RepD.merge w3 (RepD.nil (K:=X.K) (α:=α2) (H:=H2))
   exact⟨this.1,this.2.hw hpm⟩
  rw[ea]at hr3 r3
  refine k ⟨α2.a,α.g⟩ _ _ ?_ hr3.show ⟨p,_,rfl,⟨hpn,(hr.new hp).2⟩, .inl B3,r3.1,r3.2.show⟩
  have ev3:Ev (α.hide p) α2 (BT H p (.dK [])) H2:=ev2
  rw[ea]at ev3
  have ev4:Ev α ⟨α2.a,α.g⟩ (BT H p (.dK [])) H2:=ev3.unhide
  refine⟨⟨rfl,?_⟩,fun b o hb q n=> ?_,fun b ws hb n=> ?_,fun b hb=> ?_⟩
  ·obtain⟨_,β,e1,e2⟩:=ev4.pre
   refine⟨β,e1,fun b hb=> ?_⟩
   have:=e2 b hb
   by_cases z:b=p
   ·subst z;exact hp
   ·rw[AR z]at this;exact this
  ·have z:b≠p:=by intro z;subst z;rw[hp]at hb;cases hb
   rw[AR z];exact ev4.keep b o (by rw[AR z];exact hb) q n
  ·have z:b≠p:=by intro z;subst z;rw[hp]at hb;cases hb
   rcases ev4.keepD b ws (by rw[AR z];exact hb) n with r|⟨o,r⟩
   ·exact .inl (by rw[AR z];exact r)
   ·exact .inr ⟨o,by rw[AR z];exact r⟩
  ·by_cases z:b=p
   ·subst z;rw[B3]at hb;cases hb
   ·rw[AR z]at hb
    have:=ev4.dom b hb
    rw[AR z]at this;exact this
 ·cases e
end
section
variable {R:M→AA→Prop} {ρ:BJ} {h:AA} {mas:FA}
theorem xK (q:Ens (mas ρ h) fun xs h1=>∃kvs,P5 xs=some kvs∧kvs.length≤15∧R (.dct ((D8 [] kvs).map (·.1)) ((D8 [] kvs).map (·.2))) h1):Ens (pB mas ρ h) R:= .bnd (q.mono fun xs h1 q=>by
 obtain⟨kvs,e1,e2,q⟩:=q
 exact⟨_,h1,by rw[e1,Option.bind_some,if_pos e2],q⟩)
end
end L2
namespace L2
open PySem PySem.Spec PyProof.Rows
section
variable {X:Cx} {a b c d:Expr} {es:List Expr} {ma mb mc md:FE} {mas:FA}
theorem BA (ha:PE X a (tM X.K ma)) (h1:BB a=true):PA X [a] (aM X.K (A1 ma A5)):=GT ha EK h1
theorem BD (ha:PE X a (tM X.K ma)) (hb:PE X b (tM X.K mb)) (h1:BB a=true) (h2:BB b=true):PA X [a,b] (aM X.K (A1 ma (A1 mb A5))):=GT ha (BA hb h2) h1
theorem C2 (ha:PE X a (tM X.K ma)) (hb:PE X b (tM X.K mb)) (hc:PE X c (tM X.K mc)) (h1:BB a=true) (h2:BB b=true) (h3:BB c=true):PA X [a,b,c] (aM X.K (A1 ma (A1 mb (A1 mc A5)))):=GT ha (BD hb hc h2 h3) h1
theorem mF (ha:PE X a (tM X.K ma)) (hb:PE X b (tM X.K mb)) (hc:PE X c (tM X.K mc)) (hd:PE X d (tM X.K md)) (hr:PA X es (aM X.K mas)) (h1:BB a=true) (h2:BB b=true) (h3:BB c=true) (h4:BB d=true):PA X (a::b::c::d::es) (aM X.K (A1 ma (A1 mb (A1 mc (A1 md mas))))):=GT ha (GT hb (GT hc (GT hd hr h4) h3) h2) h1
theorem O0 (ha:PE X a (tM X.K ma)) (hb:PE X b (tM X.K mb)) (hc:PE X c (tM X.K mc)) (hd:PE X d (tM X.K md)) (h1:BB a=true) (h2:BB b=true) (h3:BB c=true) (h4:BB d=true):PA X [a,b,c,d] (aM X.K (A1 ma (A1 mb (A1 mc (A1 md A5))))):=mF ha hb hc hd EK h1 h2 h3 h4
end
end L2
set_option maxHeartbeats 1000000
set_option maxHeartbeats 1000000
namespace L2
open PySem PySem.Spec PyProof.Rows
theorem RepAs.reverse {K:PySem.W.Frag} {α:Pl} {H:Hp}:∀{xs:List M} {vs:List V},RepAs K α H xs vs→RepAs K α H xs.reverse vs.reverse
 |[],_,h=>by cases(show _=[] from h);exact rfl
 |x::xs,_,⟨v,r,e1,h1,h2⟩=>by
  subst e1
  rw[List.reverse_cons,List.reverse_cons]
  exact(RepAs.reverse h2).snoc h1
end L2
namespace L2
open PySem PySem.Spec PyProof.Rows
section
variable {ma:FE} {mas:FA} {ρ:BJ} {h:AA} {S:Out→AA→Prop} {R:M→Prop}
theorem Q8:∀ns:List Int,T0 (ns.map M.int)=some ns
 |[]=>rfl
 |n::ns=>by show(T0 (ns.map M.int)).map (n:: ·)=_;rw[Q8 ns];rfl
end
end L2
set_option maxHeartbeats 1000000
namespace ZT
open PySem PyProof.Rows
theorem O8:typeLookup (.type "list") "keys"=pure none:=am_miss_of_fast (by decide+kernel)
theorem V9:(["__module__","__name__","__qualname__","__doc__","__annotations__"]:List Str).contains "keys"=false:=by decide+kernel
section
variable {prog:Program} {w:World} {A:Around} {E:Value→Shared→Prop} {s:Shared}
theorem RG {a:Addr} {o:Obj} {xs:Array Value} {k:Nat} {Q:Option Value→Shared→Prop} (hx:s.heap.get? a=some o) (hc:o.cls= .type "list") (hdat:o.data= .seq xs k) (hd:o.dict=none) (hA:A.handled=none)
 (h:∀h' tk,(∀b o,s.heap.get? b=some o→h'.get? b=some o)→Q none {s with heap:=h',toks:=tk}):wpAny (model prog w) A (getAttr? (.ref a) "keys") Q E s:=by
 obtain⟨c,dct,dat,sl⟩:=o
 simp only at hc hdat hd
 subst hc hdat hd
 obtain⟨hp,g,d,tk,os⟩:=s
 have hT:∀tk',(⟨hp,g,d,tk',os⟩:Shared).TypeIs (.ref a) "list":=fun _=>⟨_,hx,rfl⟩
 have f1:=sub_AttributeError
 have f3:=F.slot_list_getattribute.lookup
 have f4:=F.slot_list_getattribute.bind (.ref a)
 have f5:=am_list_getattr_none
 unfold getAttr? getAttrBy? getAttrBy
 repeat (any_goals (first|assumption|exact hT _|((with_reducible show wpAny _ _ (call (Value.builtin "list.__getattribute__") _ _) _ _ _);refine call_meets F.slot_list_getattribute (hT _) am_entry_list_getattribute (F.args_list_getattribute_2 _ _) (meets_getattribute_miss_list a xs k sl "keys" _ O8 V9) ⟨hx,hA,fun h' tk' e hx'=> ?_⟩)|wp_step))
 obtain⟨t',u',he⟩:=hx'.there
 show wpAny _ _ (getattributeRaised _ _ _ _ _ _ _) _ _ _
 unfold getattributeRaised
 repeat (any_goals (first|assumption|wp_step))
 exact h _ _ hx'.keeps
end
theorem G5:entryFor table "dict.update.loop"=some Builtin.«dict.update.loop»:=entryFor_of_tree (by kernel_rfl)
theorem CT:plainId "dict.update.loop"=true:=by decide+kernel
end ZT
set_option maxHeartbeats 1000000
set_option maxHeartbeats 1000000
set_option maxHeartbeats 1000000
namespace ZT
open PySem PySem.W PyProof.Rows
section
variable {prog:Program} {w:World} {A:Around} {E:Value→Shared→Prop} {s:Shared}
theorem SL {T:String} {r d:Addr} {n:Nat} {P:Nat→Value→Prop} {OK:Heap→Prop} {R:List Value→Shared→Prop} (K:KdlSrc prog w T r d n P OK) (hh:A.handled=none) (hok:OK s.heap) (hn:n≤sizeLine)
 (h:∀(h':Heap) (tk:Nat) (acc:Array Value),(∀b o,s.heap.get? b=some o→h'.get? b=some o)→ItemsOf P acc n→R acc.toList {s with heap:=h',toks:=tk}):
 wpAny (model prog w) A (collect (.ref r)) R E s:=by
 have hlt:=K.there _ hok
 unfold collect
 refine wpAny_bind (wpAny_runValue (codeAny_builtin entry_proto_collect' ?_))
 rw[Around.under_plainId PySem.F.plain_proto_collect _]
 show wpAny _ A.in1 (newList []>>=fun l=>again (.builtin "list.__iadd__" ⟨[l, .ref r],[]⟩)) _ _ s
 refine wpAny_bind (wpAny_newObj_type ?_)
 refine wpAny_pure ⟨plainId_quiet PySem.F.plain_list_iadd _,codeAny_builtin entry_list_iadd' ?_⟩
 rw[Around.under_plainId PySem.F.plain_list_iadd _]
 have hS₁:(s.heap.push {cls:= .type "list",data:= .seq ([]:List Value).toArray}).get? s.heap.objs.size=some {cls:= .type "list",data:= .seq #[]}:=Heap.get?_push_size _ rfl
 show wpAny _ A.in1 (Builtin.List.listExtendWith (.ref s.heap.objs.size) (.ref r) (.ref s.heap.objs.size)) _ _ _
 have key:=kdl_extend (A:=A) (s:={s with heap:=s.heap.push {cls:= .type "list",data:= .seq ([]:List Value).toArray}}) K
  (R:=fun(q:Result) (s':Shared)=>∃(h':Heap) (tk:Nat) (acc':Array Value) (c':Nat),q= .ok (.ret (.ref s.heap.objs.size))∧s'={s with heap:=h',toks:=tk}∧
    (∀b o,s.heap.get? b=some o→h'.get? b=some o)∧h'.get? s.heap.objs.size=some {cls:= .type "list",dict:=none,data:= .seq acc' c',slots:= #[]}∧ItemsOf P acc' n)
  hh (K.keep _ _ hok fun b _ o e=>Heap.get?_push_of_some _ e) s.heap.objs.size (Nat.ne_of_gt hlt.1) (Nat.ne_of_gt hlt.2) (.ref s.heap.objs.size) 0 hS₁
  (fun h' tk acc' c' hk hS' hacc=>⟨h',tk,acc',c',rfl,rfl,fun b o e=>hk b o (Nat.ne_of_lt (Heap.lt_size e)) (Heap.get?_push_of_some _ e),hS',hacc⟩) hn
 refine wpAny_mono key (fun fin s' x=> ?_) fun e s' x=> ?_
 ·cases fin with
  |done f=>
   obtain⟨h',tk,acc',c',e,rfl,hk,hS',hacc⟩:=x
   cases e
   show wpAny _ A (load s.heap.objs.size>>=_) _ _ _
   refine wpAny_bind (wpAny_load hS' ?_)
   exact wpAny_pure (h h' tk acc' hk hacc)
  |again c₁=>
   refine⟨x.1,codeAny_mono x.2 fun q s₂ y=> ?_⟩
   obtain⟨h',tk,acc',c',rfl,rfl,hk,hS',hacc⟩:=y
   show wpAny _ A (load s.heap.objs.size>>=_) _ _ _
   refine wpAny_bind (wpAny_load hS' ?_)
   exact wpAny_pure (h h' tk acc' hk hacc)
 ·obtain⟨_,_,_,_,e',_⟩:=x
  cases e'
open L2 in
end
end ZT
namespace L2
open PySem PySem.Spec PyProof.Rows
theorem ObjOk.is {P:Program} {w:World} {H:Hp} {h:Heap} {a:Addr} {o:HO} (x:ObjOk P w H h a o):∃ob,h.get? a=some ob:=by
 cases o with
 |lst xs=>obtain⟨_,_,_,_,e⟩:=x;exact⟨_,e⟩
 |tup xs=>obtain⟨_,_,_,ob,e,_⟩:=x;exact⟨_,e⟩
 |dK kvs=>obtain⟨_,_,_,_,o,_,_,e,_⟩:=x;exact⟨_,e⟩
 |dT kvs=>obtain⟨_,_,_,_,o,_,_,e,_⟩:=x;exact⟨_,e⟩
 |set S n=>obtain⟨o,_,_,_,e,_⟩:=x;exact⟨_,e⟩
 |ins C dx fs=>obtain⟨_,_,_,e,_⟩:=x;exact⟨_,e⟩
 |own y=>exact x
 |xd fs=>obtain⟨_,⟨_,_,_,e,_⟩,_⟩:=x;exact⟨_,e⟩
 |rng lo hi=>obtain⟨_,_,_,e⟩:=x;exact⟨_,e⟩
 |frz ob u=>obtain⟨e,_⟩:=x;exact⟨_,e⟩
 |tbl ps=>exact⟨_,(show h.get? a=some _ from x)⟩
 |met f y=>exact⟨_,(show h.get? a=some _ from x)⟩
 |ext φ=>obtain⟨_,e,_⟩:=x;exact e
section
variable {X:Cx} {pins:List (Addr×Obj)} {σ:St} {H H':Hp} {s:Shared} {h':Heap}
theorem Inv.none_at (I:Inv X pins σ H s) {b:Addr} (e:s.heap.get? b=none):H b=none:=by
 cases q:H b with
 |none=>rfl
 |some u=>
  obtain⟨ob,h1⟩:=(I.hok b u q).is
  rw[e]at h1;cases h1
theorem Inv.laids {t':Nat} (I:Inv X pins σ H s) (k:∀b o,s.heap.get? b=some o→h'.get? b=some o) (sm:Same H H') (nw:∀b u,H' b=some u→H b=some u∨(s.heap.get? b=none∧ObjOk X.prog X.w H' h' b u)):
 Inv X pins σ H' {s with heap:=h',toks:=t'}:=by
 refine I.call (g':=s.gens) (d':=s.drawn) (ch:=[]) ⟨fun b o e _ _ _=>k b o e,fun b o e _ _ _=>⟨o.slots,k b o e⟩,fun b o e n _=> ?_,fun b o e _=>⟨o,k b o e⟩,fun b ys q=>sm _ _ q,fun b u ys q=>sm _ _ q,fun b ps q=>⟨#[],by rw[sm _ _ q];simp⟩⟩ (fun b u e=> ?_) I.bare fun b hb=>by cases hb
 ·cases q:H' b with
  |none=>rfl
  |some u=>
   rcases nw b u q with z|⟨z,_⟩
   ·rw[n]at z;cases z
   ·rw[e]at z;cases z
 ·rcases nw b u e with z|z
  ·exact(I.hok b u z).stay (fun c v _ q=>k c v q) (fun c q=>sm _ _ q) fun c ys q=>sm _ _ q
  ·exact z.2
end
section
variable {X:Cx} {K:PySem.W.Frag} {pos:Pos}
theorem p5 {α:Pl} {h:AA} {H:Hp} {l:Addr} {kvs:List (BC×M)} {ws:List (BC×V)} {Q:VK} (hr:Rl K α h H) (hl:H l=none) (rs:RepD K α H kvs ws) (k:∀α' H' w,Ev α α' H H'→Rl K α' (h++[.dct kvs]) H'→RepA K α' H' (.ref h.length) w→Q w H'):Q (.ref l) (BT H l (.dK ws)):=by
 have ea:Ev α (α.add l) H (BT H l (.dK ws)):= .alloc hl
 exact k (α.add l) _ _ ea (hr.alloc hl ⟨ws,B3,rs.1,rs.2.ev ea⟩) ⟨l,by rw[←hr.len];simp[Pl.add],rfl⟩
def QJ:FE:=fun _ h=>some (.ref h.length,h++[.dct []])
theorem SJ:PE X (.Dict [] [] pos) (tM X.K QJ):=cK.imp fun σ H Q ⟨α,ρ,h,d,h',hσ,hr,e,k⟩=>by
 cases e
 intro p hp
 exact p5 hr hp .nil k
def iP (x y v:M) (h:AA):Option AA:=match x,JG y with
 | .ref k,some key=>(match h[k]?with|some (.dct kvs)=>if kvs.length<16777216 then some (h.set k (.dct (GD kvs key v))) else none|_=>none)
 |_,_=>none
theorem bG {x y v:M} {h h':AA} (e:iP x y v h=some h'):∃k key kvs,x= .ref k∧JG y=some key∧h[k]? =some (.dct kvs)∧kvs.length<16777216∧h'=h.set k (.dct (GD kvs key v)):=by
 unfold iP at e
 split at e
 ·rename_i k key hk
  split at e
  ·rename_i kvs hkv
   split at e
   ·rename_i hl
    cases e
    exact⟨k,key,kvs,rfl,hk,hkv,hl,rfl⟩
   ·cases e
  ·cases e
 ·cases e
def O2 (md mi mv:FE):FS:=fun ρ h=>bnd (mv ρ h) fun v h1=>bnd (md ρ h1) fun x h2=>bnd (mi ρ h2) fun y h3=>(iP x y v h3).map fun h4=>(.nx ρ,h4)
theorem XW {o i value:Expr} {mo mi mv:FE} {pos':Pos} (hu:X.A.units+1<cLine) (ho:PE X o (tM X.K mo)) (hi:PE X i (tM X.K mi)) (hv:PE X value (tM X.K mv)) (hs:swapsWith value (some (.Subscript o i pos')) pos.line X.env=pure false):
 PS X (.Assign [.Subscript o i pos'] value pos) (sM X.K (O2 mo mi mv)):=(jC hu ho hi hv hs).imp fun D σ H ⟨α,ρ,h,d,h',hσ,hr,e,k⟩=>by
 obtain⟨v,h1,e1,e⟩:=A8 e
 obtain⟨x,h2,e2,e⟩:=A8 e
 obtain⟨y,h3,e3,e⟩:=A8 e
 obtain⟨h4,e4,e5⟩:=Option.map_eq_some_iff.mp e
 cases e5
 refine⟨α,ρ,h,v,h1,hσ,hr,e1,fun α1 H1 uv ev1 hr1 rv=>⟨α1,ρ,h1,x,h2,hσ.ev ev1,hr1,e2,fun α2 H2 ux ev2 hr2 rx=>⟨α2,ρ,h2,y,h3,(hσ.ev ev1).ev ev2,hr2,e3,fun α3 H3 uy ev3 hr3 ry=> ?_⟩⟩⟩
 obtain⟨q,key,kvs,rfl,e6,e7,hl,rfl⟩:=bG e4
 obtain⟨a,ha,rfl⟩:=rx.ev ev3
 obtain⟨ws,hw,r1,r2⟩:=hr3.obj q a _ ha e7
 cases(FD e6 ry)
 have hlw:ws.length<sizeLine:=by
  have:=congrArg List.length r1
  simp only[List.length_map]at this
  rw[this,sizeLine_eq];exact hl
 have rD:RepD X.K α3 H3 kvs ws:=⟨r1,r2⟩
 have ev4:Ev α3 α3 H3 (BT H3 a (.dK (HM ws key uv))):=Ev.write hr3 (List.mem_of_getElem? ha)
 have rD':=(rD.put (k:=key) ((rv.ev ev2).ev ev3)).ev ev4
 exact⟨a,_,rfl,DPut.k hw hlw,k α3 _ (((ev1.trans ev2).trans ev3).trans ev4) (hr3.write ha ⟨_,B3,rD'.1,rD'.2⟩) σ (((hσ.ev ev1).ev ev2).ev ev3|>.ev ev4)⟩
end
section
variable {X:Cx} {K:PySem.W.Frag}
def VX (K:PySem.W.Frag) (H:Hp) (ps:List V) (ws:List (BC×V)):Prop:=ps.length=ws.length∧∀(i:Nat) (v:V),ps[i]? =some v→∃b w,v= .ref b∧ws[i]? =some w∧GO K H b [kV w.1,w.2]
theorem W3 {pins:List (Addr×Obj)} {σ:St} {H:Hp} {s:Shared} (I:Inv X pins σ H s):∀{ps:List V} {ws:List (BC×V)} {its:List Value},VX X.K H ps ws→Vals ps its→∃kvs:List (BC×Value),KV ws kvs∧kvs.length=its.length∧
 ∀(i:Nat) (v:Value),its[i]? =some v→∃a key x k o c,v= .ref a∧kvs[i]? =some (k,x)∧(BE X.prog X.w).is k key=true∧s.heap.get? a=some o∧o.cls= .type "tuple"∧o.data= .seq #[key,x] c:=by
 intro ps
 induction ps with
 |nil=>
  intro ws its h r
  cases r
  have:ws=[]:=List.length_eq_zero_iff.mp h.1.symm
  subst this
  exact⟨[], .nil,rfl,fun i v e=>by simp at e⟩
 |cons p ps ih=>
  intro ws its h r
  cases r with
  |cons r0 rr=>
   rename_i u its
   cases ws with
   |nil=>exact absurd h.1 (by simp)
   |cons w ws=>
    obtain⟨b,w',rfl,e1,sq⟩:=h.2 0 p rfl
    cases(show w=w' by simpa using e1)
    obtain⟨kvs,h1,h2,h3⟩:=ih (ws:=ws) (its:=its) ⟨by simpa using h.1,fun i v e=>by simpa using h.2 (i+1) v (by simpa using e)⟩ rr
    obtain⟨ys,rv,ht,hz⟩:=I.tuple sq
    obtain⟨key,x,rfl,rk,rx⟩:=TM rv
    obtain⟨o,ho,hc,n,hd⟩:=ht
    refine⟨(w.1,x)::kvs, .cons ⟨rfl,rx⟩ h1,by simp[h2],fun i v e=> ?_⟩
    cases i with
    |zero=>
     have e':u=v:=by simpa using e
     subst e'
     exact⟨b,key,x,w.1,o,n,r0,rfl,MH rk,ho,hc,by simpa using hd⟩
    |succ i=>
     obtain⟨a',key',x',k',o',c',q⟩:=h3 i v (by simpa using e)
     exact⟨a',key',x',k',o',c',q.1,by simpa using q.2.1,q.2.2⟩
def K3:List M→Option (List (BC×M))
 |[]=>some []
 | .tup [k,v]::r=>(JG k).bind fun k'=>(K3 r).map ((k',v):: ·)
 |_::_=>none
theorem VQ {α:Pl} {H:Hp}:∀{ys:List M} {kvs:List (BC×M)} {vs:List V},K3 ys=some kvs→RepAs K α H ys vs→∃ws,VX K H vs ws∧RepD K α H kvs ws:=by
 intro ys
 induction ys with
 |nil=>
  intro kvs vs e r
  cases e
  cases(show vs=[] from r)
  exact⟨[],⟨rfl,fun i v e=>by simp at e⟩, .nil⟩
 |cons y ys ih=>
  intro kvs vs e r
  obtain⟨u,q,rfl,ru,rq⟩:=r
  unfold K3 at e
  split at e
  ·rename_i heq;cases heq
  ·rename_i k v r' heq
   cases heq
   obtain⟨k',e1,e⟩:=Option.bind_eq_some_iff.mp e
   obtain⟨kvs',e2,rfl⟩:=Option.map_eq_some_iff.mp e
   obtain⟨ws,h1,h2⟩:=ih e2 rq
   obtain⟨a,us,rfl,t,rs⟩:=ru
   obtain⟨u1,u2,rfl,r1,r2⟩:=ZG rs
   refine⟨(k',u2)::ws,⟨by simp[h1.1],fun i v e=> ?_⟩, .cons rfl r2 h2⟩
   cases i with
   |zero=>
    have:V.ref a=v:=by simpa using e
    subst this
    refine⟨a,(k',u2),rfl,rfl,?_⟩
    rw[←FD e1 r1];exact t.sq
   |succ i=>
    obtain⟨b,w,q1,q2,q3⟩:=h1.2 i v (by simpa using e)
    exact⟨b,w,q1,by simpa using q2,q3⟩
  ·cases e
end
end L2
namespace L2
open PySem PySem.Spec PyProof.Rows
section
variable {X:Cx} {K:PySem.W.Frag}
theorem Rd.sm {H H':Hp} {a:Addr} {u:HO} (r:Rd H a u) (s:Same H H'):Rd H' a u:=r.elim (fun e=> .inl (s _ _ e)) fun⟨o,e⟩=> .inr ⟨o,s _ _ e⟩
variable {a:Expr} {ma:FE} {p1 pos1 pos2 ap:Pos}
end
end L2
namespace L2
open PySem PySem.Spec PyProof.Rows
section
variable {X:Cx} {K:PySem.W.Frag}
def wH (x:M) (h:AA):Bool:=(EE h x).isSome
theorem nH {α:Pl} {h:AA} {H:Hp} {x:M} {v:V} (hr:Rl K α h H) (r:RepA K α H x v) (e:wH x h=true):rA K "dict" v H:=by
 obtain⟨kvs,e1⟩:=Option.isSome_iff_exists.mp e
 obtain⟨a,ws,rfl,ha,_⟩:=EY hr r e1
 exact .inr (.inr (.inl ⟨rfl, .inl ⟨ws,ha⟩⟩))
end
end L2
namespace L2
open PySem PySem.Spec PyProof.Rows
theorem hu1 {A:Around} {k:Nat} (hr:Room k A):A.units+1<cLine:=Nat.lt_of_le_of_lt (Nat.add_le_add_left (by decide) _) (AC hr)
end L2
namespace L2
open PySem
theorem UV {i:Int} {ρ:BJ} {h:AA} {O:Option Int→AA→Prop} (q:O (some i) h):Ens (D0 (mC (.int i)) ρ h) O:=⟨_,_,rfl,q⟩
theorem bY {xs:List M} {P:Prop} (h:xs.length≤16777216) (q:P):xs.length≤16777216∧P:=⟨h,q⟩
theorem eI {R:M→Prop} {h:AA} {xs:List M} {j:Nat} {x:M} (e:xs[j]? =some x) (q:R x):Enp (BH (.tup xs) (.int (j:Int)) h) R:=⟨x,by show NH xs (j:Int)=_;rw[L5 e],q⟩
theorem bU {R:M→Prop} {h:AA} {a:M} {ps:List M} (q:R a):Enp (BH (.tup (a::ps)) (.int 0) h) R:=eI (j:=0) rfl q
theorem kX {R:M→Prop} {h:AA} {a b:M} {ps:List M} (q:R b):Enp (BH (.tup (a::b::ps)) (.int 1) h) R:=eI (j:=1) rfl q
theorem oP {R:M→Prop} {h:AA} {a b c:M} {ps:List M} (q:R c):Enp (BH (.tup (a::b::c::ps)) (.int 2) h) R:=eI (j:=2) rfl q
theorem xF {R:M→Prop} {h:AA} {a b c d:M} {ps:List M} (q:R d):Enp (BH (.tup (a::b::c::d::ps)) (.int 3) h) R:=eI (j:=3) rfl q
theorem bQ {R:M→Prop} {h:AA} {xs:List M} {r:Int} (h0:0≤r) (h1:r<xs.length) (q:∀x∈xs,R x):Enp (BH (.lst xs) (.int r) h) R:=by
 obtain⟨j,rfl⟩:=Int.eq_ofNat_of_zero_le h0
 have hj:j<xs.length:=by omega
 refine⟨xs[j],?_,q _ (List.getElem_mem hj)⟩
 show NH xs (j:Int)=_
 rw[L5 (List.getElem?_eq_getElem hj)]
theorem K2 {R:M→Prop} {h:AA} {xs:List M} {r:Int} (h0:0≤r) (h1:r<xs.length) (q:∀x∈xs,R x):Enp (BH (.tup xs) (.int r) h) R:=by
 obtain⟨j,rfl⟩:=Int.eq_ofNat_of_zero_le h0
 have hj:j<xs.length:=by omega
 refine⟨xs[j],?_,q _ (List.getElem_mem hj)⟩
 show NH xs (j:Int)=_
 rw[L5 (List.getElem?_eq_getElem hj)]
theorem XD {g:AA} {o:MO} {k:Nat} (e:k=g.length):(g++[o])[k]? =some o:=by subst e;simp
theorem zP {g:AA} {o o':MO} {k:Nat} (e:k=g.length):(g++[o]).set k o'=g++[o']:=by subst e;simp
theorem UH {k:Nat} {h:AA} {xs:List M} {y:M} {R:M→AA→Prop} (e:h[k]? =some (.lst xs)) (hl:xs.length<16777216) (q:R .non (h.set k (.lst (xs++[y])))):Ens (G8 (.ref k) [y] h) R:=⟨.non,_,by unfold G8 mX;simp only[e];rw[if_pos hl];rfl,q⟩
theorem V7 {k:Nat} {h:AA} {xs:List M} (e:h[k]? =some (.lst xs)):n5 (.ref k) h=true:=by unfold n5 G0;simp only[e];rfl
theorem Y1 {k:Nat} {h:AA} {xs:List M} (e:h[k]? =some (.lst xs)):G0 h (.ref k)=some xs:=by unfold G0;simp only[e]
theorem ID {k:Nat} {h:AA} {kvs:List (BC×M)} (e:h[k]? =some (.dct kvs)):EE h (.ref k)=some kvs:=by unfold EE;simp only[e]
theorem iJ {k:Nat} {h:AA} {kvs:List (BC×M)} (e:h[k]? =some (.dct kvs)):wH (.ref k) h=true:=by unfold wH;rw[ID e];rfl
theorem mK {ma:FE} {ρ:BJ} {h:AA} {s:SI} (q:Ens (ma ρ h) fun x h1=>∃k xs,x= .ref k∧h1[k]? =some (.lst xs)∧s (xs,some k) h1):Ens (iL ma ρ h) s:= .bnd (q.mono fun x h1 q=>by
 obtain⟨k,xs,rfl,e,q⟩:=q
 refine⟨(xs,some k),h1,?_,q⟩
 dsimp only
 rw[e])
theorem NX {xs:List M} {n:Nat} {g:FG} {c:FT} {e:FE} {τ:BJ} {V:List M→AA→Prop} (J:Nat→List M→AA→Prop) (hJ:∀i acc h,J i acc h→h[n]? =some (.lst xs)):∀{l:List M} {i:Nat} {acc:List M} {h:AA},l=xs.drop i→i≤xs.length→J i acc h→
 (∀i x acc h,xs[i]? =some x→J i acc h→Ens (g x τ h) fun τ' h1=>Ens (c τ' h1) fun t h2=>if t=true then Ens (e τ' h2) fun y h3=>J (i+1) (acc++[y]) h3 else J (i+1) acc h2)→
 (∀acc h,J xs.length acc h→V acc h)→Ens (D1 xs (some n) g c e τ l h) fun ys h'=>V (acc++ys) h'
 |[],i,acc,h,e,hi,hj,_,hd=>by
  have:i=xs.length:=by
   have:=congrArg List.length e
   simp at this;omega
  subst this
  unfold D1
  rw[if_pos (show KF xs (some n) h from hJ _ _ _ hj)]
  refine .ret ?_
  rw[List.append_nil]
  exact hd acc h hj
 |x::r,i,acc,h,e,hi,hj,hs,hd=>by
  have hx:xs[i]? =some x:=by
   have:=congrArg (fun l:List M=>l[0]?) e
   simpa using this.symm
  have hr:r=xs.drop (i+1):=by
   have:=congrArg List.tail e
   simpa using this
  have hlt:i<xs.length:=(List.getElem?_eq_some_iff.mp hx).1
  unfold D1
  rw[if_pos (show KF xs (some n) h from hJ _ _ _ hj)]
  refine .bnd ((hs i x acc h hx hj).mono fun τ' h1 q=> .bnd (q.mono fun t h2 q=> ?_))
  cases t with
  |false=>exact NX J hJ hr hlt q hs hd
  |true=>
   refine .bnd (q.mono fun y h3 q=> .bnd ((NX J hJ hr hlt q hs hd).mono fun ys h4 q=> .ret ?_))
   simpa using q
theorem XE {xs:List M} {n:Nat} {g:FG} {c:FT} {e:FE} {τ:BJ} {h:AA} {V:List M→AA→Prop} (p:M→Bool) (f:M→M) (hn:h[n]? =some (.lst xs))
 (hs:∀x∈xs,Ens (g x τ h) fun τ' h1=>h1=h∧Ens (c τ' h1) fun t h2=>h2=h∧t=p x∧(t=true→Ens (e τ' h2) fun y h3=>h3=h∧y=f x)) (q:V ((xs.filter p).map f) h):Ens (D1 xs (some n) g c e τ xs h) V:=by
 refine(NX (V:=V) (fun i acc h'=>h'=h∧acc=((xs.take i).filter p).map f) (fun _ _ _ z=>by rw[z.1];exact hn) (i:=0) (acc:=[]) (by simp) (Nat.zero_le _) ⟨rfl,by simp⟩ ?_ ?_).mono fun ys h' z=>by simpa using z
 ·rintro i x acc h' hx ⟨rfl,rfl⟩
  have ht:xs.take (i+1)=xs.take i++[x]:=NG hx
  refine(hs x (List.mem_of_getElem? hx)).mono ?_
  rintro τ' h1 ⟨rfl,z⟩
  refine z.mono ?_
  rintro t h2 ⟨rfl,rfl,z⟩
  refine BM (fun hp=> ?_) (fun hp=> ?_)
  ·refine(z hp).mono ?_
   rintro y h3 ⟨rfl,rfl⟩
   exact⟨rfl,by rw[ht,List.filter_append,List.map_append];simp[hp]⟩
  ·exact⟨rfl,by rw[ht,List.filter_append];simp[hp]⟩
 ·rintro acc h' ⟨rfl,rfl⟩
  rw[List.take_length];exact q
theorem HC {xs:List M} {g:FG} {c:FT} {e:FE} {τ:BJ} {h:AA} {V:List M→AA→Prop} (p:M→Bool) (f:M→M)
 (hs:∀x∈xs,Ens (g x τ h) fun τ' h1=>h1=h∧Ens (c τ' h1) fun t h2=>h2=h∧t=p x∧(t=true→Ens (e τ' h2) fun y h3=>h3=h∧y=f x)) (q:V ((xs.filter p).map f) h):Ens (D1 xs none g c e τ xs h) V:=by
 refine Y2 (fun i acc h'=>h'=h∧acc=((xs.take i).filter p).map f) ⟨rfl,by simp⟩ ?_ ?_
 ·rintro i x acc h' hx ⟨rfl,rfl⟩
  have ht:xs.take (i+1)=xs.take i++[x]:=NG hx
  refine(hs x (List.mem_of_getElem? hx)).mono ?_
  rintro τ' h1 ⟨rfl,z⟩
  refine z.mono ?_
  rintro t h2 ⟨rfl,rfl,z⟩
  refine BM (fun hp=> ?_) (fun hp=> ?_)
  ·refine(z hp).mono ?_
   rintro y h3 ⟨rfl,rfl⟩
   exact⟨rfl,by rw[ht,List.filter_append,List.map_append];simp[hp]⟩
  ·exact⟨rfl,by rw[ht,List.filter_append];simp[hp]⟩
 ·rintro acc h' ⟨rfl,rfl⟩
  rw[List.take_length];exact q
theorem X5 {ρ:BJ} {h:AA} {R:M→AA→Prop} (q:R (.ref h.length) (h++[.dct []])):Ens (QJ ρ h) R:=⟨_,_,rfl,q⟩
theorem dH {md mi mv:FE} {ρ:BJ} {h:AA} {S:Out→AA→Prop} (q:Ens (mv ρ h) fun v h1=>Ens (md ρ h1) fun x h2=>Ens (mi ρ h2) fun y h3=>∃k key kvs,x= .ref k∧JG y=some key∧h3[k]? =some (.dct kvs)∧kvs.length<16777216∧S (.nx ρ) (h3.set k (.dct (GD kvs key v)))):
 Ens (O2 md mi mv ρ h) S:= .bnd (q.mono fun v h1 q=> .bnd (q.mono fun x h2 q=> .bnd (q.mono fun y h3 q=>by
 obtain⟨k,key,kvs,rfl,e1,e2,hl,q⟩:=q
 refine⟨.nx ρ,_,?_,q⟩
 unfold iP
 simp only[e1,e2]
 rw[if_pos hl];rfl)))
theorem mJ {x y v:M} {h:AA} {kvs:List (BC×M)} {key:BC} {R:M→Prop} (e1:JG y=some key) (e2:EE h x=some kvs) (e3:E5 kvs key=some v) (q:R v):Enp (BH x y h) R:=⟨v,by
 unfold BH
 rw[e2]
 show(JG y).bind _=_
 rw[e1];exact e3,q⟩
theorem gO {x y:M} {h:AA} {kvs:List (BC×M)} {key:BC} {R:M→Prop} (e1:JG x=some key) (e2:EE h y=some kvs) (q:R (.bl (!(E5 kvs key).isSome))):Enp (CP x y h) R:=⟨_,by
 unfold CP
 rw[e2]
 show(JG x).map _=_
 rw[e1];rfl,q⟩
end L2
namespace L2
open PySem PySem.Spec PyProof.Rows
section
variable {R:M→Prop} {Q:M→AA→Prop} {h:AA}
theorem m6 {i j:Str} (q:R (.bl (!decide (j.cps.toList<i.cps.toList)))):Enp (OU (.str i) (.str j) h) R:=⟨_,rfl,q⟩
end
end L2
namespace ST
open PySem
theorem N0 {α:Type} [DecidableEq α]:∀{l m:List α},l.Nodup→(∀x∈l,x∈m)→l.length≤m.length
 |[],_,_,_=>Nat.zero_le _
 |x::l,m,hn,hs=>by
  have hx:=hs x (by simp)
  have h:=N0 (l:=l) (m:=m.erase x) (List.nodup_cons.1 hn).2 fun y hy=>by
   have hne:y≠x:=fun e=>(List.nodup_cons.1 hn).1 (e▸hy)
   exact(List.mem_erase_of_ne hne).2 (hs y (by simp[hy]))
  rw[List.length_erase_of_mem hx]at h
  have:0<m.length:=List.length_pos_of_mem hx
  simp only[List.length_cons];omega
def Ris (xs:Array Nat):Prop:=xs.toList.Pairwise (· < ·)
theorem Ris.lt {xs:Array Nat} (hr:Ris xs) {a b u v:Nat} (ha:xs[a]? =some u) (hb:xs[b]? =some v) (h:a<b):u<v:=by
 rw[←Array.getElem?_toList]at ha hb
 obtain⟨ha',ea⟩:=List.getElem?_eq_some_iff.1 ha
 obtain⟨hb',eb⟩:=List.getElem?_eq_some_iff.1 hb
 rw[←ea,←eb]
 exact List.pairwise_iff_getElem.1 hr a b ha' hb' h
theorem jI {xs:Array Nat} {k v d:Nat} (h:xs[k]? =some v):xs.getD k d=v:=by
 rw[Array.getD_eq_getD_getElem?,h];rfl
theorem some_of {xs:Array Nat} {k:Nat} (h:k<xs.size):∃v,xs[k]? =some v:=⟨xs[k],by simp[h]⟩
theorem fA (xs:Array Nat) (j:Nat) (hr:Ris xs):∀fuel lo hi,hi-lo≤fuel→lo≤hi→hi≤xs.size→
 (∀k v,k<lo→xs[k]? =some v→v<j)→(∀k v,hi≤k→xs[k]? =some v→j≤v)→
 (∀k v,k<SetTable.below.go xs j fuel lo hi→xs[k]? =some v→v<j)∧(∀k v,SetTable.below.go xs j fuel lo hi≤k→xs[k]? =some v→j≤v)∧SetTable.below.go xs j fuel lo hi≤xs.size:=by
 intro fuel
 induction fuel with
 |zero=>
  intro lo hi h1 h2 h3 h4 h5
  have e:lo=hi:=by omega
  subst e
  exact⟨h4,h5,h3⟩
 |succ fuel ih=>
  intro lo hi h1 h2 h3 h4 h5
  unfold SetTable.below.go
  by_cases hl:lo<hi
  ·rw[if_pos hl]
   dsimp only
   obtain⟨u,hu⟩:=some_of (xs:=xs) (k:=(lo+hi)/2) (by omega)
   rw[jI hu]
   by_cases hc:u<j
   ·rw[if_pos hc]
    refine ih _ _ (by omega) (by omega) h3 (fun k v hk hv=> ?_) h5
    rcases Nat.lt_or_ge k ((lo+hi)/2) with h|h
    ·exact Nat.lt_trans (hr.lt hv hu h) hc
    ·have e:k=(lo+hi)/2:=by omega
     rw[e,hu]at hv;injection hv with hv;omega
   ·rw[if_neg hc]
    refine ih _ _ (by omega) (by omega) (by omega) h4 (fun k v hk hv=> ?_)
    rcases Nat.lt_or_ge ((lo+hi)/2) k with h|h
    ·have:=hr.lt hu hv h;omega
    ·have e:k=(lo+hi)/2:=by omega
     rw[e,hu]at hv;injection hv with hv;omega
  ·rw[if_neg hl]
   have e:lo=hi:=by omega
   subst e
   exact⟨h4,h5,h3⟩
theorem HB {xs:Array Nat} (j:Nat) (hr:Ris xs):
 (∀k v,k<SetTable.below xs j→xs[k]? =some v→v<j)∧(∀k v,SetTable.below xs j≤k→xs[k]? =some v→j≤v)∧SetTable.below xs j≤xs.size:=
 fA xs j hr xs.size 0 xs.size (by omega) (Nat.zero_le _) (Nat.le_refl _) (fun _ _ h=>absurd h (Nat.not_lt_zero _))
  fun k v h hv=>by rw[Array.getElem?_eq_none (by omega)]at hv;cases hv
theorem NS (j:Nat):SetTable.has #[] j=false:=by
 simp[SetTable.has]
theorem aG {t:SetTable} (hd:t.dummies= #[]) {j:Nat} (h:j∉t.place.toList):t.slot j= .empty:=by
 unfold SetTable.slot
 dsimp only
 rw[hd,NS]
 have:(t.place[SetTable.below t.place j]? ==some j)=false:=by
  rw[beq_eq_false_iff_ne]
  intro e
  exact h (by rw[←Array.getElem?_toList]at e;exact List.mem_of_getElem? e)
 rw[this];rfl
theorem VG {t:SetTable} (hr:Ris t.place) {j:Nat} (h:t.slot j= .empty):j∉t.place.toList:=by
 intro hm
 obtain⟨k,hk⟩:=List.mem_iff_getElem?.1 hm
 rw[Array.getElem?_toList]at hk
 obtain⟨h1,h2,h3⟩:=HB (xs:=t.place) j hr
 have e:SetTable.below t.place j=k:=by
  rcases Nat.lt_trichotomy (SetTable.below t.place j) k with g|g|g
  ·obtain⟨v,hv⟩:=some_of (xs:=t.place) (k:=SetTable.below t.place j) (Nat.lt_of_lt_of_le g (by
    have:k<t.place.size:=by
     rcases Nat.lt_or_ge k t.place.size with q|q
     ·exact q
     ·rw[Array.getElem?_eq_none q]at hk;cases hk
    omega))
   have a:=h2 _ _ (Nat.le_refl _) hv
   have b:=hr.lt hv hk g
   omega
  ·exact g
  ·have a:=h1 _ _ g hk
   omega
 unfold SetTable.slot at h
 dsimp only at h
 rw[e,hk]at h
 simp at h
theorem UT {xs:Array Nat} {j:Nat} (hr:Ris xs) (hj:j∉xs.toList):Ris (SetTable.insertAt xs (SetTable.below xs j) j):=by
 unfold Ris
 rw[SetTable.toList_insertAt]
 obtain⟨h1,h2,h3⟩:=HB (xs:=xs) j hr
 generalize SetTable.below xs j=p at h1 h2 h3⊢
 rw[List.pairwise_append,List.pairwise_cons]
 have lo:∀a∈xs.toList.take p,a<j:=fun a ha=>by
  obtain⟨k,hk⟩:=List.mem_iff_getElem?.1 ha
  rw[List.getElem?_take]at hk
  split at hk
  ·rename_i hkp;exact h1 k a hkp (by rw[←Array.getElem?_toList];exact hk)
  ·cases hk
 have hi:∀a∈xs.toList.drop p,j<a:=fun a ha=>by
  obtain⟨k,hk⟩:=List.mem_iff_getElem?.1 ha
  rw[List.getElem?_drop]at hk
  have q:=h2 (p+k) a (by omega) (by rw[←Array.getElem?_toList];exact hk)
  have:a≠j:=fun e=>hj (e▸List.mem_of_mem_drop ha)
  omega
 refine⟨List.Pairwise.take hr,⟨hi,List.Pairwise.drop hr⟩,fun a ha b hb=> ?_⟩
 rcases List.mem_cons.1 hb with e|e
 ·rw[e];exact lo a ha
 ·exact Nat.lt_trans (lo a ha) (hi b e)
def it (m:Nat):Nat→Nat→Nat
 |0,i=>i
 |n+1,i=>it m n ((i*5+1) % (m+1))
theorem V0 (m a b:Nat):∀i,it m (a+b) i=it m b (it m a i):=by
 induction a with
 |zero=>intro i;rw[Nat.zero_add];rfl
 |succ a ih=>intro i;rw[Nat.succ_add];exact ih _
def tr (m:Nat):Nat→Nat→List Nat
 |0,_=>[]
 |n+1,i=>i::tr m n ((i*5+1) % (m+1))
theorem fN (m:Nat):∀n i j,j∈tr m n i→∃a,a<n∧it m a i=j
 |0,_,_,h=>by cases h
 |n+1,i,j,h=>by
  rcases List.mem_cons.1 h with e|e
  ·exact⟨0,by omega,e.symm⟩
  ·obtain⟨a,ha,ea⟩:=fN m n _ j e
   exact⟨a+1,by omega,ea⟩
def G3:List Nat:=[7,15,31,63,127,255]
theorem Z6:G3.all (fun m=>(it m (m+1) 0==0)&&(List.range (m+1)).all fun j=>(tr m (m+1) 0).contains j)=true:=by decide+kernel
theorem tF {m:Nat} (hm:m∈G3) {i j:Nat} (hi:i≤m) (hj:j≤m):∃k,k≤m∧it m k i=j:=by
 have h:=List.all_eq_true.1 Z6 m hm
 rw[Bool.and_eq_true,beq_iff_eq,List.all_eq_true]at h
 have get:∀x,x≤m→∃a,a<m+1∧it m a 0=x:=fun x hx=>by
  have:=h.2 x (List.mem_range.2 (by omega))
  exact fN m _ _ _ (by simpa using this)
 obtain⟨a,ha,ea⟩:=get i hi
 obtain⟨b,hb,eb⟩:=get j hj
 rcases Nat.lt_or_ge b a with g|g
 ·refine⟨m+1-a+b,by omega,?_⟩
  rw[←ea,←V0,show a+(m+1-a+b)=(m+1)+b by omega,V0,h.1,eb]
 ·refine⟨b-a,by omega,?_⟩
  rw[←ea,←V0,show a+(b-a)=b by omega,eb]
def pI (m:Nat):Nat→Nat→Nat→Nat
 |0,i,_=>i
 |n+1,i,p=>pI m n (SetTable.leap m i p).1 (SetTable.leap m i p).2
theorem bL (m:Nat):∀n i p,p/32=0→pI m n i p=it m n i
 |0,_,_,_=>rfl
 |n+1,i,p,h=>by
  show pI m n ((i*5+1+p/32) % (m+1)) (p/32)=it m n ((i*5+1) % (m+1))
  rw[h];exact bL m n _ 0 rfl
theorem bT {m:Nat} (hm:m∈G3) (i p:Nat) (hp:p<1024) {j:Nat} (hj:j≤m):∃k,k<SetTable.turns m∧pI m k i p=j:=by
 obtain⟨k,hk,e⟩:=tF hm (i:=(i*5+1+p/32) % (m+1)) (Nat.lt_succ_iff.1 (Nat.mod_lt _ (Nat.succ_pos _))) hj
 refine⟨k+1,by unfold SetTable.turns;omega,?_⟩
 show pI m k ((i*5+1+p/32) % (m+1)) (p/32)=j
 rw[bL m k _ _ (by omega),e]
def Fr (t:SetTable) (o:Option SetTable.Met):Prop:=∃j,o=some (.empty j none)∧t.slot j= .empty
section
variable (t:SetTable) (h:Int)
theorem fD:(h+1==h)=false:=by rw[beq_eq_false_iff_ne];omega
theorem KL (hd:t.dummies= #[]) (f:Nat) (p:SetTable.Probe) (hp:p.dummy=none):
 (t.slot p.j= .empty∧SetTable.probe.go t (fun _=>h+1) h (f+1) p=some (.empty p.j none))∨
 SetTable.probe.go t (fun _=>h+1) h (f+1) p=SetTable.probe.go t (fun _=>h+1) h f (t.advance p):=by
 cases hs:t.slot p.j with
 |empty=>refine .inl ⟨rfl,?_⟩;unfold SetTable.probe.go;rw[hs,hp]
 |dummy=>
  exfalso
  unfold SetTable.slot at hs
  dsimp only at hs
  rw[hd,NS]at hs
  split at hs<;>simp at hs
 |live i=>refine .inr ?_;conv=>lhs;unfold SetTable.probe.go
          rw[hs];simp only[fD,Bool.false_eq_true,if_false]
theorem Z4 (p:SetTable.Probe) (hp:p.dummy=none):(t.advance p).dummy=none:=by
 unfold SetTable.advance;split<;>exact hp
theorem bH (hd:t.dummies= #[]):∀(n f:Nat) (p:SetTable.Probe),p.more=n→p.dummy=none→
 Fr t (SetTable.probe.go t (fun _=>h+1) h f {j:=(SetTable.leap t.mask p.i p.perturb).1,more:=SetTable.runEnd t.mask (SetTable.leap t.mask p.i p.perturb).1-(SetTable.leap t.mask p.i p.perturb).1,i:=(SetTable.leap t.mask p.i p.perturb).1,perturb:=(SetTable.leap t.mask p.i p.perturb).2,dummy:=none})→
 Fr t (SetTable.probe.go t (fun _=>h+1) h (f+(n+1)) p)
 |0,f,p,hn,hp,hF=>by
  rcases KL t h hd f p hp with⟨a,b⟩|b
  ·exact⟨_,b,a⟩
  ·rw[show f+(0+1)=f+1 by omega,b]
   have:t.advance p={j:=(SetTable.leap t.mask p.i p.perturb).1,more:=SetTable.runEnd t.mask (SetTable.leap t.mask p.i p.perturb).1-(SetTable.leap t.mask p.i p.perturb).1,i:=(SetTable.leap t.mask p.i p.perturb).1,perturb:=(SetTable.leap t.mask p.i p.perturb).2,dummy:=none}:=by
    unfold SetTable.advance
    rw[if_neg (by omega),←hp]
   rw[this];exact hF
 |n+1,f,p,hn,hp,hF=>by
  rcases KL t h hd (f+(n+1)) p hp with⟨a,b⟩|b
  ·exact⟨_,b,a⟩
  ·rw[show f+(n+1+1)=f+(n+1)+1 by omega,b]
   have e:t.advance p={p with j:=p.j+1,more:=p.more-1}:=by
    unfold SetTable.advance;rw[if_pos (by omega)]
   rw[e]
   exact bH hd n f _ (by show p.more-1=n;omega) hp hF
theorem WV (hd:t.dummies= #[]):∀(f g:Nat) (p:SetTable.Probe),p.dummy=none→Fr t (SetTable.probe.go t (fun _=>h+1) h f p)→Fr t (SetTable.probe.go t (fun _=>h+1) h (f+g) p)
 |0,g,p,_,hF=>by obtain⟨j,e,_⟩:=hF;cases e
 |f+1,g,p,hp,hF=>by
  rw[show f+1+g=f+g+1 by omega]
  rcases KL t h hd (f+g) p hp with⟨a,b⟩|b
  ·exact⟨_,b,a⟩
  ·rw[b]
   rcases KL t h hd f p hp with⟨a,b'⟩|b'
   ·have:SetTable.probe.go t (fun _=>h+1) h (f+g+1) p=some (.empty p.j none):=by
     unfold SetTable.probe.go;rw[a,hp]
    rw[←b,this];exact⟨_,rfl,a⟩
   ·exact WV hd f g _ (Z4 t p hp) (b'▸hF)
theorem rF (i:Nat):SetTable.runEnd t.mask i-i≤9:=by unfold SetTable.runEnd;split<;>omega
theorem PX (hd:t.dummies= #[]):∀(r i p:Nat),(∃k,k<r∧t.slot (pI t.mask k i p)= .empty)→
 Fr t (SetTable.probe.go t (fun _=>h+1) h (10*r) {j:=i,more:=SetTable.runEnd t.mask i-i,i,perturb:=p,dummy:=none})
 |0,_,_,h=>by obtain⟨k,hk,_⟩:=h;omega
 |r+1,i,p,hh=>by
  obtain⟨k,hk,e⟩:=hh
  cases k with
  |zero=>
   rcases KL t h hd (10*r+9) {j:=i,more:=SetTable.runEnd t.mask i-i,i,perturb:=p,dummy:=none} rfl with⟨a,b⟩|b
   ·exact⟨_,b,a⟩
   ·refine⟨i,?_,e⟩
    rw[show 10*(r+1)=10*r+9+1 by omega]
    unfold SetTable.probe.go
    have e':t.slot i= .empty:=e
    simp only[e']
  |succ k=>
   have q:=PX hd r (SetTable.leap t.mask i p).1 (SetTable.leap t.mask i p).2 ⟨k,by omega,e⟩
   have q':=bH t h hd _ (10*r) {j:=i,more:=SetTable.runEnd t.mask i-i,i,perturb:=p,dummy:=none} rfl rfl q
   have l:=rF t i
   have:=WV t h hd _ (9-(SetTable.runEnd t.mask i-i)) _ rfl q'
   rw[show 10*r+(SetTable.runEnd t.mask i-i+1)+(9-(SetTable.runEnd t.mask i-i))=10*(r+1) by omega]at this
   exact this
end
theorem CW {t:SetTable} (hd:t.dummies= #[]) (hn:t.place.size≤t.mask):∃j,j≤t.mask∧t.slot j= .empty:=by
 rcases Classical.em (∃j,j≤t.mask∧j∉t.place.toList) with⟨j,h1,h2⟩|h
 ·exact⟨j,h1,aG hd h2⟩
 ·exfalso
  have:=N0 (l:=List.range (t.mask+1)) (m:=t.place.toList) List.nodup_range fun x hx=>by
   rcases Classical.em (x∈t.place.toList) with g|g
   ·exact g
   ·exact absurd ⟨x,by have:=List.mem_range.1 hx;omega,g⟩ h
  simp at this;omega
theorem X7 {h:Int} (h0:0≤h) (h1:h<50):SetTable.bits h<50:=by
 unfold SetTable.bits;omega
theorem T4 {t:SetTable} {h:Int} (hd:t.dummies= #[]) (hm:t.mask∈G3) (hn:t.place.size≤t.mask) (h0:0≤h) (h1:h<50):
 ∃j,t.freeSlot h=some (j,false)∧t.slot j= .empty:=by
 obtain⟨j,hj,e⟩:=CW hd hn
 obtain⟨k,hk,ek⟩:=bT hm (SetTable.bits h % (t.mask+1)) (SetTable.bits h) (by have:=X7 h0 h1;omega) hj
 obtain⟨j',e1,e2⟩:=PX t h hd (SetTable.turns t.mask) (SetTable.bits h % (t.mask+1)) (SetTable.bits h) ⟨k,hk,by rw[ek];exact e⟩
 refine⟨j',?_,e2⟩
 unfold SetTable.freeSlot SetTable.probe SetTable.probeStart
 dsimp only
 rw[e1];rfl
end ST
namespace ST
open PySem
theorem getD_none {o:Array (Option Nat)} {k:Nat} (h:(o.getD k (some 0)).isNone=true):o[k]? =some none:=by
 rw[Array.getD_eq_getD_getElem?]at h
 cases e:o[k]?with
 |none=>rw[e]at h;cases h
 |some v=>rw[e]at h;cases v with
  |none=>rfl
  |some u=>cases h
theorem YM {o:Array (Option Nat)} {k:Nat} (h:o[k]? =some none):(o.getD k (some 0)).isNone=true:=by
 rw[Array.getD_eq_getD_getElem?,h];rfl
theorem sQ (m i:Nat):i≤SetTable.runEnd m i:=by unfold SetTable.runEnd;split<;>omega
theorem XO (m:Nat) (o:Array (Option Nat)):∀f i p,(∃k,k<f∧o[pI m k i p]? =some none)→∃j,SetTable.layClean.free m o f i p=some j∧o[j]? =some none
 |0,_,_,h=>by obtain⟨k,hk,_⟩:=h;omega
 |f+1,i,p,h=>by
  unfold SetTable.layClean.free
  cases hf:(List.range (SetTable.runEnd m i+1-i)).find? fun k=>(o.getD (i+k) (some 0)).isNone with
  |some k=>exact⟨i+k,rfl,getD_none (List.find?_some (p:=fun k=>(o.getD (i+k) (some 0)).isNone) hf)⟩
  |none=>
   have hn:=List.find?_eq_none.1 hf 0 (List.mem_range.2 (by have:=sQ m i;omega))
   obtain⟨k,hk,e⟩:=h
   cases k with
   |zero=>exact absurd (YM (o:=o) (k:=i+0) e) hn
   |succ k=>exact XO m o f _ _ ⟨k,by omega,e⟩
theorem VZ:∀(l:List (Option Nat)) (j k:Nat),l[j]? =some none→((l.set j (some k)).filterMap id).Perm (k::l.filterMap id)
 |[],_,_,h=>by cases h
 |none::l,0,k,h=>List.Perm.refl _
 |some v::l,0,k,h=>by cases h
 |none::l,j+1,k,h=>VZ l j k h
 |some v::l,j+1,k,h=>((VZ l j k h).cons v).trans (List.Perm.swap k v _)
theorem OG:∀(l:List (Option Nat)),(∀x∈l,x≠none)→(l.filterMap id).length=l.length
 |[],_=>rfl
 |none::l,h=>absurd rfl (h none (by simp))
 |some v::l,h=>by
  have:=OG l fun x hx=>h x (by simp[hx])
  simp[List.filterMap_cons,this]
theorem ZU {o:Array (Option Nat)} {m k:Nat} (hs:o.size=m+1) (hp:(o.toList.filterMap id).Perm (List.range k)) (hk:k≤m):∃j,j≤m∧o[j]? =some none:=by
 rcases Classical.em (∃j:Nat,o[j]? =some none) with⟨j,hj⟩|h
 ·refine⟨j,?_,hj⟩
  rcases Nat.lt_or_ge j o.size with g|g
  ·omega
  ·rw[Array.getElem?_eq_none g]at hj;cases hj
 ·exfalso
  have:=OG o.toList fun x hx e=>by
   obtain⟨j,hj⟩:=List.mem_iff_getElem?.1 (e▸hx)
   exact h ⟨j,by rw[←Array.getElem?_toList];exact hj⟩
  rw[hp.length_eq]at this
  simp at this;omega
def step (m:Nat) (acc:Option (Array (Option Nat)×Nat)) (h:Int):Option (Array (Option Nat)×Nat):=do
 let(o,k)←acc
 let j←SetTable.layClean.free m o (SetTable.turns m) (SetTable.bits h % (m+1)) (SetTable.bits h)
 pure (o.setIfInBounds j (some k),k+1)
theorem X6 {m:Nat} (hm:m∈G3):∀(hs:List Int) (o:Array (Option Nat)) (k:Nat),o.size=m+1→(o.toList.filterMap id).Perm (List.range k)→k+hs.length≤m+1→(∀h∈hs,0≤h∧h<50)→
 ∃o',hs.foldl (step m) (some (o,k))=some (o',k+hs.length)∧o'.size=m+1∧(o'.toList.filterMap id).Perm (List.range (k+hs.length))
 |[],o,k,h1,h2,_,_=>⟨o,rfl,h1,h2⟩
 |h::hs,o,k,h1,h2,h3,h4=>by
  simp only[List.length_cons]at h3
  obtain⟨j,hj,ej⟩:=ZU h1 h2 (by omega)
  obtain⟨b0,b1⟩:=h4 h (by simp)
  obtain⟨n,hn,en⟩:=bT hm (SetTable.bits h % (m+1)) (SetTable.bits h) (by have:=X7 b0 b1;omega) hj
  obtain⟨i,ei,fi⟩:=XO m o (SetTable.turns m) (SetTable.bits h % (m+1)) (SetTable.bits h) ⟨n,hn,by rw[en];exact ej⟩
  have hp:((o.setIfInBounds i (some k)).toList.filterMap id).Perm (List.range (k+1)):=by
   rw[Array.toList_setIfInBounds,List.range_succ]
   exact(VZ _ _ _ (by rw[Array.getElem?_toList];exact fi)).trans ((h2.cons k).trans (List.perm_append_singleton k _).symm)
  obtain⟨o',a,b,c⟩:=X6 hm hs (o.setIfInBounds i (some k)) (k+1) (by simp[h1]) hp (by omega) fun x hx=>h4 x (by simp[hx])
  refine⟨o',?_,b,?_⟩
  ·rw[List.foldl_cons]
   have:step m (some (o,k)) h=some (o.setIfInBounds i (some k),k+1):=by
    unfold step;simp only[Option.bind_eq_bind,Option.bind_some,ei];rfl
   rw[this,a];simp only[List.length_cons];congr 2;omega
  ·rw[show k+(h::hs).length=k+1+hs.length by simp only[List.length_cons];omega];exact c
theorem gG {m:Nat} (hm:m∈G3) {hs:Array Int} (hl:hs.size≤m+1) (hb:∀h∈hs.toList,0≤h∧h<50):
 ∃o,SetTable.layClean m hs=some o∧o.size=m+1∧(o.toList.filterMap id).Perm (List.range hs.size):=by
 obtain⟨o,a,b,c⟩:=X6 hm hs.toList (Array.replicate (m+1) none) 0 (by simp) (by
  rw[Array.toList_replicate]
  have:∀n,(List.replicate n (none:Option Nat)).filterMap id=[]:=fun n=>by induction n with
   |zero=>rfl
   |succ n ih=>rw[List.replicate_succ,List.filterMap_cons_none rfl,ih]
  rw[this];exact List.Perm.refl _) (by simpa using hl) hb
 refine⟨o,?_,b,by simpa using c⟩
 have e:SetTable.layClean m hs=(hs.toList.foldl (step m) (some (Array.replicate (m+1) none,0))).map (·.1):=by
  unfold SetTable.layClean
  rw[←Array.foldl_toList]
  rfl
 rw[e,a];rfl
structure Good (L:Bool) (t:SetTable) (n:Nat):Prop where
 led:t.led=L
 plain:t.plain=true
 dum:t.dummies= #[]
 size:t.place.size=n
 ris:Ris t.place
 mask:t.mask∈G3
 few:n*5<t.mask*3
theorem Good.fits {L:Bool} {t:SetTable} {n:Nat} (g:Good L t n):t.fits n=true:=by
 have h1:=g.few;have h2:=g.size;have h3:=g.dum
 simp only[SetTable.fits,SetTable.fill,h2,h3,Bool.and_eq_true,beq_iff_eq,decide_eq_true_eq,true_and]
 simp;omega
theorem VS (L:Bool):Good L (.fresh 0 0 L) 0:=⟨rfl,rfl,rfl,rfl,List.Pairwise.nil,(by decide:(7:Nat)∈G3),(by decide:0*5<7*3)⟩
theorem gK (o:Array (Option Nat)) (m:Nat) (hs:o.size=m+1):
 ((List.range (m+1)).filterMap fun j=>(o.getD j none).map (j, ·)).map (·.2)=o.toList.filterMap id:=by
 rw[List.map_filterMap]
 have:(fun x=>Option.map (fun x:Nat×Nat=>x.snd) (Option.map (fun x_1=>(x,x_1)) (o.getD x none)))=fun x=>id (o.getD x none):=by
  funext x;cases o.getD x none<;>rfl
 rw[this,←hs]
 conv=>rhs;rw[←List.map_id o.toList]
 have e:o.toList=(List.range o.size).map fun j=>o.getD j none:=by
  apply List.ext_getElem?
  intro j
  rw[List.getElem?_map,Array.getElem?_toList]
  rcases Nat.lt_or_ge j o.size with g|g
  ·rw[List.getElem?_range g];simp[g,Array.getD_eq_getD_getElem?]
  ·rw[List.getElem?_eq_none (by simpa using g),Array.getElem?_eq_none g];rfl
 conv=>rhs;rw[List.map_id,e]
 rw[List.filterMap_map];rfl
theorem jB {L:Bool} {m f mv:Nat} (hm:m∈G3) {hs:Array Int} (hl:hs.size*5<m*3) (hb:∀h∈hs.toList,0≤h∧h<50):
 ∃t o,SetTable.laid m f mv L true hs=some (t,o)∧Good L t hs.size∧o.toList.Perm (List.range hs.size)∧t.mask=m:=by
 obtain⟨o,a,b,c⟩:=gG hm (hs:=hs) (by omega) hb
 refine⟨_,_,by unfold SetTable.laid;rw[a];rfl,⟨rfl,rfl,rfl,?_,?_,hm,hl⟩,?_,rfl⟩
 ·have:=c.length_eq
  rw[←gK o m b]at this
  simpa using this
 ·unfold Ris
  simp only[List.toList_toArray]
  have:(List.range (m+1)).Pairwise (· < ·):=List.pairwise_lt_range
  rw[List.map_filterMap]
  refine List.Pairwise.filterMap _ (fun a a' hlt b hb b' hb'=> ?_) this
  cases h1:o.getD a none<;>rw[h1]at hb<;>simp at hb
  cases h2:o.getD a' none<;>rw[h2]at hb'<;>simp at hb'
  omega
 ·simp only[List.toList_toArray]
  rw[gK o m b];exact c
theorem OZ {o:Array Nat} {es:Array (Int×Value)} (h:o.toList.Perm (List.range es.size)):(o.filterMap (es[·]?)).toList.Perm es.toList:=by
 rw[Array.toList_filterMap]
 exact(h.filterMap _).trans (by rw[PySem.filterMap_getElem?_range])
theorem N5 {n:Nat} (h:n<256):SetTable.sizeAbove n-1∈G3∧n≤SetTable.sizeAbove n-1∧SetTable.sizeAbove n≤256:=by
 have:∀n,n<256→(SetTable.sizeAbove n-1∈G3∧n≤SetTable.sizeAbove n-1∧SetTable.sizeAbove n≤256):=by decide+kernel
 exact this n h
def Sm (es:Array (Int×Value)):Prop:=∀e∈es.toList,(0≤e.1∧e.1<50)∧∃tk,e.2= .int e.1 tk
theorem Sm.hs {es:Array (Int×Value)} (h:Sm es):∀x∈(es.map (·.1)).toList,0≤x∧x<50:=by
 intro x hx
 rw[Array.toList_map]at hx
 obtain⟨e,he,rfl⟩:=List.mem_map.1 hx
 exact(h e he).1
theorem Sm.perm {es es':Array (Int×Value)} (h:Sm es) (p:es'.toList.Perm es.toList):Sm es':=fun e he=>h e (p.mem_iff.1 he)
theorem WT {L:Bool} {m f mv:Nat} (hm:m∈G3) {es:Array (Int×Value)} (hl:es.size*5<m*3) (hb:Sm es):
 ∃t o,SetTable.laid m f mv L true (es.map (·.1))=some (t,o)∧Good L t es.size∧(o.filterMap (es[·]?)).toList.Perm es.toList∧o.toList.Perm (List.range es.size)∧t.mask=m:=by
 obtain⟨t,o,a,b,c,d⟩:=jB (L:=L) (f:=f) (mv:=mv) hm (hs:=es.map (·.1)) (by simpa using hl) hb.hs
 rw[Array.size_map]at b c
 exact⟨t,o,a,b,OZ c,c,d⟩
theorem TD {L:Bool} {t:SetTable} {es:Array (Int×Value)} {n wanted:Nat} (hl:t.led=L) (hp:t.plain=true) (hb:Sm es) (hw:es.size*2≤wanted) (hw':wanted<256):
 ∃t' o,t.relaid (es.map (·.1)) wanted=some (t',o)∧Good L t' es.size∧(o.filterMap (es[·]?)).toList.Perm es.toList∧o.toList.Perm (List.range es.size)∧t'.mask=SetTable.sizeAbove wanted-1:=by
 obtain⟨h1,h2,_⟩:=N5 hw'
 have h3:7≤SetTable.sizeAbove wanted-1:=by
  have:∀m∈G3,7≤m:=by decide
  exact this _ h1
 have:=WT (L:=L) (f:=t.finger) (mv:=t.movedTo (SetTable.sizeAbove wanted-1)) h1 (es:=es) (by omega) hb
 unfold SetTable.relaid
 rw[hl,hp];exact this
theorem UI {L:Bool} {t:SetTable} {es:Array (Int×Value)} {wanted:Nat} (hl:t.led=L) (hp:t.plain=true) (hb:Sm es) (hw:es.size*2≤wanted) (hw':wanted<256):
 ∃t' es',relayAll t es wanted=(es',t',false)∧Good L t' es.size∧es'.toList.Perm es.toList∧t'.mask=SetTable.sizeAbove wanted-1:=by
 obtain⟨t',o,a,b,c,d,e⟩:=TD (n:=0) hl hp hb hw hw'
 refine⟨t',_,?_,b,c,e⟩
 unfold relayAll
 rw[a]
 have hs:(o.filterMap (es[·]?)).size=es.size:=by rw[←Array.length_toList,c.length_eq,Array.length_toList]
 have h1:coversAll o es.size=true:=List.isPerm_iff.2 d
 dsimp only
 rw[h1,hs,b.fits];rfl
theorem ZK {L:Bool} {t:SetTable} {es:Array (Int×Value)} {h:Int} {x:Value} (g:Good L t es.size) (h0:0≤h) (h1:h<50):
 ∃es' t',layNew t es h x=(es',t',false,false)∧es'.toList.Perm (es.push (h,x)).toList∧t'.led=L∧t'.plain=true∧t'.dummies= #[]∧t'.place.size=es.size+1∧Ris t'.place∧t'.mask=t.mask∧t'.fits (es.size+1)=true:=by
 have h2:=g.few;have h3:=g.size
 obtain⟨j,e1,e2⟩:=T4 g.dum g.mask (by omega) h0 h1
 have hp:(SetTable.insertAt es (SetTable.below t.place j) (h,x)).toList.Perm (es.push (h,x)).toList:=SetTable.insertAt_perm ..
 have hs:(SetTable.insertAt es (SetTable.below t.place j) (h,x)).size=es.size+1:=by rw[←Array.length_toList,hp.length_eq];simp
 have hs':(SetTable.insertAt t.place (SetTable.below t.place j) j).size=es.size+1:=by
  rw[←Array.length_toList,(SetTable.insertAt_perm ..).length_eq];simp[h3]
 have hput:t.put j=({t with place:=SetTable.insertAt t.place (SetTable.below t.place j) j,dummies:= #[]},SetTable.below t.place j):=by
  unfold SetTable.put
  dsimp only
  rw[g.dum,NS];rfl
 have hf:SetTable.fits {t with place:=SetTable.insertAt t.place (SetTable.below t.place j) j,dummies:= #[]} (es.size+1)=true:=by
  simp only[SetTable.fits,SetTable.fill,hs',Bool.and_eq_true,beq_iff_eq,decide_eq_true_eq,true_and]
  simp;omega
 refine⟨_,{t with place:=SetTable.insertAt t.place (SetTable.below t.place j) j,dummies:= #[]},?_,hp,g.led,g.plain,rfl,hs',UT g.ris (VG g.ris e2),rfl,hf⟩
 unfold layNew
 rw[e1]
 dsimp only
 rw[hput]
 dsimp only
 rw[hs]
 unfold SetTable.orStandIn
 rw[if_pos hf,hf];rfl
end ST
set_option maxHeartbeats 1000000
namespace ST
open PySem
def Ld (w:World):Bool:= !(w.params.followText "set-order")
def RV (es:Array (Int×Value)) (ep:Nat) (t:SetTable):Obj:={cls:= .type "set",dict:=none,data:= .set es ep t}
def RB (es:Array (Int×Value)):List Int:=es.toList.map (·.1)
structure SetAt (w:World) (h:Heap) (a:Addr) (ks:List Int) (es:Array (Int×Value)) (ep:Nat) (t:SetTable):Prop where
 get:h.get? a=some (RV es ep t)
 sm:Sm es
 perm:(RB es).Perm ks
 nd:ks.Nodup
 good:Good (Ld w) t es.size
def OP (w:World) (h:Heap) (a:Addr) (ks:List Int):Prop:=∃es ep t,SetAt w h a ks es ep t
theorem K1 {n:Int} (h0:0≤n) (h1:n<50):hashInt n=n:=by
 have:∀k:Nat,k<50→hashInt (k:Int)=(k:Int):=by decide+kernel
 obtain⟨k,rfl⟩:=Int.eq_ofNat_of_zero_le h0
 exact this k (by omega)
theorem Sm.elems {prog:Program} {w:World} {es:Array (Int×Value)} (h:Sm es):ElemsOf (intKind prog w) es.toList:=by
 intro e he
 obtain⟨⟨h0,h1⟩,tk,h2⟩:=h e he
 refine⟨⟨e.1,by rw[h2];simp[intKind,Value.isInt],(K1 h0 h1).symm⟩,by rw[h2];rfl⟩
theorem P3 {ks:List Int} (hn:ks.Nodup) (hb:∀k∈ks,0≤k∧k<50):ks.length≤50:=by
 have:=N0 (m:=(List.range 50).map Int.ofNat) hn fun x hx=>by
  obtain⟨h0,h1⟩:=hb x hx
  obtain⟨k,rfl⟩:=Int.eq_ofNat_of_zero_le h0
  exact List.mem_map.2 ⟨k,List.mem_range.2 (by omega),rfl⟩
 simpa using this
section
variable {w:World} {h:Heap} {a:Addr} {ks:List Int} {es:Array (Int×Value)} {ep:Nat} {t:SetTable}
theorem SetAt.small (S:SetAt w h a ks es ep t):∀k∈ks,0≤k∧k<50:=by
 intro k hk
 obtain⟨e,he,rfl⟩:=List.mem_map.1 (S.perm.mem_iff.2 hk)
 exact(S.sm e he).1
theorem SetAt.len (S:SetAt w h a ks es ep t):es.size=ks.length:=by
 rw[←S.perm.length_eq];simp[RB]
theorem SetAt.le (S:SetAt w h a ks es ep t):es.size≤50:=by
 rw[S.len];exact P3 S.nd S.small
theorem SetAt.len49 (S:SetAt w h a ks es ep t) {n:Int} (h0:0≤n) (h1:n<50) (hn:n∉ks):es.size+1≤50:=by
 have:=P3 (ks:=n::ks) (List.nodup_cons.2 ⟨hn,S.nd⟩) fun k hk=>by
  rcases List.mem_cons.1 hk with e|e
  ·exact e▸⟨h0,h1⟩
  ·exact S.small k e
 rw[S.len];simpa using this
end
theorem a8 {l:List (Int×Value)} {n:Int} {prog:Program} {w:World} (hs:∀e∈l,(0≤e.1∧e.1<50)∧∃tk,e.2= .int e.1 tk):
 (n∈l.map (·.1)→∃j,l.findIdx? (fun e=>(intKind prog w).is n e.2)=some j)∧(n∉l.map (·.1)→l.findIdx? (fun e=>(intKind prog w).is n e.2)=none):=by
 constructor
 ·intro hm
  obtain⟨e,he,rfl⟩:=List.mem_map.1 hm
  cases hf:l.findIdx? (fun e'=>(intKind prog w).is e.1 e'.2) with
  |some j=>exact⟨j,rfl⟩
  |none=>
   have:=List.findIdx?_eq_none_iff.mp hf e he
   obtain⟨_,tk,h2⟩:=hs e he
   rw[h2]at this
   simp[intKind,Value.isInt]at this
 ·intro hm
  rw[List.findIdx?_eq_none_iff]
  intro e he
  obtain⟨_,tk,h2⟩:=hs e he
  rw[h2]
  have:e.1≠n:=fun g=>hm (g▸List.mem_map.2 ⟨e,he,rfl⟩)
  simp[intKind,Value.isInt,this]
theorem N3 {h:Heap} {a:Addr} {es:Array (Int×Value)} {ep:Nat} {t:SetTable} (ho:h.get? a=some (RV es ep t)) (es':Array (Int×Value)) (t':SetTable):
 (h.update a (Obj.putSet es' t')).get? a=some (RV es' (ep+1) t'):=by
 have:=Heap.get?_update_self (Obj.putSet es' t') ho (by rfl)
 exact this
section
variable {prog:Program} {w:World} {A:Around} {E:Value→Shared→Prop} {s:Shared}
theorem N2 {n:Nat} (h:n≤100):n≤sizeLine:=by rw[sizeLine_eq];omega
theorem bA {a:Addr} {n:Int} {tk:Tok} {ks:List Int} {Q:Bool→Shared→Prop} (hS:OP w s.heap a ks) (h0:0≤n) (h1:n<50)
 (hQ:∀b h',Heap.SameBut a s.heap h'→OP w h' a (if n∈ks then ks else ks++[n])→Q b {s with heap:=h'}):
 wpAny (model prog w) A (setAddHashed a (.int n tk) n) Q E s:=by
 obtain⟨es,ep,t,S⟩:=hS
 have hsz:=S.le
 have hel:ElemsOf (intKind prog w) es.toList:=S.sm.elems
 have hsc:byScan (.int n tk) es=true:=byScan_of rfl (by unfold scanBound;omega) hel
 obtain⟨f1,f2⟩:=a8 (prog:=prog) (w:=w) (n:=n) (l:=es.toList) S.sm
 have hmem:n∈es.toList.map (·.1)↔n∈ks:=S.perm.mem_iff
 unfold setAddHashed setAddHashedIn
 refine wpAny_holding (wpAny_bind (wpAny_setState_of S.get rfl S.good.fits ?_));dsimp only
 rw[hsc];simp only[↓reduceIte];unfold setAddByScan
 refine wpAny_bind (wpAny_bind (wpAny_rule (wpAny_bind ?_)))
 have hscan:=fun(Q':ScanMet→Shared→Prop) hq=>wpAny_setScan_of (A:=A) (E:=E) (s:=s) (knd:=intKind prog w) (k:=n) (x:= .int n tk) (adding:=true) (Q:=Q') (by simp[intKind,Value.isInt]) S.get rfl S.good.fits hel hq
 rw[show(intKind prog w).hash n=n from K1 h0 h1]at hscan
 refine hscan _ ?_
 by_cases hm:n∈ks
 ·obtain⟨j,hj⟩:=f1 (hmem.2 hm)
  rw[hj]
  refine wpAny_pure (wpAny_pure ?_)
  have:=hQ false s.heap (Heap.SameBut.refl a s.heap)
  rw[if_pos hm]at this
  exact this ⟨es,ep,t,S⟩
 ·rw[f2 fun g=>hm (hmem.1 g)]
  have h49:=S.len49 h0 h1 hm
  obtain⟨es1,t1,e1,p1,l1,q1,d1,z1,r1,m1,fit1⟩:=ZK (x:= .int n tk) S.good h0 h1
  have sz1:es1.size=es.size+1:=by rw[←Array.length_toList,p1.length_eq];simp
  have sm1:Sm es1:=by
   intro e he
   have:=p1.mem_iff.1 he
   rw[Array.toList_push]at this
   rcases List.mem_append.1 this with g|g
   ·exact S.sm e g
   ·rw[List.mem_singleton]at g;subst g;exact⟨⟨h0,h1⟩,tk,rfl⟩
  have pm1:(RB es1).Perm (ks++[n]):=by
   unfold RB
   refine(p1.map _).trans ?_
   rw[Array.toList_push,List.map_append]
   exact S.perm.append (List.Perm.refl _)
  have nd1:(ks++[n]).Nodup:=by
   rw[List.nodup_append]
   exact⟨S.nd,by simp,fun x hx y hy e=>by rw[List.mem_singleton]at hy;subst hy;subst e;exact hm hx⟩
  dsimp only
  rw[e1]
  dsimp only
  refine wpAny_bind (wpAny_pure ?_)
  rw[q1]
  simp only[↓reduceIte]
  refine wpAny_bind (wpAny_of_eq (hashByValue_scannable 8 rfl) ?_)
  simp only[plainKind,↓reduceIte,Bool.not_false,Bool.true_and]
  refine wpAny_bind (wpAny_storeSet_of S.get rfl ?_ (N2 (by omega)))
  have g1:=N3 S.get es1 t1
  have sb1:=Heap.SameBut.update s.heap a (Obj.putSet es1 t1)
  by_cases hfull:t1.tooFull=true
  ·rw[if_pos hfull]
   have hgr:SetTable.grown es1.size=es1.size*4:=by unfold SetTable.grown;rw[if_neg (by omega)]
   obtain⟨t2,es2,e2,g2,p2,_⟩:=UI (L:=Ld w) (t:=t1) (es:=es1) (wanted:=SetTable.grown es1.size) l1 q1 sm1 (by rw[hgr];omega) (by rw[hgr];omega)
   rw[e2]
   have sz2:es2.size=es1.size:=by rw[←Array.length_toList,p2.length_eq,Array.length_toList]
   dsimp only
   refine wpAny_bind (wpAny_pure ?_)
   refine wpAny_bind (wpAny_storeSet_of (es':=es2) g1 rfl ?_ (N2 (by omega)))
   refine wpAny_pure (wpAny_pure ?_)
   have:=hQ true _ (sb1.trans (Heap.SameBut.update _ a (Obj.putSet es2 t2)))
   rw[if_neg hm]at this
   exact this ⟨es2,_,t2,N3 g1 es2 t2,sm1.perm p2,(p2.map _).trans pm1,nd1,sz2▸g2⟩
  ·rw[if_neg hfull]
   refine wpAny_pure (wpAny_pure ?_)
   have:=hQ true _ sb1
   rw[if_neg hm]at this
   refine this ⟨es1,_,t1,g1,sm1,pm1,nd1,l1,q1,d1,by rw[z1,sz1],r1,by rw[m1];exact S.good.mask,?_⟩
   have:t1.fill*5<t1.mask*3:=by
    unfold SetTable.tooFull at hfull
    simpa using hfull
   unfold SetTable.fill at this
   rw[z1,d1]at this
   rw[sz1];simpa using this
end
end ST
set_option maxHeartbeats 1000000
namespace ST
open PySem PySem.W PyProof.Rows
theorem D6:Slot "set_iterator" "__next__" "set_iterator.__next__":= .of (owner:= "set_iterator") (n:= "__next__")
 (by rw[typeLookup_type,builtinLookup_eq_fast];kernel_rfl) (by decide+kernel) (by decide+kernel) (by decide+kernel) (by first|exact .inl (by decide+kernel)|exact .inr (by decide+kernel)) (by rw[isSubtype_type];kernel_rfl)
theorem KU:Slot "set_iterator" "__iter__" "set_iterator.__iter__":= .of (owner:= "set_iterator") (n:= "__iter__")
 (by rw[typeLookup_type,builtinLookup_eq_fast];kernel_rfl) (by decide+kernel) (by decide+kernel) (by decide+kernel) (by first|exact .inl (by decide+kernel)|exact .inr (by decide+kernel)) (by rw[isSubtype_type];kernel_rfl)
theorem JL:entryFor table "set_iterator.__next__"=some Builtin.«set_iterator.__next__»:=entryFor_of_tree (by kernel_rfl)
theorem OS:entryFor table "set_iterator.__iter__"=some Builtin.«dict_keyiterator.__iter__»:=entryFor_alias (id':= "dict_keyiterator.__iter__") (by kernel_rfl) rfl (by decide+kernel) (by kernel_rfl)
theorem SF:Manifest.owners.lookup (String.ofList ['r','o','t','a','r','e','t','i','_','t','e','s'].reverse)=some Manifest.sig_set_iterator:=by kernel_rfl
theorem KJ (a:Value):argsOk "set_iterator.__next__" ⟨[a],[]⟩:=by
 unfold argsOk;rw[signature?_of (id:= "set_iterator.__next__") (n:=['_','_','t','x','e','n','_','_']) (o:=['r','o','t','a','r','e','t','i','_','t','e','s']) (by kernel_rfl) SF];kernel_rfl
theorem QB (a:Value):argsOk "set_iterator.__iter__" ⟨[a],[]⟩:=by
 unfold argsOk;rw[signature?_of (id:= "set_iterator.__iter__") (n:=['_','_','r','e','t','i','_','_']) (o:=['r','o','t','a','r','e','t','i','_','t','e','s']) (by kernel_rfl) SF];kernel_rfl
theorem OA:entryFor table "set.__iter__"=some Builtin.«frozenset.__iter__»:=entryFor_alias (id':= "frozenset.__iter__") (by kernel_rfl) rfl (by decide+kernel) (by kernel_rfl)
def EH (w:World) (a:Addr) (ep:Nat) (es:Array (Int×Value)):Array (Int×Value):=if w.params.followText "set-order"=true then pickOrder (w.params.setOrder a ep) es else es
theorem O6 {α:Type}:∀(l:List α) (i:Nat) (h:i<l.length),(l[i]::l.eraseIdx i).Perm l
 |x::l,0,_=>List.Perm.refl _
 |x::l,i+1,h=>(List.Perm.swap x (l[i]'(by simpa using h)) (l.eraseIdx i)).trans ((O6 l i (by simpa using h)).cons x)
theorem XQ {α:Type} (next:Nat→Nat):∀(n k:Nat) (l:List α) (out:Array α),n=l.length→(pickOrder.go next n k l out).toList.Perm (out.toList++l)
 |0,_,[],out,_=>by simp[pickOrder.go]
 |n+1,k,l,out,h=>by
  have hl:next k % l.length<l.length:=Nat.mod_lt _ (by omega)
  unfold pickOrder.go
  rw[List.getElem?_eq_getElem hl]
  dsimp only
  refine(XQ next n (k+1) (l.eraseIdx (next k % l.length)) _ (by rw[List.length_eraseIdx_of_lt hl];omega)).trans ?_
  rw[Array.toList_push,List.append_assoc]
  refine List.Perm.append (List.Perm.refl _) ?_
  rw[List.singleton_append]
  exact O6 l _ hl
theorem HL (w:World) (a:Addr) (ep:Nat) (es:Array (Int×Value)):(EH w a ep es).toList.Perm es.toList:=by
 unfold EH
 split
 ·have:=XQ (w.params.setOrder a ep) es.size 0 es.toList #[] (by simp)
  simpa[pickOrder]using this
 ·exact List.Perm.refl _
theorem JT (w:World) (a:Addr) (ep:Nat) (es:Array (Int×Value)):(EH w a ep es).size=es.size:=by
 rw[←Array.length_toList,(HL w a ep es).length_eq,Array.length_toList]
def mN (a:Addr) (sl i n ep:Nat):Obj:={cls:= .type "set_iterator",data:= .fields #[.int sl 0, .int i 0, .ref a, .int n 0, .int ep 0]}
structure ItAt (w:World) (h:Heap) (I a:Addr) (i n ep:Nat) (t:SetTable):Prop where
 there:∃sl,(w.params.followText "set-order"=false→SetTable.below t.place sl=i)∧∃o,h.get? I=some o∧o.cls= .type "set_iterator"∧o.data= .fields #[.int sl 0, .int i 0, .ref a, .int n 0, .int ep 0]
theorem V1 {xs:Array Nat} (hr:Ris xs):SetTable.below xs 0=0:=by
 obtain⟨h1,_,h3⟩:=HB (xs:=xs) 0 hr
 rcases Nat.eq_zero_or_pos (SetTable.below xs 0) with e|e
 ·exact e
 ·obtain⟨v,hv⟩:=some_of (xs:=xs) (k:=0) (by omega)
  exact absurd (h1 0 v e hv) (Nat.not_lt_zero _)
theorem V5 {xs:Array Nat} (hr:Ris xs) {i j:Nat} (h:xs[i]? =some j):SetTable.below xs (j+1)=i+1:=by
 obtain⟨h1,h2,h3⟩:=HB (xs:=xs) (j+1) hr
 have hi:i<xs.size:=by
  rcases Nat.lt_or_ge i xs.size with g|g
  ·exact g
  ·rw[Array.getElem?_eq_none g]at h;cases h
 rcases Nat.lt_trichotomy (SetTable.below xs (j+1)) (i+1) with g|g|g
 ·have:=h2 i j (by omega) h;omega
 ·exact g
 ·obtain⟨v,hv⟩:=some_of (xs:=xs) (k:=i+1) (by omega)
  have:=h1 (i+1) v g hv
  have:=hr.lt h hv (by omega)
  omega
section
variable {prog:Program} {w:World} {A:Around} {E:Value→Shared→Prop} {s:Shared} {a:Addr} {ks:List Int} {es:Array (Int×Value)} {ep:Nat} {t:SetTable}
theorem SetAt.typeIs (S:SetAt w s.heap a ks es ep t):s.TypeIs (.ref a) "set":=⟨_,S.get,rfl⟩
theorem DV {Q:(Array (Int×Value)×Nat×SetTable)→Shared→Prop} (S:SetAt w s.heap a ks es ep t) (h:Q (es,ep,t) s):wpAny (model prog w) A (setState a) Q E s:=wpAny_setState_of S.get rfl S.good.fits h
theorem L4 {Q:Bool→Shared→Prop} (h:Q (w.params.followText "set-order") s):wpAny (model prog w) A setsByText Q E s:=by
 unfold setsByText
 exact wpAny_bind (wpAny_askSetting (wpAny_pure h))
theorem fZ {Q:Bool→Shared→Prop} (hT:s.TypeIs (.ref a) "set") (h:Q false s):wpAny (model prog w) A (Builtin.List.listLengthHint (.ref a)) Q E s:=by
 unfold Builtin.List.listLengthHint
 refine wpAny_bind (wpAny_specialOf hT PySem.F.slot_set_len.lookup ?_)
 generalize hid:("set.__len__":String)=id0
 wp_delta
 rw[show splitId id0=some ("set","__len__") from by subst hid;decide+kernel]
 subst hid
 refine wpAny_bind (wpAny_isInstance (T:= "set") (b:=true) hT (by rw[isSubtype_type];kernel_rfl) ?_)
 refine wpAny_ite_split (fun hab=>absurd hab (by decide)) (fun _=> ?_)
 refine wpAny_ite_split (fun _=> ?_) (fun hab=>absurd (by decide+kernel) hab)
 exact wpAny_bind (wpAny_typeOf hT (wpAny_pure h))
theorem g7 {Q:Bool→Shared→Prop} (S:SetAt w s.heap a ks es ep t) (h:Q false s):wpAny (model prog w) A (setDrawn a) Q E s:=by
 unfold setDrawn
 refine wpAny_bind (DV S ?_);dsimp only
 refine wpAny_bind (L4 (wpAny_pure ?_))
 have:(!w.params.followText "set-order" &&(!t.plain&&decide (es.size>1)))=false:=by rw[S.good.plain];simp
 exact this▸h
theorem kH {Q:Value→Shared→Prop} (S:SetAt w s.heap a ks es ep t) (hQ:Q (.ref s.heap.objs.size) {s with heap:=s.heap.push (mN a 0 0 es.size ep)}):wpAny (model prog w) A (pyIter (.ref a)) Q E s:=by
 refine wpAny_pyIter_slot S.typeIs PySem.F.slot_set_iter (wpAny_call_entry PySem.F.slot_set_iter S.typeIs OA ?_ (PySem.F.args_set_iter_1 _))
 unfold Builtin.«frozenset.__iter__»
 refine wpAny_bind (wpAny_bind (m:=slotArgs "__iter__" 0 _) (wpAny_pure (wpAny_pure ?_)))
 refine wpAny_bind (wpAny_bind (wpAny_setEntries_of S.get rfl S.good.fits (wpAny_pure ?_)))
 refine wpAny_bind (g7 S ?_)
 simp only[Bool.false_eq_true,if_false]
 refine wpAny_bind (wpAny_pure (wpAny_bind (wpAny_setEpoch_of S.get rfl S.good.fits ?_)))
 refine wpAny_bind (wpAny_newObj_type (wpAny_pure ⟨_,rfl,"set_iterator",_,⟨_,Heap.get?_push_size _ rfl,rfl⟩,D6.lookup,?_⟩))
 simpa[rawInt,mN]using hQ
theorem WP {Q:Array (Int×Value)→Shared→Prop} (S:SetAt w s.heap a ks es ep t) (h:Q (EH w a ep es) s):wpAny (model prog w) A (setWalk a) Q E s:=by
 unfold setWalk EH at*
 refine wpAny_bind (DV S ?_);dsimp only
 refine wpAny_bind (L4 ?_)
 by_cases hb:w.params.followText "set-order"=true
 ·rw[if_pos hb]at h⊢
  exact wpAny_bind (wpAny_askSetting (wpAny_pure h))
 ·rw[if_neg hb]at h⊢
  have hl:t.led=true:=by rw[S.good.led];simpa[Ld]using hb
  have hd:(!t.plain&&decide (es.size>1))=false:=by rw[S.good.plain];rfl
  refine wpAny_ite_split (fun hab=>absurd (hd.symm.trans hab) (by decide)) (fun _=> ?_)
  refine wpAny_bind (wpAny_ite_split (fun hab=> ?_) (fun _=>wpAny_pure (wpAny_pure h)))
  rw[hl]at hab;simp at hab
theorem X2 {sl i:Nat} {Q:Option (Value×Nat)→Shared→Prop} (S:SetAt w s.heap a ks es ep t) (hsl:w.params.followText "set-order"=false→SetTable.below t.place sl=i)
 (h1:∀x sl',(EH w a ep es)[i]? =some x→(w.params.followText "set-order"=false→SetTable.below t.place sl'=i+1)→Q (some (x.2,sl')) s) (h2:(EH w a ep es)[i]? =none→Q none s):wpAny (model prog w) A (setNext a sl i ep) Q E s:=by
 unfold setNext
 refine wpAny_bind (DV S ?_);dsimp only
 refine wpAny_bind (L4 ?_)
 by_cases hb:w.params.followText "set-order"=true
 ·rw[if_pos hb]
  refine wpAny_ite_split (fun hab=>absurd hab (by simp)) (fun _=> ?_)
  refine wpAny_bind (WP S (wpAny_pure ?_))
  cases hx:(EH w a ep es)[i]?with
  |none=>exact h2 hx
  |some x=>exact h1 x sl hx fun g=>by rw[hb]at g;cases g
 ·rw[if_neg hb]
  have hl:t.led=true:=by rw[S.good.led];simpa[Ld]using hb
  have ho:EH w a ep es=es:=by unfold EH;rw[if_neg hb]
  have hd:(!t.plain&&decide (es.size>1))=false:=by rw[S.good.plain];rfl
  refine wpAny_ite_split (fun hab=>absurd (hd.symm.trans hab) (by decide)) (fun _=> ?_)
  refine wpAny_bind (wpAny_ite_split (fun hab=> ?_) (fun _=>wpAny_pure (wpAny_pure ?_)))
  ·rw[hl]at hab;simp at hab
  ·rw[hsl (by simpa using hb)]
   rw[ho]at h1 h2
   cases hx:es[i]?with
   |none=>exact h2 hx
   |some x=>
    have hi:i<t.place.size:=by
     rw[S.good.size]
     rcases Nat.lt_or_ge i es.size with g|g
     ·exact g
     ·rw[Array.getElem?_eq_none g]at hx;cases hx
    obtain⟨j,hj⟩:=some_of hi
    rw[hj]
    exact h1 x (j+1) hx fun _=>V5 S.good.ris hj
theorem ItAt.typeIs {I i n:Nat} (x:ItAt w s.heap I a i n ep t):s.TypeIs (.ref I) "set_iterator":=let⟨_,_,o,ho,hc,_⟩:=x.there;⟨o,ho,hc⟩
theorem k7 {I i:Nat} {Q:Option Value→Shared→Prop} (x:ItAt w s.heap I a i es.size ep t) (S:SetAt w s.heap a ks es ep t) (hi:i<es.size)
 (hQ:∀v h',(EH w a ep es)[i]?.map (·.2)=some v→ItAt w h' I a (i+1) es.size ep t→Heap.SameBut I s.heap h'→Q (some v) {s with heap:=h'}):wpAny (model prog w) A (pyNext (.ref I)) Q E s:=by
 obtain⟨sl,hsl,o,ho,hc,hd⟩:=x.there
 unfold pyNext
 refine wpAny_bind (wpAny_attempt (wpAny_callSpecial?_slot (name:=Str.ofString "__next__") x.typeIs D6 (wpAny_call_entry D6 x.typeIs JL ?_ (KJ _))))
 unfold Builtin.«set_iterator.__next__»
 refine wpAny_bind (m:=slotArgs "__next__" 0 _) (wpAny_pure ?_)
 refine wpAny_bind (wpAny_fieldsOf ho hd ?_);dsimp only
 refine wpAny_bind (wpAny_setEntries_of S.get rfl S.good.fits ?_)
 refine wpAny_ite_split (fun hab=>absurd hab (by simp)) (fun _=> ?_)
 simp only[Int.toNat_natCast]
 refine wpAny_bind (X2 S hsl (fun y sl' hy hsl'=> ?_) fun hn=> ?_)
 ·dsimp only
  refine wpAny_bind (wpAny_setField ho hd (by simp) ?_)
  have g1:=Heap.get?_update_self (Obj.mapFields (·.setIfInBounds 0 (rawInt (sl':Int)))) ho (Obj.isFreed_of_fields (Obj.data_mapFields hd _))
  refine wpAny_bind (wpAny_setField g1 (Obj.data_mapFields hd _) (by simp) ?_)
  refine wpAny_pure ⟨_,rfl,wpAny_pure (hQ _ _ (by rw[hy];rfl) ⟨sl',hsl',_,Heap.get?_update_self _ g1 (Obj.isFreed_of_fields (Obj.data_mapFields (Obj.data_mapFields hd _) _)),?_,?_⟩ ((Heap.SameBut.update ..).trans (Heap.SameBut.update ..)))⟩
  ·exact((Obj.cls_mapFields ..).trans (Obj.cls_mapFields ..)).trans hc
  ·rw[Obj.data_mapFields (Obj.data_mapFields hd _)];simp[rawInt]
 ·rw[Array.getElem?_eq_none_iff,JT]at hn
  omega
theorem rQ {I:Nat} {Q:Option Value→Shared→Prop} (hh:A.handled=none) (x:ItAt w s.heap I a es.size es.size ep t) (S:SetAt w s.heap a ks es ep t)
 (hQ:∀h',Heap.ExtBut I s.heap h'→Q none {s with heap:=h'}):wpAny (model prog w) A (pyNext (.ref I)) Q E s:=by
 obtain⟨sl,hsl,o,ho,hc,hd⟩:=x.there
 unfold pyNext
 refine wpAny_bind (wpAny_attempt (wpAny_callSpecial?_slot (name:=Str.ofString "__next__") x.typeIs D6 (wpAny_call_entry D6 x.typeIs JL ?_ (KJ _))))
 unfold Builtin.«set_iterator.__next__»
 refine wpAny_bind (m:=slotArgs "__next__" 0 _) (wpAny_pure ?_)
 refine wpAny_bind (wpAny_fieldsOf ho hd ?_);dsimp only
 refine wpAny_bind (wpAny_setEntries_of S.get rfl S.good.fits ?_)
 refine wpAny_ite_split (fun hab=>absurd hab (by simp)) (fun _=> ?_)
 simp only[Int.toNat_natCast]
 refine wpAny_bind (X2 S hsl (fun y sl' hy hsl'=> ?_) fun hn=> ?_)
 ·have:=(Array.getElem?_eq_some_iff.1 hy).1
  rw[JT]at this;omega
 ·dsimp only
  refine wpAny_bind (wpAny_setField ho hd (by simp) ?_)
  refine wpAny_bind ?_
  simp only[newExc,newTuple]
  refine wpAny_bind (wpAny_newObj_type ?_ (by size_fits))
  refine wpAny_bind (m:=firstArgMember _ _) (wpAny_of_eq (a:=Value.none) (by first|rfl|(simp only[firstArgMember];rfl)) (wpAny_newObj_type ?_ (by size_fits)))
  simp only[raiseNew]
  refine wpAny_bind (wpAny_handled ?_);rw[show A.in1.handled=none from hh]
  refine wpAny_bind (wpAny_pure (wpAny_throw ?_));refine wpAny_bind (wpAny_isInstance (T:= "StopIteration") (b:=true) ⟨_,Heap.get?_push_size _ rfl,rfl⟩ isSubtype_stop (wpAny_pure ?_))
  exact hQ _ (((Heap.SameBut.update ..).extBut.push _).push _)
theorem m4 {I i n:Nat} {Q:Value→Shared→Prop} (x:ItAt w s.heap I a i n ep t) (h:Q (.ref I) s):wpAny (model prog w) A (pyIter (.ref I)) Q E s:=by
 refine wpAny_pyIter_slot x.typeIs KU (wpAny_call_entry KU x.typeIs OS ?_ (QB _))
 show wpAny _ _ (ret (.ref I)) _ _ s
 exact wpAny_pure ⟨_,rfl,"set_iterator",_,x.typeIs,D6.lookup,h⟩
end
theorem SetAt.at {w:World} {h h':Heap} {a:Addr} {ks:List Int} {es:Array (Int×Value)} {ep:Nat} {t:SetTable} (S:SetAt w h a ks es ep t) (k:∀o,h.get? a=some o→h'.get? a=some o):SetAt w h' a ks es ep t:=⟨k _ S.get,S.sm,S.perm,S.nd,S.good⟩
theorem eA {prog:Program} {w:World} {A:Around} (hh:A.handled=none) (I a:Addr) (hne:a≠I) (ks:List Int) (es:Array (Int×Value)) (ep:Nat) (t:SetTable):
 Walks prog w A I [I,a] [I] es.size (fun i v=>(EH w a ep es)[i]?.map (·.2)=some v) (fun i h=>ItAt w h I a i es.size ep t∧SetAt w h a ks es ep t) where
 sub:=fun b hb=>by simp at hb;simp[hb]
 frame:=fun _ _ _ st hk=>⟨let⟨sl,q,o,ho,r⟩:=st.1.there;⟨sl,q,o,hk I (by simp) o ho,r⟩,st.2.at fun o e=>hk a (by simp) o e⟩
 item:=fun i s Q E hi st hQ=>k7 st.1 st.2 hi fun v h' hv hit hs=>hQ v h' s.toks hv ⟨hit,st.2.at fun o e=>hs.extBut a o hne e⟩ fun b o hb e=>hs.extBut b o (fun h=>hb (by simp[h])) e
 done:=fun s Q E st hQ=>rQ hh st.1 st.2 fun h' he'=>hQ h' s.toks fun b o hb e=>he' b o (fun h=>hb (by simp[h])) e
 self:=fun _ _ _ _ st hQ=>m4 st.1 hQ
theorem oC {prog:Program} {w:World} {a:Addr} {ks:List Int} {es:Array (Int×Value)} {ep:Nat} {t:SetTable}:
 KdlSrc prog w "set" a a es.size (fun i v=>(EH w a ep es)[i]?.map (·.2)=some v) (fun h=>SetAt w h a ks es ep t) where
 type:=fun _ S=>S.typeIs
 there:=fun _ S=>⟨Heap.lt_size S.get,Heap.lt_size S.get⟩
 keep:=fun _ _ S hk=>S.at fun o e=>hk a (.inl rfl) o e
 notList:=by decide
 notTuple:=by decide
 hint:=fun _ _ _ _ S hq=>fZ S.typeIs hq
 iter:=fun _ _ hh S=>⟨_,_,(fun _ _ hq=>kH S hq),eA hh _ a (Nat.ne_of_lt (Heap.lt_size S.get)) ks es ep t,⟨0,fun _=>V1 S.good.ris,_,Heap.get?_push_size _ rfl,rfl,rfl⟩,S.at fun o e=>Heap.get?_push_of_some _ e⟩
end ST
set_option maxHeartbeats 1000000
namespace ST
open PySem PySem.W PyProof.Rows
def smalls:List Int:=(List.range 50).map Int.ofNat
def Y4 (p:Int→Bool):List Int:=smalls.filter p
theorem P2:smalls.Pairwise (· < ·):=by decide+kernel
theorem smalls_nd:smalls.Nodup:=P2.imp fun{a b} h=>Int.ne_of_lt h
theorem mem_smalls {k:Int}:k∈smalls↔0≤k∧k<50:=by
 unfold smalls
 rw[List.mem_map]
 constructor
 ·rintro⟨n,hn,rfl⟩
  have:=List.mem_range.1 hn
  exact⟨Int.natCast_nonneg n,by show((n:Int))<50;omega⟩
 ·rintro⟨h0,h1⟩
  obtain⟨n,rfl⟩:=Int.eq_ofNat_of_zero_le h0
  exact⟨n,List.mem_range.2 (by omega),rfl⟩
theorem PM {p:Int→Bool} {k:Int}:k∈Y4 p↔(0≤k∧k<50)∧p k=true:=by
 unfold Y4;rw[List.mem_filter,mem_smalls]
theorem RQ {p:Int→Bool} {ns ks:List Int} (hs:ns.Pairwise (· ≤ ·)) (hp:ns.Perm ks) (hn:ks.Nodup) (hb:∀k∈ks,0≤k∧k<50) (hm:∀k,k∈ks↔((0≤k∧k<50)∧p k=true)):ns=Y4 p:=by
 refine List.Perm.eq_of_pairwise (le:=(· ≤ ·)) (fun a b _ _ h1 h2=>Int.le_antisymm h1 h2) hs ((P2.imp fun{a b} h=>Int.le_of_lt h).filter _) (hp.trans ?_)
 exact(List.perm_ext_iff_of_nodup hn (smalls_nd.filter _)).2 fun k=>(hm k).trans PM.symm
theorem iV {es:List (Int×Value)} (h:∀e∈es,(0≤e.1∧e.1<50)∧∃tk,e.2= .int e.1 tk):IntsAre (es.map (·.2)) (es.map (·.1)):=by
 induction es with
 |nil=>exact .nil
 |cons e es ih=>
  obtain⟨_,tk,h2⟩:=h e (by simp)
  rw[List.map_cons,List.map_cons,h2]
  exact .cons _ _ (ih fun e he=>h e (by simp[he]))
section
variable {prog:Program} {w:World} {A:Around} {E:Value→Shared→Prop} {s:Shared} {a:Addr} {ks:List Int}
theorem W6 {Q:Value→Shared→Prop} (hh:A.handled=none) (hS:OP w s.heap a ks)
 (h:∀(h':Heap) (tk:Nat) (D:Addr) (out:Array Value) (ns:List Int) (c:Nat),(∀b o,s.heap.get? b=some o→h'.get? b=some o)→s.heap.get? D=none→IntsAre out.toList ns→ns.Perm ks→ns.Pairwise (· ≤ ·)→h'.get? D=some (seqObj "list" out c)→Q (.ref D) {s with heap:=h',toks:=tk}):
 wpAny (model prog w) A (call (.builtin "sorted") [.ref a]) Q E s:=by
 obtain⟨es,ep,t,S⟩:=hS
 have hn:=S.le
 refine Calls.call_function_entry kind_sorted plain_sorted entry_sorted (args_sorted1 _) ?_
 unfold Builtin.«sorted»
 refine wpAny_bind (m:=checkCount "sorted" 1 1 _) (wpAny_pure ?_)
 refine wpAny_bind (ZT.SL oC hh S (by rw[sizeLine_eq];omega) fun h1 tk acc hk1 hacc=> ?_)
 have ha:acc.toList=(EH w a ep es).toList.map (·.2):=by
  apply List.ext_getElem?
  intro i
  rw[List.getElem?_map,Array.getElem?_toList,Array.getElem?_toList]
  rcases Nat.lt_or_ge i acc.size with g|g
  ·have:=hacc.2 i acc[i] (by simp[g])
   rw[this];simp[g]
  ·rw[Array.getElem?_eq_none g,Array.getElem?_eq_none (by rw[JT,←hacc.1];exact g)];rfl
 have hI:IntsAre acc.toList ((EH w a ep es).toList.map (·.1)):=by
  rw[ha];exact iV fun e he=>S.sm e ((HL w a ep es).mem_iff.1 he)
 have hl:acc.toList.length<64:=by rw[Array.length_toList,hacc.1];omega
 refine wpAny_bind (wpAny_newList ?_ (by rw[sizeLine_eq];omega))
 have hoL:(h1.push (seqObj "list" acc.toList.toArray 0)).get? h1.objs.size=some (seqObj "list" acc.toList.toArray 0):=Heap.get?_push_size _ rfl
 have hDn:s.heap.get? h1.objs.size=none:=by
  cases q:s.heap.get? h1.objs.size with
  |none=>rfl
  |some o=>exact absurd (Heap.lt_size (hk1 _ _ q)) (Nat.lt_irrefl _)
 refine wpAny_bind (wpAny_holding (wpAny_call_entry slot_list_sort ⟨_,hoL,rfl⟩ entry_list_sort (list_sort_tree hoL hI hl fun out ns' a1 a2 a3=>⟨_,rfl,?_⟩) (args_list_sort _)))
 refine wpAny_pure ⟨_,rfl,?_⟩
 obtain⟨e1,ho1⟩:∃e1,((h1.push (seqObj "list" acc.toList.toArray 0)).update h1.objs.size (Obj.mapSeq fun _=> #[])).get? h1.objs.size=some (seqObj "list" #[] e1):=⟨_,get?_update_seq hoL (fun _=> #[])⟩
 have ho6:((((h1.push (seqObj "list" acc.toList.toArray 0)).update h1.objs.size (Obj.mapSeq fun _=> #[])).push (seqObj "tuple" acc.toList.toArray 0)).push (seqObj "list" #[] 0)).get? h1.objs.size=some (seqObj "list" #[] e1):=Heap.get?_push_of_some _ (Heap.get?_push_of_some _ ho1)
 refine h _ tk h1.objs.size _ ns' _ (fun b o e=> ?_) hDn a1 (a2.trans (((HL w a ep es).map _).trans S.perm)) a3 (get?_update_seq ho6 _)
 have hb:b≠h1.objs.size:=Nat.ne_of_lt (Heap.lt_size (hk1 b o e))
 unfold sortedHeap
 exact(Heap.get?_update_other _ _ (Ne.symm hb)).trans (Heap.get?_push_of_some _ (Heap.get?_push_of_some _ ((Heap.get?_update_other _ _ (Ne.symm hb)).trans (Heap.get?_push_of_some _ (hk1 b o e)))))
def MP (w:World):Obj:=RV #[] 0 (.fresh 0 0 (Ld w))
theorem SO {h:Heap} (g:h.get? a=some (MP w)):SetAt w h a [] #[] 0 (.fresh 0 0 (Ld w)):=⟨g,fun e he=>by simp at he,List.Perm.refl _,List.nodup_nil,VS _⟩
theorem aD {Q:Value→Shared→Prop} (h:Q (.ref s.heap.objs.size) {s with heap:=s.heap.push (MP w)}):wpAny (model prog w) A (newSet (.type "set")) Q E s:=by
 unfold newSet
 refine wpAny_bind (L4 ?_);dsimp only
 simp only[newObj]
 exact wpAny_bind (wpAny_alloc (wpAny_pure h))
theorem gH (x:Value) {Q₁:Value→Shared→Prop} (h:Q₁ (.ref s.heap.objs.size) {s with heap:=s.heap.push (MP w)}):
 codeAny (model prog w) A (.call (.builtin "set.__new__") ⟨[.type "set",x],[]⟩) (wants Q₁ E) s:=by
 refine codeAny_of_tree ?_
 show wpAny _ A.in1 (checkBuiltinCall "set.__new__" ⟨[.type "set",x],[]⟩>>=fun _=>again (.builtin "set.__new__" ⟨[.type "set",x],[]⟩)) _ _ s
 refine wpAny_bind (wpAny_of_eq (PySem.F.newCall_set_1 x) (wpAny_pure ⟨plainId_quiet PySem.F.plain_set_new _,codeAny_builtin PySem.F.entry_set_new ?_⟩))
 rw[Around.under_plainId PySem.F.plain_set_new _];unfold Builtin.«set.__new__» Builtin.Frozenset.newClass
 have hsub:=sub_set_self
 obtain⟨hp,g,d,tk,os⟩:=s
 dsimp only
 wp_walk
 refine wpAny_askSetting (wpAny_pure ?_);dsimp only
 simp only[newObj];exact wpAny_bind (wpAny_alloc (wpAny_pure (wpAny_pure h)))
theorem eX {R:Result→Shared→Prop} {I:Addr} {fp wr:List Addr} {G:Array GenState→Array GenState→Prop} {n:Nat} {P:Nat→Value→Prop} {St:Nat→Shared→Prop}
 (W:WalksS prog w A.in1 I fp wr G n P St) (S:Addr) (hSf:S∉fp) (ns:List Int) (hb:∀k∈ns,0≤k∧k<50) (hn:ns.length=n) (hval:∀i v k,P i v→ns[i]? =some k→∃t,v= .int k t):
 ∀(j i:Nat) (s:Shared) (ks:List Int),n-i=j→i≤n→St i s→OP w s.heap S ks→(∀k,k∈ks↔k∈ns.take i)→
  (∀s' ks',Moved (S::wr) G s s'→OP w s'.heap S ks'→(∀k,k∈ks'↔k∈ns)→R (.ok (.ret .none)) s')→
  codeAny (model prog w) A (.builtin "set.update.loop" ⟨[.ref S, .ref I],[]⟩) R s:=by
 have hSw:S∉wr:=fun h=>hSf (W.sub _ h)
 have hsub:∀b∈wr,b∈S::wr:=fun b hb=>List.mem_cons_of_mem _ hb
 intro j
 induction j with
 |zero=>
  intro i s ks hk hi hst hS hm hR
  have hin:i=n:=by omega
  subst hin
  refine codeAny_builtin F.entry_set_update_loop ?_;rw[Around.under_plainId F.plain_set_update_loop _]
  show wpAny _ A.in1 (pyNext (.ref I)>>=_) _ _ s
  refine wpAny_bind (W.done s _ _ hst fun s' hm'=> ?_)
  show wpAny _ A.in1 (ret Value.none) _ _ s'
  obtain⟨es,ep,t,S'⟩:=hS
  exact wpAny_pure (hR s' ks (hm'.mono hsub) ⟨es,ep,t,S'.at fun o e=>hm'.heap S o hSw e⟩ fun k=>by rw[hm k,List.take_of_length_le (by omega)])
 |succ j ih=>
  intro i s ks hk hi hst hS hm hR
  have hlt:i<n:=by omega
  refine codeAny_builtin F.entry_set_update_loop ?_;rw[Around.under_plainId F.plain_set_update_loop _]
  show wpAny _ A.in1 (pyNext (.ref I)>>=_) _ _ s
  refine wpAny_bind (W.item i s _ _ hlt hst fun v s' hP hst' hm'=> ?_)
  have hk':ns[i]? =some ns[i]:=by simp[hn,hlt]
  obtain⟨tk,rfl⟩:=hval i v _ hP hk'
  obtain⟨b0,b1⟩:=hb ns[i] (by simp)
  have hS':OP w s'.heap S ks:=by
   obtain⟨es,ep,t,S'⟩:=hS
   exact⟨es,ep,t,S'.at fun o e=>hm'.heap S o hSw e⟩
  show wpAny _ A.in1 (holding [Value.int ns[i] tk] (setAdd S (.int ns[i] tk))>>=_) _ _ s'
  refine wpAny_bind (wpAny_holding ?_)
  unfold setAdd
  refine wpAny_holding (wpAny_bind (wpAny_pyHash_int ?_))
  rw[K1 b0 b1]
  refine bA (s:={s' with toks:=s'.toks+1}) hS' b0 b1 fun b h' hsb hS2=> ?_
  refine wpAny_pure ⟨plainId_quiet F.plain_set_update_loop _,ih (i+1) _ _ (by omega) hlt (W.frame _ s' _ _ hst' (Nat.le_succ _) fun c hc o e=> ?_) hS2 (fun k=> ?_) fun s'' ks' hm'' hS'' hks=> ?_⟩
  ·rw[hsb.2 c (fun h:c=S=>hSf (by rw[←h];exact hc))];exact e
  ·rw[List.take_succ,hk',List.mem_append,←hm k]
   split
   ·rename_i hin
    constructor
    ·exact .inl
    ·rintro(g|g)
     ·exact g
     ·simp at g;subst g;exact hin
   ·rw[List.mem_append];simp
  ·refine hR s'' ks' (Moved.trans W.gtrans ((hm'.mono hsub).then_heap (Nat.le_succ _) fun c o hc e=> ?_) hm'') hS'' hks
   rw[hsb.2 c (fun h:c=S=>hc (by rw[h];exact List.mem_cons_self))];exact e
theorem oX {l:Addr} {items:Array Value} {ns:List Int} {S:Addr} {Q:Unit→Shared→Prop} (hh:A.handled=none) (hl:s.heap.IsList l items) (hi:IntsAre items.toList ns) (hb:∀k∈ns,0≤k∧k<50) (hlS:l≠S) (hS:OP w s.heap S [])
 (h:∀h' tk ks,OP w h' S ks→(∀k,k∈ks↔k∈ns)→(∀b o,b≠S→s.heap.get? b=some o→h'.get? b=some o)→Q () {s with heap:=h',toks:=tk}):
 wpAny (model prog w) A (Builtin.Frozenset.updateFrom "set.__init__" S (.ref l)) Q E s:=by
 obtain⟨ol,hol,hcl,nl,hdl⟩:=id hl
 have hT:s.TypeIs (.ref l) "list":=⟨ol,hol,hcl⟩
 obtain⟨oS,hoS⟩:∃o,s.heap.get? S=some o:=let⟨_,_,_,x⟩:=hS;⟨_,x.get⟩
 have hlz:=Heap.lt_size hol
 have hSz:=Heap.lt_size hoS
 have hS1:OP w (s.heap.push {cls:= .type "list_iterator",data:= .fields #[.ref l, .int 0 0]}) S []:=let⟨es,ep,t,x⟩:=hS;⟨es,ep,t,x.at fun o e=>Heap.get?_push_of_some _ e⟩
 have hSf:S∉[s.heap.objs.size,l]:=by simp;exact⟨Nat.ne_of_lt hSz,Ne.symm hlS⟩
 unfold Builtin.Frozenset.updateFrom Builtin.Frozenset.isAnySet
 refine wpAny_bind (wpAny_bind (wpAny_isInstance hT F.sub_list_set ?_))
 refine wpAny_isInstance hT F.sub_list_frozenset ?_
 refine wpAny_ite_split (fun hab=>absurd hab (by decide)) (fun _=> ?_)
 refine wpAny_bind (wpAny_typeOf hT ?_)
 refine wpAny_ite_split (fun hab=>absurd hab (by decide)) (fun _=> ?_)
 refine wpAny_bind (wpAny_pyIter_list hl (wpAny_bind (wpAny_runValue ?_)))
 refine eX ((Walks.list (by simpa using hh) _ l (Nat.ne_of_lt hlz) items).toS) S hSf ns hb (by rw[←IntsAre.length hi];simp) (fun i v k hv hk=> ?_) items.size 0 _ [] (by omega) (Nat.zero_le _) ⟨⟨_,Heap.get?_push_size _ rfl,rfl,rfl⟩,hl.push _⟩ hS1 (fun k=>by simp) fun s' ks hm hS' hks=> ?_
 ·obtain⟨t,e⟩:=IntsAre.int_at hi i v (by rw[Array.getElem?_toList];exact hv)
  have:ns.getD i 0=k:=by rw[List.getD_eq_getElem?_getD,hk];rfl
  exact⟨t,this▸e⟩
 ·obtain⟨h',g',d',tk',os'⟩:=s'
  have eg:g'=s.gens:=hm.gens
  have ed:d'=s.drawn:=hm.drawn
  have eo:os'=s.os:=hm.os
  subst eg ed eo
  refine wpAny_pure (h h' tk' ks hS' hks fun b o hb e=>hm.heap b o ?_ (Heap.get?_push_of_some _ e))
  simp[hb,Nat.ne_of_lt (Heap.lt_size e)]
theorem eP {l:Addr} {items:Array Value} {ns:List Int} {Q:Value→Shared→Prop} (hh:A.handled=none) (hl:s.heap.IsList l items) (hi:IntsAre items.toList ns) (hb:∀k∈ns,0≤k∧k<50)
 (h:∀h' tk ks,OP w h' s.heap.objs.size ks→(∀k,k∈ks↔k∈ns)→(∀b o,s.heap.get? b=some o→h'.get? b=some o)→Q (.ref s.heap.objs.size) {s with heap:=h',toks:=tk}):
 wpAny (model prog w) A (call (.type "set") [.ref l]) Q E s:=by
 have hlz:l<s.heap.objs.size:=let⟨_,ho,_⟩:=hl;Heap.lt_size ho
 obtain⟨c,tl,hmro⟩:=F.called_set.mro
 have hmade:=F.called_set.made;have hsub:=F.called_set.sub
 refine wpAny_call (codeAny_of_tree ?_);show wpAny _ _ (callAny (.type "set") _) _ _ _
 refine wpAny_pure ⟨Code.quiet_builtin _ (by decide+kernel),codeAny_builtin F.entry_type_call ?_⟩;rw[Around.under_plain (weight_type_call_type "set" [.ref l] []) rfl]
 have h1:=F.called_set.notType;have h2:=F.called_set.canCreate;have hct:=F.typeCall_set_1 (.ref l)
 repeat (any_goals (first|assumption|wp_step))
 refine codeAny_mono (gH (.ref l) (E:=E) (Q₁:=fun obj s₁=>obj= .ref s.heap.objs.size∧s₁={s with heap:=s.heap.push (MP w)}) ⟨rfl,rfl⟩) fun r s₁ hr=> ?_
 cases r with
 |error e=>exact hr
 |ok fl=>
  cases fl with
  |ret obj=>
   obtain⟨rfl,rfl⟩:=hr
   have hS:(s.heap.push (MP w)).get? s.heap.objs.size=some (MP w):=Heap.get?_push_size _ rfl
   have hT:Shared.TypeIs {s with heap:=s.heap.push (MP w)} (.ref s.heap.objs.size) "set":=⟨_,hS,rfl⟩
   have hli:=F.called_set.init.lookup;have hbi:=F.called_set.init.bind (.ref s.heap.objs.size)
   repeat (any_goals (first|assumption|wp_step))
   refine codeAny_mono (codeAny_call_builtin (R:=wants (fun r s₂=>r= .none∧∃h' tk ks,s₂={s with heap:=h',toks:=tk}∧OP w h' s.heap.objs.size ks∧(∀k,k∈ks↔k∈ns)∧(∀b o,s.heap.get? b=some o→h'.get? b=some o)) E) F.called_set.init.plain F.entry_set_init (check_set_init_1 hT ?_)) fun r₂ s₂ hr₂=> ?_
   ·have hset:=SO hS
    have hlP:(s.heap.push (MP w)).IsList l items:=hl.push _
    unfold Builtin.«set.__init__» noKeywords
    generalize hU:Builtin.Frozenset.updateFrom=U
    have hdS:MP w={cls:= .type "set",dict:=none,data:= .set #[] 0 (.fresh 0 0 (Ld w))}:=rfl
    rw[hdS]at hS
    wp_walk
    subst hU
    refine oX (s:={s with heap:=s.heap.push (MP w)}) (by simpa using hh) hlP hi hb (Nat.ne_of_lt hlz) ⟨_,_,_,hset⟩ fun h' tk ks a1 a2 a3=> ?_
    refine wpAny_pure ⟨rfl,h',tk,ks,rfl,a1,a2,fun b o e=>a3 b o (Nat.ne_of_lt (Heap.lt_size e)) (Heap.get?_push_of_some _ e)⟩
   ·cases r₂ with
    |error e=>exact hr₂
    |ok fl₂=>
     cases fl₂ with
     |ret r=>
      obtain⟨rfl,h',tk,ks,rfl,a1,a2,a3⟩:=hr₂
      repeat (any_goals (first|assumption|wp_step))
      exact h _ _ _ a1 a2 a3
     |_=>exact hr₂.elim
  |_=>exact hr.elim
end
end ST
set_option maxHeartbeats 1000000
namespace ST
open PySem PySem.W PyProof.Rows
section
variable {prog:Program} {w:World} {A:Around} {E:Value→Shared→Prop} {s:Shared} {a:Addr} {ks:List Int} {es:Array (Int×Value)} {ep:Nat} {t:SetTable}
theorem SetAt.fill (S:SetAt w s.heap a ks es ep t):t.fill=es.size:=by
 unfold SetTable.fill;rw[S.good.size,S.good.dum];rfl
theorem fK {es':Array (Int×Value)} {t':SetTable} {Q:Unit→Shared→Prop} (S:SetAt w s.heap a ks es ep t) (p:es'.toList.Perm es.toList) (g:Good (Ld w) t' es'.size)
 (h:∀h',Heap.SameBut a s.heap h'→SetAt w h' a ks es' (ep+1) t'→Q () {s with heap:=h'}):wpAny (model prog w) A (storeSet a es' t') Q E s:=by
 have hz:es'.size=es.size:=by rw[←Array.length_toList,p.length_eq,Array.length_toList]
 refine wpAny_storeSet_of S.get rfl ?_ (N2 (by have:=S.le;omega))
 exact h _ (Heap.SameBut.update ..) ⟨N3 S.get es' t',S.sm.perm p,(p.map _).trans S.perm,S.nd,g⟩
theorem eO {wanted:Nat} {Q:Unit→Shared→Prop} (S:SetAt w s.heap a ks es ep t) (hw:es.size*2≤wanted) (hw':wanted<256)
 (h:∀h' es' ep' t',Heap.SameBut a s.heap h'→SetAt w h' a ks es' ep' t'→wanted≤t'.mask→Q () {s with heap:=h'}):wpAny (model prog w) A (setRelay a wanted) Q E s:=by
 obtain⟨t',o,e1,g1,p1,_,m1⟩:=TD (n:=0) S.good.led S.good.plain S.sm hw hw'
 obtain⟨_,q2,q3⟩:=N5 hw'
 have hz:(o.filterMap (es[·]?)).size=es.size:=by rw[←Array.length_toList,p1.length_eq,Array.length_toList]
 unfold setRelay
 refine wpAny_bind (DV S ?_);dsimp only
 refine wpAny_ite_split (fun hab=>absurd hab (by rw[sizeLine_eq];omega)) (fun _=> ?_)
 rw[e1]
 refine wpAny_bind (wpAny_ite_split (fun hab=>absurd hab (by rw[hz];simp)) (fun _=>wpAny_pure ?_));dsimp only
 exact fK S p1 (hz▸g1) fun h' sb S'=>h h' _ _ _ sb S' (by rw[m1];exact q2)
theorem WF {n:Nat} {Q:Unit→Shared→Prop} (S:SetAt w s.heap a ks es ep t) (hn:n≤50)
 (h:∀h' es' ep' t',Heap.SameBut a s.heap h'→SetAt w h' a ks es' ep' t'→(es'.size+n)*5<t'.mask*3→Q () {s with heap:=h'}):wpAny (model prog w) A (setRoomFor a n) Q E s:=by
 have hle:=S.le
 unfold setRoomFor
 refine wpAny_bind (DV S ?_);dsimp only
 unfold SetTable.roomFor
 rw[S.fill,S.good.size]
 by_cases hc:(es.size+n)*5≥t.mask*3
 ·rw[if_pos hc]
  have h7:7≤t.mask:=by
   have:∀m∈G3,7≤m:=by decide
   exact this _ S.good.mask
  refine eO S (by omega) (by omega) fun h' es' ep' t' sb S' hm=>h h' es' ep' t' sb S' ?_
  have:es'.size=es.size:=by rw[S'.len,S.len]
  omega
 ·rw[if_neg hc]
  exact wpAny_pure (h s.heap es ep t (Heap.SameBut.refl _ _) S (by omega))
theorem ZY {os:List Addr} {f:Option Addr} {Q:Array (Int×Value)→Shared→Prop} (S:SetAt w s.heap a ks es ep t) (h:Q (EH w a ep es) s):wpAny (model prog w) A (setWalkUnseen a os f) Q E s:=by
 unfold setWalkUnseen
 refine wpAny_bind (DV S ?_);dsimp only
 refine wpAny_bind (L4 ?_)
 refine wpAny_ite_split (fun _=>WP S h) (fun hab=>absurd ?_ hab)
 rw[S.good.led,S.good.plain]
 unfold Ld
 cases w.params.followText "set-order" <;>rfl
theorem Q9 {b:Addr} {kb:List Int} {eb:Array (Int×Value)} {epb:Nat} {tb:SetTable} (hab:a≠b) {each:Sem Unit} (heach:∀(s:Shared) (Q:Unit→Shared→Prop),SetAt w s.heap b kb eb epb tb→Q () s→wpAny (model prog w) A each Q E s):
 ∀(l:List (Int×Value)) (s:Shared) (ks:List Int) {Q:PUnit→Shared→Prop},(∀e∈l,(0≤e.1∧e.1<50)∧∃tk,e.2= .int e.1 tk)→OP w s.heap a ks→SetAt w s.heap b kb eb epb tb→
  (∀h' ks',Heap.SameBut a s.heap h'→OP w h' a ks'→(∀k,k∈ks'↔k∈ks∨k∈l.map (·.1))→Q ⟨⟩ {s with heap:=h'})→
  wpAny (model prog w) A (forIn l PUnit.unit fun(p:Int×Value) _=>do
   let _←holding [p.2] (setAddHashed a p.2 p.1)
   each
   if(←setState b).2.1 !=epb then unsupported "set.changed-during-merge"
   pure (ForInStep.yield PUnit.unit)) Q E s
 |[],s,ks,Q,_,hS,hb,h=>by
  rw[List.forIn_nil]
  exact wpAny_pure (h s.heap ks (Heap.SameBut.refl _ _) hS fun k=>by simp)
 |e::l,s,ks,Q,hl,hS,hb,h=>by
  obtain⟨⟨b0,b1⟩,tk,e2⟩:=hl e (by simp)
  obtain⟨k,v⟩:=e
  dsimp only at b0 b1 e2
  subst e2
  rw[List.forIn_cons]
  refine wpAny_bind (wpAny_bind (wpAny_holding (bA hS b0 b1 fun r h1 sb1 hS1=> ?_)))
  have hb1:SetAt w h1 b kb eb epb tb:=hb.at fun o ho=>by rw[sb1.2 b (Ne.symm hab)];exact ho
  refine wpAny_bind (heach {s with heap:=h1} _ hb1 (wpAny_bind (DV (s:={s with heap:=h1}) hb1 ?_)));dsimp only
  refine wpAny_ite_split (fun hne=>absurd hne (by simp)) (fun _=>wpAny_pure ?_);dsimp only
  refine Q9 hab heach l {s with heap:=h1} _ (fun e he=>hl e (by simp[he])) hS1 hb1 fun h' ks' sb hS' hm=>h h' ks' (sb1.trans sb) hS' fun x=> ?_
  rw[hm x,List.map_cons,List.mem_cons]
  split
  ·rename_i hin
   constructor
   ·rintro(g|g)
    ·exact .inl g
    ·exact .inr (.inr g)
   ·rintro(g|g|g)
    ·exact .inl g
    ·subst g;exact .inl hin
    ·exact .inr g
  ·rw[List.mem_append]
   simp[or_assoc]
theorem TQ {b:Addr} {kb:List Int} {each:Sem Unit} {Q:Unit→Shared→Prop} (hab:a≠b) (hS:OP w s.heap a ks) {eb:Array (Int×Value)} {epb:Nat} {tb:SetTable} (B:SetAt w s.heap b kb eb epb tb)
 (heach:∀(s:Shared) (Q:Unit→Shared→Prop),SetAt w s.heap b kb eb epb tb→Q () s→wpAny (model prog w) A each Q E s)
 (h:∀h' ks',Heap.SameBut a s.heap h'→OP w h' a ks'→(∀k,k∈ks'↔k∈ks∨k∈kb)→Q () {s with heap:=h'}):wpAny (model prog w) A (setMerge a b each) Q E s:=by
 obtain⟨es,ep,t,S⟩:=hS
 have hbl:=B.le
 have hkb:∀{l:List (Int×Value)},l.Perm eb.toList→∀k,k∈l.map (·.1)↔k∈kb:=fun p k=>((p.map _).trans B.perm).mem_iff
 unfold setMerge
 refine wpAny_ite_split (fun e=>absurd (eq_of_beq e) hab) (fun _=> ?_)
 refine wpAny_bind (DV B ?_);dsimp only
 refine wpAny_ite_split (fun e=> ?_) (fun hne=> ?_)
 ·have hz:eb.size=0:=by simpa using e
  have hk:kb=[]:=by
   have:=B.len
   rw[hz]at this
   exact List.length_eq_zero_iff.1 this.symm
  exact wpAny_pure (h s.heap ks (Heap.SameBut.refl _ _) ⟨es,ep,t,S⟩ fun k=>by simp[hk])
 refine wpAny_bind (WF S hbl fun h1 es1 ep1 t1 sb1 S1 hroom=> ?_)
 have B1:SetAt w h1 b kb eb epb tb:=B.at fun o ho=>by rw[sb1.2 b (Ne.symm hab)];exact ho
 refine wpAny_bind (DV (s:={s with heap:=h1}) S1 ?_);dsimp only
 have hf:t1.fill=es1.size:=SetAt.fill (s:={s with heap:=h1}) S1
 unfold SetTable.road
 rw[hf]
 by_cases hz:es1.size=0
 ·have hk:ks=[]:=by
   have:=S1.len
   rw[hz]at this
   exact List.length_eq_zero_iff.1 this.symm
  have fin:∀(es2:Array (Int×Value)) (t2:SetTable),es2.toList.Perm eb.toList→Good (Ld w) t2 es2.size→wpAny (model prog w) A (storeSet a es2 t2) Q E {s with heap:=h1}:=fun es2 t2 p g=>by
   have hz2:es2.size=eb.size:=by rw[←Array.length_toList,p.length_eq,Array.length_toList]
   refine wpAny_storeSet_of S1.get rfl ?_ (N2 (by omega))
   refine h _ kb (sb1.trans (Heap.SameBut.update ..)) ⟨es2,_,t2,N3 S1.get es2 t2,B.sm.perm p,(p.map _).trans B.perm,B.nd,g⟩ fun k=>by simp[hk]
  rw[if_neg (by simp[hz])]
  by_cases hm:(t1.mask==tb.mask&&tb.dummies.isEmpty)=true
  ·rw[if_pos hm];dsimp only
   exact fin eb _ (List.Perm.refl _) ⟨by rw[S1.good.led,B.good.led];simp,by rw[S1.good.plain,B.good.plain];rfl,B.good.dum,B.good.size,B.good.ris,B.good.mask,B.good.few⟩
  ·rw[if_neg hm];dsimp only
   rw[S1.good.led,S1.good.plain,B.good.led,B.good.plain,Bool.and_self,Bool.and_self]
   obtain⟨t',o,e1,g1,p1,_,m1⟩:=WT (L:=Ld w) (f:=t1.finger) (mv:=t1.moves) S1.good.mask (es:=eb) (by omega) B.sm
   have hz3:(o.filterMap (eb[·]?)).size=eb.size:=by rw[←Array.length_toList,p1.length_eq,Array.length_toList]
   rw[e1]
   refine wpAny_bind (wpAny_ite_split (fun hab=>absurd hab (by rw[hz3];simp)) (fun _=>wpAny_pure ?_));dsimp only
   exact fin _ _ p1 (hz3▸g1)
 ·rw[if_pos (by simp[hz])]
  dsimp only
  refine wpAny_bind (ZY (s:={s with heap:=h1}) B1 ?_)
  have hp:=HL w b epb eb
  rw[←Array.forIn_toList]
  refine wpAny_bind (Q9 hab heach (EH w b epb eb).toList {s with heap:=h1} ks (fun e he=>B.sm e (hp.mem_iff.1 he)) ⟨es1,ep1,t1,S1⟩ B1 fun h' ks' sb hS' hm=>wpAny_pure ?_)
  exact h h' ks' (sb1.trans sb) hS' fun k=>by rw[hm k,hkb hp k]
theorem N8 {Q:Bool→Shared→Prop} (hT:s.TypeIs (.ref a) "set") (h:Q true s):wpAny (model prog w) A (Builtin.Frozenset.isAnySet (.ref a)) Q E s:=by
 unfold Builtin.Frozenset.isAnySet
 exact wpAny_bind (wpAny_isInstance hT sub_set_self (wpAny_pure h))
theorem hV {Q:Value→Shared→Prop} (hS:OP w s.heap a ks)
 (h:∀h' ks',OP w h' s.heap.objs.size ks'→(∀k,k∈ks'↔k∈ks)→h'.objs.size=s.heap.objs.size+1→(∀b o,s.heap.get? b=some o→h'.get? b=some o)→Q (.ref s.heap.objs.size) {s with heap:=h'}):
 wpAny (model prog w) A (Builtin.Frozenset.copyOf a) Q E s:=by
 obtain⟨es,ep,t,S⟩:=hS
 have hlt:=Heap.lt_size S.get
 have hne:s.heap.objs.size≠a:=Nat.ne_of_gt hlt
 unfold Builtin.Frozenset.copyOf Builtin.Frozenset.baseOf
 refine wpAny_bind (wpAny_bind (wpAny_isInstance S.typeIs sub_set_self (wpAny_pure ?_)))
 refine wpAny_bind (aD ?_)
 refine wpAny_bind (wpAny_pure ?_)
 have S':SetAt w (s.heap.push (MP w)) a ks es ep t:=S.at fun o e=>Heap.get?_push_of_some _ e
 refine wpAny_bind (TQ (s:={s with heap:=s.heap.push (MP w)}) hne ⟨_,_,_,SO (Heap.get?_push_size _ rfl)⟩ S' (fun s Q _ hq=>wpAny_pure hq) fun h' ks' sb hS' hm=>wpAny_pure ?_)
 exact h h' ks' hS' (fun k=>by rw[hm k];simp) (by rw[sb.1,Heap.size_push]) fun b o e=>by rw[sb.2 b (Nat.ne_of_lt (Heap.lt_size e))];exact Heap.get?_push_of_some _ e
theorem RC:entryFor table "set.__or__"=some Builtin.«frozenset.__or__»:=entryFor_alias (id':= "frozenset.__or__") (by kernel_rfl) rfl (by decide+kernel) (by kernel_rfl)
theorem kT {b:Addr} {kb:List Int} {Q:Value→Shared→Prop} (hab:a≠b) (hA:OP w s.heap a ks) (hB:OP w s.heap b kb)
 (h:∀h' ks',OP w h' s.heap.objs.size ks'→(∀k,k∈ks'↔k∈ks∨k∈kb)→(∀b o,s.heap.get? b=some o→h'.get? b=some o)→Q (.ref s.heap.objs.size) {s with heap:=h'}):
 wpAny (model prog w) A (binaryOp .BitOr (.ref a) (.ref b)) Q E s:=by
 have hTa:s.TypeIs (.ref a) "set":=let⟨_,_,_,x⟩:=hA;x.typeIs
 have hTb:s.TypeIs (.ref b) "set":=let⟨_,_,_,x⟩:=hB;x.typeIs
 have hbz:b<s.heap.objs.size:=let⟨_,_,_,x⟩:=hB;Heap.lt_size x.get
 refine wpAny_binaryOp_same (op:= .BitOr) hTa hTb PySem.F.fills_set_or PySem.F.slot_set_or (wpAny_call_entry PySem.F.slot_set_or hTa RC ?_ (PySem.F.args_set_or_2 _ _))
 unfold Builtin.«frozenset.__or__»
 refine wpAny_bind (m:=Builtin.Frozenset.slot1 "__or__" _) (wpAny_bind (m:=slotArgs "__or__" 1 _) (wpAny_pure (wpAny_pure ?_)))
 refine wpAny_bind (wpAny_bind (N8 hTa (N8 hTb ?_)))
 refine wpAny_ite_split (fun hne=>absurd hne (by decide)) (fun _=> ?_)
 refine wpAny_bind (wpAny_pure ?_)
 refine wpAny_bind (wpAny_bind (hV hA fun h1 k1 hS1 hm1 hz1 hk1=> ?_))
 have hB1:OP w h1 b kb:=let⟨es,ep,t,x⟩:=hB;⟨es,ep,t,x.at fun o e=>hk1 b o e⟩
 refine wpAny_ite_split (fun _=> ?_) (fun hne=>absurd (by simpa using Ne.symm hab) hne)
 refine wpAny_bind (wpAny_pure (wpAny_bind (wpAny_holding ?_)))
 unfold Builtin.Frozenset.updateFrom
 have hTb1:Shared.TypeIs {s with heap:=h1} (.ref b) "set":=let⟨_,_,_,x⟩:=hB1;⟨_,x.get,rfl⟩
 refine wpAny_bind (N8 hTb1 ?_)
 refine wpAny_ite_split (fun _=> ?_) (fun hne=>absurd rfl hne)
 refine wpAny_bind (wpAny_pure ?_)
 obtain⟨eb,epb,tb,B1⟩:=hB1
 unfold Builtin.Frozenset.merge
 refine wpAny_bind (wpAny_setEpoch_of (s:={s with heap:=h1}) B1.get rfl B1.good.fits ?_)
 refine TQ (s:={s with heap:=h1}) (Nat.ne_of_gt hbz) hS1 B1 (fun s' Q' hb' hq=> ?_) fun h' ks' sb hS' hm=> ?_
 ·unfold Builtin.Frozenset.unchanged
  refine wpAny_bind (wpAny_setEpoch_of hb'.get rfl hb'.good.fits (wpAny_ite_split (fun hne=>absurd hne (by simp)) (fun _=>wpAny_pure hq)))
 ·refine wpAny_pure (wpAny_pure ⟨_,rfl,by simp,h h' ks' hS' (fun k=>by rw[hm k,hm1 k]) fun c o e=> ?_⟩)
  rw[sb.2 c (Nat.ne_of_lt (Heap.lt_size e))];exact hk1 c o e
end
end ST
namespace L2
open PySem PySem.Spec PyProof.Rows
def setAt (w:World) (a:Addr) (ns:List Int):Heap→Prop:=fun h=>∃ks,ST.OP w h a ks∧∀k,k∈ks↔k∈ns
theorem setAt.small {w:World} {a:Addr} {ns:List Int} {h:Heap} (s:setAt w a ns h):∀k∈ns,0≤k∧k<50:=fun k hk=>let⟨_,⟨_,_,_,x⟩,hm⟩:=s;x.small k ((hm k).2 hk)
theorem setAt.ok {P:Program} {w:World} {a:Addr} {ns:List Int} {h:Heap} {H:Hp} (s:setAt w a ns h):ObjOk P w H h a (.ext (setAt w a ns)):=
 ⟨s,let⟨_,⟨_,_,_,x⟩,_⟩:=s;⟨_,x.get⟩,fun h1 h2 ⟨ks,⟨es,ep,t,x⟩,hm⟩ hk=>⟨ks,⟨es,ep,t,x.at hk⟩,hm⟩⟩
section
variable {X:Cx} {K:PySem.W.Frag}
def A0Y (K:PySem.W.Frag) (w:World):List V→Hp→VK→Prop:=fun xs H Q=>∃(p:Addr) (ns:List Int),xs=[.ref p]∧SqL K H p (ns.map V.int)∧(∀n∈ns,0≤n∧n<50)∧∀S,H S=none→Q (.ref S) (BT H S (.ext (setAt w S ns)))
theorem NP (hc:X.calm=true):DC X (.type "set") (A0Y X.K X.w):=by
 intro pins s σ H xs us Q I r h
 obtain⟨p,ns,rfl,hp,hb,q⟩:=h
 obtain⟨u,rfl,ru⟩:=G4 r
 obtain rfl:u=Value.ref p:=ru
 obtain⟨its,rv,pl,hz⟩:=I.list hp
 refine ST.eP (ns:=ns) (I.ok.hd hc) pl.isList (by simpa using SZ rv) hb fun h' tk ks hS hm hk=> ?_
 have hn:H s.heap.objs.size=none:=I.hok.fresh (Nat.le_refl _)
 exact⟨.ref _,BT H s.heap.objs.size (.ext (setAt X.w s.heap.objs.size ns)),I.laid (t':=tk) hk (Nat.le_refl _) (setAt.ok ⟨ks,hS,hm⟩),rfl,q _ hn⟩
def rOr (w:World):R2:=fun x y H Q=>∃(a b:Addr) (na nb:List Int),x= .ref a∧y= .ref b∧a≠b∧H a=some (.ext (setAt w a na))∧H b=some (.ext (setAt w b nb))∧∀S,H S=none→Q (.ref S) (BT H S (.ext (setAt w S (na++nb))))
theorem eK:OpR X (binaryOp .BitOr) (rOr X.w):=by
 intro pins s σ H x y v u Q I rx ry h
 obtain⟨a,b,na,nb,rfl,rfl,hab,ha,hb,q⟩:=h
 cases rx
 cases ry
 obtain⟨ka,sa,ma⟩:=(show ObjOk X.prog X.w H s.heap a (.ext (setAt X.w a na)) from I.hok _ _ ha).1
 obtain⟨kb,sb,mb⟩:=(show ObjOk X.prog X.w H s.heap b (.ext (setAt X.w b nb)) from I.hok _ _ hb).1
 refine ST.kT hab sa sb fun h' ks hS hm hk=> ?_
 have hn:H s.heap.objs.size=none:=I.hok.fresh (Nat.le_refl _)
 exact⟨.ref _,BT H s.heap.objs.size (.ext (setAt X.w s.heap.objs.size (na++nb))),I.laid (t':=s.toks) hk (Nat.le_refl _) (setAt.ok ⟨ks,hS,fun k=>by rw[hm k,ma k,mb k,List.mem_append]⟩),rfl,q _ hn⟩
def FV (ns:List Int):List Int:=ST.Y4 fun k=>decide (k∈ns)
def eY (w:World):List V→Hp→VK→Prop:=fun xs H Q=>∃(a:Addr) (ns:List Int),xs=[.ref a]∧H a=some (.ext (setAt w a ns))∧∀l,H l=none→Q (.ref l) (BT H l (.lst ((FV ns).map V.int)))
theorem UJ (ns:List Int):(FV ns).length≤50:=Nat.le_trans (List.length_filter_le _ _) (by decide)
theorem L0 (hc:X.calm=true):DC X (.builtin "sorted") (eY X.w):=by
 intro pins s σ H xs us Q I r h
 obtain⟨a,ns,rfl,ha,q⟩:=h
 obtain⟨u,rfl,ru⟩:=G4 r
 obtain rfl:u=Value.ref a:=ru
 have hset:=(show ObjOk X.prog X.w H s.heap a (.ext (setAt X.w a ns)) from I.hok _ _ ha).1
 have hsm:=hset.small
 obtain⟨ks,S,hm⟩:=hset
 refine ST.W6 (I.ok.hd hc) S fun h' tk D out ns' c hk hD h2 h3 h4 hg=> ?_
 have e:ns'=FV ns:=by
  obtain⟨es,ep,t,x⟩:=S
  refine ST.RQ h4 h3 x.nd x.small fun k=> ?_
  rw[decide_eq_true_eq,hm k]
  exact⟨fun z=>⟨hsm k z,z⟩,fun z=>z.2⟩
 subst e
 have hDn:=I.none_at hD
 refine⟨.ref D,BT H D (.lst ((FV ns).map V.int)),I.laids hk (B4 hDn _) fun b u e=> ?_,rfl,q D hDn⟩
 by_cases hb:b=D
 ·subst hb
  rw[B3]at e
  cases e
  refine .inr ⟨hD,⟨?_,out.toList,c,OL h2,by simpa using hg⟩⟩
  rw[List.length_map,sizeLine_eq]
  have:=UJ ns
  omega
 ·rw[AR hb]at e;exact .inl e
def gA (ns:List Int):Bool:=ns.all fun n=>decide (0≤n)&&decide (n<50)
theorem YG {ns:List Int} (h:gA ns=true):∀n∈ns,0≤n∧n<50:=fun n hn=>by
 have:=List.all_eq_true.1 h n hn
 simpa using this
def NZ (h:AA) (x:M):Option (List Int):=(GV h x).bind fun xs=>(T0 xs).bind fun ns=>if gA ns=true then some ns else none
theorem O3 {α:Pl} {h:AA} {H:Hp} {m:M} {v:V} {ns:List Int} (hr:Rl K α h H) (rm:RepA K α H m v) (e:NZ h m=some ns):∃p,v= .ref p∧SqL K H p (ns.map V.int)∧∀n∈ns,0≤n∧n<50:=by
 obtain⟨xs,e1,e⟩:=Option.bind_eq_some_iff.mp e
 obtain⟨ns',e2,e⟩:=Option.bind_eq_some_iff.mp e
 split at e
 ·rename_i hs
  cases e
  obtain⟨p,vs,rfl,sq,rs⟩:=DT hr rm e1
  rw[PY e2 rs]at sq
  exact⟨p,rfl,sq,YG hs⟩
 ·cases e
def ND (x:M) (h:AA):Option M:=(NZ h x).bind fun a=>some (.lst ((FV a).map M.int))
def bB (a b:FE):FE:=fun ρ h=>bnd (a ρ h) fun x h1=>(NZ h1 x).bind fun na=>bnd (b ρ h1) fun y h2=>(NZ h2 y).bind fun nb=>some (.lst ((FV (na++nb)).map M.int),h2)
variable {a b:Expr} {ma mb:FE} {p1 p2 p3 pos1 pos2 pos3 pos4:Pos}
theorem eE (hc:X.calm=true) (q1:NmOk X.env.scope "sorted" .globalImplicit) (m1:X.mg "sorted"=none) (q2:NmOk X.env.scope "set" .globalImplicit) (m2:X.mg "set"=none) (ha:PE X a (tM X.K ma)) (hb:PE X b (tM X.K mb)) (sa:BB a=true) (sb:BB b=true):
 PE X (.Call (.Name "sorted" p1) [.BinOp (.Call (.Name "set" p2) [a] [] pos2) .BitOr (.Call (.Name "set" p3) [b] [] pos3) pos4] [] pos1) (tM X.K (bB ma mb)):=
 (M8 (L0 hc) q1 m1 PyProof.Rows.boot_sorted (RM (dE eK (FH (NP hc) q2 m2 (by rfl) (RM ha HN sa) sa (by rfl)) (FH (NP hc) q2 m2 (by rfl) (RM hb HN sb) sb (by rfl))) HN (by rfl)) (by rfl) (by rfl)).imp fun σ H Q ⟨α,ρ,h,d,h',hσ,hr,e,k⟩=>by
 obtain⟨x,h1,e1,e⟩:=A8 e
 obtain⟨na,e2,e⟩:=Option.bind_eq_some_iff.mp e
 obtain⟨y,h2,e3,e⟩:=A8 e
 obtain⟨nb,e4,e⟩:=Option.bind_eq_some_iff.mp e
 cases e
 refine⟨α,ρ,h,x,h1,hσ,hr,e1,fun α1 H1 u ev1 hr1 rx=> ?_⟩
 obtain⟨p,rfl,sp,bp⟩:=O3 hr1 rx e2
 refine⟨p,na,rfl,sp,bp,fun S hS=> ?_⟩
 have s1:Same H1 (BT H1 S (.ext (setAt X.w S na))):=B4 hS _
 refine⟨α1,ρ,h1,y,_,(hσ.ev ev1).ev (.same s1),hr1.same s1,e3,fun α2 H2 v ev2 hr2 ry=> ?_⟩
 obtain⟨q,rfl,sq,bq⟩:=O3 hr2 ry e4
 have hS2:H2 S=some (.ext (setAt X.w S na)):=ev2.keep S _ B3 (.inl trivial) (hr1.newA hS)
 refine⟨q,nb,rfl,sq,bq,fun T hT=> ?_⟩
 have s2:Same H2 (BT H2 T (.ext (setAt X.w T nb))):=B4 hT _
 have hne:S≠T:=fun z=>by rw[z,hT]at hS2;cases hS2
 refine⟨S,T,na,nb,rfl,rfl,hne,s2 _ _ hS2,B3,fun U hU=> ?_⟩
 have s3:Same (BT H2 T (.ext (setAt X.w T nb))) (BT (BT H2 T (.ext (setAt X.w T nb))) U (.ext (setAt X.w U (na++nb)))):=B4 hU _
 refine⟨U,na++nb,rfl,B3,fun l hl=> ?_⟩
 have hr3:=(hr2.same s2).same s3
 exact k α2 _ _ (((ev1.trans (.same s1)).trans ev2).trans (.same ((s2.trans s3).trans (B4 hl _)))) (hr3.same (B4 hl _)) (P7 hr3 hl RepAs.ints)
theorem dB (hc:X.calm=true) (q1:NmOk X.env.scope "sorted" .globalImplicit) (m1:X.mg "sorted"=none) (q2:NmOk X.env.scope "set" .globalImplicit) (m2:X.mg "set"=none) (ha:PE X a (tM X.K ma)) (sa:BB a=true):
 PE X (.Call (.Name "sorted" p1) [.Call (.Name "set" p2) [a] [] pos2] [] pos1) (tM X.K (lQ ND ma)):=
 (M8 (L0 hc) q1 m1 PyProof.Rows.boot_sorted (RM (FH (NP hc) q2 m2 (by rfl) (RM ha HN sa) sa (by rfl)) HN (by rfl)) (by rfl) (by rfl)).imp fun σ H Q ⟨α,ρ,h,d,h',hσ,hr,e,k⟩=>by
 obtain⟨x,h1,e1,e⟩:=A8 e
 obtain⟨e3,e4⟩:=CQ e
 dsimp only at e3 e4
 subst e4
 obtain⟨na,e2,e⟩:=Option.bind_eq_some_iff.mp e3
 cases e
 refine⟨α,ρ,h,x,_,hσ,hr,e1,fun α1 H1 u ev1 hr1 rx=> ?_⟩
 obtain⟨p,rfl,sp,bp⟩:=O3 hr1 rx e2
 refine⟨p,na,rfl,sp,bp,fun S hS=> ?_⟩
 have s1:Same H1 (BT H1 S (.ext (setAt X.w S na))):=B4 hS _
 refine⟨S,na,rfl,B3,fun l hl=> ?_⟩
 have hr3:=hr1.same s1
 exact k α1 _ _ (ev1.trans (.same (s1.trans (B4 hl _)))) (hr3.same (B4 hl _)) (P7 hr3 hl RepAs.ints)
end
section
variable {R:M→AA→Prop} {ρ:BJ} {h:AA} {ma mb:FE}
theorem mem_upTo {ns:List Int} {k:Int}:k∈FV ns↔(0≤k∧k<50)∧k∈ns:=by
 unfold FV;rw[ST.PM,decide_eq_true_eq]
theorem NU {ns:List Int} (hb:∀n∈ns,0≤n∧n<50) {h:AA}:NZ h (.lst (ns.map M.int))=some ns:=by
 unfold NZ
 show(some (ns.map M.int)).bind _=_
 rw[Option.bind_some,Q8,Option.bind_some,if_pos]
 exact List.all_eq_true.2 fun n hn=>by simpa using hb n hn
theorem oB (q:Ens (ma ρ h) fun x h1=>∃na,NZ h1 x=some na∧Ens (mb ρ h1) fun y h2=>∃nb,NZ h2 y=some nb∧R (.lst ((FV (na++nb)).map M.int)) h2):Ens (bB ma mb ρ h) R:= .bnd (q.mono fun x h1 q=>by
 obtain⟨na,e,q⟩:=q
 show Ens ((NZ h1 x).bind _) R
 rw[e,Option.bind_some]
 exact .bnd (q.mono fun y h2 q=>by
  obtain⟨nb,e,q⟩:=q
  show Ens ((NZ h2 y).bind _) R
  rw[e,Option.bind_some]
  exact .ret q))
end
end L2
set_option maxHeartbeats 1000000
namespace ST
open PySem PySem.W PyProof.Rows
theorem DP:Slot "reversed" "__next__" "reversed.__next__":= .of (owner:= "reversed") (n:= "__next__")
 (by rw[typeLookup_type,builtinLookup_eq_fast];kernel_rfl) (by decide+kernel) (by decide+kernel) (by decide+kernel) (by first|exact .inl (by decide+kernel)|exact .inr (by decide+kernel)) (by rw[isSubtype_type];kernel_rfl)
theorem LG:Slot "reversed" "__iter__" "reversed.__iter__":= .of (owner:= "reversed") (n:= "__iter__")
 (by rw[typeLookup_type,builtinLookup_eq_fast];kernel_rfl) (by decide+kernel) (by decide+kernel) (by decide+kernel) (by first|exact .inl (by decide+kernel)|exact .inr (by decide+kernel)) (by rw[isSubtype_type];kernel_rfl)
theorem HG:Slot "reversed" "__length_hint__" "reversed.__length_hint__":= .of (owner:= "reversed") (n:= "__length_hint__")
 (by rw[typeLookup_type,builtinLookup_eq_fast];kernel_rfl) (by decide+kernel) (by decide+kernel) (by decide+kernel) (by first|exact .inl (by decide+kernel)|exact .inr (by decide+kernel)) (by rw[isSubtype_type];kernel_rfl)
theorem QR:Slot "reversed" "__init__" "object.__init__":= .of (owner:= "object") (n:= "__init__")
 (by rw[typeLookup_type,builtinLookup_eq_fast];kernel_rfl) (by decide+kernel) (by decide+kernel) (by decide+kernel) (by first|exact .inl (by decide+kernel)|exact .inr (by decide+kernel)) (by rw[isSubtype_type];kernel_rfl)
theorem JJ:entryFor table "reversed.__next__"=some Builtin.«reversed.__next__»:=entryFor_of_tree (by kernel_rfl)
theorem P1:entryFor table "reversed.__length_hint__"=some Builtin.«reversed.__length_hint__»:=entryFor_of_tree (by kernel_rfl)
theorem OW:entryFor table "reversed.__iter__"=some Builtin.«dict_keyiterator.__iter__»:=entryFor_alias (id':= "dict_keyiterator.__iter__") (by kernel_rfl) rfl (by decide+kernel) (by kernel_rfl)
theorem NQ:Manifest.owners.lookup (String.ofList ['d','e','s','r','e','v','e','r'].reverse)=some Manifest.sig_reversed:=by kernel_rfl
theorem KM (a:Value):argsOk "reversed.__next__" ⟨[a],[]⟩:=by
 unfold argsOk;rw[signature?_of (id:= "reversed.__next__") (n:=['_','_','t','x','e','n','_','_']) (o:=['d','e','s','r','e','v','e','r']) (by kernel_rfl) NQ];kernel_rfl
theorem QP (a:Value):argsOk "reversed.__iter__" ⟨[a],[]⟩:=by
 unfold argsOk;rw[signature?_of (id:= "reversed.__iter__") (n:=['_','_','r','e','t','i','_','_']) (o:=['d','e','s','r','e','v','e','r']) (by kernel_rfl) NQ];kernel_rfl
theorem R4 (a:Value):argsOk "reversed.__length_hint__" ⟨[a],[]⟩:=by
 unfold argsOk;rw[signature?_of (id:= "reversed.__length_hint__") (n:=['_','_','t','n','i','h','_','h','t','g','n','e','l','_','_']) (o:=['d','e','s','r','e','v','e','r']) (by kernel_rfl) NQ];kernel_rfl
theorem YI:typeLookup (.type "reversed") "__len__"=pure none:=by rw[typeLookup_type,builtinLookup_eq_fast];kernel_rfl
theorem VO:typeLookup (.type "tuple") "__reversed__"=pure none:=by rw[typeLookup_type,builtinLookup_eq_fast];kernel_rfl
theorem M1:TypeCalled "reversed" "reversed.__new__" "object.__init__":=⟨by decide+kernel,F.create_reversed,⟨_,_,F.mro_reversed⟩,F.made_reversed,F.plain_reversed_new,F.sub_reversed_self,QR⟩
def MC (t:Addr) (i:Int):Obj:={cls:= .type "reversed",data:= .fields #[.ref t,rawInt i]}
def IsRv (h:Heap) (r t:Addr) (i:Int):Prop:=∃o,h.get? r=some o∧o.cls= .type "reversed"∧o.data= .fields #[.ref t,rawInt i]
section
variable {prog:Program} {w:World} {A:Around} {E:Value→Shared→Prop} {s:Shared} {r t:Addr} {items:Array Value} {i:Int}
theorem IsRv.typeIs (x:IsRv s.heap r t i):s.TypeIs (.ref r) "reversed":=let⟨o,ho,hc,_⟩:=x;⟨o,ho,hc⟩
theorem IsRv.at {h h':Heap} (x:IsRv h r t i) (k:∀o,h.get? r=some o→h'.get? r=some o):IsRv h' r t i:=let⟨o,ho,q⟩:=x;⟨o,k o ho,q⟩
theorem UE {h h':Heap} (x:IsTup h t items) (k:∀o,h.get? t=some o→h'.get? t=some o):IsTup h' t items:=let⟨o,ho,q⟩:=x;⟨o,k o ho,q⟩
theorem iK (x:IsTup s.heap t items):s.TypeIs (.ref t) "tuple":=let⟨o,ho,hc,_⟩:=x;⟨o,ho,hc⟩
theorem RP:isSubtype (.type "tuple") (.type "dict")=pure false:=by rw[isSubtype_type];kernel_rfl
theorem sO {Q₁:Value→Shared→Prop} (ht:IsTup s.heap t items) (hz:items.size≤sizeLine) (h:∀tk,Q₁ (.ref s.heap.objs.size) {s with heap:=s.heap.push (MC t ((items.size:Int)-1)),toks:=tk}):
 codeAny (model prog w) A (.call (.builtin "reversed.__new__") ⟨[.type "reversed", .ref t],[]⟩) (wants Q₁ E) s:=by
 have h63:(items.size:Int)<2^63:=by rw[sizeLine_eq]at hz;omega
 refine codeAny_of_tree ?_
 show wpAny _ A.in1 (checkBuiltinCall "reversed.__new__" ⟨[.type "reversed", .ref t],[]⟩>>=fun _=>again (.builtin "reversed.__new__" ⟨[.type "reversed", .ref t],[]⟩)) _ _ s
 refine wpAny_bind (wpAny_of_eq (F.newCall_reversed_1 _) (wpAny_pure ⟨plainId_quiet F.plain_reversed_new _,codeAny_builtin F.entry_reversed_new ?_⟩));rw[Around.under_plainId F.plain_reversed_new _]
 unfold Builtin.«reversed.__new__»
 refine wpAny_bind (wpAny_of_eq (newClass_reversed _) ?_);try dsimp only
 refine wpAny_bind (wpAny_of_eq (a:=()) (by first|rfl|kernel_rfl) (wpAny_bind (wpAny_of_eq (a:=()) (by first|rfl|kernel_rfl) ?_)));try dsimp only
 refine wpAny_bind (wpAny_specialOf (iK ht) VO ?_);try dsimp only
 refine wpAny_bind (wpAny_bind (wpAny_isInstance (iK ht) RP ?_))
 refine wpAny_ite_split (fun hab=>absurd hab (by decide)) (fun _=> ?_)
 refine wpAny_bind (wpAny_specialOf (iK ht) F.slot_tuple_getitem.lookup ?_);try dsimp only
 refine wpAny_ite_split (fun _=>wpAny_pure ?_) (fun hab=>absurd (by decide+kernel) hab)
 refine wpAny_ite_split (fun hab=>absurd hab (by decide)) (fun _=> ?_)
 refine wpAny_bind (len_tuple ht h63 (wpAny_bind (wpAny_pure ?_)));try dsimp only
 refine wpAny_bind ?_;unfold Builtin.SmallTypes.newRecord;exact wpAny_newObj_type (wpAny_pure (h _)) (by size_fits)
theorem XC {Q:Value→Shared→Prop} (ht:IsTup s.heap t items) (hz:items.size≤sizeLine) (h:∀tk,Q (.ref s.heap.objs.size) {s with heap:=s.heap.push (MC t ((items.size:Int)-1)),toks:=tk}):
 wpAny (model prog w) A (call (.type "reversed") [.ref t]) Q E s:=by
 refine callType_codes (Q₁:=fun obj s₁=>∃tk,obj= .ref s.heap.objs.size∧s₁={s with heap:=s.heap.push (MC t ((items.size:Int)-1)),toks:=tk}) M1 (F.typeCall_reversed_1 _) F.entry_object_init (sO ht hz fun tk=>⟨tk,rfl,rfl⟩) fun obj s₁ h₁=> ?_
 obtain⟨tk,rfl,rfl⟩:=h₁
 have hT:Shared.TypeIs {s with heap:=s.heap.push (MC t ((items.size:Int)-1)),toks:=tk} (.ref s.heap.objs.size) "reversed":=⟨_,Heap.get?_push_size _ rfl,rfl⟩
 exact⟨hT,F.args_object_init_2 _ _,object_init_meets M1.init.lookup M1.made (by decide) prog w A.in1 _ _ ⟨hT,rfl,h tk⟩⟩
theorem Y3 {j:Nat} {x:Value} {Q:Option Value→Shared→Prop} (hit:IsRv s.heap r t (j:Int)) (ht:IsTup s.heap t items) (hx:items[j]? =some x) (hz:items.size≤sizeLine)
 (hQ:∀h' tk,IsRv h' r t ((j:Int)-1)→Heap.SameBut r s.heap h'→Q (some x) {s with heap:=h',toks:=tk}):wpAny (model prog w) A (pyNext (.ref r)) Q E s:=by
 obtain⟨o,ho,hc,hd⟩:=id hit
 have hj:j<items.size:=by
  rcases Nat.lt_or_ge j items.size with g|g
  ·exact g
  ·rw[Array.getElem?_eq_none g]at hx;cases hx
 rw[sizeLine_eq]at hz
 unfold pyNext
 refine wpAny_bind (wpAny_attempt (wpAny_callSpecial?_slot (name:=Str.ofString "__next__") hit.typeIs DP (wpAny_call_entry DP hit.typeIs JJ ?_ (KM _))))
 unfold Builtin.«reversed.__next__»
 refine wpAny_bind (wpAny_of_eq (a:=(Value.ref r,[])) rfl ?_);try dsimp only
 refine wpAny_bind (wpAny_field ho hd (x:= .ref t) rfl (wpAny_bind (wpAny_field ho hd (x:=rawInt (j:Int)) rfl ?_)))
 show wpAny _ _ (if(j:Int)<0 then _ else _) _ _ s
 rw[if_neg (by omega)]
 refine wpAny_bind (wpAny_specialOf (iK ht) F.slot_tuple_getitem.lookup ?_)
 refine wpAny_ite_split (fun hab=>absurd hab (by decide)) (fun _=> ?_)
 refine wpAny_bind (wpAny_mkInt ?_)
 refine wpAny_bind (wpAny_attempt (getItem_tuple (s:={s with toks:=s.toks+1}) ht (by omega) (by omega) (j:=j) (x:=x) (by unfold seqIndex?;simp only[show¬((j:Int)<0) by omega,if_false];simp[hj]) hx ?_));try dsimp only
 refine wpAny_bind (wpAny_field ho hd (x:=rawInt (j:Int)) rfl ?_)
 show wpAny _ _ (setField (.ref r) 1 (rawInt ((j:Int)-1))>>=_) _ _ _
 refine wpAny_bind (wpAny_setField ho hd (by simp) ?_)
 refine wpAny_pure ⟨x,rfl,wpAny_pure (hQ _ _ ?_ (Heap.SameBut.update ..))⟩
 exact⟨_,Heap.get?_update_self _ ho (Obj.isFreed_of_fields (Obj.data_mapFields hd _)),(Obj.cls_mapFields ..).trans hc,by rw[Obj.data_mapFields hd];simp⟩
theorem eG {Q:Option Value→Shared→Prop} (hh:A.handled=none) (hit:IsRv s.heap r t (-1)) (hQ:∀h',Heap.ExtBut r s.heap h'→Q none {s with heap:=h'}):wpAny (model prog w) A (pyNext (.ref r)) Q E s:=by
 obtain⟨o,ho,hc,hd⟩:=id hit
 unfold pyNext
 refine wpAny_bind (wpAny_attempt (wpAny_callSpecial?_slot (name:=Str.ofString "__next__") hit.typeIs DP (wpAny_call_entry DP hit.typeIs JJ ?_ (KM _))))
 unfold Builtin.«reversed.__next__»
 refine wpAny_bind (wpAny_of_eq (a:=(Value.ref r,[])) rfl ?_);try dsimp only
 refine wpAny_bind (wpAny_field ho hd (x:= .ref t) rfl (wpAny_bind (wpAny_field ho hd (x:=rawInt (-1)) rfl ?_)))
 show wpAny _ _ (if(-1:Int)<0 then _ else _) _ _ s
 rw[if_pos (by decide)]
 refine wpAny_bind (wpAny_rule ?_)
 refine wpAny_bind (wpAny_bind (wpAny_setField ho hd (by simp) ?_))
 have g1:=Heap.get?_update_self (Obj.mapFields (·.setIfInBounds 1 (rawInt (-1)))) ho (Obj.isFreed_of_fields (Obj.data_mapFields hd _))
 refine wpAny_setField g1 (Obj.data_mapFields hd _) (by simp) ?_
 refine wpAny_bind ?_;unfold Builtin.SmallTypes.stopIteration;refine wpAny_bind ?_
 simp only[newExc,newTuple]
 refine wpAny_bind (wpAny_newObj_type ?_ (by size_fits))
 refine wpAny_bind (m:=firstArgMember _ _) (wpAny_of_eq (a:=Value.none) (by first|rfl|(simp only[firstArgMember];rfl)) (wpAny_newObj_type ?_ (by size_fits)))
 simp only[raiseNew]
 refine wpAny_bind (wpAny_handled ?_);rw[show A.in1.handled=none from hh]
 refine wpAny_bind (wpAny_pure (wpAny_throw ?_));refine wpAny_bind (wpAny_isInstance (T:= "StopIteration") (b:=true) ⟨_,Heap.get?_push_size _ rfl,rfl⟩ isSubtype_stop (wpAny_pure ?_))
 exact hQ _ ((((Heap.SameBut.update ..).trans (Heap.SameBut.update ..)).extBut.push _).push _)
theorem MY {Q:Value→Shared→Prop} (hit:IsRv s.heap r t i) (h:Q (.ref r) s):wpAny (model prog w) A (pyIter (.ref r)) Q E s:=by
 refine wpAny_pyIter_slot hit.typeIs LG (wpAny_call_entry LG hit.typeIs OW ?_ (QP _))
 show wpAny _ _ (ret (.ref r)) _ _ s
 exact wpAny_pure ⟨_,rfl,"reversed",_,hit.typeIs,DP.lookup,h⟩
theorem jJ {Q:Bool→Shared→Prop} (hit:IsRv s.heap r t ((items.size:Int)-1)) (ht:IsTup s.heap t items) (hz:items.size≤sizeLine) (h:∀b tk,s.toks≤tk→Q b {s with toks:=tk}):wpAny (model prog w) A (Builtin.List.listLengthHint (.ref r)) Q E s:=by
 obtain⟨o,ho,hc,hd⟩:=id hit
 have h63:(items.size:Int)<2^63:=by rw[sizeLine_eq]at hz;omega
 have hT:=hit.typeIs
 unfold Builtin.List.listLengthHint
 refine wpAny_bind (wpAny_specialOf hT YI ?_)
 simp only[Option.isSome_none,Bool.false_eq_true,if_false]
 refine wpAny_ite_split (fun hab=>absurd hab (by decide+kernel)) (fun _=> ?_)
 refine wpAny_bind (wpAny_specialOf hT HG.lookup ?_)
 generalize hid:("reversed.__length_hint__":String)=id0
 wp_delta
 rw[show splitId id0=some ("reversed","__length_hint__") from by subst hid;decide+kernel]
 subst hid
 refine wpAny_bind (wpAny_isInstance (T:= "reversed") (b:=true) hT F.sub_reversed_self ?_)
 refine wpAny_ite_split (fun hab=>absurd hab (by decide)) (fun _=> ?_)
 refine wpAny_ite_split (fun hab=>absurd hab (by decide+kernel)) (fun _=> ?_)
 refine wpAny_bind (wpAny_rule (wpAny_bind (wpAny_of_eq (HG.bind _) ?_)));try dsimp only
 refine wpAny_bind (wpAny_attempt (wpAny_call_entry HG hT P1 ?_ (R4 _)))
 unfold Builtin.«reversed.__length_hint__»
 refine wpAny_bind (wpAny_of_eq (a:=Value.ref r) rfl ?_)
 refine wpAny_bind (wpAny_field ho hd (x:= .ref t) rfl ?_)
 refine wpAny_ite_split (fun hab=>absurd hab (by show¬(false=true);decide)) (fun _=> ?_)
 refine wpAny_bind (len_tuple ht h63 (wpAny_bind (wpAny_pure ?_)));try dsimp only
 refine wpAny_bind (wpAny_field ho hd (x:=rawInt ((items.size:Int)-1)) rfl ?_)
 show wpAny _ _ (if(items.size:Int)<(items.size:Int)-1+1 then _ else _) _ _ _
 rw[if_neg (by omega)]
 refine wpAny_bind (wpAny_mkInt (wpAny_pure ⟨_,rfl,?_⟩))
 refine wpAny_bind (wpAny_pure ?_);try dsimp only
 have hL:Builtin.List.listFitsIndex ((items.size:Int)-1+1)=true:=by
  unfold Builtin.List.listFitsIndex;simp;omega
 have hT2:Builtin.List.listTooLong ((items.size:Int)-1+1).toNat=false:=by
  unfold Builtin.List.listTooLong
  rw[show((items.size:Int)-1+1).toNat=items.size by omega]
  simpa using hz
 rw[hL,hT2]
 refine wpAny_ite_split (fun hab=>absurd hab (by decide)) (fun _=> ?_)
 refine wpAny_ite_split (fun hab=>absurd hab (by omega)) (fun _=> ?_)
 refine wpAny_ite_split (fun hab=>absurd hab (by decide)) (fun _=>wpAny_pure (h _ _ ?_))
 exact Nat.le_succ_of_le (Nat.le_succ_of_le (Nat.le_succ _))
end
theorem lS {prog:Program} {w:World} {A:Around} (hh:A.handled=none) (I t:Addr) (hne:t≠I) (items:Array Value) (hz:items.size≤sizeLine):
 Walks prog w A I [I,t] [I] items.size (fun i v=>items[items.size-1-i]? =some v) (fun i h=>i≤items.size∧IsRv h I t ((items.size:Int)-1-(i:Int))∧IsTup h t items) where
 sub:=fun b hb=>by simp at hb;simp[hb]
 frame:=fun _ _ _ x hk=>⟨x.1,x.2.1.at fun o e=>hk I (by simp) o e,UE x.2.2 fun o e=>hk t (by simp) o e⟩
 item:=fun i s Q E hi x hQ=>by
  have e:(items.size:Int)-1-(i:Int)=((items.size-1-i:Nat):Int):=by omega
  have hit:=x.2.1
  rw[e]at hit
  have hlt:items.size-1-i<items.size:=by omega
  refine Y3 hit x.2.2 (x:=items[items.size-1-i]) (by simp[hlt]) hz fun h' tk hit' hs=> ?_
  refine hQ _ h' tk (by simp[hlt]) ⟨by omega,?_,UE x.2.2 fun o e=>hs.extBut t o hne e⟩ fun b o hb e=>hs.extBut b o (fun h=>hb (by simp[h])) e
  rw[show(items.size:Int)-1-((i+1:Nat):Int)=((items.size-1-i:Nat):Int)-1 by omega]
  exact hit'
 done:=fun s Q E x hQ=>by
  have hit:=x.2.1
  rw[show(items.size:Int)-1-(items.size:Int)= -1 by omega]at hit
  exact eG hh hit fun h' he'=>hQ h' s.toks fun b o hb e=>he' b o (fun h=>hb (by simp[h])) e
 self:=fun _ _ _ _ x hQ=>MY x.2.1 hQ
section
variable {prog:Program} {w:World} {A:Around} {E:Value→Shared→Prop} {s:Shared} {r t:Addr} {items:Array Value}
theorem ZJ {R:Result→Shared→Prop} (hh:A.handled=none) (hit:IsRv s.heap r t ((items.size:Int)-1)) (ht:IsTup s.heap t items) (hz:items.size≤sizeLine) (S:Addr) (hSr:S≠r) (hSt:S≠t) (htr:t≠r) (res:Value) (c₀:Nat) (hS:s.heap.get? S=some {cls:= .type "list",data:= .seq #[] c₀})
 (hR:∀h' tk acc c,(∀b o,b≠S→b≠r→s.heap.get? b=some o→h'.get? b=some o)→h'.get? S=some {cls:= .type "list",dict:=none,data:= .seq acc c,slots:= #[]}→acc.toList=items.toList.reverse→R (.ok (.ret res)) {s with heap:=h',toks:=tk}):
 wpAny (model prog w) A.in1 (Builtin.List.listExtendWith (.ref S) (.ref r) res)
  (fun fin s'=>match fin with| .done f=>R (.ok f) s'| .again c'=>c'.quiet=true∧codeAny (model prog w) A c' R s') (fun e s'=>R (.error e) s') s:=by
 have key:∀(h1:Heap) (tk1:Nat) (c₁:Nat),(∀b o,b≠S→b≠r→s.heap.get? b=some o→h1.get? b=some o)→IsRv h1 r t ((items.size:Int)-1)→IsTup h1 t items→h1.get? S=some {cls:= .type "list",dict:=none,data:= .seq #[] c₁,slots:= #[]}→
  codeAny (model prog w) A (.builtin "list.extend.loop" ⟨[.ref S, .ref r,res],[]⟩) R {s with heap:=h1,toks:=tk1}:=by
  intro h1 tk1 c₁ hm q1 q2 q3
  have hSf:S∉[r,t]:=by simp[hSr,hSt]
  refine codeAny_extend_loopS ((lS (by simpa using hh) r t htr items hz).toS) hz S hSf res items.size 0 _ #[] c₁ (Nat.sub_zero _) (Nat.zero_le _) ⟨Nat.zero_le _,by simpa using q1,q2⟩ q3 (ItemsOf.nil _) fun s' acc c' hm' hS' hacc=> ?_
  obtain⟨h',g',d',tk',os'⟩:=s'
  have eg:g'=s.gens:=hm'.gens
  have ed:d'=s.drawn:=hm'.drawn
  have eo:os'=s.os:=hm'.os
  subst eg ed eo
  refine hR h' tk' acc c' (fun b o hb1 hb2 e=>hm'.heap b o (by simp[hb1,hb2]) (hm b o hb1 hb2 e)) hS' ?_
  apply List.ext_getElem?
  intro j
  by_cases hj:j<items.size
  ·have hj':j<acc.size:=by rw[hacc.1];exact hj
   have h4:=hacc.2 j acc[j] (by simp[hj'])
   have e1:acc.toList[j]? =some acc[j]:=by simp[hj']
   rw[e1,List.getElem?_reverse (by simpa using hj),←h4]
   simp
  ·rw[List.getElem?_eq_none (by simp[hacc.1];omega),List.getElem?_eq_none (by simp;omega)]
 unfold Builtin.List.listExtendWith
 refine wpAny_bind (wpAny_typeOf (T:= "reversed") hit.typeIs ?_)
 have h1:Builtin.List.listSameRef (.ref S) (.ref r)=false:=by simp[Builtin.List.listSameRef,hSr]
 have h2:(Value.type "reversed"==Value.type "list")=false:=by decide
 have h3:(Value.type "reversed"==Value.type "tuple")=false:=by decide
 simp only[h1,h2,h3,Bool.or_false,Bool.false_eq_true,if_false]
 refine wpAny_bind (MY hit (wpAny_bind (wpAny_holding (jJ hit ht hz fun CW tk _=> ?_))))
 refine wpAny_ite_split (fun _=>wpAny_bind (wpAny_rule ?_)) (fun _=>wpAny_pure ⟨plainId_quiet PySem.F.plain_extend_loop _,key s.heap tk c₀ (fun _ _ _ _ e=>e) hit ht hS⟩)
 unfold Builtin.List.listTouch
 refine wpAny_bind (wpAny_bind (listUpdate_at (s:={s with toks:=tk}) hS rfl ?_))
 obtain⟨c1,g1⟩:∃c,(s.heap.update S (Obj.mapSeq (·.push Value.none))).get? S=some (seqObj "list" (#[].push Value.none) c):=⟨_,get?_update_seq hS _⟩
 refine listUpdate_at g1 rfl ?_
 obtain⟨c2,g2⟩:∃c,((s.heap.update S (Obj.mapSeq (·.push Value.none))).update S (Obj.mapSeq (·.pop))).get? S=some (seqObj "list" ((#[].push Value.none).pop) c):=⟨_,get?_update_seq g1 _⟩
 have old:∀b o,b≠S→s.heap.get? b=some o→((s.heap.update S (Obj.mapSeq (·.push Value.none))).update S (Obj.mapSeq (·.pop))).get? b=some o:=fun b o hb e=>(Heap.get?_update_other _ _ (Ne.symm hb)).trans ((Heap.get?_update_other _ _ (Ne.symm hb)).trans e)
 exact wpAny_pure ⟨plainId_quiet PySem.F.plain_extend_loop _,key _ tk c2 (fun b o hb _ e=>old b o hb e) (hit.at fun o e=>old r o (Ne.symm hSr) e) (UE ht fun o e=>old t o (Ne.symm hSt) e) g2⟩
theorem UY {R:List Value→Shared→Prop} (hh:A.handled=none) (hit:IsRv s.heap r t ((items.size:Int)-1)) (ht:IsTup s.heap t items) (hz:items.size≤sizeLine) (htr:t≠r)
 (h:∀(h':Heap) (tk:Nat),(∀b o,b≠r→s.heap.get? b=some o→h'.get? b=some o)→R items.toList.reverse {s with heap:=h',toks:=tk}):wpAny (model prog w) A (collect (.ref r)) R E s:=by
 have hr:r<s.heap.objs.size:=let⟨_,ho,_⟩:=hit;Heap.lt_size ho
 have htz:t<s.heap.objs.size:=let⟨_,ho,_⟩:=ht;Heap.lt_size ho
 unfold collect
 refine wpAny_bind (wpAny_runValue (codeAny_builtin entry_proto_collect' ?_));rw[Around.under_plainId PySem.F.plain_proto_collect _]
 show wpAny _ A.in1 (newList []>>=fun l=>again (.builtin "list.__iadd__" ⟨[l, .ref r],[]⟩)) _ _ s
 refine wpAny_bind (wpAny_newObj_type (wpAny_pure ⟨plainId_quiet PySem.F.plain_list_iadd _,codeAny_builtin entry_list_iadd' ?_⟩));rw[Around.under_plainId PySem.F.plain_list_iadd _]
 have hS₁:(s.heap.push {cls:= .type "list",data:= .seq ([]:List Value).toArray}).get? s.heap.objs.size=some {cls:= .type "list",data:= .seq #[]}:=Heap.get?_push_size _ rfl
 show wpAny _ A.in1 (Builtin.List.listExtendWith (.ref s.heap.objs.size) (.ref r) (.ref s.heap.objs.size)) _ _ _
 have key:=ZJ (prog:=prog) (w:=w) (A:=A) (s:={s with heap:=s.heap.push {cls:= .type "list",data:= .seq ([]:List Value).toArray}}) (r:=r) (t:=t) (items:=items)
  (R:=fun(q:Result) (s':Shared)=>∃(h':Heap) (tk:Nat) (acc':Array Value) (c':Nat),q= .ok (.ret (.ref s.heap.objs.size))∧s'={s with heap:=h',toks:=tk}∧
    (∀b o,b≠r→s.heap.get? b=some o→h'.get? b=some o)∧h'.get? s.heap.objs.size=some {cls:= .type "list",dict:=none,data:= .seq acc' c',slots:= #[]}∧acc'.toList=items.toList.reverse)
  hh (hit.at fun o e=>Heap.get?_push_of_some _ e) (UE ht fun o e=>Heap.get?_push_of_some _ e) hz s.heap.objs.size (Nat.ne_of_gt hr) (Nat.ne_of_gt htz) htr (.ref s.heap.objs.size) 0 hS₁
  (fun h' tk acc' c' hk hS' hacc=>⟨h',tk,acc',c',rfl,rfl,fun b o hb e=>hk b o (Nat.ne_of_lt (Heap.lt_size e)) hb (Heap.get?_push_of_some _ e),hS',hacc⟩)
 refine wpAny_mono key (fun fin s' x=> ?_) fun e s' x=> ?_
 ·cases fin with
  |done f=>
   obtain⟨h',tk,acc',c',e,rfl,hk,hS',hacc⟩:=x
   cases e
   show wpAny _ A (load s.heap.objs.size>>=_) _ _ _
   refine wpAny_bind (wpAny_load hS' ?_)
   exact wpAny_pure (hacc▸h h' tk hk)
  |again c₁=>
   refine⟨x.1,codeAny_mono x.2 fun q s₂ y=> ?_⟩
   obtain⟨h',tk,acc',c',rfl,rfl,hk,hS',hacc⟩:=y
   show wpAny _ A (load s.heap.objs.size>>=_) _ _ _
   refine wpAny_bind (wpAny_load hS' ?_)
   exact wpAny_pure (hacc▸h h' tk hk)
 ·obtain⟨_,_,_,_,e',_⟩:=x
  cases e'
theorem QQ {Q₁:Value→Shared→Prop} (hh:A.handled=none) (hit:IsRv s.heap r t ((items.size:Int)-1)) (ht:IsTup s.heap t items) (hz:items.size≤sizeLine) (htr:t≠r)
 (h:∀(h':Heap) (tk:Nat),(∀b o,b≠r→s.heap.get? b=some o→h'.get? b=some o)→Q₁ (.ref h'.objs.size) {s with heap:=h'.push {cls:= .type "tuple",data:= .seq items.reverse},toks:=tk}):
 codeAny (model prog w) A (.call (.builtin "tuple.__new__") ⟨[.type "tuple", .ref r],[]⟩) (wants Q₁ E) s:=by
 refine codeAny_of_tree ?_
 show wpAny _ A.in1 (checkBuiltinCall "tuple.__new__" ⟨[.type "tuple", .ref r],[]⟩>>=fun _=>again (.builtin "tuple.__new__" ⟨[.type "tuple", .ref r],[]⟩)) _ _ s
 refine wpAny_bind (wpAny_of_eq (F.newCall_tuple_1 _) (wpAny_pure ⟨plainId_quiet F.plain_tuple_new _,codeAny_builtin F.entry_tuple_new ?_⟩));rw[Around.under_plainId F.plain_tuple_new _]
 have hsub:=sub_tuple_self;have hinit:=init_tuple_lookup;have hmh:=madeHere_tuple;have hTI:=hit.typeIs
 unfold Builtin.«tuple.__new__»
 generalize hC:collect=C
 wp_walk using wpAny_typeOf hTI
 subst hC
 refine UY (by simpa using hh) hit ht hz htr fun h' tk hk=> ?_
 refine wpAny_bind (wpAny_pure ?_)
 show wpAny _ _ (Builtin.Tuple.tupleExact items.toList.reverse.toArray>>=fun v=>ret v) _ _ _
 have e:items.toList.reverse.toArray=items.reverse:=by apply Array.toList_inj.mp;simp
 rw[e]
 unfold Builtin.Tuple.tupleExact
 refine wpAny_bind (wpAny_newObj_type ?_ (by show items.reverse.size≤sizeLine;simpa using hz))
 exact wpAny_pure (h h' tk hk)
theorem cB {Q:Value→Shared→Prop} (hh:A.handled=none) (hit:IsRv s.heap r t ((items.size:Int)-1)) (ht:IsTup s.heap t items) (hz:items.size≤sizeLine) (htr:t≠r)
 (h:∀(h':Heap) (tk:Nat),(∀b o,b≠r→s.heap.get? b=some o→h'.get? b=some o)→Q (.ref h'.objs.size) {s with heap:=h'.push {cls:= .type "tuple",data:= .seq items.reverse},toks:=tk}):
 wpAny (model prog w) A (call (.type "tuple") [.ref r]) Q E s:=by
 refine callType_codes (Q₁:=fun obj s₁=>s₁.TypeIs obj "tuple"∧Q obj s₁) F.called_tuple (F.typeCall_tuple_1 _) F.entry_object_init (QQ (by simpa using hh) hit ht hz htr fun h' tk hk=>⟨⟨_,Heap.get?_push_size _ rfl,rfl⟩,h h' tk hk⟩) fun obj s₁ h₁=> ?_
 exact⟨h₁.1,F.args_object_init_2 obj _,object_init_meets F.called_tuple.init.lookup F.called_tuple.made (by decide) prog w A.in1 _ s₁ ⟨h₁.1,rfl,h₁.2⟩⟩
end
end ST
namespace L2
open PySem PySem.Spec PyProof.Rows
section
variable {X:Cx} {K:PySem.W.Frag} {a:Expr} {ta:TE} {ma:FE} {p1 p2 pos1 pos2 pos:Pos}
def iX (K:PySem.W.Frag) (ta:TE):TE:=fun σ H Q=>ta σ H fun x H1=>∃p xs,x= .ref p∧GO K H1 p xs∧∀l,H1 l=none→Q (.ref l) (BT H1 l (.tup xs.reverse))
theorem YV (hc:X.calm=true) (q1:NmOk X.env.scope "tuple" .globalImplicit) (m1:X.mg "tuple"=none) (q2:NmOk X.env.scope "reversed" .globalImplicit) (m2:X.mg "reversed"=none) (ha:PE X a ta) (hs:BB a=true):
 PE X (.Call (.Name "tuple" p1) [.Call (.Name "reversed" p2) [a] [] pos2] [] pos1) (iX X.K ta):=by
 intro pins s σ H Q I h
 refine Call_ (KC I q1.lk m1 (show bootBuiltins "tuple"=some (.type "tuple") by decide+kernel) (PyProof.Rows.callWith_type1 ?_ rfl rfl))
 show wpAny _ _ (spliced ((false,eval (.Call (.Name "reversed" p2) [a] [] pos2) X.env)::backTo pos1 (starEach [] X.env))) _ _ s
 refine Calls.spliced_cons ?_
 refine Call_ (KC I q2.lk m2 PyProof.Rows.boot_reversed (PyProof.Rows.callWith_type1 (thn ((RM ha HN hs) pos2 pins s σ H (fun vs H1=>match vs with|[x]=>(∃p xs,x= .ref p∧GO X.K H1 p xs∧∀l,H1 l=none→Q (.ref l) (BT H1 l (.tup xs.reverse)))|_=>False) I h) fun us s1 ⟨vs,H1,I1,r1,q⟩=> ?_) (DK hs) rfl))
 cases r1 with
 |nil=>exact q.elim
 |cons r rr=>
  cases rr with
  |cons _ _=>exact q.elim
  |nil=>
  obtain⟨p,xs,ex,hq,q⟩:=q
  subst ex
  cases(show _=Value.ref p from r)
  obtain⟨its,rv,pl,hz⟩:=I1.tuple hq
  have hz':its.toArray.size≤sizeLine:=by rw[List.size_toArray,←rv.length];exact hz
  refine ST.XC pl hz' fun tk=>Calls.spliced_nil ?_
  have hp:p<s1.heap.objs.size:=let⟨_,ho,_⟩:=pl;Heap.lt_size ho
  have hit:ST.IsRv (s1.heap.push (ST.MC p ((its.toArray.size:Int)-1))) s1.heap.objs.size p ((its.toArray.size:Int)-1):=⟨_,Heap.get?_push_size _ rfl,rfl,rfl⟩
  refine ST.cB (s:={s1 with heap:=s1.heap.push (ST.MC p ((its.toArray.size:Int)-1)),toks:=tk}) (items:=its.toArray) (r:=s1.heap.objs.size) (t:=p) (I1.ok.hd hc) hit (ST.UE pl fun o e=>Heap.get?_push_of_some _ e) hz' (Nat.ne_of_lt hp) fun h' tk' hk=> ?_
  have keep:∀b o,s1.heap.get? b=some o→(h'.push {cls:= .type "tuple",data:= .seq its.toArray.reverse}).get? b=some o:=fun b o e=>Heap.get?_push_of_some _ (hk b o (Nat.ne_of_lt (Heap.lt_size e)) (Heap.get?_push_of_some _ e))
  have hD:s1.heap.get? h'.objs.size=none:=by
   cases q':s1.heap.get? h'.objs.size with
   |none=>rfl
   |some o=>exact absurd (Heap.lt_size (hk _ _ (Nat.ne_of_lt (Heap.lt_size q')) (Heap.get?_push_of_some _ q'))) (Nat.lt_irrefl _)
  have hDn:=I1.none_at hD
  refine⟨.ref _,BT H1 h'.objs.size (.tup xs.reverse),I1.laids (t':=tk') keep (B4 hDn _) fun b u e=> ?_,rfl,q _ hDn⟩
  by_cases hb:b=h'.objs.size
  ·subst hb
   rw[B3]at e
   cases e
   refine .inr ⟨hD,⟨by rw[List.length_reverse];exact hz,its.reverse,rv.reverse,?_⟩⟩
   exact⟨_,Heap.get?_push_size _ rfl,⟨rfl,rfl⟩,_,by simp;rfl⟩
  ·rw[AR hb]at e;exact .inl e
def vI:M→Option (List M)
 | .tup xs=>some xs
 |_=>none
def N4 (x:M) (_:AA):Option M:=(vI x).map fun xs=> .tup xs.reverse
theorem a9 (hc:X.calm=true) (q1:NmOk X.env.scope "tuple" .globalImplicit) (m1:X.mg "tuple"=none) (q2:NmOk X.env.scope "reversed" .globalImplicit) (m2:X.mg "reversed"=none) (ha:PE X a (tM X.K ma)) (hs:BB a=true):
 PE X (.Call (.Name "tuple" p1) [.Call (.Name "reversed" p2) [a] [] pos2] [] pos1) (tM X.K (lQ N4 ma)):=(YV hc q1 m1 q2 m2 ha hs).imp fun σ H Q ⟨α,ρ,h,d,h',hσ,hr,e,k⟩=>by
 obtain⟨x,h1,e1,e⟩:=A8 e
 obtain⟨e3,e4⟩:=CQ e
 dsimp only at e3 e4
 subst e4
 obtain⟨xs,e5,e6⟩:=Option.map_eq_some_iff.mp e3
 refine⟨α,ρ,h,x,_,hσ,hr,e1,fun α1 H1 v ev1 hr1 rv=> ?_⟩
 cases x<;>cases e5
 obtain⟨p,vs,rfl,sq,rs⟩:=rv
 refine⟨p,vs,rfl,sq.sq,fun l hl=> ?_⟩
 rw[←e6]at k
 exact k α1 _ _ (ev1.trans (.same (B4 hl _))) (hr1.same (B4 hl _)) (XA hr1 hl rs.reverse)
def qM (a:FE):FT:=fun ρ h=>bnd (a ρ h) fun x h1=>(GV h1 x).map fun xs=>(!xs.isEmpty,h1)
theorem jE (ha:PE X a (tM X.K ma)) (he:∀whole,isTrue a X.env whole=(do let v←whole;standAt a.pos;holding [v] (truthy v))):PT X a (bM X.K (qM ma)):=(eR ha he).imp fun σ H Q ⟨α,ρ,h,d,h',hσ,hr,e,k⟩=>by
 obtain⟨x,h1,e1,e⟩:=A8 e
 obtain⟨xs,e2,e3⟩:=Option.map_eq_some_iff.mp e
 cases e3
 refine⟨α,ρ,h,x,_,hσ,hr,e1,fun α1 H1 v ev1 hr1 rv=> ?_⟩
 obtain⟨p,vs,rfl,sq,rs⟩:=DT hr1 rv e2
 refine⟨!vs.isEmpty, .inl ⟨vs,sq,rfl⟩,?_⟩
 have:(!vs.isEmpty)= !xs.isEmpty:=by
  have:=rs.length
  cases xs<;>cases vs<;>simp_all
 rw[this]
 exact k α1 H1 ev1 hr1
end
section
variable {R:M→AA→Prop} {B:Bool→AA→Prop} {ρ:BJ} {h:AA} {ma:FE}
theorem c8 (q:Ens (ma ρ h) fun x h1=>∃xs,x= .tup xs∧R (.tup xs.reverse) h1):Ens (lQ N4 ma ρ h) R:= .bnd (q.mono fun x h1 q=>by
 obtain⟨xs,rfl,q⟩:=q
 exact .ret q)
theorem nF (q:Ens (ma ρ h) fun x h1=>∃xs,GV h1 x=some xs∧B (!xs.isEmpty) h1):Ens (qM ma ρ h) B:= .bnd (q.mono fun x h1 q=>by
 obtain⟨xs,e,q⟩:=q
 show Ens ((GV h1 x).map _) B
 rw[e]
 exact .ret q)
theorem qO (q:Ens (ma ρ h) fun x h1=>∃na,NZ h1 x=some na∧R (.lst ((FV na).map M.int)) h1):Ens (lQ ND ma ρ h) R:= .bnd (q.mono fun x h1 q=>by
 obtain⟨na,e,q⟩:=q
 show Ens ((ND x h1).map (·,h1)) R
 unfold ND
 rw[e]
 exact .ret q)
end
end L2
set_option maxHeartbeats 1000000
namespace L2
open PySem PySem.Spec PyProof.Rows
def QS (P:Program) (w:World) (K:PySem.W.Frag) (kvs:List (BC×M)) (u:Value):Prop:=
 ∃(a:Addr) (o:Obj) (es:Array DictEntry) (ep:Nat) (ws:List (BC×V)) (vs:List (BC×Value)),u= .ref a∧K.lookup a=some o∧o.ExactDict∧o.data= .dict es ep∧KeysOf (BE P w) es∧KV ws vs∧Pairs (BE P w) es.toList vs∧(vs.map (·.1)).Nodup∧
  ws.map (·.1)=kvs.map (·.1)∧∀α H,RepAs K α H (kvs.map (·.2)) (ws.map (·.2))
def DctE (P:Program) (w:World):List (BC×M)→List DictEntry→List (BC×V)→List (BC×Value)→Prop
 |[],es,ws,vs=>es=[]∧ws=[]∧vs=[]
 |kv::kvs,es,ws,vs=>∃x z t t' es' ws' vs',kv=(.inr x, .str z)∧es=⟨y1 w (.inr x), .str x t, .str z t'⟩::es'∧ws=(.inr x, .str z)::ws'∧vs=(.inr x, .str z t')::vs'∧DctE P w kvs es' ws' vs'
theorem jT {P:Program} {w:World}:∃ws vs,DctE P w [] [] ws vs:=⟨[],[],rfl,rfl,rfl⟩
theorem NN {P:Program} {w:World} {x z:Str} {t t':Tok} {kvs:List (BC×M)} {es:List DictEntry} (h:∃ws vs,DctE P w kvs es ws vs):∃ws vs,DctE P w ((.inr x, .str z)::kvs) (⟨PyData.keyHash w.params x, .str x t, .str z t'⟩::es) ws vs:=by
 obtain⟨ws,vs,h⟩:=h
 exact⟨_,_,x,z,t,t',es,ws,vs,rfl,rfl,rfl,rfl,h⟩
theorem DctE.all {P:Program} {w:World}:∀{kvs:List (BC×M)} {es:List DictEntry} {ws:List (BC×V)} {vs:List (BC×Value)},DctE P w kvs es ws vs→
 (∀e∈es,∃k,(BE P w).is k e.key=true∧e.hash=(BE P w).hash k)∧KV ws vs∧Pairs (BE P w) es vs∧vs.map (·.1)=kvs.map (·.1)∧ws.map (·.1)=kvs.map (·.1)∧∀(K:PySem.W.Frag) α H,RepAs K α H (kvs.map (·.2)) (ws.map (·.2))
 |[],_,_,_,⟨e1,e2,e3⟩=>by
  subst e1 e2 e3
  exact⟨(fun e he=>by cases he), .nil, .nil,rfl,rfl,fun _ _ _=>rfl⟩
 |kv::kvs,_,_,_,⟨x,z,t,t',es',ws',vs',e0,e1,e2,e3,h⟩=>by
  subst e0 e1 e2 e3
  obtain⟨h1,h2,h3,h4,h5,h6⟩:=DctE.all h
  refine⟨fun e he=> ?_, .cons ⟨rfl,⟨t',rfl⟩⟩ h2, .cons (II P w x t) rfl h3,by rw[List.map_cons,List.map_cons,h4],by rw[List.map_cons,List.map_cons,h5],fun K α H=>⟨_,_,rfl,rfl,h6 K α H⟩⟩
  rcases List.mem_cons.1 he with rfl|he
  ·exact⟨.inr x,II P w x t,rfl⟩
  ·exact h1 e he
theorem YC {P:Program} {w:World} {K:PySem.W.Frag} {a:Addr} {es:List DictEntry} {ep:Nat} {kvs:List (BC×M)} (hl:K.lookup a=some {cls:= .type "dict",data:= .dict es.toArray ep}) (h:∃ws vs,DctE P w kvs es ws vs) (hn:(kvs.map (·.1)).Nodup):QS P w K kvs (.ref a):=by
 obtain⟨ws,vs,h⟩:=h
 obtain⟨h1,h2,h3,h4,h5,h6⟩:=h.all
 exact⟨a,_,es.toArray,ep,ws,vs,rfl,hl,⟨rfl,rfl,rfl⟩,rfl,(fun e he=>h1 e (by simpa using he)),h2,(by simpa using h3),by rw[h4];exact hn,h5,h6 K⟩
section
variable {X:Cx} {b:Expr} {tb:TE} {mb:FE} {pos p:Pos} {x:Str} {u:Value}
def uV (ws:List (BC×V)) (tb:TE):TE:=fun σ H Q=>tb σ H fun y H1=>∃k v,y=kV k∧JF ws k=some v∧Q v H1
theorem pN {a:Addr} {o:Obj} {es:Array DictEntry} {ep:Nat} {ws:List (BC×V)} {vs:List (BC×Value)} (q:NmOk X.env.scope x .globalImplicit) (hm:X.mg x=some (.ref a))
 (hk:X.K.lookup a=some o) (hx:o.ExactDict) (hd:o.data= .dict es ep) (ho:KeysOf (BE X.prog X.w) es) (rel:KV ws vs) (hp:Pairs (BE X.prog X.w) es.toList vs) (hn:(vs.map (·.1)).Nodup) (hb:PE X b tb) (hs:MS b):
 PE X (.Subscript (.Name x p) b pos) (uV ws tb):=by
 intro pins s σ H Q I h
 refine Subscript_ (thn (SY (v:= .ref a) q hm rfl pins s σ H (fun v H1=>v= .ref a∧uV ws tb σ H1 Q) I ⟨rfl,h⟩) fun v0 s0 ⟨x0,H0,I0,r0,e0,q0⟩=> ?_)
 subst e0
 cases(show v0=Value.ref a from r0)
 refine thn (hb pins s0 σ H0 _ I0 q0) fun u s1 ⟨y,H1,I1,r1,k,v,ey,ev,q1⟩=> ?_
 have hget:s1.heap.get? a=some o:=I1.kIn a o hk
 have dd:s1.heap.DictOf (BE X.prog X.w) a vs:=⟨o,es,ep,hget,hx,hd,ho,hp,hn⟩
 have hT:s1.TypeIs (.ref a) "dict":=dd.typeIs
 unfold subscriptTail
 refine wpAny_bind ?_
 rw[getitemInPython_of_ne hT.not_modules]
 refine wpAny_bind (wpAny_specialOf hT PySem.F.slot_dict_getitem.lookup ?_)
 subst ey
 obtain⟨w',hw,rw'⟩:=RelO.some_of (v:=v) (o:=valueAt vs k) (by rw[←ev];exact rel.val k)
 have fin:wpAny (model X.prog X.w) X.A (subscripted b false (.ref a) u) (fun r s₃=>wpAny (model X.prog X.w) X.A (letTemporaryGo (.Name x p) (.ref a) r>>=fun _=>pure r) (EP X pins σ Q) X.xe s₃) X.xe s1:=by
  rw[hs _ _]
  exact wpAny_operating (wpAny_mono (wpAny_getItem_of (MH r1) dd.mapOf hw (⟨v,H1,I1.tok _,rw',q1⟩:EP X pins σ Q w' _)) (fun r s₃ h₃=>wpAny_bind (wpAny_letTemporaryGo (wpAny_pure h₃))) fun _ _ x=>x)
 first
  |exact wpAny_pure (wpAny_bind fin)
  |exact wpAny_bind (wpAny_pure (wpAny_bind fin))
  |exact wpAny_bind fin
def k6 (kvs:List (BC×M)) (mb:FE):FE:=fun ρ h=>bnd (mb ρ h) fun y h1=>(JG y).bind fun k=>(E5 kvs k).map (·,h1)
theorem o1 {kvs:List (BC×M)} (q:NmOk X.env.scope x .globalImplicit) (hm:X.mg x=some u) (hc:QS X.prog X.w X.K kvs u) (hb:PE X b (tM X.K mb)) (hs:MS b):PE X (.Subscript (.Name x p) b pos) (tM X.K (k6 kvs mb)):=by
 obtain⟨a,o,es,ep,ws,vs,rfl,hk,hx,hd,ho,rel,hp,hn,ek,rs⟩:=hc
 refine(pN q hm hk hx hd ho rel hp hn hb hs).imp fun σ H Q ⟨α,ρ,h,d,h',hσ,hr,e,k⟩=> ?_
 obtain⟨y,h1,e1,e⟩:=A8 e
 obtain⟨key,e2,e⟩:=Option.bind_eq_some_iff.mp e
 obtain⟨e3,e4⟩:=CQ e
 dsimp only at e3 e4
 subst e4
 refine⟨α,ρ,h,y,_,hσ,hr,e1,fun α1 H1 v ev1 hr1 rv=> ?_⟩
 obtain⟨w,hw,rw'⟩:=(J1 key ek (rs α1 H1)).2 d e3
 exact⟨key,w,FD e2 rv,hw,k α1 H1 w ev1 hr1 rw'⟩
theorem xH {kvs:List (BC×M)} {ρ:BJ} {h:AA} {R:M→AA→Prop} (q:Ens (mb ρ h) fun y h1=>∃k v,JG y=some k∧E5 kvs k=some v∧R v h1):Ens (k6 kvs mb ρ h) R:=by
 obtain⟨y,h1,e,k,v,e1,e2,q⟩:=q
 exact⟨v,h1,by unfold k6;rw[e];simp[bnd,e1,e2],q⟩
end
end L2
namespace L2
open PySem PySem.Spec PyProof.Rows
def yY (K:PySem.W.Frag) (a:Addr) (n:Nat):It:=
 ⟨fun i H=>∃xs x,GO K H a xs∧xs.length=n∧xs.reverse[i]? =some x,fun i H x H'=>H'=H∧∀xs,GO K H a xs→xs.reverse[i]? =some x,fun i H=>∃xs,GO K H a xs∧xs.length=n∧i=n⟩
theorem cH {P:Program} {w:World} {K:PySem.W.Frag} {tg:Expr} (a it:Addr) (n:Nat):Turn P w K tg (yY K a n) [it] it (fun i h=>ST.IsRv h it a ((n:Int)-1-(i:Int))) where
 mem:=by simp
 obj:=fun i h st b hb=>by
  have e:b=it:=by simpa using hb
  subst e
  obtain⟨o,e,c,d⟩:=st
  exact⟨o,e,fun v z=>by rw[d]at z;cases z⟩
 keep:=fun i h h' st k=>st.at fun o e=>k it (by simp) o e
 item:=by
  intro X hP hw hK hc i pins s σ H E I hf st hg
  subst hP hw hK
  obtain⟨xs,x,hq,hn,hx⟩:=hg
  obtain⟨its,rv,p,hz⟩:=I.tuple hq
  have hl:=rv.length
  have hi:i<xs.length:=by
   have:=(List.getElem?_eq_some_iff.mp hx).1
   simpa using this
  have hx':xs[n-1-i]? =some x:=by
   rw[List.getElem?_reverse hi,hn]at hx
   exact hx
  obtain⟨u,hu,ru⟩:=rv.get hx'
  obtain⟨f0,f1,f2,f3,f4,f5⟩:=hf it (by simp)
  have hit:ST.IsRv s.heap it a ((n-1-i:Nat):Int):=by rw[show((n-1-i:Nat):Int)=(n:Int)-1-(i:Int) by omega];exact st
  refine ST.Y3 hit p (x:=u) (by simpa using hu) (by rw[List.size_toArray,←hl];exact hz) fun h' tk st' sb=> ?_
  have I1:Inv X pins σ H {s with heap:=h',toks:=tk}:=I.turned (t':=tk) (fun b o hb e=>(sb.2 b hb).trans e) f0 f1 f3 f4 f5
  obtain⟨o,e,c,d⟩:=id st'
  refine⟨u,rfl,Y5 (s:={s with heap:=h',toks:=tk}) e c d (by decide) ⟨x,H,I1,ru,⟨rfl,fun ys hy=>by rw[I.tuple_inj hy hq];exact hx⟩,?_,fun b hb=>(hf b hb).1⟩⟩
  show ST.IsRv h' it a ((n:Int)-1-((i+1:Nat):Int))
  rw[show(n:Int)-1-((i+1:Nat):Int)=((n-1-i:Nat):Int)-1 by omega]
  exact st'
 done:=by
  intro X hP hw hK hc i pins s σ H E I hf st hg
  subst hP hw hK
  obtain⟨xs,hq,hn,hi⟩:=hg
  obtain⟨f0,f1,f2,f3,f4,f5⟩:=hf it (by simp)
  have hit:ST.IsRv s.heap it a (-1):=by
   have:=st
   rw[show(n:Int)-1-(i:Int)= -1 by omega]at this
   exact this
  exact ST.eG (I.ok.hd hc) hit fun h' eb=>⟨rfl,I.turned (t':=s.toks) (fun b o hb e=>eb b o hb e) f0 f1 f3 f4 f5⟩
 self:=fun _ _ _ _ _ st h=>ST.MY st h
section
variable {X:Cx} {K:PySem.W.Frag} {a tg:Expr} {ta:TE} {ma:FE} {p1 pos1:Pos}
def A0D (K:PySem.W.Frag) (ta:TE):TI:=fun σ H R=>ta σ H fun x H1=>∃a xs,x= .ref a∧GO K H1 a xs∧R (yY K a xs.length) H1
theorem rT (hc:X.calm=true) (q2:NmOk X.env.scope "reversed" .globalImplicit) (m2:X.mg "reversed"=none) (ha:PE X a ta) (hs:BB a=true):PI X tg (.Call (.Name "reversed" p1) [a] [] pos1) (A0D X.K ta):=by
 intro pins s σ H R I h
 refine Call_ (KC I q2.lk m2 PyProof.Rows.boot_reversed (PyProof.Rows.callWith_type1 (thn ((RM ha HN hs) pos1 pins s σ H (fun vs H1=>match vs with|[x]=>(∃p xs,x= .ref p∧GO X.K H1 p xs∧R (yY X.K p xs.length) H1)|_=>False) I h) fun us s1 ⟨vs,H1,I1,r1,q⟩=> ?_) (DK hs) rfl))
 cases r1 with
 |nil=>exact q.elim
 |cons r rr=>
  cases rr with
  |cons _ _=>exact q.elim
  |nil=>
  obtain⟨p,xs,ex,hq,q⟩:=q
  subst ex
  cases(show _=Value.ref p from r)
  obtain⟨its,rv,pl,hz⟩:=I1.tuple hq
  have hz':its.toArray.size≤sizeLine:=by rw[List.size_toArray,←rv.length];exact hz
  refine ST.XC pl hz' fun tk=> ?_
  have hit:ST.IsRv (s1.heap.push (ST.MC p ((its.toArray.size:Int)-1))) s1.heap.objs.size p ((xs.length:Int)-1-((0:Nat):Int)):=⟨_,Heap.get?_push_size _ rfl,rfl,by
   show Data.fields _=Data.fields _
   rw[List.size_toArray,←rv.length]
   simp⟩
  refine ST.MY (s:={s1 with heap:=s1.heap.push (ST.MC p ((its.toArray.size:Int)-1)),toks:=tk}) hit ?_
  have fp:∀b∈[s1.heap.objs.size],OH X pins H1 b:=fun b hb=>by
   have e:b=s1.heap.objs.size:=by simpa using hb
   rw[e]
   exact I1.fpOk (Nat.le_refl _) (I1.hok.fresh (Nat.le_refl _))
  exact⟨s1.heap.objs.size,[s1.heap.objs.size],_,_,H1,rfl,I1.kept (t':=tk) fun b o e=>Heap.get?_push_of_some _ e,cH p _ _,hit,fp,q⟩
def iRv (a:FE):FI:=fun ρ h=>bnd (a ρ h) fun x h1=>(vI x).map fun xs=>((xs.reverse,none),h1)
theorem oN {α:Pl} {H:Hp} {a:Addr} {n:Nat} {xs:List M} (hn:xs.length=n) (hs:∀γ,(∀b∈γ,H b=none)→∀α1 h1 H1,Ev ⟨α.a,γ++α.g⟩ α1 H H1→Rl K α1 h1 H1→∃vs,GO K H1 a vs∧RepAs K α1 H1 xs vs):Wk K α H xs.reverse none (yY K a n):=by
 intro γ hγ α1 h1 H1 ev hr ok i
 obtain⟨vs,sq,rs⟩:=hs γ hγ α1 h1 H1 ev hr
 have hl:vs.length=n:=by rw[←rs.length];exact hn
 refine⟨fun x hx=> ?_,fun hi=>⟨vs,sq,hl,by rw[List.length_reverse]at hi;omega⟩⟩
 obtain⟨v,hv,rv⟩:=rs.reverse.get hx
 refine⟨⟨vs,v,sq,hl,hv⟩,fun w H2 y=> ?_⟩
 obtain⟨e1,e2⟩:=y
 subst e1
 have:=e2 vs sq
 rw[hv]at this
 cases this
 exact⟨Same.refl _,rv⟩
theorem rO (hc:X.calm=true) (q2:NmOk X.env.scope "reversed" .globalImplicit) (m2:X.mg "reversed"=none) (ha:PE X a (tM X.K ma)) (hs:BB a=true):PI X tg (.Call (.Name "reversed" p1) [a] [] pos1) (iM X.K (iRv ma)):=(rT hc q2 m2 ha hs).imp fun σ H R ⟨α,ρ,h,s,h',hσ,hr,e,k⟩=>by
 obtain⟨x,h1,e1,e⟩:=A8 e
 obtain⟨xs,e2,e3⟩:=Option.map_eq_some_iff.mp e
 cases e3
 refine⟨α,ρ,h,_,_,hσ,hr,e1,fun α1 H1 v ev1 hr1 rv=> ?_⟩
 cases x<;>cases e2
 obtain⟨a,vs,rfl,ha,rs⟩:=id rv
 refine⟨a,vs,rfl,ha.sq,k α1 H1 _ ev1 hr1 (oN rs.length fun γ hγ α2 h2 H2 ev2 hr2=> ?_)⟩
 obtain⟨a',vs',ea,ha',rs'⟩:=(rv.hides hγ).ev ev2
 cases ea
 exact⟨vs',ha'.sq,rs'⟩
theorem wI {ρ:BJ} {h:AA} {s:SI} (q:Ens (ma ρ h) fun x h1=>∃xs,x= .tup xs∧s (xs.reverse,none) h1):Ens (iRv ma ρ h) s:= .bnd (q.mono fun x h1 q=>by obtain⟨xs,rfl,q⟩:=q;exact .ret q)
end
end L2
namespace L2
open PySem PySem.Spec PyProof.Rows
mutual
def C3:D→PyData
 | .non=> .none
 | .bl b=> .bool b
 | .int i=> .int i
 | .str x=> .str x
 | .tup ds=> .tuple (CF ds)
 | .lst ds=> .list (CF ds)
def CF:List D→List PyData
 |[]=>[]
 |d::ds=>C3 d::CF ds
end
mutual
theorem P6:∀d:D,(C3 d).hasDict=false
 | .non=>rfl
 | .bl _=>rfl
 | .int _=>rfl
 | .str _=>rfl
 | .tup ds=>JR ds
 | .lst ds=>JR ds
theorem JR:∀ds:List D,PyData.hasDictAll (CF ds)=false
 |[]=>rfl
 |d::ds=>by show((C3 d).hasDict||PyData.hasDictAll (CF ds))=false;rw[P6 d,JR ds];rfl
end
section
variable {X:Cx} {K:PySem.W.Frag} {pins:List (Addr×Obj)} {σ:St} {H:Hp} {s:Shared}
mutual
theorem TC (I:Inv X pins σ H s):∀{d:D} {x:V} {u:Value},RepK X.K H d x→RelV x u→∃as,Reads s.heap u (C3 d) as
 | .non,x,u,h,r=>by cases(show x= .non from h);cases(show u=Value.none from r);exact⟨_, .none⟩
 | .bl b,x,u,h,r=>by cases(show x= .bl b from h);cases(show u=Value.bool b from r);exact⟨_, .bool b⟩
 | .int i,x,u,h,r=>by cases(show x= .int i from h);obtain⟨t,rfl⟩:=r;exact⟨_, .int i t⟩
 | .str z,x,u,h,r=>by cases(show x= .str z from h);obtain⟨t,rfl⟩:=r;exact⟨_, .str z t⟩
 | .tup ds,x,u,⟨a,xs,e,sq,rs⟩,r=>by
   subst e
   cases(show u=Value.ref a from r)
   obtain⟨its,rv,o,e1,e2,n,e3⟩:=I.tupK sq
   obtain⟨as,ra⟩:=LW I rs rv
   exact⟨as, .tuple e1 e2 e3 (by simpa using ra)⟩
 | .lst ds,x,u,⟨a,xs,e,sq,rs⟩,r=>by
   subst e
   cases(show u=Value.ref a from r)
   obtain⟨its,rv,o,e1,e2,n,e3⟩:=I.lstK sq
   obtain⟨as,ra⟩:=LW I rs rv
   exact⟨_, .list e1 e2 e3 (by simpa using ra)⟩
theorem LW (I:Inv X pins σ H s):∀{ds:List D} {xs:List V} {us:List Value},RepKs X.K H ds xs→Vals xs us→∃as,ReadsAll s.heap us (CF ds) as
 |[],xs,us,h,r=>by cases(show xs=[] from h);cases r;exact⟨_, .nil⟩
 |d::ds,xs,us,⟨x,xr,e,h1,h2⟩,r=>by
  subst e
  cases r with
  |cons r1 r2=>
   obtain⟨as,ra⟩:=TC I h1 r1
   obtain⟨bs,rb⟩:=LW I h2 r2
   exact⟨_, .cons ra rb⟩
end
def nB (K:PySem.W.Frag):List V→Hp→VK→Prop:=fun xs H Q=>∃(a:Addr) (d:D),xs=[.ref a]∧RepK K H d (.ref a)∧(C3 d).showable=true∧(C3 d).depth≤100∧(C3 d).shown.length≤sizeLine∧Q (.str (C3 d).shown) H
theorem EZ (hg:X.A.guards=some []) (hu:X.A.units+151<cLine):DC X (.type "str") (nB X.K):=by
 intro pins s σ H xs us Q I r h
 obtain⟨a,d,rfl,hd,hs,hp,hl,q⟩:=h
 obtain⟨u,rfl,ru⟩:=G4 r
 obtain rfl:u=Value.ref a:=ru
 obtain⟨as,ra⟩:=TC I hd (show RelV (.ref a) (.ref a) from rfl)
 exact str_of_reads ra hs (by rw[P6];intro e;cases e) hg (by omega) (fun _ _ e=>e) (fun h' t tk hk=>⟨.str _,H,I.kept (t':=tk) hk,⟨_,rfl⟩,q⟩) hl
def EC (xs:List M) (h:AA):Option M:=match xs with
 |[.tup ms]=>(UO h (.tup ms)).bind fun d=>if(C3 d).showable=true∧(C3 d).depth≤100∧(C3 d).shown.length≤16777216 then some (.str (C3 d).shown) else none
 |_=>none
theorem J8:HS K (nB K) EC:=by
 intro α h H xs d us Q hr rs e k
 unfold EC at e
 split at e
 ·rename_i ms
  obtain⟨d0,e1,e⟩:=Option.bind_eq_some_iff.mp e
  split at e
  ·rename_i hc
   cases e
   obtain⟨u,rfl,ru⟩:=K7 rs
   obtain⟨a,vs,rfl,_⟩:=id ru
   exact⟨a,d0,rfl,EV hr e1 ru,hc.1,hc.2.1,by rw[sizeLine_eq];exact hc.2.2,k H _ (Same.refl _) rfl⟩
  ·cases e
 ·cases e
end
end L2
set_option maxHeartbeats 1000000
set_option maxHeartbeats 1000000
namespace ZT
open PySem PyProof.Rows
section
variable {prog:Program} {w:World} {K:Type} [DecidableEq K] {knd:KeyKind prog w K} {A:Around} {R:Result→Shared→Prop} {I:Addr} {fp wr:List Addr} {n:Nat} {P:Nat→Value→Prop} {St:Nat→Heap→Prop} {kvs:List (K×Value)}
theorem QT (bs:List (K×Value)) (W:Walks prog w A.in1 I fp wr n P St) (D:Addr) (hDf:D∉fp) (Pair:Addr→Value→Value→Prop) (hPr:∀i v,P i v→∃a key x k,v= .ref a∧kvs[i]? =some (k,x)∧knd.is k key=true∧Pair a key x)
 (hne:∀a key x,Pair a key x→a≠D∧a∉wr) (hn:kvs.length=n) (hsz:bs.length+n≤sizeLine) (res:Value):
 ∀(m i:Nat) (s:Shared) (t:Tok),n-i=m→i≤n→St i s.heap→(∀a key x,Pair a key x→∃o c,s.heap.get? a=some o∧o.cls= .type "tuple"∧o.data= .seq #[key,x] c)→s.heap.DictOf knd D (merged bs (kvs.take i))→
  (∀h' tk,(∀b o,b≠D→b∉wr→s.heap.get? b=some o→h'.get? b=some o)→h'.DictOf knd D (merged bs kvs)→R (.ok (.ret res)) {s with heap:=h',toks:=tk})→
  codeAny (model prog w) A (.builtin "dict.update.loop" ⟨[.ref D, .ref I, .int (i:Int) t,res],[]⟩) R s:=by
 have hDw:D∉wr:=fun h=>hDf (W.sub _ h)
 intro m
 induction m with
 |zero=>
  intro i s t hk hi hst hp hD hR
  have hin:i=n:=by omega
  subst hin
  refine codeAny_builtin G5 ?_
  rw[Around.under_plainId CT _]
  show wpAny _ A.in1 (pyNext (.ref I)>>=_) _ _ s
  refine wpAny_bind (W.done s _ _ hst fun h' tk hk'=> ?_)
  show wpAny _ A.in1 (Builtin.Dict.addKeywords D []>>=fun _=>ret res) _ _ _
  refine wpAny_bind (wpAny_pure (wpAny_pure (hR h' tk (fun b o _ hb e=>hk' b o hb e) ?_)))
  rw[←hn,List.take_length]at hD
  obtain⟨o,es,ep,ho,rest⟩:=hD
  exact⟨o,es,ep,hk' D _ hDw ho,rest⟩
 |succ m ih=>
  intro i s t hk hi hst hp hD hR
  have hlt:i<n:=by omega
  refine codeAny_builtin G5 ?_
  rw[Around.under_plainId CT _]
  show wpAny _ A.in1 (pyNext (.ref I)>>=_) _ _ s
  refine wpAny_bind (W.item i s _ _ hlt hst fun v h' tk hP st' hk'=> ?_)
  obtain⟨a,key,x,k,rfl,hkv,hkey,hpair⟩:=hPr i v hP
  obtain⟨o,c,ho,hoc,hod⟩:=hp a key x hpair
  have ho':h'.get? a=some o:=hk' a o (hne a key x hpair).2 ho
  have hD':h'.DictOf knd D (merged bs (kvs.take i)):=by
   obtain⟨o,es,ep,ho,rest⟩:=hD
   exact⟨o,es,ep,hk' D _ hDw ho,rest⟩
  have hT:(({s with heap:=h',toks:=tk}:Shared)).TypeIs (.ref a) "tuple":=⟨o,ho',hoc⟩
  refine wpAny_bind (wpAny_holding ?_)
  refine wpAny_bind (wpAny_tryCatch ?_)
  unfold Builtin.Dict.pairItems
  refine wpAny_bind (wpAny_typeOf hT ?_)
  rw[if_pos (by decide)]
  refine wpAny_bind (wpAny_seqItems ho' hod ?_)
  refine wpAny_pure ?_
  show wpAny _ A.in1 (holding [key,x] (dictSet D key x)) _ _ _
  have hz:(merged bs (kvs.take i)).length≤sizeLine:=by
   have:=merged_length_le bs (kvs.take i)
   rw[List.length_take]at this
   omega
  refine wpAny_holding (wpAny_dictSet_pairs (hsz:=hz) hkey hD' fun h2 hD2 hs2=> ?_)
  have keep:∀b o,b≠D→b∉wr→s.heap.get? b=some o→h2.get? b=some o:=fun b o h1 h3 e=>(hs2.2 b h1).trans (hk' b o h3 e)
  rw[←merged_take_succ _ _ i _ hkv]at hD2
  refine wpAny_pure ⟨plainId_quiet CT _,?_⟩
  show codeAny _ A (.builtin "dict.update.loop" ⟨[.ref D, .ref I, .int (((i:Nat):Int)+1) 0,res],[]⟩) R _
  rw[show((i:Int)+1)=((i+1:Nat):Int) from by omega]
  refine ih (i+1) _ 0 (by omega) hlt (W.frame _ _ _ st' fun b hb o e=>(hs2.2 b (fun z=>hDf (z▸hb))).trans e) (fun a' key' x' hp'=> ?_) hD2 fun h3 tk3 hk3 hD3=> ?_
  ·obtain⟨o',c',e1,e2⟩:=hp a' key' x' hp'
   exact⟨o',c',keep a' o' (hne _ _ _ hp').1 (hne _ _ _ hp').2 e1,e2⟩
  ·exact hR h3 tk3 (fun b o h1 h2' e=>hk3 b o h1 h2' (keep b o h1 h2' e)) hD3
theorem RH {E:Value→Shared→Prop} {s:Shared} {D l:Addr} {items:Array Value} {bs kvs:List (K×Value)} {o:Obj} {c:Nat} {Q:Value→Shared→Prop} (hh:A.handled=none) (hD:s.heap.DictOf knd D bs)
 (ho:s.heap.get? l=some o) (hc:o.cls= .type "list") (hda:o.data= .seq items c) (hd:o.dict=none) (hlD:l≠D) (hn:kvs.length=items.size) (hsz:bs.length+items.size≤sizeLine)
 (hps:∀(i:Nat) (v:Value),items[i]? =some v→∃a key x k o c,v= .ref a∧kvs[i]? =some (k,x)∧knd.is k key=true∧a≠D∧s.heap.get? a=some o∧o.cls= .type "tuple"∧o.data= .seq #[key,x] c)
 (hQ:∀h' tk,(∀b o,b≠D→s.heap.get? b=some o→h'.get? b=some o)→h'.DictOf knd D (merged bs kvs)→Q .none {s with heap:=h',toks:=tk}):
 wpAny (model prog w) A (call (.builtin "dict.update") [.ref D, .ref l]) Q E s:=by
 have hTl:∀s':Shared,(∀b o,s.heap.get? b=some o→s'.heap.get? b=some o)→s'.TypeIs (.ref l) "list":=fun s' hk=>⟨o,hk _ _ ho,hc⟩
 refine wpAny_call (codeAny_call_builtin (R:=wants Q E) F.slot_dict_update.plain F.entry_dict_update (F.slot_dict_update.check _ _ _ _ _ _ _ _ hD.typeIs (F.args_dict_update_2 _ _) ?_))
 unfold Builtin.«dict.update»
 refine wpAny_bind ?_
 unfold Builtin.Dict.selfAndRest
 refine wpAny_bind (wpAny_notOrdered_dict hD.typeIs (wpAny_pure ?_))
 show wpAny _ _ (Builtin.Dict.updateFrom "dict.update" D (.ref l) [] .none) _ _ s
 unfold Builtin.Dict.updateFrom
 refine wpAny_bind (wpAny_typeOf (hTl s fun _ _ e=>e) ?_)
 rw[if_pos (by decide)]
 refine wpAny_bind (RG ho hc hda hd (by simpa using hh) fun h1 tk1 hk1=> ?_)
 simp only[Option.isNone_none,if_true]
 refine wpAny_bind (wpAny_rule ?_)
 have hl1:(({s with heap:=h1,toks:=tk1}:Shared)).heap.IsList l items:=⟨o,hk1 _ _ ho,hc,c,hda⟩
 refine wpAny_bind (wpAny_pyIter_list hl1 ?_)
 have hlz:l<h1.objs.size:=Heap.lt_size (hk1 _ _ ho)
 have hDz:D<h1.objs.size:=let⟨q,_,_,e,_⟩:=hD;Heap.lt_size (hk1 _ _ e)
 have keep:∀b q,s.heap.get? b=some q→(h1.push {cls:= .type "list_iterator",data:= .fields #[.ref l, .int 0 0]}).get? b=some q:=fun b q e=>Heap.get?_push_of_some _ (hk1 b q e)
 have hD2:(h1.push {cls:= .type "list_iterator",data:= .fields #[.ref l, .int 0 0]}).DictOf knd D (merged bs (kvs.take 0)):=by
  obtain⟨q,es,ep,e,rest⟩:=hD
  exact⟨q,es,ep,keep _ _ e,rest⟩
 refine wpAny_pure ⟨plainId_quiet CT _,?_⟩
 refine QT (A:=A) (knd:=knd) (kvs:=kvs) bs (Walks.list (A:=A.in1) (by simpa using hh) h1.objs.size l (Nat.ne_of_lt hlz) items) D (by simp[Nat.ne_of_lt hDz,Ne.symm hlD]) (fun a key x=>a≠D∧∃o c,s.heap.get? a=some o∧o.cls= .type "tuple"∧o.data= .seq #[key,x] c)
  (fun i v hv=> ?_) (fun a key x hp=> ?_) hn hsz .none items.size 0 _ 0 (by omega) (Nat.zero_le _) ⟨⟨_,Heap.get?_push_size _ rfl,rfl,rfl⟩,hl1.push _⟩ (fun a key x hp=> ?_) hD2 fun h3 tk3 hk3 hD3=> ?_
 ·obtain⟨a,key,x,k,o,c,h4,h5,h6,h7,h8⟩:=hps i v hv
  exact⟨a,key,x,k,h4,h5,h6,h7,o,c,h8⟩
 ·obtain⟨h7,o,c,h8,_⟩:=hp
  exact⟨h7,by simpa using Nat.ne_of_lt (Heap.lt_size (hk1 _ _ h8))⟩
 ·obtain⟨_,o,c,h8,h9⟩:=hp
  exact⟨o,c,keep a o h8,h9⟩
 ·exact(hQ h3 tk3 (fun b q hb e=>hk3 b q hb (by simpa using Nat.ne_of_lt (Heap.lt_size (hk1 _ _ e))) (keep b q e)) hD3)
end
end ZT
namespace L2
open PySem PySem.Spec PyProof.Rows
def valsAt (v d:Addr):Heap→Prop:=fun h=>h.IsValuesView v d
section
variable {X:Cx} {K:PySem.W.Frag} {a:Expr} {ma:FE} {p1 ap pos1 pos2:Pos}
theorem valsAt.ok {P:Program} {w:World} {v d:Addr} {h:Heap} {H:Hp} (s:valsAt v d h):ObjOk P w H h v (.ext (valsAt v d)):=
 ⟨s,let⟨o,ho,_⟩:=s;⟨o,ho⟩,fun h1 h2 ⟨o,ho,x⟩ hk=>⟨o,hk o ho,x⟩⟩
def kW:V→List V→Hp→VK→Prop:=fun x xs H Q=>∃a ws,x= .ref a∧xs=[]∧Rd H a (.dK ws)∧∀v,H v=none→Q (.ref v) (BT H v (.ext (valsAt v a)))
theorem aC:sY X "dict.values" kW:=by
 intro pins s σ H x xs v us Q I rx rs h
 obtain⟨a,ws,rfl,rfl,ha,q⟩:=h
 cases rs
 obtain rfl:v=Value.ref a:=rx
 obtain⟨z,hd,vs,rel,dd⟩:=JM I.hok ha
 refine call_meetsIn F.slot_dict_values dd.typeIs F.entry_dict_values (F.args_dict_values_1 _) (meets_dict_values (BE X.prog X.w) a hd) ⟨⟨vs,dd⟩,?_⟩
 have hn:H s.heap.objs.size=none:=I.hok.fresh (Nat.le_refl _)
 exact⟨.ref _,BT H s.heap.objs.size (.ext (valsAt s.heap.objs.size a)),I.laid (t':=s.toks) (fun b o e=>Heap.get?_push_of_some _ e) (Nat.le_refl _) (valsAt.ok ⟨_,Heap.get?_push_size _ rfl,rfl,rfl⟩),rfl,q _ hn⟩
def Z8:List V→Hp→VK→Prop:=fun xs H Q=>∃r a ws,xs=[.ref r]∧H r=some (.ext (valsAt r a))∧Rd H a (.dK ws)∧∀l,H l=none→Q (.ref l) (BT H l (.lst (ws.map (·.2))))
theorem aZ:∀{ws:List (BC×V)} {vs:List (BC×Value)},KV ws vs→Vals (ws.map (·.2)) (vs.map (·.2))
 |_,_, .nil=> .nil
 |_,_, .cons r t=> .cons r.2 (aZ t)
theorem OX (hc:X.calm=true):DC X (.type "list") Z8:=by
 intro pins s σ H xs us Q I r h
 obtain⟨v,a,ws,rfl,hv,ha,q⟩:=h
 obtain⟨u,rfl,ru⟩:=G4 r
 obtain rfl:u=Value.ref v:=ru
 obtain⟨z,hd,vs,rel,dd⟩:=JM I.hok ha
 obtain⟨ep,da⟩:=dd.dictAt
 have vw:s.heap.IsValuesView v a:=(show ObjOk X.prog X.w H s.heap v (.ext (valsAt v a)) from I.hok _ _ hv).1
 have hlw:ws.length=vs.length:=KV.length rel
 refine PySem.W.kdl_call (PySem.W.kdl_values (knd:=BE X.prog X.w) (kvs:=vs) (ep:=ep) (r:=v) (d:=a)) (I.ok.hd hc) ⟨vw,da⟩ (by rw[←hlw];exact z) fun h' tk acc c hk hS hacc=> ?_
 have hac:acc.toList=vs.map (·.2):=PySem.W.kdl_vals_eq _ (by rw[Array.length_toList,hacc.1]) fun j x e=>hacc.2 j x (by rw[←Array.getElem?_toList];exact e)
 have hn:H s.heap.objs.size=none:=I.hok.fresh (Nat.le_refl _)
 exact⟨.ref _,BT H s.heap.objs.size (.lst (ws.map (·.2))),I.laid (t':=tk) hk (Nat.le_refl _) ⟨by rw[List.length_map];exact z,vs.map (·.2),c,aZ rel,by rw[hS,←hac]⟩,rfl,q _ hn⟩
def QO (x:M) (h:AA):Option M:=(EE h x).map fun kvs=> .lst (kvs.map (·.2))
theorem U5 (hc:X.calm=true) (q1:NmOk X.env.scope "list" .globalImplicit) (m1:X.mg "list"=none) (ha:PE X a (tM X.K ma)) (hbase:attributeBase a "values" X.env (eval a X.env)=eval a X.env) (hline:(ap.endLine==pos2.line)=true):
 PE X (.Call (.Name "list" p1) [.Call (.Attribute a "values" ap) [] [] pos2] [] pos1) (tM X.K (lQ QO ma)):=
 (FH (OX hc) q1 m1 (by rfl) (RM (cG PySem.F.plainAttrs_dict PySem.F.slot_dict_values PySem.F.type_dict_values aC ha hbase hline) HN (by rfl)) (by rfl) (by rfl)).imp fun σ H Q ⟨α,ρ,h,d,h',hσ,hr,e,k⟩=>by
 obtain⟨x,h1,e1,e⟩:=A8 e
 obtain⟨e3,e4⟩:=CQ e
 dsimp only at e3 e4
 subst e4
 obtain⟨kvs,e5,rfl⟩:=Option.map_eq_some_iff.mp e3
 refine⟨α,ρ,h,x,_,hσ,hr,e1,fun α1 H1 v ev1 hr1 rv=> ?_⟩
 obtain⟨b,ws,rfl,hb,r1,r2⟩:=EY hr1 rv e5
 refine⟨.inr (.inr (.inl ⟨rfl, .inl ⟨ws,hb⟩⟩)),b,ws,rfl,rfl,hb,fun r hn=> ?_⟩
 have s1:Same H1 (BT H1 r (.ext (valsAt r b))):=B4 hn _
 have hr2:=hr1.same s1
 refine⟨r,b,ws,rfl,B3,hb.sm s1,fun l hl=> ?_⟩
 exact k α1 _ _ (ev1.trans (.same (s1.trans (B4 hl _)))) (hr2.same (B4 hl _)) (P7 hr2 hl (r2.ev (.same s1)))
theorem oE {x:M} {h:AA} {kvs:List (BC×M)} {R:M→Prop} (e:EE h x=some kvs) (q:R (.lst (kvs.map (·.2)))):Enp (QO x h) R:=⟨_,by unfold QO;rw[e];rfl,q⟩
def uS (K:PySem.W.Frag):V→List V→Hp→VK→Prop:=fun x xs H Q=>∃(a p:Addr) (bs:List (BC×V)) (ps:List V) (ws:List (BC×V)),x= .ref a∧xs=[.ref p]∧H a=some (.dK bs)∧SqL K H p ps∧VX K H ps ws∧bs.length+ps.length≤sizeLine∧Q .non (BT H a (.dK (D2 bs ws)))
theorem nZ (hc:X.calm=true):sY X "dict.update" (uS X.K):=by
 intro pins s σ H x xs v us Q I rx rs h
 obtain⟨a,p,bs,ps,ws,rfl,rfl,ha,hp,hps,hz,q⟩:=h
 obtain⟨u,rfl,ru⟩:=G4 rs
 obtain rfl:v=Value.ref a:=rx
 obtain rfl:u=Value.ref p:=ru
 obtain⟨z,hd,vs,rel,dd⟩:=eS I.hok ha
 obtain⟨its,rv,pl,hz'⟩:=I.list hp
 obtain⟨kvs,rk,hlen,hit⟩:=W3 I hps rv
 obtain⟨o,n,ho,hcl,hdc,hda⟩:=id pl
 have hlw:bs.length=vs.length:=KV.length rel
 have hne:∀b o' T,s.heap.get? b=some o'→o'.cls= .type T→T≠ "dict"→b≠a:=fun b o' T e c t z=>by
  subst z
  obtain⟨q',_,_,e',ex,_⟩:=dd
  rw[e]at e'
  cases e'
  rw[ex.1]at c
  injection c with c
  exact t c.symm
 refine ZT.RH (knd:=BE X.prog X.w) (bs:=vs) (kvs:=kvs) (items:=its.toArray) (I.ok.hd hc) dd ho hcl hda hdc (hne _ _ _ ho hcl (by decide)) (by rw[hlen];simp) (by rw[List.size_toArray,←rv.length,←hlw];exact hz) (fun i v e=> ?_) fun h' tk hk hD=> ?_
 ·obtain⟨b,key,x,k,o',c',h1,h2,h3,h4,h5,h6⟩:=hit i v (by simpa using e)
  exact⟨b,key,x,k,o',c',h1,h2,h3,hne _ _ _ h4 h5 (by decide),h4,h5,h6⟩
 ·have hl:(D2 bs ws).length≤sizeLine:=by
   have h1:=GE ws bs
   have h2:ws.length=ps.length:=hps.1.symm
   omega
  have he:∃q,h'.get? a=some q:=let⟨q,_,_,hq,_⟩:=hD;⟨q,hq⟩
  exact⟨.non,_,I.write (x:=a) (e:=a) (t':=tk) (by rw[ha];exact True.intro) (.inl rfl) (fun b q hb z=>hk b q hb z) he (WC hl hd (KV.merge rk rel) hD),rfl,q⟩
def YE (x:M) (xs:List M) (h:AA):Option (M×AA):=match x,xs with
 | .ref q,[y]=>(match h[q]?with|some (.dct bs)=>(GV h y).bind fun ys=>(K3 ys).bind fun kvs=>if bs.length+ys.length≤16777216 then some (.non,h.set q (.dct (D8 bs kvs))) else none|_=>none)
 |_,_=>none
theorem oG:vM K (uS K) YE:=by
 intro α h h' H x xs d u us Q hr rx rs e k
 unfold YE at e
 split at e
 ·rename_i q y
  split at e
  ·rename_i bs hq
   obtain⟨ys,e1,e⟩:=Option.bind_eq_some_iff.mp e
   obtain⟨kvs,e2,e⟩:=Option.bind_eq_some_iff.mp e
   split at e
   ·rename_i hz
    cases e
    obtain⟨a,ha,rfl⟩:=rx
    obtain⟨v',rfl,rv⟩:=K7 rs
    obtain⟨p,vs,rfl,sq,rys⟩:=DT hr rv e1
    obtain⟨ws,hw,r1,r2⟩:=hr.obj q a _ ha hq
    obtain⟨pw,hp,rD⟩:=VQ e2 rys
    have hl:ws.length=bs.length:=by have:=congrArg List.length r1;simpa using this
    have ev:Ev α α H (BT H a (.dK (D2 ws pw))):=Ev.write hr (List.mem_of_getElem? ha)
    have rM:=(RepD.merge rD ⟨r1,r2⟩).ev ev
    exact⟨a,p,ws,vs,pw,rfl,rfl,hw,sq,hp,by rw[sizeLine_eq,hl,←rys.length];exact hz,k α _ .non ev (hr.write ha ⟨_,B3,rM.1,rM.2⟩) rfl⟩
   ·cases e
  ·cases e
 ·cases e
theorem xQ {q:Nat} {h:AA} {bs kvs:List (BC×M)} {ys:List M} {R:M→AA→Prop} (e1:h[q]? =some (.dct bs)) (e2:K3 ys=some kvs) (hz:bs.length+ys.length≤16777216) (k:R .non (h.set q (.dct (D8 bs kvs)))):Ens (YE (.ref q) [.lst ys] h) R:=⟨_,_,by
 unfold YE
 simp only[e1]
 rw[show GV h (.lst ys)=some ys from rfl,Option.bind_some,e2,Option.bind_some,if_pos hz],k⟩
end
end L2
namespace L2
open PySem PySem.Spec PyProof.Rows
theorem Pl.no.bare {α:Pl} {p b:Addr} (n:(α.hide p).no b):(α.add p).no b:=
 ⟨fun hm=>(List.mem_append.1 hm).elim n.1 fun e=>n.2 (by rw[List.mem_singleton.1 e];exact List.mem_cons_self),fun hm=>n.2 (List.mem_cons_of_mem _ hm)⟩
mutual
theorem RepA.bare {K:PySem.W.Frag} {α:Pl} {H:Hp} {p:Addr}:∀{m:M} {v:V},RepA K (α.hide p) H m v→RepA K (α.add p) H m v
 | .non,_,h=>h
 | .bl _,_,h=>h
 | .int _,_,h=>h
 | .str _,_,h=>h
 | .ty _,_,h=>h
 | .tup xs,_,⟨a,vs,e1,t,r⟩=>⟨a,vs,e1,t.elim (fun⟨q,n⟩=> .inl ⟨q,n.bare⟩) .inr,RepAs.bare r⟩
 | .scr ns,_,⟨a,e1,t⟩=>⟨a,e1,t.elim (fun⟨q,n⟩=> .inl ⟨q,n.bare⟩) .inr⟩
 | .lst xs,_,⟨a,vs,e1,n,t,r⟩=>⟨a,vs,e1,n.bare,t,RepAs.bare r⟩
 | .dct ks xs,_,⟨a,ws,e1,n,t,ek,r⟩=>⟨a,ws,e1,n.bare,t,ek,RepAs.bare r⟩
 | .ref k,_,⟨a,ha,e⟩=>⟨a,by
   have ha:α.a[k]? =some a:=ha
   show(α.a++[p])[k]? =some a
   rw[List.getElem?_append_left (List.getElem?_eq_some_iff.1 ha).1];exact ha,e⟩
theorem RepAs.bare {K:PySem.W.Frag} {α:Pl} {H:Hp} {p:Addr}:∀{xs:List M} {vs:List V},RepAs K (α.hide p) H xs vs→RepAs K (α.add p) H xs vs
 |[],_,h=>h
 |x::xs,_,⟨v,r,e1,h1,h2⟩=>⟨v,r,e1,RepA.bare h1,RepAs.bare h2⟩
end
theorem RepD.bare {K:PySem.W.Frag} {α:Pl} {H:Hp} {p:Addr} {kvs:List (BC×M)} {ws:List (BC×V)} (r:RepD K (α.hide p) H kvs ws):RepD K (α.add p) H kvs ws:=⟨r.1,r.2.bare⟩
theorem Rl.bare {K:PySem.W.Frag} {α:Pl} {h:AA} {H:Hp} {p:Addr} {o:MO} (r:Rl K (α.hide p) h H) (hp:p∉α.a) (hg:p∉α.g) (ho:fS K (α.add p) H o p):Rl K (α.add p) (h++[o]) H:=by
 have hl:α.a.length=h.length:=r.len
 refine⟨?_,?_,fun b hb hm=> ?_,fun b hb=>r.hid b (List.mem_cons_of_mem _ hb),fun k a o' hk ho'=> ?_⟩
 ·show(α.a++[p]).length=_
  rw[List.length_append,List.length_append,hl];rfl
 ·exact List.nodup_append.2 ⟨r.nd,by simp,fun a ha b hb e=>hp (by rw[←List.mem_singleton.1 hb,←e];exact ha)⟩
 ·rcases List.mem_append.1 hb with z|z
  ·exact r.ap b z (List.mem_cons_of_mem _ hm)
  ·rw[List.mem_singleton.1 z]at hm;exact hg hm
 ·have hk:(α.a++[p])[k]? =some a:=hk
  by_cases z:k<α.a.length
  ·rw[List.getElem?_append_left z]at hk
   rw[List.getElem?_append_left (by omega)]at ho'
   have q:=r.obj k a o' hk ho'
   cases o' with
   |lst xs=>obtain⟨vs,h1,h2⟩:=q;exact⟨vs,h1,h2.bare⟩
   |dct kvs=>obtain⟨ws,h1,h2,h3⟩:=q;exact⟨ws,h1,h2,h3.bare⟩
  ·have hk2:k<(α.a++[p]).length:=(List.getElem?_eq_some_iff.1 hk).1
   rw[List.length_append,List.length_singleton]at hk2
   have e:k=α.a.length:=by omega
   subst e
   rw[List.getElem?_append_right (Nat.le_refl _),Nat.sub_self]at hk
   rw[hl,List.getElem?_append_right (Nat.le_refl _),Nat.sub_self]at ho'
   cases hk
   cases ho'
   exact ho
section
variable {X:Cx} {K:PySem.W.Frag} {mas:FA} {pos:Pos}
theorem jL {keys:List (Option Expr)} {values:List Expr} (h:sX X pos keys values (pM X.K mas)) (hall:keys.all (·.isSome)=true) (hl:keys.length=values.length) (h0:keys≠[])
 (h15:keys.length≤15):PE X (.Dict keys values pos) (tM X.K (dR mas)):=(SE h hall hl h0 h15).imp fun σ H Q ⟨α,ρ,h,d,h',hσ,hr,e,k⟩=>by
 obtain⟨xs,h1,e1,e⟩:=A8 e
 obtain⟨kvs,e2,e⟩:=Option.bind_eq_some_iff.mp e
 split at e
 ·rename_i h15
  cases e
  intro p hp
  refine⟨α.hide p,ρ,h,xs,_,(hσ.hide hp).ev (.same (B4 hp _)),hr.lay hp,e1,fun α2 H2 vs ev2 hr2 rvs=> ?_⟩
  have hg:α2.g=p::α.g:=ev2.pre.1
  have ea:α2=Pl.hide ⟨α2.a,α.g⟩ p:=by cases α2;cases hg;rfl
  have hpm:p∈α2.g:=by rw[hg];exact List.mem_cons_self
  have hpn:p∉α2.a:=fun hm=>hr2.ap p hm hpm
  have hp2:H2 p=some (.dK []):=ev2.keep _ _ B3 (.inr List.mem_cons_self) (hr.newA hp)
  obtain⟨ws,w1,w2,w3⟩:=LN e2 rvs
  refine⟨hp2,ws,w1,by omega,?_⟩
  have hr3:=hr2.hw (u:= .dK (D2 [] ws)) hpm
  have r3:RepD X.K α2 (BT H2 p (.dK (D2 [] ws))) (D8 [] kvs) (D2 [] ws):=by
   have:=RepD.merge w3 (RepD.nil (K:=X.K) (α:=α2) (H:=H2))
   exact⟨this.1,this.2.hw hpm⟩
  have hl2:α2.a.length=h1.length:=hr2.len
  rw[ea]at hr3 r3
  have ro:fS X.K (Pl.add ⟨α2.a,α.g⟩ p) (BT H2 p (.dK (D2 [] ws))) (.dct (D8 [] kvs)) p:=⟨_,B3,r3.bare.1,r3.bare.2⟩
  have ev3:Ev (α.hide p) α2 (BT H p (.dK [])) H2:=ev2
  rw[ea]at ev3
  have ev4:Ev α ⟨α2.a,α.g⟩ (BT H p (.dK [])) H2:=ev3.unhide
  refine k (Pl.add ⟨α2.a,α.g⟩ p) _ _ ⟨⟨rfl,?_⟩,fun b o hb q n=> ?_,fun b ws hb n=> ?_,fun b hb=> ?_⟩ (hr3.bare hpn (hr.new hp).2 ro) ⟨p,by show(α2.a++[p])[h1.length]? =_;rw[←hl2];simp,rfl⟩
  ·obtain⟨_,β,e1,e2⟩:=ev4.pre
   refine⟨β++[p],by show α2.a++[p]=_;rw[show α2.a=α.a++β from e1,List.append_assoc],fun b hb=> ?_⟩
   rcases List.mem_append.1 hb with hb|hb
   ·have:=e2 b hb
    by_cases z:b=p
    ·subst z;exact hp
    ·rw[AR z]at this;exact this
   ·rw[List.mem_singleton.1 hb];exact hp
  ·have z:b≠p:=by intro z;subst z;rw[hp]at hb;cases hb
   rw[AR z];exact ev4.keep b o (by rw[AR z];exact hb) q n
  ·have z:b≠p:=by intro z;subst z;rw[hp]at hb;cases hb
   rcases ev4.keepD b ws (by rw[AR z];exact hb) n with r|⟨o,r⟩
   ·exact .inl (by rw[AR z];exact r)
   ·exact .inr ⟨o,by rw[AR z];exact r⟩
  ·by_cases z:b=p
   ·subst z;exact hp
   ·rw[AR z]at hb
    have:=ev4.dom b hb
    rw[AR z]at this;exact this
 ·cases e
end
section
variable {R:M→AA→Prop} {ρ:BJ} {h:AA} {mas:FA}
theorem nO (q:Ens (mas ρ h) fun xs h1=>∃kvs,P5 xs=some kvs∧kvs.length≤15∧R (.ref h1.length) (h1++[.dct (D8 [] kvs)])):Ens (dR mas ρ h) R:= .bnd (q.mono fun xs h1 q=>by
 obtain⟨kvs,e1,e2,q⟩:=q
 exact⟨_,_,by rw[e1,Option.bind_some,if_pos e2],q⟩)
end
end L2
set_option maxHeartbeats 4000000
namespace K22
open PySem L2
local macro_rules| `(tactic|walk_at "n")=> `(tactic|exact⟨by decide+kernel,by decide+kernel,by decide+kernel,by decide+kernel⟩)
def D3 (i:Nat):Stmt:=PySem.Challenge.pw_webstore_k22_whole_ways_of_twelve.main.body.getD i (.Pass ⟨0,0,0,0⟩)
abbrev CL:Stmt:=D3 2
abbrev CI:Stmt:=D3 3
abbrev CC:Stmt:=D3 8
abbrev CH:Stmt:=D3 9
abbrev G2:Stmt:=D3 10
abbrev EM:Stmt:=D3 11
abbrev BR:Stmt:=D3 12
abbrev BQ:Stmt:=D3 13
abbrev EI:Stmt:=D3 14
abbrev CJ:Stmt:=D3 15
abbrev C1:Stmt:=D3 16
abbrev ED:Stmt:=D3 17
abbrev CA:Stmt:=D3 18
abbrev AU:Stmt:=D3 19
abbrev E6:Stmt:=D3 20
abbrev EG:Stmt:=D3 21
abbrev FW:Stmt:=D3 22
abbrev EJ:Stmt:=D3 24
abbrev GX:Stmt:=D3 25
abbrev EU:Stmt:=D3 26
abbrev GA:Stmt:=D3 27
abbrev EO:Stmt:=D3 28
abbrev IN:Stmt:=D3 29
abbrev DU:Stmt:=D3 30
abbrev aB:Stmt:=D3 31
abbrev G6:Stmt:=D3 32
abbrev BX:Stmt:=D3 33
abbrev BW:Stmt:=D3 34
abbrev K0:Stmt:=D3 35
abbrev B7:Stmt:=D3 36
abbrev F7:Stmt:=D3 37
abbrev BP:Stmt:=D3 38
abbrev BY:Stmt:=D3 39
theorem W7:FnScope ["thing"] ["thing"] (AH CL):=⟨rfl,rfl,rfl,by decide+kernel,rfl,by decide+kernel,by decide+kernel⟩
theorem S9:FnScope ["thing"] ["thing"] (AH CI):=⟨rfl,rfl,rfl,by decide+kernel,rfl,by decide+kernel,by decide+kernel⟩
theorem LX:FnScope ["thing","word","parts"] ["thing"] (AH CC):=⟨rfl,rfl,rfl,by decide+kernel,rfl,by decide+kernel,by decide+kernel⟩
theorem QG:FnScope ["low","high"] ["low","high"] (AH CH):=⟨rfl,rfl,rfl,by decide+kernel,rfl,by decide+kernel,by decide+kernel⟩
theorem c6:FnScope ["way","steps"] ["way","steps"] (AH G2):=⟨rfl,rfl,rfl,by decide+kernel,rfl,by decide+kernel,by decide+kernel⟩
theorem XB:FnScope ["way","steps","starts","word"] ["way","steps","starts"] (AH EM):=⟨rfl,rfl,rfl,by decide+kernel,rfl,by decide+kernel,by decide+kernel⟩
theorem DD:FnScope ["way","steps","starts","found","fresh"] ["way","steps","starts"] (AH BR):=⟨rfl,rfl,rfl,by decide+kernel,rfl,by decide+kernel,by decide+kernel⟩
theorem D4:FnScope ["way","steps","starts","found","here","times"] ["way","steps","starts"] (AH BQ):=⟨rfl,rfl,rfl,by decide+kernel,rfl,by decide+kernel,by decide+kernel⟩
theorem ZD:FnScope ["one","other"] ["one","other"] (AH EI):=⟨rfl,rfl,rfl,by decide+kernel,rfl,by decide+kernel,by decide+kernel⟩
theorem P0:FnScope ["way","kind","turn"] ["way","kind","turn"] (AH CJ):=⟨rfl,rfl,rfl,by decide+kernel,rfl,by decide+kernel,by decide+kernel⟩
theorem IR:FnScope ["way","word"] ["way"] (AH C1):=⟨rfl,rfl,rfl,by decide+kernel,rfl,by decide+kernel,by decide+kernel⟩
theorem Q0:FnScope ["way","word"] ["way"] (AH ED):=⟨rfl,rfl,rfl,by decide+kernel,rfl,by decide+kernel,by decide+kernel⟩
theorem KZ:FnScope ["way","kind","turn","word","found"] ["way","kind","turn"] (AH CA):=⟨rfl,rfl,rfl,by decide+kernel,rfl,by decide+kernel,by decide+kernel⟩
theorem CB:FnScope ["way","kind","turn","inner","low","high","left"] ["way","kind","turn"] (AH AU):=⟨rfl,rfl,rfl,by decide+kernel,rfl,by decide+kernel,by decide+kernel⟩
theorem U1:FnScope ["ways","tail"] ["ways","tail"] (AH E6):=⟨rfl,rfl,rfl,by decide+kernel,rfl,by decide+kernel,by decide+kernel⟩
theorem YB:FnScope ["way","tail"] ["way","tail"] (AH EG):=⟨rfl,rfl,rfl,by decide+kernel,rfl,by decide+kernel,by decide+kernel⟩
theorem LZ:FnScope ["ways","found","way"] ["ways"] (AH FW):=⟨rfl,rfl,rfl,by decide+kernel,rfl,by decide+kernel,by decide+kernel⟩
theorem J5:FnScope ["_law_script","_law_k","_law_cell","_law_folded","_law_one"] ["_law_script","_law_k"] (AH EJ):=⟨rfl,rfl,rfl,by decide+kernel,rfl,by decide+kernel,by decide+kernel⟩
theorem LB:FnScope ["_law_hand_here","_law_many","_law_digit","_law_c","_law_m"] ["_law_hand_here","_law_many"] (AH GX):=⟨rfl,rfl,rfl,by decide+kernel,rfl,by decide+kernel,by decide+kernel⟩
theorem IS:FnScope ["_law_hand_here","_law_some","_law_first","_law_many"] ["_law_hand_here"] (AH EU):=⟨rfl,rfl,rfl,by decide+kernel,rfl,by decide+kernel,by decide+kernel⟩
theorem N1:FnScope ["_law_hand_here","_law_kinds_here","_law_how","_law_kind"] ["_law_hand_here","_law_kinds_here"] (AH GA):=⟨rfl,rfl,rfl,by decide+kernel,rfl,by decide+kernel,by decide+kernel⟩
theorem LJ:FnScope ["_law_hand_here","_law_kinds_here","_law_room","_law_nest","_law_how","_law_low","_law_high","_law_left","_law_one"] ["_law_hand_here","_law_kinds_here","_law_room","_law_nest"] (AH EO):=⟨rfl,rfl,rfl,by decide+kernel,rfl,by decide+kernel,by decide+kernel⟩
theorem iW:FnScope ["_law_one","_law_other"] ["_law_one","_law_other"] (AH IN):=⟨rfl,rfl,rfl,by decide+kernel,rfl,by decide+kernel,by decide+kernel⟩
theorem EW:FnScope ["_law_way_here","_law_row","_law_begins","_law_word","_law_found","_law_here","_law_turn"] ["_law_way_here","_law_row","_law_begins"] (AH DU):=⟨rfl,rfl,rfl,by decide+kernel,rfl,by decide+kernel,by decide+kernel⟩
theorem uZ:FnScope ["_law_way_here","_law_step"] ["_law_way_here","_law_step"] (AH aB):=⟨rfl,rfl,rfl,by decide+kernel,rfl,by decide+kernel,by decide+kernel⟩
theorem gR:FnScope ["_law_way_here","_law_row"] ["_law_way_here","_law_row"] (AH G6):=⟨rfl,rfl,rfl,by decide+kernel,rfl,by decide+kernel,by decide+kernel⟩
theorem CD:FnScope ["_law_hand_here","_law_way_here","_law_kinds_here","_law_word","_law_kind","_law_turn","_law_many","_law_row"] ["_law_hand_here","_law_way_here","_law_kinds_here"] (AH BX):=⟨rfl,rfl,rfl,by decide+kernel,rfl,by decide+kernel,by decide+kernel⟩
theorem GY:FnScope ["_law_hand_here","_law_row","_law_kinds_here","_law_how","_law_step","_law_at"] ["_law_hand_here","_law_row","_law_kinds_here"] (AH BW):=⟨rfl,rfl,rfl,by decide+kernel,rfl,by decide+kernel,by decide+kernel⟩
theorem jX:FnScope ["_law_row"] ["_law_row"] (AH K0):=⟨rfl,rfl,rfl,by decide+kernel,rfl,by decide+kernel,by decide+kernel⟩
theorem BZ:FnScope ["_law_way_here","_law_kinds_here","_law_goings","_law_waiting","_law_known","_law_one","_law_kind","_law_turn","_law_found","_law_rest"] ["_law_way_here","_law_kinds_here"] (AH B7):=⟨rfl,rfl,rfl,by decide+kernel,rfl,by decide+kernel,by decide+kernel⟩
theorem JV:FnScope ["_law_way_here","_law_goings","_law_row","_law_left","_law_kind","_law_turn","_law_behind","_law_one"] ["_law_way_here","_law_goings","_law_row"] (AH F7):=⟨rfl,rfl,rfl,by decide+kernel,rfl,by decide+kernel,by decide+kernel⟩
theorem ES:FnScope ["_law_hand_here","_law_kinds_here","_law_parts","_law_low","_law_word"] ["_law_hand_here","_law_kinds_here"] (AH BP):=⟨rfl,rfl,rfl,by decide+kernel,rfl,by decide+kernel,by decide+kernel⟩
theorem FJ:FnScope ["_law_script","_law_hand_here","_law_kinds_here","_law_way_here","_law_goings","_law_other","_law_turn","_law_row","_law_changed_here","_law_one","_law_due"] ["_law_script"] (AH BY):=⟨rfl,rfl,rfl,by decide+kernel,rfl,by decide+kernel,by decide+kernel⟩
abbrev gN (s:Stmt) (x:Str):Prop:=NmOk (AH s) x .globalImplicit
abbrev lN (s:Stmt) (x:Str):Prop:=NmOk (AH s) x .local
abbrev cN (s:Stmt) (x:Str):Prop:=NmOk (AH s) x .cell
theorem q3:gN CL "LONGEST_NAME":=by walk_at "n"
theorem q1:gN CL "all":=by walk_at "n"
theorem q5:gN CL "isinstance":=by walk_at "n"
theorem q2:gN CL "len":=by walk_at "n"
theorem q4:gN CL "str":=by walk_at "n"
theorem q0:lN CL "thing":=by walk_at "n"
theorem q7:gN CI "bool":=by walk_at "n"
theorem q9:gN CI "int":=by walk_at "n"
theorem q8:gN CI "isinstance":=by walk_at "n"
theorem q6:lN CI "thing":=by walk_at "n"
theorem yZ:gN CC "are_times":=by walk_at "n"
theorem yX:gN CC "is_name":=by walk_at "n"
theorem sH:gN CC "is_way":=by walk_at "n"
theorem yS:gN CC "isinstance":=by walk_at "n"
theorem j8:gN CC "len":=by walk_at "n"
theorem SC:lN CC "parts":=by walk_at "n"
theorem qT:lN CC "thing":=by walk_at "n"
theorem yQ:gN CC "tuple":=by walk_at "n"
theorem iQ:lN CC "word":=by walk_at "n"
theorem y4:gN CH "MOST_TIMES":=by walk_at "n"
theorem tH:lN CH "high":=by walk_at "n"
theorem x9:gN CH "is_number":=by walk_at "n"
theorem vU:lN CH "low":=by walk_at "n"
theorem y8:gN G2 "ends":=by walk_at "n"
theorem yT:gN G2 "len":=by walk_at "n"
theorem xB:lN G2 "steps":=by walk_at "n"
theorem yG:lN G2 "way":=by walk_at "n"
theorem yB:gN EM "ends":=by walk_at "n"
theorem yW:gN EM "ends_again":=by walk_at "n"
theorem yA:gN EM "ends_many":=by walk_at "n"
theorem q34:gN EM "merged":=by walk_at "n"
theorem gS:lN EM "starts":=by walk_at "n"
theorem kQ:cN EM "steps":=by walk_at "n"
theorem gU:cN EM "way":=by walk_at "n"
theorem j4:lN EM "word":=by walk_at "n"
theorem q40:gN BR "ends":=by walk_at "n"
theorem yR:cN BR "found":=by walk_at "n"
theorem xY:lN BR "fresh":=by walk_at "n"
theorem q37:gN BR "merged":=by walk_at "n"
theorem q41:lN BR "starts":=by walk_at "n"
theorem q39:lN BR "steps":=by walk_at "n"
theorem q38:lN BR "way":=by walk_at "n"
theorem q48:gN BQ "ends":=by walk_at "n"
theorem yF:lN BQ "found":=by walk_at "n"
theorem yV:lN BQ "here":=by walk_at "n"
theorem q49:gN BQ "merged":=by walk_at "n"
theorem q44:gN BQ "range":=by walk_at "n"
theorem q50:lN BQ "starts":=by walk_at "n"
theorem q46:lN BQ "steps":=by walk_at "n"
theorem q45:lN BQ "times":=by walk_at "n"
theorem zD:lN BQ "way":=by walk_at "n"
theorem q51:lN EI "one":=by walk_at "n"
theorem q52:lN EI "other":=by walk_at "n"
theorem q54:gN EI "set":=by walk_at "n"
theorem q53:gN EI "sorted":=by walk_at "n"
theorem q57:lN CJ "kind":=by walk_at "n"
theorem q56:lN CJ "turn":=by walk_at "n"
theorem q55:lN CJ "way":=by walk_at "n"
theorem uT:gN C1 "least_steps":=by walk_at "n"
theorem q61:gN C1 "min":=by walk_at "n"
theorem p4:lN C1 "way":=by walk_at "n"
theorem vN:lN C1 "word":=by walk_at "n"
theorem q65:gN ED "OTHER_TURN":=by walk_at "n"
theorem tR:gN ED "turned":=by walk_at "n"
theorem gT:lN ED "way":=by walk_at "n"
theorem t7:lN ED "word":=by walk_at "n"
theorem q77:gN CA "EMPTY":=by walk_at "n"
theorem q72:gN CA "followed":=by walk_at "n"
theorem yO:lN CA "found":=by walk_at "n"
theorem q76:gN CA "is_step_of":=by walk_at "n"
theorem o2:lN CA "kind":=by walk_at "n"
theorem q75:gN CA "least_steps":=by walk_at "n"
theorem tY:gN CA "rests":=by walk_at "n"
theorem q69:gN CA "rests_of_many":=by walk_at "n"
theorem pS:lN CA "turn":=by walk_at "n"
theorem q74:gN CA "unlike":=by walk_at "n"
theorem eN:lN CA "way":=by walk_at "n"
theorem t5:lN CA "word":=by walk_at "n"
theorem q85:gN AU "EMPTY":=by walk_at "n"
theorem q83:gN AU "followed":=by walk_at "n"
theorem yL:lN AU "high":=by walk_at "n"
theorem zX:lN AU "inner":=by walk_at "n"
theorem q79:lN AU "kind":=by walk_at "n"
theorem q82:lN AU "left":=by walk_at "n"
theorem q86:lN AU "low":=by walk_at "n"
theorem q87:gN AU "max":=by walk_at "n"
theorem q81:gN AU "rests":=by walk_at "n"
theorem q80:lN AU "turn":=by walk_at "n"
theorem q88:lN AU "way":=by walk_at "n"
theorem q90:gN E6 "unlike":=by walk_at "n"
theorem q89:lN E6 "ways":=by walk_at "n"
theorem q94:gN EG "EMPTY":=by walk_at "n"
theorem q93:gN EG "in_row":=by walk_at "n"
theorem yK:lN EG "tail":=by walk_at "n"
theorem t6:lN EG "way":=by walk_at "n"
theorem yM:lN FW "found":=by walk_at "n"
theorem q97:lN FW "way":=by walk_at "n"
theorem q96:lN FW "ways":=by walk_at "n"
theorem u3:lN EJ "_law_cell":=by walk_at "n"
theorem lC:lN EJ "_law_folded":=by walk_at "n"
theorem pY:lN EJ "_law_k":=by walk_at "n"
theorem uH:lN EJ "_law_one":=by walk_at "n"
theorem pH:lN EJ "_law_script":=by walk_at "n"
theorem q99:gN EJ "abs":=by walk_at "n"
theorem A0C:gN EJ "int":=by walk_at "n"
theorem zM:gN EJ "len":=by walk_at "n"
theorem g6:lN GX "_law_c":=by walk_at "n"
theorem vR:lN GX "_law_digit":=by walk_at "n"
theorem T9:lN GX "_law_hand_here":=by walk_at "n"
theorem ZC:lN GX "_law_m":=by walk_at "n"
theorem sV:lN GX "_law_many":=by walk_at "n"
theorem r8:lN EU "_law_first":=by walk_at "n"
theorem kS:lN EU "_law_hand_here":=by walk_at "n"
theorem p9:lN EU "_law_many":=by walk_at "n"
theorem pQ:lN EU "_law_some":=by walk_at "n"
theorem gZ:gN EU "_law_take":=by walk_at "n"
theorem qF:lN GA "_law_hand_here":=by walk_at "n"
theorem sG:lN GA "_law_how":=by walk_at "n"
theorem sC:lN GA "_law_kind":=by walk_at "n"
theorem tG:lN GA "_law_kinds_here":=by walk_at "n"
theorem oH:gN GA "_law_take":=by walk_at "n"
theorem A0S:gN GA "len":=by walk_at "n"
theorem OV:lN EO "_law_hand_here":=by walk_at "n"
theorem u8:lN EO "_law_high":=by walk_at "n"
theorem cJ:lN EO "_law_how":=by walk_at "n"
theorem fT:lN EO "_law_kinds_here":=by walk_at "n"
theorem A01:gN EO "_law_leaf":=by walk_at "n"
theorem rK:lN EO "_law_left":=by walk_at "n"
theorem oU:lN EO "_law_low":=by walk_at "n"
theorem W9:lN EO "_law_nest":=by walk_at "n"
theorem y0:lN EO "_law_one":=by walk_at "n"
theorem US:lN EO "_law_room":=by walk_at "n"
theorem dI:gN EO "_law_take":=by walk_at "n"
theorem iB:gN EO "_law_way":=by walk_at "n"
theorem A1G:lN IN "_law_one":=by walk_at "n"
theorem A0Z:lN IN "_law_other":=by walk_at "n"
theorem z9:gN IN "set":=by walk_at "n"
theorem A02:gN IN "sorted":=by walk_at "n"
theorem Z0:lN DU "_law_begins":=by walk_at "n"
theorem qD:gN DU "_law_both":=by walk_at "n"
theorem YK:gN DU "_law_ends":=by walk_at "n"
theorem VU:cN DU "_law_found":=by walk_at "n"
theorem UG:lN DU "_law_here":=by walk_at "n"
theorem YN:cN DU "_law_row":=by walk_at "n"
theorem vQ:lN DU "_law_turn":=by walk_at "n"
theorem RD:cN DU "_law_way_here":=by walk_at "n"
theorem YT:lN DU "_law_word":=by walk_at "n"
theorem A0H:gN DU "range":=by walk_at "n"
theorem wB:lN aB "_law_step":=by walk_at "n"
theorem xE:lN aB "_law_way_here":=by walk_at "n"
theorem A17:gN G6 "_law_ends":=by walk_at "n"
theorem uC:lN G6 "_law_row":=by walk_at "n"
theorem A11:lN G6 "_law_way_here":=by walk_at "n"
theorem zW:gN G6 "len":=by walk_at "n"
theorem QZ:lN BX "_law_hand_here":=by walk_at "n"
theorem kB:lN BX "_law_kind":=by walk_at "n"
theorem aA:lN BX "_law_kinds_here":=by walk_at "n"
theorem kR:lN BX "_law_many":=by walk_at "n"
theorem lW:lN BX "_law_row":=by walk_at "n"
theorem iU:gN BX "_law_row_of":=by walk_at "n"
theorem cZ:gN BX "_law_take":=by walk_at "n"
theorem fC:lN BX "_law_turn":=by walk_at "n"
theorem OQ:lN BX "_law_way_here":=by walk_at "n"
theorem Z3:lN BX "_law_word":=by walk_at "n"
theorem A12:gN BX "len":=by walk_at "n"
theorem zB:gN BX "range":=by walk_at "n"
theorem NL:lN BW "_law_at":=by walk_at "n"
theorem iA:lN BW "_law_hand_here":=by walk_at "n"
theorem YW:lN BW "_law_how":=by walk_at "n"
theorem uU:lN BW "_law_kinds_here":=by walk_at "n"
theorem ML:lN BW "_law_row":=by walk_at "n"
theorem o0:lN BW "_law_step":=by walk_at "n"
theorem lX:gN BW "_law_take":=by walk_at "n"
theorem vY:gN BW "len":=by walk_at "n"
theorem zI:gN BW "reversed":=by walk_at "n"
theorem A0A:gN BW "tuple":=by walk_at "n"
theorem A15:lN K0 "_law_row":=by walk_at "n"
theorem zO:gN K0 "reversed":=by walk_at "n"
theorem A18:gN K0 "tuple":=by walk_at "n"
theorem lO:lN B7 "_law_found":=by walk_at "n"
theorem rV:lN B7 "_law_goings":=by walk_at "n"
theorem qV:lN B7 "_law_kind":=by walk_at "n"
theorem A1J:lN B7 "_law_kinds_here":=by walk_at "n"
theorem l3:lN B7 "_law_known":=by walk_at "n"
theorem rC:lN B7 "_law_one":=by walk_at "n"
theorem k8:lN B7 "_law_rest":=by walk_at "n"
theorem pO:lN B7 "_law_turn":=by walk_at "n"
theorem iZ:lN B7 "_law_waiting":=by walk_at "n"
theorem xU:lN B7 "_law_way_here":=by walk_at "n"
theorem zF:gN B7 "all":=by walk_at "n"
theorem A0B:gN B7 "len":=by walk_at "n"
theorem A0K:gN B7 "rests":=by walk_at "n"
theorem hX:gN B7 "str":=by walk_at "n"
theorem sD:lN F7 "_law_behind":=by walk_at "n"
theorem A13:lN F7 "_law_goings":=by walk_at "n"
theorem xW:lN F7 "_law_kind":=by walk_at "n"
theorem hE:lN F7 "_law_left":=by walk_at "n"
theorem tZ:lN F7 "_law_one":=by walk_at "n"
theorem zU:lN F7 "_law_row":=by walk_at "n"
theorem tO:lN F7 "_law_turn":=by walk_at "n"
theorem z4:lN F7 "_law_way_here":=by walk_at "n"
theorem zY:gN F7 "any":=by walk_at "n"
theorem zA:gN F7 "list":=by walk_at "n"
theorem A14:gN F7 "str":=by walk_at "n"
theorem UX:cN BP "_law_hand_here":=by walk_at "n"
theorem vX:cN BP "_law_kinds_here":=by walk_at "n"
theorem A06:gN BP "_law_leaf":=by walk_at "n"
theorem i6:lN BP "_law_low":=by walk_at "n"
theorem fY:lN BP "_law_parts":=by walk_at "n"
theorem fF:gN BP "_law_take":=by walk_at "n"
theorem A0F:gN BP "_law_way":=by walk_at "n"
theorem xN:lN BP "_law_word":=by walk_at "n"
theorem A0V:gN BP "range":=by walk_at "n"
theorem zT:gN BY "_law_all_rests":=by walk_at "n"
theorem A19:gN BY "_law_back":=by walk_at "n"
theorem A09:gN BY "_law_changed":=by walk_at "n"
theorem uO:lN BY "_law_changed_here":=by walk_at "n"
theorem cS:lN BY "_law_due":=by walk_at "n"
theorem p7:lN BY "_law_goings":=by walk_at "n"
theorem zE:gN BY "_law_great_way":=by walk_at "n"
theorem A00:gN BY "_law_hand":=by walk_at "n"
theorem gI:lN BY "_law_hand_here":=by walk_at "n"
theorem A0Q:gN BY "_law_kinds":=by walk_at "n"
theorem gP:cN BY "_law_kinds_here":=by walk_at "n"
theorem A0X:gN BY "_law_led":=by walk_at "n"
theorem aL:lN BY "_law_one":=by walk_at "n"
theorem u4:lN BY "_law_other":=by walk_at "n"
theorem pL:lN BY "_law_row":=by walk_at "n"
theorem A0O:gN BY "_law_row_of":=by walk_at "n"
theorem A0W:lN BY "_law_script":=by walk_at "n"
theorem A07:gN BY "_law_tells":=by walk_at "n"
theorem A1D:lN BY "_law_turn":=by walk_at "n"
theorem T5:lN BY "_law_way_here":=by walk_at "n"
theorem A0I:gN BY "least_steps":=by walk_at "n"
theorem z7:gN BY "len":=by walk_at "n"
theorem zH:gN BY "range":=by walk_at "n"
theorem tS:gN BY "tells":=by walk_at "n"
theorem A0G:gN BY "tuple":=by walk_at "n"
theorem zN:gN BY "turned":=by walk_at "n"
def IQ:M:= .int 8
def HE:M:= .int 6
def EX:List (BC×M):=[(.inr "forth", .str "back"),(.inr "back", .str "forth"),(.inr "either", .str "either")]
def KN:M:= .tup [.str "empty"]
structure Adr where
 f_is_name:Addr
 d_is_name:FuncData
 f_is_number:Addr
 d_is_number:FuncData
 f_is_way:Addr
 d_is_way:FuncData
 f_are_times:Addr
 d_are_times:FuncData
 f_tells:Addr
 d_tells:FuncData
 f_ends:Addr
 d_ends:FuncData
 f_ends_again:Addr
 d_ends_again:FuncData
 f_ends_many:Addr
 d_ends_many:FuncData
 f_merged:Addr
 d_merged:FuncData
 f_is_step_of:Addr
 d_is_step_of:FuncData
 f_least_steps:Addr
 d_least_steps:FuncData
 f_turned:Addr
 d_turned:FuncData
 f_rests:Addr
 d_rests:FuncData
 f_rests_of_many:Addr
 d_rests_of_many:FuncData
 f_followed:Addr
 d_followed:FuncData
 f_in_row:Addr
 d_in_row:FuncData
 f_unlike:Addr
 d_unlike:FuncData
 fLhand:Addr
 dLhand:FuncData
 fLtake:Addr
 dLtake:FuncData
 fLkinds:Addr
 dLkinds:FuncData
 fLleaf:Addr
 dLleaf:FuncData
 fLway:Addr
 dLway:FuncData
 fLboth:Addr
 dLboth:FuncData
 fLends:Addr
 dLends:FuncData
 fLof:Addr
 dLof:FuncData
 fLtells:Addr
 dLtells:FuncData
 fLrow_of:Addr
 dLrow_of:FuncData
 fLchanged:Addr
 dLchanged:FuncData
 fLback:Addr
 dLback:FuncData
 fLall_rests:Addr
 dLall_rests:FuncData
 fLled:Addr
 dLled:FuncData
 fLgreat_way:Addr
 dLgreat_way:FuncData
 f_law:Addr
 d_law:FuncData
 u_LONGEST_NAME:Value
 u_MOST_TIMES:Value
 u_OTHER_TURN:Value
 u_EMPTY:Value
structure Txt (P:Program) (w:World) (K:PySem.W.Frag) (mg:Str→Option Value) (t:Adr):Prop where
 F_is_name:Fun K "is_name" "is_name" CL t.f_is_name t.d_is_name
 b_is_name:Binds K t.d_is_name ["thing"] []
 m_is_name:mg "is_name"=some (.ref t.f_is_name)
 F_is_number:Fun K "is_number" "is_number" CI t.f_is_number t.d_is_number
 b_is_number:Binds K t.d_is_number ["thing"] []
 m_is_number:mg "is_number"=some (.ref t.f_is_number)
 F_is_way:Fun K "is_way" "is_way" CC t.f_is_way t.d_is_way
 b_is_way:Binds K t.d_is_way ["thing"] []
 m_is_way:mg "is_way"=some (.ref t.f_is_way)
 F_are_times:Fun K "are_times" "are_times" CH t.f_are_times t.d_are_times
 b_are_times:Binds K t.d_are_times ["low","high"] []
 m_are_times:mg "are_times"=some (.ref t.f_are_times)
 F_tells:Fun K "tells" "tells" G2 t.f_tells t.d_tells
 b_tells:Binds K t.d_tells ["way","steps"] []
 m_tells:mg "tells"=some (.ref t.f_tells)
 F_ends:Fun K "ends" "ends" EM t.f_ends t.d_ends
 b_ends:Binds K t.d_ends ["way","steps","starts"] []
 m_ends:mg "ends"=some (.ref t.f_ends)
 F_ends_again:Fun K "ends_again" "ends_again" BR t.f_ends_again t.d_ends_again
 b_ends_again:Binds K t.d_ends_again ["way","steps","starts"] []
 m_ends_again:mg "ends_again"=some (.ref t.f_ends_again)
 F_ends_many:Fun K "ends_many" "ends_many" BQ t.f_ends_many t.d_ends_many
 b_ends_many:Binds K t.d_ends_many ["way","steps","starts"] []
 m_ends_many:mg "ends_many"=some (.ref t.f_ends_many)
 F_merged:Fun K "merged" "merged" EI t.f_merged t.d_merged
 b_merged:Binds K t.d_merged ["one","other"] []
 m_merged:mg "merged"=some (.ref t.f_merged)
 F_is_step_of:Fun K "is_step_of" "is_step_of" CJ t.f_is_step_of t.d_is_step_of
 b_is_step_of:Binds K t.d_is_step_of ["way","kind","turn"] []
 m_is_step_of:mg "is_step_of"=some (.ref t.f_is_step_of)
 F_least_steps:Fun K "least_steps" "least_steps" C1 t.f_least_steps t.d_least_steps
 b_least_steps:Binds K t.d_least_steps ["way"] []
 m_least_steps:mg "least_steps"=some (.ref t.f_least_steps)
 F_turned:Fun K "turned" "turned" ED t.f_turned t.d_turned
 b_turned:Binds K t.d_turned ["way"] []
 m_turned:mg "turned"=some (.ref t.f_turned)
 F_rests:Fun K "rests" "rests" CA t.f_rests t.d_rests
 b_rests:Binds K t.d_rests ["way","kind","turn"] []
 m_rests:mg "rests"=some (.ref t.f_rests)
 F_rests_of_many:Fun K "rests_of_many" "rests_of_many" AU t.f_rests_of_many t.d_rests_of_many
 b_rests_of_many:Binds K t.d_rests_of_many ["way","kind","turn"] []
 m_rests_of_many:mg "rests_of_many"=some (.ref t.f_rests_of_many)
 F_followed:Fun K "followed" "followed" E6 t.f_followed t.d_followed
 b_followed:Binds K t.d_followed ["ways","tail"] []
 m_followed:mg "followed"=some (.ref t.f_followed)
 F_in_row:Fun K "in_row" "in_row" EG t.f_in_row t.d_in_row
 b_in_row:Binds K t.d_in_row ["way","tail"] []
 m_in_row:mg "in_row"=some (.ref t.f_in_row)
 F_unlike:Fun K "unlike" "unlike" FW t.f_unlike t.d_unlike
 b_unlike:Binds K t.d_unlike ["ways"] []
 m_unlike:mg "unlike"=some (.ref t.f_unlike)
 FLhand:Fun K "_law_hand" "_law_hand" EJ t.fLhand t.dLhand
 bLhand:Binds K t.dLhand ["_law_script","_law_k"] []
 mLhand:mg "_law_hand"=some (.ref t.fLhand)
 FLtake:Fun K "_law_take" "_law_take" GX t.fLtake t.dLtake
 bLtake:Binds K t.dLtake ["_law_hand_here","_law_many"] []
 mLtake:mg "_law_take"=some (.ref t.fLtake)
 FLkinds:Fun K "_law_kinds" "_law_kinds" EU t.fLkinds t.dLkinds
 bLkinds:Binds K t.dLkinds ["_law_hand_here"] []
 mLkinds:mg "_law_kinds"=some (.ref t.fLkinds)
 FLleaf:Fun K "_law_leaf" "_law_leaf" GA t.fLleaf t.dLleaf
 bLleaf:Binds K t.dLleaf ["_law_hand_here","_law_kinds_here"] []
 mLleaf:mg "_law_leaf"=some (.ref t.fLleaf)
 FLway:Fun K "_law_way" "_law_way" EO t.fLway t.dLway
 bLway:Binds K t.dLway ["_law_hand_here","_law_kinds_here","_law_room","_law_nest"] []
 mLway:mg "_law_way"=some (.ref t.fLway)
 FLboth:Fun K "_law_both" "_law_both" IN t.fLboth t.dLboth
 bLboth:Binds K t.dLboth ["_law_one","_law_other"] []
 mLboth:mg "_law_both"=some (.ref t.fLboth)
 FLends:Fun K "_law_ends" "_law_ends" DU t.fLends t.dLends
 bLends:Binds K t.dLends ["_law_way_here","_law_row","_law_begins"] []
 mLends:mg "_law_ends"=some (.ref t.fLends)
 FLof:Fun K "_law_of" "_law_of" aB t.fLof t.dLof
 bLof:Binds K t.dLof ["_law_way_here","_law_step"] []
 mLof:mg "_law_of"=some (.ref t.fLof)
 FLtells:Fun K "_law_tells" "_law_tells" G6 t.fLtells t.dLtells
 bLtells:Binds K t.dLtells ["_law_way_here","_law_row"] []
 mLtells:mg "_law_tells"=some (.ref t.fLtells)
 FLrow_of:Fun K "_law_row_of" "_law_row_of" BX t.fLrow_of t.dLrow_of
 bLrow_of:Binds K t.dLrow_of ["_law_hand_here","_law_way_here","_law_kinds_here"] []
 mLrow_of:mg "_law_row_of"=some (.ref t.fLrow_of)
 FLchanged:Fun K "_law_changed" "_law_changed" BW t.fLchanged t.dLchanged
 bLchanged:Binds K t.dLchanged ["_law_hand_here","_law_row","_law_kinds_here"] []
 mLchanged:mg "_law_changed"=some (.ref t.fLchanged)
 FLback:Fun K "_law_back" "_law_back" K0 t.fLback t.dLback
 bLback:Binds K t.dLback ["_law_row"] []
 mLback:mg "_law_back"=some (.ref t.fLback)
 FLall_rests:Fun K "_law_all_rests" "_law_all_rests" B7 t.fLall_rests t.dLall_rests
 bLall_rests:Binds K t.dLall_rests ["_law_way_here","_law_kinds_here"] []
 mLall_rests:mg "_law_all_rests"=some (.ref t.fLall_rests)
 FLled:Fun K "_law_led" "_law_led" F7 t.fLled t.dLled
 bLled:Binds K t.dLled ["_law_way_here","_law_goings","_law_row"] []
 mLled:mg "_law_led"=some (.ref t.fLled)
 FLgreat_way:Fun K "_law_great_way" "_law_great_way" BP t.fLgreat_way t.dLgreat_way
 bLgreat_way:Binds K t.dLgreat_way ["_law_hand_here","_law_kinds_here"] []
 mLgreat_way:mg "_law_great_way"=some (.ref t.fLgreat_way)
 F_law:Fun K "law" "law" BY t.f_law t.d_law
 Y9:Binds K t.d_law ["_law_script"] []
 m_law:mg "law"=some (.ref t.f_law)
 z_abs:mg "abs"=none
 z_all:mg "all"=none
 z_any:mg "any"=none
 z_bool:mg "bool"=none
 z_int:mg "int"=none
 z_isinstance:mg "isinstance"=none
 z_len:mg "len"=none
 z_list:mg "list"=none
 z_max:mg "max"=none
 z_min:mg "min"=none
 z_range:mg "range"=none
 z_reversed:mg "reversed"=none
 z_set:mg "set"=none
 z_sorted:mg "sorted"=none
 z_str:mg "str"=none
 z_tuple:mg "tuple"=none
 c_LONGEST_NAME:mg "LONGEST_NAME"=some t.u_LONGEST_NAME
 r_LONGEST_NAME:HF K IQ t.u_LONGEST_NAME
 c_MOST_TIMES:mg "MOST_TIMES"=some t.u_MOST_TIMES
 r_MOST_TIMES:HF K HE t.u_MOST_TIMES
 c_OTHER_TURN:mg "OTHER_TURN"=some t.u_OTHER_TURN
 d_OTHER_TURN:QS P w K EX t.u_OTHER_TURN
 c_EMPTY:mg "EMPTY"=some t.u_EMPTY
 r_EMPTY:HF K KN t.u_EMPTY
noncomputable def b_is_name:FS:=
 (AJ (CV (OC (NC (tV (E3 IU (A1 (A2 0) (A1 (mC (.ty "str")) A5))))) (NC (tV (OO OU OU (mC (.int 1)) (E3 DH (A1 (A2 0) A5)) (mC IQ))))) (AY (mC (.bl false))) AT)
 (AY (E3 YH (A1 (DW [none] (iS (A2 0)) (BI 0) FU (OO OU OU (mC (.str "a")) (A2 0) (mC (.str "z")))) A5))))
noncomputable def m_is_name:FF:=B5 1 0 b_is_name
noncomputable def b_is_number:FS:=
 (AY (K4 (E3 IU (A1 (A2 0) (A1 (mC (.ty "int")) A5))) (o8 (E3 IU (A1 (A2 0) (A1 (mC (.ty "bool")) A5))))))
noncomputable def m_is_number:FF:=B5 1 0 b_is_number
noncomputable def b_are_times:FS:=
 (AY (K4 (AB m_is_number (A1 (A2 0) A5)) (K4 (AB m_is_number (A1 (A2 1) A5)) (QL OU OU OU (mC (.int 0)) (A2 0) (A2 1) (mC HE)))))
noncomputable def m_are_times:FF:=B5 2 0 b_are_times
noncomputable def b_is_way (rec:FF):FS:=
 (AJ (CV (OC (NC (tV (E3 IU (A1 (A2 0) (A1 (mC (.ty "tuple")) A5))))) (tV (AG BO (E3 DH (A1 (A2 0) A5)) (mC (.int 0))))) (AY (mC (.bl false))) AT)
 (AJ (B2 (AG BH (A2 0) (mC (.int 0))) (BI 1))
 (AJ (B2 (OR MN (A2 0) (D0 (mC (.int 1))) PU) (BI 2))
 (AJ (CV (tV (AG BO (A2 1) (mC (.str "step")))) (AY (K4 (AG BO (E3 DH (A1 (A2 2) A5)) (mC (.int 2))) (K4 (zK (AG YY (AG BH (A2 2) (mC (.int 0))) (mC .non)) (AB m_is_name (A1 (AG BH (A2 2) (mC (.int 0))) A5))) (AG J0 (AG BH (A2 2) (mC (.int 1))) (BS (A1 (mC (.str "forth")) (A1 (mC (.str "back")) (A1 (mC (.str "either")) A5)))))))) AT)
 (AJ (CV (tV (AG BO (A2 1) (mC (.str "empty")))) (AY (AG BO (E3 DH (A1 (A2 2) A5)) (mC (.int 0)))) AT)
 (AJ (CV (tV (AG J0 (A2 1) (BS (A1 (mC (.str "then")) (A1 (mC (.str "or")) A5))))) (AY (K4 (AG BO (E3 DH (A1 (A2 2) A5)) (mC (.int 2))) (K4 (AB rec (A1 (AG BH (A2 2) (mC (.int 0))) A5)) (AB rec (A1 (AG BH (A2 2) (mC (.int 1))) A5))))) AT)
 (AJ (CV (tV (AG BO (A2 1) (mC (.str "again")))) (AY (K4 (AG BO (E3 DH (A1 (A2 2) A5)) (mC (.int 1))) (AB rec (A1 (AG BH (A2 2) (mC (.int 0))) A5)))) AT)
 (AY (K4 (AG BO (A2 1) (mC (.str "many"))) (K4 (AG BO (E3 DH (A1 (A2 2) A5)) (mC (.int 3))) (K4 (AB m_are_times (A1 (AG BH (A2 2) (mC (.int 1))) (A1 (AG BH (A2 2) (mC (.int 2))) A5))) (AB rec (A1 (AG BH (A2 2) (mC (.int 0))) A5)))))))))))))
noncomputable def m_is_way:Nat→FF
 |0=>fun _ _=>none
 |n+1=>B5 1 2 (b_is_way (m_is_way n))
noncomputable def b_merged:FS:=
 (AY (bB (A2 0) (A2 1)))
noncomputable def m_merged:FF:=B5 2 0 b_merged
noncomputable def b_ends_many (rec:FF):FS:=
 (AJ (B2 (HV A5) (BI 3))
 (AJ (B2 (A2 2) (BI 4))
 (AJ (GB (kZ (A1 (AG AW (AG BH (A2 0) (mC (.int 3))) (mC (.int 1))) A5)) (BI 5) (AJ (CV (tV (AG W8 (A2 5) (AG BH (A2 0) (mC (.int 2))))) (B2 (AB m_merged (A1 (A2 3) (A1 (A2 4) A5))) (BI 3)) AT)
 (B2 (AB rec (A1 (AG BH (A2 0) (mC (.int 1))) (A1 (A2 1) (A1 (A2 4) A5)))) (BI 4))))
 (AY (A2 3)))))
noncomputable def m_ends_many (rec:FF):FF:=B5 3 3 (b_ends_many rec)
noncomputable def b_ends_again (rec:FF):FS:=
 (AJ (B2 (A2 2) (BI 3))
 (AJ (B2 (A2 2) (BI 4))
 (AJ (F0 (qM (A2 4)) (AJ (B2 (DW [none,some 3] (iL (AB rec (A1 (A2 0) (A1 (A2 1) (A1 (A2 4) A5))))) (BI 0) (tV (AG CP (A2 0) (A2 1))) (A2 0)) (BI 4))
 (B2 (AB m_merged (A1 (A2 3) (A1 (A2 4) A5))) (BI 3))) 1000000)
 (AY (A2 3)))))
noncomputable def m_ends_again (rec:FF):FF:=B5 3 2 (b_ends_again rec)
noncomputable def b_is_step_of:FS:=
 (AY (K4 (AG J0 (AG BH (A2 0) (mC (.int 1))) (BS (A1 (mC .non) (A1 (A2 1) A5)))) (AG J0 (AG BH (A2 0) (mC (.int 2))) (BS (A1 (mC (.str "either")) (A1 (A2 2) A5))))))
noncomputable def m_is_step_of:FF:=B5 3 0 b_is_step_of
noncomputable def b_ends (rec:FF):FS:=
 (AJ (B2 (AG BH (A2 0) (mC (.int 0))) (BI 3))
 (AJ (CV (tV (AG BO (A2 3) (mC (.str "step")))) (AY (DW [none,some 0,some 1] (iL (A2 2)) (BI 0) (HX (tV (AG KY (A2 0) (E3 DH (A1 (A2 2) A5)))) (tV (AB m_is_step_of (A1 (A2 1) (A1 (AG BH (AG BH (A2 2) (A2 0)) (mC (.int 0))) (A1 (AG BH (AG BH (A2 2) (A2 0)) (mC (.int 1))) A5)))))) (AG AW (A2 0) (mC (.int 1))))) AT)
 (AJ (CV (tV (AG BO (A2 3) (mC (.str "empty")))) (AY (A2 2)) AT)
 (AJ (CV (tV (AG BO (A2 3) (mC (.str "then")))) (AY (AB rec (A1 (AG BH (A2 0) (mC (.int 2))) (A1 (A2 1) (A1 (AB rec (A1 (AG BH (A2 0) (mC (.int 1))) (A1 (A2 1) (A1 (A2 2) A5)))) A5))))) AT)
 (AJ (CV (tV (AG BO (A2 3) (mC (.str "or")))) (AY (AB m_merged (A1 (AB rec (A1 (AG BH (A2 0) (mC (.int 1))) (A1 (A2 1) (A1 (A2 2) A5)))) (A1 (AB rec (A1 (AG BH (A2 0) (mC (.int 2))) (A1 (A2 1) (A1 (A2 2) A5)))) A5)))) AT)
 (AJ (CV (tV (AG BO (A2 3) (mC (.str "again")))) (AY (AB (m_ends_again rec) (A1 (AG BH (A2 0) (mC (.int 1))) (A1 (A2 1) (A1 (A2 2) A5))))) AT)
 (AY (AB (m_ends_many rec) (A1 (A2 0) (A1 (A2 1) (A1 (A2 2) A5)))))))))))
noncomputable def m_ends:Nat→FF
 |0=>fun _ _=>none
 |n+1=>B5 3 1 (b_ends (m_ends n))
noncomputable def b_tells:FS:=
 (AY (AG J0 (E3 DH (A1 (A2 1) A5)) (AB (m_ends 24) (A1 (A2 0) (A1 (A2 1) (A1 (HV (A1 (mC (.int 0)) A5)) A5))))))
noncomputable def m_tells:FF:=B5 2 0 b_tells
noncomputable def b_least_steps (rec:FF):FS:=
 (AJ (B2 (AG BH (A2 0) (mC (.int 0))) (BI 1))
 (AJ (CV (tV (AG BO (A2 1) (mC (.str "step")))) (AY (mC (.int 1))) AT)
 (AJ (CV (tV (AG BO (A2 1) (mC (.str "then")))) (AY (AG AW (AB rec (A1 (AG BH (A2 0) (mC (.int 1))) A5)) (AB rec (A1 (AG BH (A2 0) (mC (.int 2))) A5)))) AT)
 (AJ (CV (tV (AG BO (A2 1) (mC (.str "or")))) (AY (E3 kD (A1 (AB rec (A1 (AG BH (A2 0) (mC (.int 1))) A5)) (A1 (AB rec (A1 (AG BH (A2 0) (mC (.int 2))) A5)) A5)))) AT)
 (AJ (CV (tV (AG BO (A2 1) (mC (.str "many")))) (AY (AG EQ (AG BH (A2 0) (mC (.int 2))) (AB rec (A1 (AG BH (A2 0) (mC (.int 1))) A5)))) AT)
 (AY (mC (.int 0))))))))
noncomputable def m_least_steps:Nat→FF
 |0=>fun _ _=>none
 |n+1=>B5 1 1 (b_least_steps (m_least_steps n))
noncomputable def b_turned (rec:FF):FS:=
 (AJ (B2 (AG BH (A2 0) (mC (.int 0))) (BI 1))
 (AJ (CV (tV (AG BO (A2 1) (mC (.str "step")))) (AY (BS (A1 (mC (.str "step")) (A1 (AG BH (A2 0) (mC (.int 1))) (A1 (k6 EX (AG BH (A2 0) (mC (.int 2)))) A5))))) AT)
 (AJ (CV (tV (AG BO (A2 1) (mC (.str "empty")))) (AY (A2 0)) AT)
 (AJ (CV (tV (AG BO (A2 1) (mC (.str "then")))) (AY (BS (A1 (mC (.str "then")) (A1 (AB rec (A1 (AG BH (A2 0) (mC (.int 2))) A5)) (A1 (AB rec (A1 (AG BH (A2 0) (mC (.int 1))) A5)) A5))))) AT)
 (AJ (CV (tV (AG BO (A2 1) (mC (.str "or")))) (AY (BS (A1 (mC (.str "or")) (A1 (AB rec (A1 (AG BH (A2 0) (mC (.int 1))) A5)) (A1 (AB rec (A1 (AG BH (A2 0) (mC (.int 2))) A5)) A5))))) AT)
 (AY (AG AW (BS (A1 (A2 1) (A1 (AB rec (A1 (AG BH (A2 0) (mC (.int 1))) A5)) A5))) (OR MN (A2 0) (D0 (mC (.int 2))) PU))))))))
noncomputable def m_turned:Nat→FF
 |0=>fun _ _=>none
 |n+1=>B5 1 1 (b_turned (m_turned n))
noncomputable def b_unlike:FS:=
 (AJ (B2 (JQ A5) (BI 1))
 (AJ (GB (iL (A2 0)) (BI 2) (CV (tV (AG CP (A2 2) (A2 1))) (MA (gV n5 G8 (A2 1) (A1 (A2 2) A5))) AT))
 (AY (A2 1))))
noncomputable def m_unlike:FF:=B5 1 2 b_unlike
noncomputable def b_in_row (rec:FF):FS:=
 (AJ (CV (tV (AG BO (A2 0) (mC KN))) (AY (A2 1)) AT)
 (AJ (CV (tV (AG BO (A2 1) (mC KN))) (AY (A2 0)) AT)
 (AJ (CV (tV (AG BO (AG BH (A2 0) (mC (.int 0))) (mC (.str "then")))) (AY (BS (A1 (mC (.str "then")) (A1 (AG BH (A2 0) (mC (.int 1))) (A1 (AB rec (A1 (AG BH (A2 0) (mC (.int 2))) (A1 (A2 1) A5))) A5))))) AT)
 (AY (BS (A1 (mC (.str "then")) (A1 (A2 0) (A1 (A2 1) A5))))))))
noncomputable def m_in_row:Nat→FF
 |0=>fun _ _=>none
 |n+1=>B5 2 0 (b_in_row (m_in_row n))
noncomputable def b_followed:FS:=
 (AY (AB m_unlike (A1 (DW [none,some 1] (iL (A2 0)) (BI 0) FU (AB (m_in_row 24) (A1 (A2 0) (A1 (A2 1) A5)))) A5)))
noncomputable def m_followed:FF:=B5 2 0 b_followed
noncomputable def b_rests_of_many (rec:FF):FS:=
 (AJ (B2 (OR MN (A2 0) (D0 (mC (.int 1))) PU) (gX 3 (DM (BI 3) (DM (BI 4) (DM (BI 5) MD)))))
 (AJ (CV (tV (AG BO (A2 5) (mC (.int 0)))) (AY (JQ A5)) AT)
 (AJ (B2 (y6 (tV (AG BO (A2 5) (mC (.int 1)))) (mC KN) (BS (A1 (mC (.str "many")) (A1 (A2 3) (A1 (E3 kL (A1 (AG GN (A2 4) (mC (.int 1))) (A1 (mC (.int 0)) A5))) (A1 (AG GN (A2 5) (mC (.int 1))) A5)))))) (BI 6))
 (AY (AB m_followed (A1 (AB rec (A1 (A2 3) (A1 (A2 1) (A1 (A2 2) A5)))) (A1 (A2 6) A5)))))))
noncomputable def m_rests_of_many (rec:FF):FF:=B5 3 4 (b_rests_of_many rec)
noncomputable def b_rests (rec:FF):FS:=
 (AJ (B2 (AG BH (A2 0) (mC (.int 0))) (BI 3))
 (AJ (CV (tV (AG BO (A2 3) (mC (.str "step")))) (AY (y6 (tV (AB m_is_step_of (A1 (A2 0) (A1 (A2 1) (A1 (A2 2) A5))))) (JQ (A1 (mC KN) A5)) (JQ A5))) AT)
 (AJ (CV (tV (AG BO (A2 3) (mC (.str "empty")))) (AY (JQ A5)) AT)
 (AJ (CV (tV (AG BO (A2 3) (mC (.str "or")))) (AY (AB m_unlike (A1 (AG AW (AB rec (A1 (AG BH (A2 0) (mC (.int 1))) (A1 (A2 1) (A1 (A2 2) A5)))) (AB rec (A1 (AG BH (A2 0) (mC (.int 2))) (A1 (A2 1) (A1 (A2 2) A5))))) A5))) AT)
 (AJ (CV (tV (AG BO (A2 3) (mC (.str "then")))) (AJ (B2 (AB m_followed (A1 (AB rec (A1 (AG BH (A2 0) (mC (.int 1))) (A1 (A2 1) (A1 (A2 2) A5)))) (A1 (AG BH (A2 0) (mC (.int 2))) A5))) (BI 4))
 (AJ (CV (tV (AG BO (AB (m_least_steps 24) (A1 (AG BH (A2 0) (mC (.int 1))) A5)) (mC (.int 0)))) (B2 (AG AW (A2 4) (AB rec (A1 (AG BH (A2 0) (mC (.int 2))) (A1 (A2 1) (A1 (A2 2) A5))))) (BI 4)) AT)
 (AY (AB m_unlike (A1 (A2 4) A5))))) AT)
 (AJ (CV (tV (AG BO (A2 3) (mC (.str "again")))) (AY (AB m_followed (A1 (AB rec (A1 (AG BH (A2 0) (mC (.int 1))) (A1 (A2 1) (A1 (A2 2) A5)))) (A1 (A2 0) A5)))) AT)
 (AY (AB (m_rests_of_many rec) (A1 (A2 0) (A1 (A2 1) (A1 (A2 2) A5)))))))))))
noncomputable def m_rests:Nat→FF
 |0=>fun _ _=>none
 |n+1=>B5 3 2 (b_rests (m_rests n))
noncomputable def bLhand:FS:=
 (AJ (B2 (mC (.int 0)) (BI 2))
 (AJ (CV (tV (AG KY (A2 1) (E3 DH (A1 (A2 0) A5)))) (B2 (AG BH (A2 0) (A2 1)) (BI 2)) AT)
 (AJ (B2 (mC (.int 0)) (BI 3))
 (AJ (GB (iL (OR MN (A2 0) PU (D0 (mC (.int 63))))) (BI 4) (B2 (AG HR (AG AW (AG EQ (mC (.int 31)) (A2 3)) (A2 4)) (mC (.int 2305843009213693951))) (BI 3)))
 (AY (JQ (A1 (AG EQ (E3 VD (A1 (A2 2) A5)) (E3 c7 (A1 (AG W8 (E3 VD (A1 (A2 2) A5)) (AG Y0 (mC (.int 10)) (mC (.int 18)))) A5))) (A1 (AG AW (AG AW (AG HR (AG AW (A2 2) (A2 3)) (mC (.int 2305843009213693951))) (AG EQ (mC (.int 7919)) (A2 1))) (mC (.int 3))) (A1 (mC (.int 0)) A5)))))))))
noncomputable def mLhand:FF:=B5 2 3 bLhand
noncomputable def bLtake:FS:=
 (AJ (CV (tV (AG ZW (AG BH (A2 0) (mC (.int 0))) (mC (.int 0)))) (AJ (B2 (AG HR (AG BH (A2 0) (mC (.int 0))) (A2 1)) (BI 2))
 (AJ (B2 (AG SU (AG BH (A2 0) (mC (.int 0))) (A2 1)) (PL (A2 0) (mC (.int 0))))
 (AY (A2 2)))) AT)
 (AJ (B2 (AG AW (AG BH (A2 0) (mC (.int 2))) (mC (.int 1))) (PL (A2 0) (mC (.int 2))))
 (AJ (B2 (AG BH (A2 0) (mC (.int 2))) (BI 3))
 (AJ (B2 (AG HR (AG EQ (AG BH (A2 0) (mC (.int 1))) (AG AW (AG AW (mC (.int 48271)) (AG EQ (AG EQ (mC (.int 2)) (A2 3)) (A2 3))) (AG EQ (mC (.int 65537)) (A2 3)))) (mC (.int 2305843009213693921))) (BI 4))
 (AJ (B2 (AG HR (AG EQ (A2 4) (AG AW (AG AW (AG HR (A2 4) (mC (.int 1000003))) (AG EQ (A2 3) (mC (.int 99991)))) (mC (.int 11)))) (mC (.int 2305843009213693907))) (BI 4))
 (AY (AG HR (AG AW (AG SU (A2 4) (mC (.int 97))) (AG SU (A2 4) (mC (.int 1000033)))) (A2 1))))))))
noncomputable def mLtake:FF:=B5 2 3 bLtake
noncomputable def bLkinds:FS:=
 (AJ (B2 (HV (A1 (mC (.str "knows")) (A1 (mC (.str "a")) (A1 (mC (.str "aa")) (A1 (mC (.str "zebra")) (A1 (mC (.str "empty")) (A1 (mC (.str "quartzes")) (A1 (mC (.str "again")) (A1 (mC (.str "likes")) A5))))))))) (BI 1))
 (AJ (B2 (AB mLtake (A1 (A2 0) (A1 (mC (.int 8)) A5))) (BI 2))
 (AJ (B2 (AG AW (mC (.int 1)) (AB mLtake (A1 (A2 0) (A1 (mC (.int 3)) A5)))) (BI 3))
 (AJ (CV (tV (AG BO (AB mLtake (A1 (A2 0) (A1 (mC (.int 8)) A5))) (mC (.int 0)))) (B2 (AG AW (mC (.int 7)) (AB mLtake (A1 (A2 0) (A1 (mC (.int 2)) A5)))) (BI 3)) AT)
 (AY (OR MN (AG AW (OR MN (A2 1) (D0 (A2 2)) PU) (OR MN (A2 1) PU (D0 (A2 2)))) PU (D0 (A2 3))))))))
noncomputable def mLkinds:FF:=B5 1 3 bLkinds
noncomputable def bLleaf:FS:=
 (AJ (B2 (AB mLtake (A1 (A2 0) (A1 (mC (.int 9)) A5))) (BI 2))
 (AJ (CV (tV (AG BO (A2 2) (mC (.int 0)))) (AY (BS (A1 (mC (.str "empty")) A5))) AT)
 (AJ (B2 (AG BH (A2 1) (AB mLtake (A1 (A2 0) (A1 (E3 DH (A1 (A2 1) A5)) A5)))) (BI 3))
 (AJ (CV (tV (AG BO (A2 2) (mC (.int 1)))) (B2 (mC .non) (BI 3)) AT)
 (AY (BS (A1 (mC (.str "step")) (A1 (A2 3) (A1 (AG BH (BS (A1 (mC (.str "forth")) (A1 (mC (.str "back")) (A1 (mC (.str "either")) (A1 (mC (.str "forth")) A5))))) (AB mLtake (A1 (A2 0) (A1 (mC (.int 4)) A5)))) A5)))))))))
noncomputable def mLleaf:FF:=B5 2 2 bLleaf
noncomputable def bLway (rec:FF):FS:=
 (AJ (B2 (AB mLtake (A1 (A2 0) (A1 (mC (.int 9)) A5))) (BI 4))
 (AJ (CV (OC (tV (AG KY (A2 2) (mC (.int 2)))) (OC (tV (AG KY (A2 4) (mC (.int 2)))) (HX (tV (AG KY (A2 2) (mC (.int 3)))) (tV (AG BO (A2 3) (mC (.int 0))))))) (AY (AB mLleaf (A1 (A2 0) (A1 (A2 1) A5)))) AT)
 (AJ (CV (HX (OC (tV (AG KY (A2 4) (mC (.int 4)))) (tV (AG KY (A2 2) (mC (.int 3))))) (tV (AG ZW (A2 3) (mC (.int 0))))) (AY (BS (A1 (mC (.str "again")) (A1 (AB rec (A1 (A2 0) (A1 (A2 1) (A1 (AG GN (A2 2) (mC (.int 1))) (A1 (AG GN (A2 3) (mC (.int 1))) A5))))) A5)))) AT)
 (AJ (CV (HX (tV (AG BO (A2 4) (mC (.int 4)))) (tV (AG ZW (A2 3) (mC (.int 0))))) (AJ (B2 (AB mLtake (A1 (A2 0) (A1 (mC (.int 3)) A5))) (BI 5))
 (AJ (B2 (AG AW (A2 5) (AB mLtake (A1 (A2 0) (A1 (AG BH (BS (A1 (mC (.int 2)) (A1 (mC (.int 2)) (A1 (mC (.int 4)) A5)))) (AB mLtake (A1 (A2 0) (A1 (mC (.int 3)) A5)))) A5)))) (BI 6))
 (AY (BS (A1 (mC (.str "many")) (A1 (AB rec (A1 (A2 0) (A1 (A2 1) (A1 (AG GN (A2 2) (mC (.int 1))) (A1 (AG GN (A2 3) (mC (.int 1))) A5))))) (A1 (A2 5) (A1 (A2 6) A5)))))))) AT)
 (AJ (B2 (AG AW (mC (.int 1)) (AB mLtake (A1 (A2 0) (A1 (AG GN (A2 2) (mC (.int 2))) A5)))) (BI 7))
 (AJ (B2 (AB rec (A1 (A2 0) (A1 (A2 1) (A1 (A2 7) (A1 (A2 3) A5))))) (BI 8))
 (AY (BS (A1 (AG BH (BS (A1 (mC (.str "then")) (A1 (mC (.str "or")) A5))) (AG HR (A2 4) (mC (.int 2)))) (A1 (A2 8) (A1 (AB rec (A1 (A2 0) (A1 (A2 1) (A1 (AG GN (AG GN (A2 2) (mC (.int 1))) (A2 7)) (A1 (A2 3) A5))))) A5)))))))))))
noncomputable def mLway:Nat→FF
 |0=>fun _ _=>none
 |n+1=>B5 4 5 (bLway (mLway n))
noncomputable def bLboth:FS:=
 (AY (lQ ND (AG AW (A2 0) (A2 1))))
noncomputable def mLboth:FF:=B5 2 0 bLboth
noncomputable def bLof:FS:=
 (AY (K4 (AG J0 (AG BH (A2 0) (mC (.int 1))) (BS (A1 (mC .non) (A1 (AG BH (A2 1) (mC (.int 0))) A5)))) (AG J0 (AG BH (A2 0) (mC (.int 2))) (BS (A1 (mC (.str "either")) (A1 (AG BH (A2 1) (mC (.int 1))) A5))))))
noncomputable def mLof:FF:=B5 2 0 bLof
noncomputable def bLends (rec:FF):FS:=
 (AJ (B2 (AG BH (A2 0) (mC (.int 0))) (BI 3))
 (AJ (CV (tV (AG BO (A2 3) (mC (.str "empty")))) (AY (A2 2)) AT)
 (AJ (CV (tV (AG BO (A2 3) (mC (.str "then")))) (AY (AB rec (A1 (AG BH (A2 0) (mC (.int 2))) (A1 (A2 1) (A1 (AB rec (A1 (AG BH (A2 0) (mC (.int 1))) (A1 (A2 1) (A1 (A2 2) A5)))) A5))))) AT)
 (AJ (CV (tV (AG BO (A2 3) (mC (.str "or")))) (AY (AB mLboth (A1 (AB rec (A1 (AG BH (A2 0) (mC (.int 1))) (A1 (A2 1) (A1 (A2 2) A5)))) (A1 (AB rec (A1 (AG BH (A2 0) (mC (.int 2))) (A1 (A2 1) (A1 (A2 2) A5)))) A5)))) AT)
 (AJ (CV (tV (AG BO (A2 3) (mC (.str "step")))) (AY (DW [none,some 0,some 1] (iL (A2 2)) (BI 0) (HX (tV (AG KY (A2 0) (E3 DH (A1 (A2 2) A5)))) (tV (AB mLof (A1 (A2 1) (A1 (AG BH (A2 2) (A2 0)) A5))))) (AG AW (A2 0) (mC (.int 1))))) AT)
 (AJ (B2 (HV A5) (BI 4))
 (AJ (B2 (A2 2) (BI 5))
 (AJ (CV (tV (AG BO (A2 3) (mC (.str "again")))) (AJ (F0 (tV (AG JW (DW [none,some 4] (iL (A2 5)) (BI 0) (tV (AG CP (A2 0) (A2 1))) (A2 0)) (HV A5))) (AJ (B2 (AB mLboth (A1 (A2 4) (A1 (A2 5) A5))) (BI 4))
 (B2 (AB rec (A1 (AG BH (A2 0) (mC (.int 1))) (A1 (A2 1) (A1 (A2 5) A5)))) (BI 5))) 1000000)
 (AY (A2 4))) AT)
 (AJ (GB (kZ (A1 (AG AW (AG BH (A2 0) (mC (.int 3))) (mC (.int 1))) A5)) (BI 6) (AJ (CV (tV (AG W8 (A2 6) (AG BH (A2 0) (mC (.int 2))))) (B2 (AB mLboth (A1 (A2 4) (A1 (A2 5) A5))) (BI 4)) AT)
 (B2 (AB rec (A1 (AG BH (A2 0) (mC (.int 1))) (A1 (A2 1) (A1 (A2 5) A5)))) (BI 5))))
 (AY (A2 4)))))))))))
noncomputable def mLends:Nat→FF
 |0=>fun _ _=>none
 |n+1=>B5 3 4 (bLends (mLends n))
noncomputable def bLtells:FS:=
 (AY (AG J0 (E3 DH (A1 (A2 1) A5)) (AB (mLends 12) (A1 (A2 0) (A1 (A2 1) (A1 (HV (A1 (mC (.int 0)) A5)) A5))))))
noncomputable def mLtells:FF:=B5 2 0 bLtells
noncomputable def bLrow_of (rec:FF):FS:=
 (AJ (B2 (AG BH (A2 1) (mC (.int 0))) (BI 3))
 (AJ (CV (tV (AG BO (A2 3) (mC (.str "step")))) (AJ (rB 4 5 (A1 (AG BH (A2 1) (mC (.int 1))) (A1 (AG BH (A2 1) (mC (.int 2))) A5)))
 (AJ (CV (tV (AG YY (A2 4) (mC .non))) (B2 (AG BH (AG AW (A2 2) (HV (A1 (mC (.str "strange")) A5))) (AB mLtake (A1 (A2 0) (A1 (AG AW (E3 DH (A1 (A2 2) A5)) (mC (.int 1))) A5)))) (BI 4)) AT)
 (AJ (CV (tV (AG BO (A2 5) (mC (.str "either")))) (B2 (AG BH (BS (A1 (mC (.str "forth")) (A1 (mC (.str "back")) A5))) (AB mLtake (A1 (A2 0) (A1 (mC (.int 2)) A5)))) (BI 5)) AT)
 (AY (BS (A1 (BS (A1 (A2 4) (A1 (A2 5) A5))) A5)))))) AT)
 (AJ (CV (tV (AG BO (A2 3) (mC (.str "then")))) (AY (AG AW (AB rec (A1 (A2 0) (A1 (AG BH (A2 1) (mC (.int 1))) (A1 (A2 2) A5)))) (AB rec (A1 (A2 0) (A1 (AG BH (A2 1) (mC (.int 2))) (A1 (A2 2) A5)))))) AT)
 (AJ (CV (tV (AG BO (A2 3) (mC (.str "or")))) (AY (AB rec (A1 (A2 0) (A1 (AG BH (A2 1) (AG AW (mC (.int 1)) (AB mLtake (A1 (A2 0) (A1 (mC (.int 2)) A5))))) (A1 (A2 2) A5))))) AT)
 (AJ (B2 (mC (.int 0)) (BI 6))
 (AJ (CV (tV (AG BO (A2 3) (mC (.str "again")))) (B2 (AB mLtake (A1 (A2 0) (A1 (mC (.int 4)) A5))) (BI 6)) AT)
 (AJ (CV (tV (AG BO (A2 3) (mC (.str "many")))) (B2 (AG AW (AG BH (A2 1) (mC (.int 2))) (AB mLtake (A1 (A2 0) (A1 (AG AW (AG GN (AG BH (A2 1) (mC (.int 3))) (AG BH (A2 1) (mC (.int 2)))) (mC (.int 1))) A5)))) (BI 6)) AT)
 (AJ (B2 (BS A5) (BI 7))
 (AJ (GB (kZ (A1 (A2 6) A5)) (BI 5) (B2 (AG AW (A2 7) (AB rec (A1 (A2 0) (A1 (AG BH (A2 1) (mC (.int 1))) (A1 (A2 2) A5))))) (BI 7)))
 (AY (A2 7)))))))))))
noncomputable def mLrow_of:Nat→FF
 |0=>fun _ _=>none
 |n+1=>B5 3 5 (bLrow_of (mLrow_of n))
noncomputable def bLchanged:FS:=
 (AJ (B2 (AB mLtake (A1 (A2 0) (A1 (mC (.int 6)) A5))) (BI 3))
 (AJ (B2 (BS (A1 (AG BH (AG AW (A2 2) (HV (A1 (mC (.str "other")) A5))) (AB mLtake (A1 (A2 0) (A1 (AG AW (E3 DH (A1 (A2 2) A5)) (mC (.int 1))) A5)))) (A1 (AG BH (BS (A1 (mC (.str "forth")) (A1 (mC (.str "back")) A5))) (AB mLtake (A1 (A2 0) (A1 (mC (.int 2)) A5)))) A5))) (BI 4))
 (AJ (B2 (AB mLtake (A1 (A2 0) (A1 (AG AW (E3 DH (A1 (A2 1) A5)) (mC (.int 1))) A5))) (BI 5))
 (AJ (CV (tV (AG BO (A2 3) (mC (.int 0)))) (AY (A2 1)) AT)
 (AJ (CV (tV (AG BO (A2 3) (mC (.int 1)))) (AY (AG AW (OR MN (A2 1) PU (D0 (A2 5))) (OR MN (A2 1) (D0 (AG AW (A2 5) (mC (.int 1)))) PU))) AT)
 (AJ (CV (tV (AG BO (A2 3) (mC (.int 2)))) (AY (AG AW (AG AW (OR MN (A2 1) PU (D0 (A2 5))) (OR MN (A2 1) (D0 (A2 5)) (D0 (AG AW (A2 5) (mC (.int 1)))))) (OR MN (A2 1) (D0 (A2 5)) PU))) AT)
 (AJ (CV (tV (AG BO (A2 3) (mC (.int 3)))) (AY (AG AW (AG AW (OR MN (A2 1) PU (D0 (A2 5))) (BS (A1 (A2 4) A5))) (OR MN (A2 1) (D0 (A2 5)) PU))) AT)
 (AJ (CV (tV (AG BO (A2 3) (mC (.int 4)))) (AY (AG AW (AG AW (OR MN (A2 1) PU (D0 (A2 5))) (BS (A1 (A2 4) A5))) (OR MN (A2 1) (D0 (AG AW (A2 5) (mC (.int 1)))) PU))) AT)
 (AY (lQ N4 (A2 1)))))))))))
noncomputable def mLchanged:FF:=B5 3 3 bLchanged
noncomputable def bLback:FS:=
 (AY (E3 RL (A1 (DW [none,none] (iRv (A2 0)) (gX 2 (DM (BI 0) (DM (BI 1) MD))) FU (BS (A1 (A2 0) (A1 (AG BH (pB (A1 (mC (.str "forth")) (A1 (mC (.str "back")) (A1 (mC (.str "back")) (A1 (mC (.str "forth")) A5))))) (A2 1)) A5)))) A5)))
noncomputable def mLback:FF:=B5 1 0 bLback
noncomputable def bLall_rests:FS:=
 (AJ (B2 QJ (BI 2))
 (AJ (B2 (JQ (A1 (A2 0) A5)) (BI 3))
 (AJ (B2 (dR (A1 (E3 EC (A1 (A2 0) A5)) (A1 (mC (.bl true)) A5))) (BI 4))
 (AJ (F0 (tV (AG JW (A2 3) (HV A5))) (AJ (B2 (gV n5 TV (A2 3) A5) (BI 5))
 (AJ (GB (iL (AG AW (A2 1) (HV (A1 (mC (.str "strange")) A5)))) (BI 6) (GB (iT (BS (A1 (mC (.str "forth")) (A1 (mC (.str "back")) A5)))) (BI 7) (AJ (B2 (AB (m_rests 24) (A1 (A2 5) (A1 (A2 6) (A1 (A2 7) A5)))) (BI 8))
 (AJ (CV (NC (tV (E3 YH (A1 (DW [none] (iL (A2 8)) (BI 0) FU (AB (m_is_way 24) (A1 (A2 0) A5))) A5)))) (AY (mC .non)) AT)
 (AJ (O2 (A2 2) (E3 EC (A1 (BS (A1 (A2 5) (A1 (A2 6) (A1 (A2 7) A5)))) A5)) (A2 8))
 (GB (iL (A2 8)) (BI 9) (CV (tV (AG CP (E3 EC (A1 (A2 9) A5)) (A2 4))) (AJ (O2 (A2 4) (E3 EC (A1 (A2 9) A5)) (mC (.bl true)))
 (MA (gV n5 G8 (A2 3) (A1 (A2 9) A5)))) AT)))))))
 (CV (tV (AG ZW (E3 DH (A1 (A2 4) A5)) (mC (.int 301)))) (AY (mC .non)) AT))) 1000000)
 (AY (A2 2))))))
noncomputable def mLall_rests:FF:=B5 2 8 bLall_rests
noncomputable def bLled:FS:=
 (AJ (B2 (HV (A1 (A2 0) A5)) (BI 3))
 (AJ (GB (iT (A2 2)) (gX 2 (DM (BI 4) (DM (BI 5) MD))) (AJ (B2 QJ (BI 6))
 (AJ (GB (iL (A2 3)) (BI 7) (MA (gV wH YE (A2 6) (A1 (DW [none] (iL (AG BH (A2 1) (E3 EC (A1 (BS (A1 (A2 7) (A1 (A2 4) (A1 (A2 5) A5)))) A5)))) (BI 0) FU (BS (A1 (E3 EC (A1 (A2 0) A5)) (A1 (A2 0) A5)))) A5))))
 (B2 (lQ QO (A2 6)) (BI 3)))))
 (AY (E3 gY (A1 (DW [none] (iL (A2 3)) (BI 0) FU (AB m_tells (A1 (A2 0) (A1 (BS A5) A5)))) A5)))))
noncomputable def mLled:FF:=B5 3 5 bLled
noncomputable def bLgreat_way:FS:=
 (AJ (B2 (dZ (DW [none,some 0,some 1] (kZ (A1 (mC (.int 2)) A5)) (BI 0) FU (AB (mLway 12) (A1 (A2 1) (A1 (A2 2) (A1 (mC (.int 3)) (A1 (mC (.int 2)) A5)))))) (HV (A1 (AB (mLway 12) (A1 (A2 0) (A1 (A2 1) (A1 (mC (.int 4)) (A1 (mC (.int 2)) A5))))) A5))) (BI 2))
 (AJ (CV (tV (AG BO (AB mLtake (A1 (A2 0) (A1 (mC (.int 3)) A5))) (mC (.int 0)))) (AJ (B2 (AB mLtake (A1 (A2 0) (A1 (mC (.int 7)) A5))) (BI 3))
 (B2 (BS (A1 (mC (.str "many")) (A1 (AB mLleaf (A1 (A2 0) (A1 (A2 1) A5))) (A1 (A2 3) (A1 (AG AW (A2 3) (AB mLtake (A1 (A2 0) (A1 (AG GN (mC (.int 7)) (A2 3)) A5)))) A5))))) (PL (A2 2) (mC (.int 0))))) AT)
 (AJ (B2 (AG BH (BS (A1 (mC (.str "then")) (A1 (mC (.str "or")) A5))) (AB mLtake (A1 (A2 0) (A1 (mC (.int 2)) A5)))) (BI 4))
 (AY (BS (A1 (A2 4) (A1 (AG BH (A2 2) (mC (.int 0))) (A1 (BS (A1 (AG BH (BS (A1 (mC (.str "then")) (A1 (mC (.str "or")) A5))) (AB mLtake (A1 (A2 0) (A1 (mC (.int 2)) A5)))) (A1 (AG BH (A2 2) (mC (.int 1))) (A1 (AG BH (A2 2) (mC (.int 2))) A5)))) A5))))))))
noncomputable def mLgreat_way:FF:=B5 2 3 bLgreat_way
noncomputable def Y9:FS:=
 (AJ (B2 (AB mLhand (A1 (A2 0) (A1 (mC (.int 0)) A5))) (BI 1))
 (AJ (B2 (AB mLkinds (A1 (A2 1) A5)) (BI 2))
 (AJ (B2 (AB mLgreat_way (A1 (A2 1) (A1 (A2 2) A5))) (BI 3))
 (AJ (B2 (AB mLall_rests (A1 (A2 3) (A1 (A2 2) A5))) (BI 4))
 (AJ (CV (tV (AG YY (A2 4) (mC .non))) (AY (mC (.bl false))) AT)
 (AJ (B2 (AB (m_turned 24) (A1 (A2 3) A5)) (BI 5))
 (AJ (GB (kZ (A1 (mC (.int 5)) A5)) (BI 6) (AJ (B2 (OR MN (AB (mLrow_of 12) (A1 (A2 1) (A1 (A2 3) (A1 (A2 2) A5)))) PU (D0 (mC (.int 40)))) (BI 7))
 (AJ (B2 (OR MN (AB mLchanged (A1 (A2 1) (A1 (A2 7) (A1 (AG AW (A2 2) (HV (A1 (mC (.str "strange")) A5))) A5)))) PU (D0 (mC (.int 40)))) (BI 8))
 (GB (iT (BS (A1 (A2 7) (A1 (E3 RL (A1 (DW [none,some 2] (iT (A2 8)) (BI 0) (tV (AG J0 (AG BH (A2 0) (mC (.int 0))) (AG AW (A2 1) (HV (A1 (mC (.str "strange")) A5))))) (A2 0)) A5)) A5)))) (BI 9) (AJ (B2 (AB mLtells (A1 (A2 3) (A1 (A2 9) A5))) (BI 10))
 (AJ (CV (OC (tV (AG JW (AB m_tells (A1 (A2 3) (A1 (A2 9) A5))) (A2 10))) (OC (tV (AG JW (AB m_tells (A1 (A2 5) (A1 (AB mLback (A1 (A2 9) A5)) A5))) (A2 10))) (tV (AG JW (AB mLled (A1 (A2 3) (A1 (A2 4) (A1 (A2 9) A5)))) (A2 10))))) (AY (mC (.bl false))) AT)
 (CV (HX (tV (A2 10)) (tV (AG KY (E3 DH (A1 (A2 9) A5)) (AB (m_least_steps 24) (A1 (A2 3) A5))))) (AY (mC (.bl false))) AT)))))))
 (AY (mC (.bl true))))))))))
noncomputable def m_law:FF:=B5 1 10 Y9
end K22
set_option maxHeartbeats 8000000
namespace K22
open PySem L2
local macro_rules| `(tactic|walk_at "n")=> `(tactic|exact⟨by decide+kernel,by decide+kernel,by decide+kernel,by decide+kernel⟩)
local macro_rules| `(tactic|apply $e:term)=> `(tactic|with_reducible refine' $e)
local macro_rules| `(tactic|walk_at "late")=> `(tactic|first|rfl|exact True.intro|exact nomark _|exact PassesOwn.never|exact Room.mono (by assumption) (by omega)|exact fun _ _=>rfl|(intro _;rfl)|with_unfolding_all rfl|exact Or.inl rfl|decide|simp)
section
variable {P:Program} {w:World} {K:PySem.W.Frag} {mg:Str→Option Value} {base:Heap} {t:Adr}
theorem VE (T:Txt P w K mg t):FnOk P w K mg base FY 1 t.f_is_name t.d_is_name ["thing"] (GG K m_is_name):=by
 refine T.F_is_name.okM (k:=0) W7 rfl fun cdv A outer s H E hr=> ?_
 unfold b_is_name
 conv=>arg 2;whnf
 refine' A3 (B0 (PW.pt (OB (QI (KA (C8 GS MZ q5 T.z_isinstance PyProof.Rows.boot_isinstance (BD (A0 (A7 0 q0)) (RU (LA (v:= .ty "str") q4 T.z_str ?_ ?_) ?_) ?_ ?_) ?_ ?_) ?_)) (OD (QI (fW K8 OF K8 OF A4 (C8 BL CM q2 T.z_len PySem.boot_len (BA (A0 (A7 0 q0)) ?_) ?_ ?_) (JD q3 T.c_LONGEST_NAME T.r_LONGEST_NAME) ?_))))) (A6 (AE MF)) AF) (A6 (AE (C8 (TK rfl) OG q1 T.z_all PyProof.Rows.boot_all (BA (DO (N':=["sign"]) (ix:=[none]) ⟨rfl,by decide+kernel,by decide+kernel,C4 _ _ rfl,rfl,DE _ _ _ _ rfl⟩ ?_ (D7 ?_) (oV ((A0 (A7 0 q0)))) (fun _ _ _ _=>(aR (i:=0) (by walk_at "n") (show List.Nodup (["sign"]:List Str) from by decide+kernel) (by rfl))) (fun _ _ _ _=>HQ) (fun _ _ _ _=>bW K8 OF K8 OF AD (A0 (A7 0 (NmOk.own (by walk_at "n")))) AD ?_) ?_) ?_) ?_ ?_)))
 all_goals (try walk_at "late")
theorem S0 (T:Txt P w K mg t):FnOk P w K mg base FY 1 t.f_is_number t.d_is_number ["thing"] (GG K m_is_number):=by
 refine T.F_is_number.okM (k:=0) S9 rfl fun cdv A outer s H E hr=> ?_
 unfold b_is_number
 conv=>arg 2;whnf
 refine' A6 ?_
 apply AE ?_
 refine' E7 (C8 GS MZ q8 T.z_isinstance PyProof.Rows.boot_isinstance (BD (A0 (A7 0 q6)) (RU (LA (v:= .ty "int") q9 T.z_int ?_ ?_) ?_) ?_ ?_) ?_ ?_) (GZ (nY (C8 GS MZ q8 T.z_isinstance PyProof.Rows.boot_isinstance (BD (A0 (A7 0 q6)) (RU (LA (v:= .ty "bool") q7 T.z_bool ?_ ?_) ?_) ?_ ?_) ?_ ?_)))
 all_goals (try walk_at "late")
theorem QU (T:Txt P w K mg t):FnOk P w K mg base FY 2 t.f_are_times t.d_are_times ["low","high"] (GG K m_are_times):=by
 have C_is_number:=Cal.of (S0 (P:=P) (w:=w) (base:=base) T) T.m_is_number T.F_is_number.kp T.b_is_number
 refine T.F_are_times.okM (k:=1) QG rfl fun cdv A outer s H E hr=> ?_
 unfold b_are_times
 conv=>arg 2;whnf
 refine' A6 ?_
 apply AE ?_
 refine' E7 (A9 C_is_number ?_ x9 (BA (A0 (A7 0 vU)) ?_) ?_ ?_) (E7 (A9 C_is_number ?_ x9 (BA (A0 (A7 1 tH)) ?_) ?_ ?_) (GZ (YD K8 OF K8 OF K8 OF A4 (A0 (A7 0 vU)) (A0 (A7 1 tH)) (JD y4 T.c_MOST_TIMES T.r_MOST_TIMES) ?_)))
 all_goals (try walk_at "late")
theorem Z9 (T:Txt P w K mg t) (n:Nat):FnOk P w K mg base FY (n+2) t.f_is_way t.d_is_way ["thing"] (GG K (m_is_way n)):=by
 induction n with
 |zero=>exact FnOk.empty
 |succ n ih=>
  have C_are_times:=Cal.of (QU (P:=P) (w:=w) (base:=base) T) T.m_are_times T.F_are_times.kp T.b_are_times
  have C_is_name:=Cal.of (VE (P:=P) (w:=w) (base:=base) T) T.m_is_name T.F_is_name.kp T.b_is_name
  have C_is_way:=Cal.of ih T.m_is_way T.F_is_way.kp T.b_is_way
  refine FnOk.mono (j:=n+2+1) (T.F_is_way.okM (k:=n+2) LX rfl fun cdv A outer s H E hr=> ?_) (by omega)
  unfold b_is_way
  conv=>arg 2;whnf
  refine' A3 (B0 (PW.pt (OB (QI (KA (C8 GS MZ yS T.z_isinstance PyProof.Rows.boot_isinstance (BD (A0 (A7 0 qT)) (RU (LA (v:= .ty "tuple") yQ T.z_tuple ?_ ?_) ?_) ?_ ?_) ?_ ?_) ?_)) (OD (AI (AS (B6 hr)) B8 (C8 BL CM j8 T.z_len PySem.boot_len (BA (A0 (A7 0 qT)) ?_) ?_ ?_) A4 ?_)))) (A6 (AE MF)) AF) (A3 (AK (i:=1) LX.nd ?_ (Or.inl iQ.lk) (AM (AX (AC hr)) AL (A0 (A7 0 qT)) A4 ?_) ?_ ?_) (A3 (AK (i:=2) LX.nd ?_ (Or.inl SC.lk) (BU HW DY (A0 (A7 0 qT)) (C0 A4) C6) ?_ ?_) (A3 (B0 (AI (AS (B6 hr)) B8 (A0 (A7 1 iQ)) AD ?_) (A6 (AE (E7 (DI (AS (B6 hr)) B8 (C8 BL CM j8 T.z_len PySem.boot_len (BA (A0 (A7 2 SC)) ?_) ?_ ?_) A4 ?_) (E7 (wR (DI W2 dF (AM (AX (AC hr)) AL (A0 (A7 2 SC)) A4 ?_) IL ?_) (GZ (A9 C_is_name ?_ yX (BA (AM (AX (AC hr)) AL (A0 (A7 2 SC)) A4 ?_) ?_) ?_ ?_))) (GZ (DI (HJ (AC hr)) LD (AM (AX (AC hr)) AL (A0 (A7 2 SC)) A4 ?_) (B9 (C2 AD AD AD ?_ ?_ ?_)) ?_)))))) AF) (A3 (B0 (AI (AS (B6 hr)) B8 (A0 (A7 1 iQ)) AD ?_) (A6 (AE (DI (AS (B6 hr)) B8 (C8 BL CM j8 T.z_len PySem.boot_len (BA (A0 (A7 2 SC)) ?_) ?_ ?_) A4 ?_))) AF) (A3 (B0 (AI (HJ (AC hr)) LD (A0 (A7 1 iQ)) (B9 (BD AD AD ?_ ?_)) ?_) (A6 (AE (E7 (DI (AS (B6 hr)) B8 (C8 BL CM j8 T.z_len PySem.boot_len (BA (A0 (A7 2 SC)) ?_) ?_ ?_) A4 ?_) (E7 (A9 C_is_way ?_ sH (BA (AM (AX (AC hr)) AL (A0 (A7 2 SC)) A4 ?_) ?_) ?_ ?_) (GZ (A9 C_is_way ?_ sH (BA (AM (AX (AC hr)) AL (A0 (A7 2 SC)) A4 ?_) ?_) ?_ ?_)))))) AF) (A3 (B0 (AI (AS (B6 hr)) B8 (A0 (A7 1 iQ)) AD ?_) (A6 (AE (E7 (DI (AS (B6 hr)) B8 (C8 BL CM j8 T.z_len PySem.boot_len (BA (A0 (A7 2 SC)) ?_) ?_ ?_) A4 ?_) (GZ (A9 C_is_way ?_ sH (BA (AM (AX (AC hr)) AL (A0 (A7 2 SC)) A4 ?_) ?_) ?_ ?_))))) AF) (A6 (AE (E7 (DI (AS (B6 hr)) B8 (A0 (A7 1 iQ)) AD ?_) (E7 (DI (AS (B6 hr)) B8 (C8 BL CM j8 T.z_len PySem.boot_len (BA (A0 (A7 2 SC)) ?_) ?_ ?_) A4 ?_) (E7 (A9 C_are_times ?_ yZ (BD (AM (AX (AC hr)) AL (A0 (A7 2 SC)) A4 ?_) (AM (AX (AC hr)) AL (A0 (A7 2 SC)) A4 ?_) ?_ ?_) ?_ ?_) (GZ (A9 C_is_way ?_ sH (BA (AM (AX (AC hr)) AL (A0 (A7 2 SC)) A4 ?_) ?_) ?_ ?_)))))))))))))
  all_goals (try walk_at "late")
theorem M6 (T:Txt P w K mg t):FnOk P w K mg base FY 1 t.f_merged t.d_merged ["one","other"] (GG K m_merged):=by
 refine T.F_merged.okM (k:=0) ZD rfl fun cdv A outer s H E hr=> ?_
 unfold b_merged
 conv=>arg 2;whnf
 refine' A6 ?_
 apply AE ?_
 refine' eE ?_ q53 T.z_sorted q54 T.z_set (A0 (A7 0 q51)) (A0 (A7 1 q52)) ?_ ?_
 all_goals (try walk_at "late")
theorem QK (T:Txt P w K mg t) (L:Nat) (hL:1≤L) (rec:FF) (ih:FnOk P w K mg base FY L t.f_ends t.d_ends ["way","steps","starts"] (GG K rec)):FnOk P w K mg base FY (L+1) t.f_ends_many t.d_ends_many ["way","steps","starts"] (GG K (m_ends_many rec)):=by
 have C_merged:=Cal.of (M6 (P:=P) (w:=w) (base:=base) T) T.m_merged T.F_merged.kp T.b_merged
 have C_ends:=Cal.of ih T.m_ends T.F_ends.kp T.b_ends
 refine T.F_ends_many.okM (k:=L) D4 rfl fun cdv A outer s H E hr=> ?_
 unfold b_ends_many
 conv=>arg 2;whnf
 refine' A3 (AK (i:=3) D4.nd ?_ (Or.inl yF.lk) (DN EK) ?_ ?_) (A3 (AK (i:=4) D4.nd ?_ (Or.inl yV.lk) (A0 (A7 2 q50)) ?_ ?_) (A3 (EN ?_ ?_ (GJ q44.lk T.z_range (BA (AO AQ AZ (AM (AX (AC hr)) AL (A0 (A7 0 zD)) A4 ?_) A4) ?_) ?_) (C9 (C7 (i:=5) D4.nd ?_ (Or.inl q45.lk) ?_)) (A3 (B0 (AI W5 cW (A0 (A7 5 q45)) (AM (AX (AC hr)) AL (A0 (A7 0 zD)) A4 ?_) ?_) (A6 (AK (i:=3) D4.nd ?_ (Or.inl yF.lk) (A9 C_merged ?_ q49 (BD (A0 (A7 3 yF)) (A0 (A7 4 yV)) ?_ ?_) ?_ ?_) ?_ ?_)) AF) (A6 (AK (i:=4) D4.nd ?_ (Or.inl yV.lk) (A9 C_ends ?_ q48 (C2 (AM (AX (AC hr)) AL (A0 (A7 0 zD)) A4 ?_) (A0 (A7 1 q46)) (A0 (A7 4 yV)) ?_ ?_ ?_) ?_ ?_) ?_ ?_))) ?_) (A6 (AE ((A0 (A7 3 yF)))))))
 all_goals (try walk_at "late")
theorem OT (T:Txt P w K mg t) (L:Nat) (hL:1≤L) (rec:FF) (ih:FnOk P w K mg base FY L t.f_ends t.d_ends ["way","steps","starts"] (GG K rec)):FnOk P w K mg base FY (L+1) t.f_ends_again t.d_ends_again ["way","steps","starts"] (GG K (m_ends_again rec)):=by
 have C_merged:=Cal.of (M6 (P:=P) (w:=w) (base:=base) T) T.m_merged T.F_merged.kp T.b_merged
 have C_ends:=Cal.of ih T.m_ends T.F_ends.kp T.b_ends
 refine T.F_ends_again.okM (k:=L) DD rfl fun cdv A outer s H E hr=> ?_
 unfold b_ends_again
 conv=>arg 2;whnf
 refine' A3 (AK (i:=3) DD.nd ?_ (Or.inr yR.lk) (A0 (A7 2 q41)) ?_ ?_) (A3 (AK (i:=4) DD.nd ?_ (Or.inl xY.lk) (A0 (A7 2 q41)) ?_ ?_) (A3 (NR _ ?_ (jE (A0 (A7 4 xY)) ?_) (A3 (jG (k:=4) DD.nd ?_ xY.lk (N':=["at","found"]) (ix:=[none,some 3]) ⟨rfl,by decide+kernel,by decide+kernel,C4 _ _ rfl,rfl,DE _ _ _ _ rfl⟩ ?_ (D7 ?_) (D5 (A9 C_ends ?_ q40 (C2 (A0 (A7 0 q38)) (A0 (A7 1 q39)) (A0 (A7 4 xY)) ?_ ?_ ?_) ?_ ?_)) (fun _ _ _ _=>(aR (i:=0) (by walk_at "n") (show List.Nodup (["at","found"]:List Str) from by decide+kernel) (by rfl))) (fun _ _ _ _=>L9 (AI (JA (AC hr)) L3 (A0 (A7 0 (NmOk.own (by walk_at "n")))) (A0 (aN 1 (by walk_at "n"))) ?_)) (fun _ _ _ _=>(A0 (A7 0 (NmOk.own (by walk_at "n"))))) ?_ ?_) (A6 (AK (i:=3) DD.nd ?_ (Or.inr yR.lk) (A9 C_merged ?_ q37 (BD (A0 (A7 3 yR)) (A0 (A7 4 xY)) ?_ ?_) ?_ ?_) ?_ ?_)))) (A6 (AE ((A0 (A7 3 yR)))))))
 all_goals (try walk_at "late")
theorem JI (T:Txt P w K mg t):FnOk P w K mg base FY 1 t.f_is_step_of t.d_is_step_of ["way","kind","turn"] (GG K m_is_step_of):=by
 refine T.F_is_step_of.okM (k:=0) P0 rfl fun cdv A outer s H E hr=> ?_
 unfold b_is_step_of
 conv=>arg 2;whnf
 refine' A6 ?_
 apply AE ?_
 refine' E7 (DI (HJ (AC hr)) LD (AM (AX (AC hr)) AL (A0 (A7 0 q55)) A4 ?_) (B9 (BD IL (A0 (A7 1 q57)) ?_ ?_)) ?_) (GZ (DI (HJ (AC hr)) LD (AM (AX (AC hr)) AL (A0 (A7 0 q55)) A4 ?_) (B9 (BD AD (A0 (A7 2 q56)) ?_ ?_)) ?_))
 all_goals (try walk_at "late")
theorem kF (T:Txt P w K mg t) (n:Nat):FnOk P w K mg base FY (2*n+1) t.f_ends t.d_ends ["way","steps","starts"] (GG K (m_ends n)):=by
 induction n with
 |zero=>exact FnOk.empty
 |succ n ih=>
  have C_ends_many:=Cal.of (QK (P:=P) (w:=w) (base:=base) T (2*n+1) (by omega) (m_ends n) ih) T.m_ends_many T.F_ends_many.kp T.b_ends_many
  have C_merged:=Cal.of (M6 (P:=P) (w:=w) (base:=base) T) T.m_merged T.F_merged.kp T.b_merged
  have C_ends_again:=Cal.of (OT (P:=P) (w:=w) (base:=base) T (2*n+1) (by omega) (m_ends n) ih) T.m_ends_again T.F_ends_again.kp T.b_ends_again
  have C_is_step_of:=Cal.of (JI (P:=P) (w:=w) (base:=base) T) T.m_is_step_of T.F_is_step_of.kp T.b_is_step_of
  have C_ends:=Cal.of ih T.m_ends T.F_ends.kp T.b_ends
  refine FnOk.mono (j:=2*n+2+1) (T.F_ends.okM (k:=2*n+2) XB rfl fun cdv A outer s H E hr=> ?_) (by omega)
  unfold b_ends
  conv=>arg 2;whnf
  refine' A3 (AK (i:=3) XB.nd ?_ (Or.inl j4.lk) (AM (AX (AC hr)) AL (A0 (A7 0 gU)) A4 ?_) ?_ ?_) (A3 (B0 (AI (AS (B6 hr)) B8 (A0 (A7 3 j4)) AD ?_) (A6 (AE (DO (N':=["at","way","steps"]) (ix:=[none,some 0,some 1]) ⟨rfl,by decide+kernel,by decide+kernel,C4 _ _ rfl,rfl,DE _ _ _ _ rfl⟩ ?_ (D7 ?_) (D5 ((A0 (A7 2 gS)))) (fun _ _ _ _=>(aR (i:=0) (by walk_at "n") (show List.Nodup (["at","way","steps"]:List Str) from by decide+kernel) (by rfl))) (fun _ _ _ _=>L9 (PW.pt (LT (AI GU LC (A0 (A7 0 (NmOk.own (by walk_at "n")))) (C8 BL CM (NmOk.glob (by walk_at "n")) T.z_len PySem.boot_len (BA (A0 (aN 2 (by walk_at "n"))) ?_) ?_ ?_) ?_) (JE (KA (A9 C_is_step_of ?_ (NmOk.glob (by walk_at "n")) (C2 (A0 (aN 1 (by walk_at "n"))) (AM (AX (AC hr)) AL (AM (AX (AC hr)) AL (A0 (aN 2 (by walk_at "n"))) (A0 (A7 0 (NmOk.own (by walk_at "n")))) ?_) A4 ?_) (AM (AX (AC hr)) AL (AM (AX (AC hr)) AL (A0 (aN 2 (by walk_at "n"))) (A0 (A7 0 (NmOk.own (by walk_at "n")))) ?_) A4 ?_) ?_ ?_ ?_) ?_ ?_) ?_))))) (fun _ _ _ _=>AO AQ AZ ((A0 (A7 0 (NmOk.own (by walk_at "n"))))) A4) ?_))) AF) (A3 (B0 (AI (AS (B6 hr)) B8 (A0 (A7 3 j4)) AD ?_) (A6 (AE ((A0 (A7 2 gS))))) AF) (A3 (B0 (AI (AS (B6 hr)) B8 (A0 (A7 3 j4)) AD ?_) (A6 (AE (A9 C_ends ?_ yB (C2 (AM (AX (AC hr)) AL (A0 (A7 0 gU)) A4 ?_) (A0 (A7 1 kQ)) (A9 C_ends ?_ yB (C2 (AM (AX (AC hr)) AL (A0 (A7 0 gU)) A4 ?_) (A0 (A7 1 kQ)) (A0 (A7 2 gS)) ?_ ?_ ?_) ?_ ?_) ?_ ?_ ?_) ?_ ?_))) AF) (A3 (B0 (AI (AS (B6 hr)) B8 (A0 (A7 3 j4)) AD ?_) (A6 (AE (A9 C_merged ?_ q34 (BD (A9 C_ends ?_ yB (C2 (AM (AX (AC hr)) AL (A0 (A7 0 gU)) A4 ?_) (A0 (A7 1 kQ)) (A0 (A7 2 gS)) ?_ ?_ ?_) ?_ ?_) (A9 C_ends ?_ yB (C2 (AM (AX (AC hr)) AL (A0 (A7 0 gU)) A4 ?_) (A0 (A7 1 kQ)) (A0 (A7 2 gS)) ?_ ?_ ?_) ?_ ?_) ?_ ?_) ?_ ?_))) AF) (A3 (B0 (AI (AS (B6 hr)) B8 (A0 (A7 3 j4)) AD ?_) (A6 (AE (A9 C_ends_again ?_ yW (C2 (AM (AX (AC hr)) AL (A0 (A7 0 gU)) A4 ?_) (A0 (A7 1 kQ)) (A0 (A7 2 gS)) ?_ ?_ ?_) ?_ ?_))) AF) (A6 (AE (A9 C_ends_many ?_ yA (C2 (A0 (A7 0 gU)) (A0 (A7 1 kQ)) (A0 (A7 2 gS)) ?_ ?_ ?_) ?_ ?_))))))))
  all_goals (try walk_at "late")
theorem SW (T:Txt P w K mg t):FnOk P w K mg base FY 50 t.f_tells t.d_tells ["way","steps"] (GG K m_tells):=by
 have C_ends:=Cal.of (kF (P:=P) (w:=w) (base:=base) T 24) T.m_ends T.F_ends.kp T.b_ends
 refine T.F_tells.okM (k:=49) c6 rfl fun cdv A outer s H E hr=> ?_
 unfold b_tells
 conv=>arg 2;whnf
 refine' A6 ?_
 apply AE ?_
 refine' DI (HJ (AC hr)) LD (C8 BL CM yT T.z_len PySem.boot_len (BA (A0 (A7 1 xB)) ?_) ?_ ?_) (A9 C_ends ?_ y8 (C2 (A0 (A7 0 yG)) (A0 (A7 1 xB)) (DN (BA A4 ?_)) ?_ ?_ ?_) ?_ ?_) ?_
 all_goals (try walk_at "late")
theorem IB (T:Txt P w K mg t) (n:Nat):FnOk P w K mg base FY (n+0) t.f_least_steps t.d_least_steps ["way"] (GG K (m_least_steps n)):=by
 induction n with
 |zero=>exact FnOk.empty
 |succ n ih=>
  have C_least_steps:=Cal.of ih T.m_least_steps T.F_least_steps.kp T.b_least_steps
  refine FnOk.mono (j:=n+0+1) (T.F_least_steps.okM (k:=n+0) IR rfl fun cdv A outer s H E hr=> ?_) (by omega)
  unfold b_least_steps
  conv=>arg 2;whnf
  refine' A3 (AK (i:=1) IR.nd ?_ (Or.inl vN.lk) (AM (AX (AC hr)) AL (A0 (A7 0 p4)) A4 ?_) ?_ ?_) (A3 (B0 (AI (AS (B6 hr)) B8 (A0 (A7 1 vN)) AD ?_) (A6 (AE A4)) AF) (A3 (B0 (AI (AS (B6 hr)) B8 (A0 (A7 1 vN)) AD ?_) (A6 (AE (AO AQ AZ (A9 C_least_steps ?_ uT (BA (AM (AX (AC hr)) AL (A0 (A7 0 p4)) A4 ?_) ?_) ?_ ?_) (A9 C_least_steps ?_ uT (BA (AM (AX (AC hr)) AL (A0 (A7 0 p4)) A4 ?_) ?_) ?_ ?_)))) AF) (A3 (B0 (AI (AS (B6 hr)) B8 (A0 (A7 1 vN)) AD ?_) (A6 (AE (C8 (a7 rfl) qH q61 T.z_min PyProof.Rows.boot_min (BD (A9 C_least_steps ?_ uT (BA (AM (AX (AC hr)) AL (A0 (A7 0 p4)) A4 ?_) ?_) ?_ ?_) (A9 C_least_steps ?_ uT (BA (AM (AX (AC hr)) AL (A0 (A7 0 p4)) A4 ?_) ?_) ?_ ?_) ?_ ?_) ?_ ?_))) AF) (A3 (B0 (AI (AS (B6 hr)) B8 (A0 (A7 1 vN)) AD ?_) (A6 (AE (AO E8 GC (AM (AX (AC hr)) AL (A0 (A7 0 p4)) A4 ?_) (A9 C_least_steps ?_ uT (BA (AM (AX (AC hr)) AL (A0 (A7 0 p4)) A4 ?_) ?_) ?_ ?_)))) AF) (A6 (AE A4))))))
  all_goals (try walk_at "late")
theorem ZX (T:Txt P w K mg t) (n:Nat):FnOk P w K mg base FY (n+0) t.f_turned t.d_turned ["way"] (GG K (m_turned n)):=by
 induction n with
 |zero=>exact FnOk.empty
 |succ n ih=>
  have C_turned:=Cal.of ih T.m_turned T.F_turned.kp T.b_turned
  refine FnOk.mono (j:=n+0+1) (T.F_turned.okM (k:=n+0) Q0 rfl fun cdv A outer s H E hr=> ?_) (by omega)
  unfold b_turned
  conv=>arg 2;whnf
  refine' A3 (AK (i:=1) Q0.nd ?_ (Or.inl t7.lk) (AM (AX (AC hr)) AL (A0 (A7 0 gT)) A4 ?_) ?_ ?_) (A3 (B0 (AI (AS (B6 hr)) B8 (A0 (A7 1 t7)) AD ?_) (A6 (AE (B9 (C2 AD (AM (AX (AC hr)) AL (A0 (A7 0 gT)) A4 ?_) (o1 q65 T.c_OTHER_TURN T.d_OTHER_TURN (AM (AX (AC hr)) AL (A0 (A7 0 gT)) A4 ?_) ?_) ?_ ?_ ?_)))) AF) (A3 (B0 (AI (AS (B6 hr)) B8 (A0 (A7 1 t7)) AD ?_) (A6 (AE ((A0 (A7 0 gT))))) AF) (A3 (B0 (AI (AS (B6 hr)) B8 (A0 (A7 1 t7)) AD ?_) (A6 (AE (B9 (C2 AD (A9 C_turned ?_ tR (BA (AM (AX (AC hr)) AL (A0 (A7 0 gT)) A4 ?_) ?_) ?_ ?_) (A9 C_turned ?_ tR (BA (AM (AX (AC hr)) AL (A0 (A7 0 gT)) A4 ?_) ?_) ?_ ?_) ?_ ?_ ?_)))) AF) (A3 (B0 (AI (AS (B6 hr)) B8 (A0 (A7 1 t7)) AD ?_) (A6 (AE (B9 (C2 AD (A9 C_turned ?_ tR (BA (AM (AX (AC hr)) AL (A0 (A7 0 gT)) A4 ?_) ?_) ?_ ?_) (A9 C_turned ?_ tR (BA (AM (AX (AC hr)) AL (A0 (A7 0 gT)) A4 ?_) ?_) ?_ ?_) ?_ ?_ ?_)))) AF) (A6 (AE (AO AQ AZ (B9 (BD (A0 (A7 1 t7)) (A9 C_turned ?_ tR (BA (AM (AX (AC hr)) AL (A0 (A7 0 gT)) A4 ?_) ?_) ?_ ?_) ?_ ?_)) (BU HW DY (A0 (A7 0 gT)) (C0 A4) C6))))))))
  all_goals (try walk_at "late")
theorem PH (T:Txt P w K mg t):FnOk P w K mg base FY 1 t.f_unlike t.d_unlike ["ways"] (GG K m_unlike):=by
 refine T.F_unlike.okM (k:=0) LZ rfl fun cdv A outer s H E hr=> ?_
 unfold b_unlike
 conv=>arg 2;whnf
 refine' A3 (AK (i:=1) LZ.nd ?_ (Or.inl yM.lk) (GW EK) ?_ ?_) (A3 (EN ?_ ?_ (D5 ((A0 (A7 0 q96)))) (C9 (C7 (i:=2) LZ.nd ?_ (Or.inl q97.lk) ?_)) (A6 (B0 (AI (JA (AC hr)) L3 (A0 (A7 2 q97)) (A0 (A7 1 yM)) ?_) (A6 (RS (cV PySem.F.plainAttrs_list PySem.F.slot_list_append PySem.F.type_list_append M7 (fun _ _ _ _ _=>WI) Q5 (A0 (A7 1 yM)) (BA (A0 (A7 2 q97)) ?_) ?_ ?_ ?_ ?_ ?_) ?_)) AF)) ?_) (A6 (AE ((A0 (A7 1 yM))))))
 all_goals (try walk_at "late")
theorem Z1 (T:Txt P w K mg t) (n:Nat):FnOk P w K mg base FY (n+0) t.f_in_row t.d_in_row ["way","tail"] (GG K (m_in_row n)):=by
 induction n with
 |zero=>exact FnOk.empty
 |succ n ih=>
  have C_in_row:=Cal.of ih T.m_in_row T.F_in_row.kp T.b_in_row
  refine FnOk.mono (j:=n+0+1) (T.F_in_row.okM (k:=n+0) YB rfl fun cdv A outer s H E hr=> ?_) (by omega)
  unfold b_in_row
  conv=>arg 2;whnf
  refine' A3 (B0 (AI (AS (B6 hr)) B8 (A0 (A7 0 t6)) (JD q94 T.c_EMPTY T.r_EMPTY) ?_) (A6 (AE ((A0 (A7 1 yK))))) AF) (A3 (B0 (AI (AS (B6 hr)) B8 (A0 (A7 1 yK)) (JD q94 T.c_EMPTY T.r_EMPTY) ?_) (A6 (AE ((A0 (A7 0 t6))))) AF) (A3 (B0 (AI (AS (B6 hr)) B8 (AM (AX (AC hr)) AL (A0 (A7 0 t6)) A4 ?_) AD ?_) (A6 (AE (B9 (C2 AD (AM (AX (AC hr)) AL (A0 (A7 0 t6)) A4 ?_) (A9 C_in_row ?_ q93 (BD (AM (AX (AC hr)) AL (A0 (A7 0 t6)) A4 ?_) (A0 (A7 1 yK)) ?_ ?_) ?_ ?_) ?_ ?_ ?_)))) AF) (A6 (AE (B9 (C2 AD (A0 (A7 0 t6)) (A0 (A7 1 yK)) ?_ ?_ ?_))))))
  all_goals (try walk_at "late")
theorem ME (T:Txt P w K mg t):FnOk P w K mg base FY 25 t.f_followed t.d_followed ["ways","tail"] (GG K m_followed):=by
 have C_unlike:=Cal.of (PH (P:=P) (w:=w) (base:=base) T) T.m_unlike T.F_unlike.kp T.b_unlike
 have C_in_row:=Cal.of (Z1 (P:=P) (w:=w) (base:=base) T 24) T.m_in_row T.F_in_row.kp T.b_in_row
 refine T.F_followed.okM (k:=24) U1 rfl fun cdv A outer s H E hr=> ?_
 unfold b_followed
 conv=>arg 2;whnf
 refine' A6 ?_
 apply AE ?_
 refine' A9 C_unlike ?_ q90 (BA (DO (N':=["way","tail"]) (ix:=[none,some 1]) ⟨rfl,by decide+kernel,by decide+kernel,C4 _ _ rfl,rfl,DE _ _ _ _ rfl⟩ ?_ (D7 ?_) (D5 ((A0 (A7 0 q89)))) (fun _ _ _ _=>(aR (i:=0) (by walk_at "n") (show List.Nodup (["way","tail"]:List Str) from by decide+kernel) (by rfl))) (fun _ _ _ _=>HQ) (fun _ _ _ _=>A9 C_in_row ?_ (NmOk.glob (by walk_at "n")) (BD (A0 (A7 0 (NmOk.own (by walk_at "n")))) (A0 (aN 1 (by walk_at "n"))) ?_ ?_) ?_ ?_) ?_) ?_) ?_ ?_
 all_goals (try walk_at "late")
theorem M9 (T:Txt P w K mg t) (L:Nat) (hL:25≤L) (rec:FF) (ih:FnOk P w K mg base FY L t.f_rests t.d_rests ["way","kind","turn"] (GG K rec)):FnOk P w K mg base FY (L+1) t.f_rests_of_many t.d_rests_of_many ["way","kind","turn"] (GG K (m_rests_of_many rec)):=by
 have C_followed:=Cal.of (ME (P:=P) (w:=w) (base:=base) T) T.m_followed T.F_followed.kp T.b_followed
 have C_rests:=Cal.of ih T.m_rests T.F_rests.kp T.b_rests
 refine T.F_rests_of_many.okM (k:=L) CB rfl fun cdv A outer s H E hr=> ?_
 unfold b_rests_of_many
 conv=>arg 2;whnf
 refine' A3 (RK (BU HW DY (A0 (A7 0 q88)) (C0 A4) C6) (aY ?_ (IE (C9 (C7 (i:=3) CB.nd ?_ (Or.inl zX.lk) ?_)) (IE (C9 (C7 (i:=4) CB.nd ?_ (Or.inl q86.lk) ?_)) (IE (C9 (C7 (i:=5) CB.nd ?_ (Or.inl yL.lk) ?_)) XJ ?_) ?_) ?_) ?_ ?_) ?_ ?_ ?_) (A3 (B0 (AI (AS (B6 hr)) B8 (A0 (A7 5 yL)) A4 ?_) (A6 (AE (GW EK))) AF) (A3 (AK (i:=6) CB.nd ?_ (Or.inl q82.lk) (m7 (AI (AS (B6 hr)) B8 (A0 (A7 5 yL)) A4 ?_) (JD q85 T.c_EMPTY T.r_EMPTY) (B9 (O0 AD (A0 (A7 3 zX)) (C8 (ZO rfl) qG q87 T.z_max PyProof.Rows.boot_max (BD (AO FL FM ((A0 (A7 4 q86))) A4) A4 ?_ ?_) ?_ ?_) (AO FL FM ((A0 (A7 5 yL))) A4) ?_ ?_ ?_ ?_))) ?_ ?_) (A6 (AE (A9 C_followed ?_ q83 (BD (A9 C_rests ?_ q81 (C2 (A0 (A7 3 zX)) (A0 (A7 1 q79)) (A0 (A7 2 q80)) ?_ ?_ ?_) ?_ ?_) (A0 (A7 6 q82)) ?_ ?_) ?_ ?_)))))
 all_goals (try walk_at "late")
theorem fG (T:Txt P w K mg t) (n:Nat):FnOk P w K mg base FY (2*n+25) t.f_rests t.d_rests ["way","kind","turn"] (GG K (m_rests n)):=by
 induction n with
 |zero=>exact FnOk.empty
 |succ n ih=>
  have C_rests_of_many:=Cal.of (M9 (P:=P) (w:=w) (base:=base) T (2*n+25) (by omega) (m_rests n) ih) T.m_rests_of_many T.F_rests_of_many.kp T.b_rests_of_many
  have C_unlike:=Cal.of (PH (P:=P) (w:=w) (base:=base) T) T.m_unlike T.F_unlike.kp T.b_unlike
  have C_followed:=Cal.of (ME (P:=P) (w:=w) (base:=base) T) T.m_followed T.F_followed.kp T.b_followed
  have C_is_step_of:=Cal.of (JI (P:=P) (w:=w) (base:=base) T) T.m_is_step_of T.F_is_step_of.kp T.b_is_step_of
  have C_least_steps:=Cal.of (IB (P:=P) (w:=w) (base:=base) T 24) T.m_least_steps T.F_least_steps.kp T.b_least_steps
  have C_rests:=Cal.of ih T.m_rests T.F_rests.kp T.b_rests
  refine FnOk.mono (j:=2*n+26+1) (T.F_rests.okM (k:=2*n+26) KZ rfl fun cdv A outer s H E hr=> ?_) (by omega)
  unfold b_rests
  conv=>arg 2;whnf
  refine' A3 (AK (i:=3) KZ.nd ?_ (Or.inl t5.lk) (AM (AX (AC hr)) AL (A0 (A7 0 eN)) A4 ?_) ?_ ?_) (A3 (B0 (AI (AS (B6 hr)) B8 (A0 (A7 3 t5)) AD ?_) (A6 (AE (m7 (KA (A9 C_is_step_of ?_ q76 (C2 (A0 (A7 0 eN)) (A0 (A7 1 o2)) (A0 (A7 2 pS)) ?_ ?_ ?_) ?_ ?_) ?_) (GW (BA (JD q77 T.c_EMPTY T.r_EMPTY) ?_)) (GW EK)))) AF) (A3 (B0 (AI (AS (B6 hr)) B8 (A0 (A7 3 t5)) AD ?_) (A6 (AE (GW EK))) AF) (A3 (B0 (AI (AS (B6 hr)) B8 (A0 (A7 3 t5)) AD ?_) (A6 (AE (A9 C_unlike ?_ q74 (BA (AO AQ AZ (A9 C_rests ?_ tY (C2 (AM (AX (AC hr)) AL (A0 (A7 0 eN)) A4 ?_) (A0 (A7 1 o2)) (A0 (A7 2 pS)) ?_ ?_ ?_) ?_ ?_) (A9 C_rests ?_ tY (C2 (AM (AX (AC hr)) AL (A0 (A7 0 eN)) A4 ?_) (A0 (A7 1 o2)) (A0 (A7 2 pS)) ?_ ?_ ?_) ?_ ?_)) ?_) ?_ ?_))) AF) (A3 (B0 (AI (AS (B6 hr)) B8 (A0 (A7 3 t5)) AD ?_) (A3 (AK (i:=4) KZ.nd ?_ (Or.inl yO.lk) (A9 C_followed ?_ q72 (BD (A9 C_rests ?_ tY (C2 (AM (AX (AC hr)) AL (A0 (A7 0 eN)) A4 ?_) (A0 (A7 1 o2)) (A0 (A7 2 pS)) ?_ ?_ ?_) ?_ ?_) (AM (AX (AC hr)) AL (A0 (A7 0 eN)) A4 ?_) ?_ ?_) ?_ ?_) ?_ ?_) (A3 (B0 (AI (AS (B6 hr)) B8 (A9 C_least_steps ?_ q75 (BA (AM (AX (AC hr)) AL (A0 (A7 0 eN)) A4 ?_) ?_) ?_ ?_) A4 ?_) (A6 (AK (i:=4) KZ.nd ?_ (Or.inl yO.lk) (AO AQ AZ (A0 (A7 4 yO)) (A9 C_rests ?_ tY (C2 (AM (AX (AC hr)) AL (A0 (A7 0 eN)) A4 ?_) (A0 (A7 1 o2)) (A0 (A7 2 pS)) ?_ ?_ ?_) ?_ ?_)) ?_ ?_)) AF) (A6 (AE (A9 C_unlike ?_ q74 (BA (A0 (A7 4 yO)) ?_) ?_ ?_))))) AF) (A3 (B0 (AI (AS (B6 hr)) B8 (A0 (A7 3 t5)) AD ?_) (A6 (AE (A9 C_followed ?_ q72 (BD (A9 C_rests ?_ tY (C2 (AM (AX (AC hr)) AL (A0 (A7 0 eN)) A4 ?_) (A0 (A7 1 o2)) (A0 (A7 2 pS)) ?_ ?_ ?_) ?_ ?_) (A0 (A7 0 eN)) ?_ ?_) ?_ ?_))) AF) (A6 (AE (A9 C_rests_of_many ?_ q69 (C2 (A0 (A7 0 eN)) (A0 (A7 1 o2)) (A0 (A7 2 pS)) ?_ ?_ ?_) ?_ ?_))))))))
  all_goals (try walk_at "late")
theorem lM (T:Txt P w K mg t):FnOk P w K mg base FY 1 t.fLhand t.dLhand ["_law_script","_law_k"] (GG K mLhand):=by
 refine T.FLhand.okM (k:=0) J5 rfl fun cdv A outer s H E hr=> ?_
 unfold bLhand
 conv=>arg 2;whnf
 refine' A3 (AK (i:=2) J5.nd ?_ (Or.inl u3.lk) A4 ?_ ?_) (A3 (B0 (AI GU LC (A0 (A7 1 pY)) (C8 BL CM zM T.z_len PySem.boot_len (BA (A0 (A7 0 pH)) ?_) ?_ ?_) ?_) (A6 (AK (i:=2) J5.nd ?_ (Or.inl u3.lk) (AM (AX (AC hr)) AL (A0 (A7 0 pH)) (A0 (A7 1 pY)) ?_) ?_ ?_)) AF) (A3 (AK (i:=3) J5.nd ?_ (Or.inl lC.lk) A4 ?_ ?_) (A3 (EN ?_ ?_ (D5 (BU HW DY (A0 (A7 0 pH)) C6 (C0 A4))) (C9 (C7 (i:=4) J5.nd ?_ (Or.inl uH.lk) ?_)) (A6 (AK (i:=3) J5.nd ?_ (Or.inl lC.lk) (AO IT IH (AO AQ AZ (AO E8 GC A4 ((A0 (A7 3 lC)))) (A0 (A7 4 uH))) A4) ?_ ?_)) ?_) (A6 (AE (GW (C2 (AO E8 GC (C8 U3 eQ q99 T.z_abs PyProof.Rows.Boot.abs (BA (A0 (A7 2 u3)) ?_) ?_ ?_) (HK YF p0 A0C T.z_int ?_ (BA (DI W5 cW (C8 U3 eQ q99 T.z_abs PyProof.Rows.Boot.abs (BA (A0 (A7 2 u3)) ?_) ?_ ?_) (AO nT nK A4 A4) ?_) ?_) ?_ ?_)) (AO AQ AZ (AO AQ AZ (AO IT IH (AO AQ AZ (A0 (A7 2 u3)) (A0 (A7 3 lC))) A4) (AO E8 GC A4 ((A0 (A7 1 pY))))) A4) A4 ?_ ?_ ?_)))))))
 all_goals (try walk_at "late")
theorem J9 (T:Txt P w K mg t):FnOk P w K mg base FY 1 t.fLtake t.dLtake ["_law_hand_here","_law_many"] (GG K mLtake):=by
 refine T.FLtake.okM (k:=0) LB rfl fun cdv A outer s H E hr=> ?_
 unfold bLtake
 conv=>arg 2;whnf
 refine' A3 (B0 (AI R1 X3 (AM (AX (AC hr)) AL (A0 (A7 0 T9)) A4 ?_) A4 ?_) (A3 (AK (i:=2) LB.nd ?_ (Or.inl vR.lk) (AO IT IH (AM (AX (AC hr)) AL (A0 (A7 0 T9)) A4 ?_) (A0 (A7 1 sV))) ?_ ?_) (A3 (RK (AO RJ VL (AM (AX (AC hr)) AL (A0 (A7 0 T9)) A4 ?_) (A0 (A7 1 sV))) (WE (A0 (A7 0 T9)) A4 ?_) ?_ ?_ ?_) (A6 (AE ((A0 (A7 2 vR))))))) AF) (A3 (RK (AO AQ AZ (AM (AX (AC hr)) AL (A0 (A7 0 T9)) A4 ?_) A4) (WE (A0 (A7 0 T9)) A4 ?_) ?_ ?_ ?_) (A3 (AK (i:=3) LB.nd ?_ (Or.inl g6.lk) (AM (AX (AC hr)) AL (A0 (A7 0 T9)) A4 ?_) ?_ ?_) (A3 (AK (i:=4) LB.nd ?_ (Or.inl ZC.lk) (AO IT IH (AO E8 GC (AM (AX (AC hr)) AL (A0 (A7 0 T9)) A4 ?_) (AO AQ AZ (AO AQ AZ A4 (AO E8 GC (AO E8 GC A4 ((A0 (A7 3 g6)))) (A0 (A7 3 g6)))) (AO E8 GC A4 ((A0 (A7 3 g6)))))) A4) ?_ ?_) (A3 (AK (i:=4) LB.nd ?_ (Or.inl ZC.lk) (AO IT IH (AO E8 GC (A0 (A7 4 ZC)) (AO AQ AZ (AO AQ AZ (AO IT IH ((A0 (A7 4 ZC))) A4) (AO E8 GC ((A0 (A7 3 g6))) A4)) A4)) A4) ?_ ?_) (A6 (AE (AO IT IH (AO AQ AZ (AO RJ VL ((A0 (A7 4 ZC))) A4) (AO RJ VL ((A0 (A7 4 ZC))) A4)) (A0 (A7 1 sV)))))))))
 all_goals (try walk_at "late")
theorem dO (T:Txt P w K mg t):FnOk P w K mg base FY 2 t.fLkinds t.dLkinds ["_law_hand_here"] (GG K mLkinds):=by
 have CLtake:=Cal.of (J9 (P:=P) (w:=w) (base:=base) T) T.mLtake T.FLtake.kp T.bLtake
 refine T.FLkinds.okM (k:=1) IS rfl fun cdv A outer s H E hr=> ?_
 unfold bLkinds
 conv=>arg 2;whnf
 refine' A3 (AK (i:=1) IS.nd ?_ (Or.inl pQ.lk) (DN (mF AD AD AD AD (O0 AD AD AD AD ?_ ?_ ?_ ?_) ?_ ?_ ?_ ?_)) ?_ ?_) (A3 (AK (i:=2) IS.nd ?_ (Or.inl r8.lk) (A9 CLtake ?_ gZ (BD (A0 (A7 0 kS)) A4 ?_ ?_) ?_ ?_) ?_ ?_) (A3 (AK (i:=3) IS.nd ?_ (Or.inl p9.lk) (AO AQ AZ A4 (A9 CLtake ?_ gZ (BD (A0 (A7 0 kS)) A4 ?_ ?_) ?_ ?_)) ?_ ?_) (A3 (B0 (AI (AS (B6 hr)) B8 (A9 CLtake ?_ gZ (BD (A0 (A7 0 kS)) A4 ?_ ?_) ?_ ?_) A4 ?_) (A6 (AK (i:=3) IS.nd ?_ (Or.inl p9.lk) (AO AQ AZ A4 (A9 CLtake ?_ gZ (BD (A0 (A7 0 kS)) A4 ?_ ?_) ?_ ?_)) ?_ ?_)) AF) (A6 (AE (BU HW DY (AO AQ AZ (BU HW DY (A0 (A7 1 pQ)) (C0 ((A0 (A7 2 r8)))) C6) (BU HW DY (A0 (A7 1 pQ)) C6 (C0 ((A0 (A7 2 r8)))))) C6 (C0 ((A0 (A7 3 p9))))))))))
 all_goals (try walk_at "late")
theorem WS (T:Txt P w K mg t):FnOk P w K mg base FY 2 t.fLleaf t.dLleaf ["_law_hand_here","_law_kinds_here"] (GG K mLleaf):=by
 have CLtake:=Cal.of (J9 (P:=P) (w:=w) (base:=base) T) T.mLtake T.FLtake.kp T.bLtake
 refine T.FLleaf.okM (k:=1) N1 rfl fun cdv A outer s H E hr=> ?_
 unfold bLleaf
 conv=>arg 2;whnf
 refine' A3 (AK (i:=2) N1.nd ?_ (Or.inl sG.lk) (A9 CLtake ?_ oH (BD (A0 (A7 0 qF)) A4 ?_ ?_) ?_ ?_) ?_ ?_) (A3 (B0 (AI (AS (B6 hr)) B8 (A0 (A7 2 sG)) A4 ?_) (A6 (AE (B9 (BA AD ?_)))) AF) (A3 (AK (i:=3) N1.nd ?_ (Or.inl sC.lk) (AM (AX (AC hr)) AL (A0 (A7 1 tG)) (A9 CLtake ?_ oH (BD (A0 (A7 0 qF)) (C8 BL CM A0S T.z_len PySem.boot_len (BA (A0 (A7 1 tG)) ?_) ?_ ?_) ?_ ?_) ?_ ?_) ?_) ?_ ?_) (A3 (B0 (AI (AS (B6 hr)) B8 (A0 (A7 2 sG)) A4 ?_) (A6 (AK (i:=3) N1.nd ?_ (Or.inl sC.lk) IL ?_ ?_)) AF) (A6 (AE (B9 (C2 AD (A0 (A7 3 sC)) (AM (AX (AC hr)) AL (B9 (O0 AD AD AD AD ?_ ?_ ?_ ?_)) (A9 CLtake ?_ oH (BD (A0 (A7 0 qF)) A4 ?_ ?_) ?_ ?_) ?_) ?_ ?_ ?_)))))))
 all_goals (try walk_at "late")
theorem sL (T:Txt P w K mg t) (n:Nat):FnOk P w K mg base FY (n+2) t.fLway t.dLway ["_law_hand_here","_law_kinds_here","_law_room","_law_nest"] (GG K (mLway n)):=by
 induction n with
 |zero=>exact FnOk.empty
 |succ n ih=>
  have CLtake:=Cal.of (J9 (P:=P) (w:=w) (base:=base) T) T.mLtake T.FLtake.kp T.bLtake
  have CLleaf:=Cal.of (WS (P:=P) (w:=w) (base:=base) T) T.mLleaf T.FLleaf.kp T.bLleaf
  have CLway:=Cal.of ih T.mLway T.FLway.kp T.bLway
  refine FnOk.mono (j:=n+2+1) (T.FLway.okM (k:=n+2) LJ rfl fun cdv A outer s H E hr=> ?_) (by omega)
  unfold bLway
  conv=>arg 2;whnf
  refine' A3 (AK (i:=4) LJ.nd ?_ (Or.inl cJ.lk) (A9 CLtake ?_ dI (BD (A0 (A7 0 OV)) A4 ?_ ?_) ?_ ?_) ?_ ?_) (A3 (B0 (PW.pt (OB (AI GU LC (A0 (A7 2 US)) A4 ?_) (OB (AI GU LC (A0 (A7 4 cJ)) A4 ?_) (OD (PW.pt (LT (AI GU LC (A0 (A7 2 US)) A4 ?_) (JE (AI (AS (B6 hr)) B8 (A0 (A7 3 W9)) A4 ?_)))))))) (A6 (AE (A9 CLleaf ?_ A01 (BD (A0 (A7 0 OV)) (A0 (A7 1 fT)) ?_ ?_) ?_ ?_))) AF) (A3 (B0 (PW.pt (LT (PW.pt (OB (AI GU LC (A0 (A7 4 cJ)) A4 ?_) (OD (AI GU LC (A0 (A7 2 US)) A4 ?_)))) (JE (AI R1 X3 (A0 (A7 3 W9)) A4 ?_)))) (A6 (AE (B9 (BD AD (A9 CLway ?_ iB (O0 (A0 (A7 0 OV)) (A0 (A7 1 fT)) (AO FL FM ((A0 (A7 2 US))) A4) (AO FL FM ((A0 (A7 3 W9))) A4) ?_ ?_ ?_ ?_) ?_ ?_) ?_ ?_)))) AF) (A3 (B0 (PW.pt (LT (AI (AS (B6 hr)) B8 (A0 (A7 4 cJ)) A4 ?_) (JE (AI R1 X3 (A0 (A7 3 W9)) A4 ?_)))) (A3 (AK (i:=5) LJ.nd ?_ (Or.inl oU.lk) (A9 CLtake ?_ dI (BD (A0 (A7 0 OV)) A4 ?_ ?_) ?_ ?_) ?_ ?_) (A3 (AK (i:=6) LJ.nd ?_ (Or.inl u8.lk) (AO AQ AZ (A0 (A7 5 oU)) (A9 CLtake ?_ dI (BD (A0 (A7 0 OV)) (AM (AX (AC hr)) AL (B9 (C2 A4 A4 A4 ?_ ?_ ?_)) (A9 CLtake ?_ dI (BD (A0 (A7 0 OV)) A4 ?_ ?_) ?_ ?_) ?_) ?_ ?_) ?_ ?_)) ?_ ?_) (A6 (AE (B9 (O0 AD (A9 CLway ?_ iB (O0 (A0 (A7 0 OV)) (A0 (A7 1 fT)) (AO FL FM ((A0 (A7 2 US))) A4) (AO FL FM ((A0 (A7 3 W9))) A4) ?_ ?_ ?_ ?_) ?_ ?_) (A0 (A7 5 oU)) (A0 (A7 6 u8)) ?_ ?_ ?_ ?_)))))) AF) (A3 (AK (i:=7) LJ.nd ?_ (Or.inl rK.lk) (AO AQ AZ A4 (A9 CLtake ?_ dI (BD (A0 (A7 0 OV)) (AO FL FM ((A0 (A7 2 US))) A4) ?_ ?_) ?_ ?_)) ?_ ?_) (A3 (AK (i:=8) LJ.nd ?_ (Or.inl y0.lk) (A9 CLway ?_ iB (O0 (A0 (A7 0 OV)) (A0 (A7 1 fT)) (A0 (A7 7 rK)) (A0 (A7 3 W9)) ?_ ?_ ?_ ?_) ?_ ?_) ?_ ?_) (A6 (AE (B9 (C2 (AM (AX (AC hr)) AL (B9 (BD AD AD ?_ ?_)) (AO IT IH ((A0 (A7 4 cJ))) A4) ?_) (A0 (A7 8 y0)) (A9 CLway ?_ iB (O0 (A0 (A7 0 OV)) (A0 (A7 1 fT)) (AO FL FM (AO FL FM ((A0 (A7 2 US))) A4) (A0 (A7 7 rK))) (A0 (A7 3 W9)) ?_ ?_ ?_ ?_) ?_ ?_) ?_ ?_ ?_)))))))))
  all_goals (try walk_at "late")
theorem jN (T:Txt P w K mg t):FnOk P w K mg base FY 1 t.fLboth t.dLboth ["_law_one","_law_other"] (GG K mLboth):=by
 refine T.FLboth.okM (k:=0) iW rfl fun cdv A outer s H E hr=> ?_
 unfold bLboth
 conv=>arg 2;whnf
 refine' A6 ?_
 apply AE ?_
 refine' dB ?_ A02 T.z_sorted z9 T.z_set (AO AQ AZ (A0 (A7 0 A1G)) (A0 (A7 1 A0Z))) ?_
 all_goals (try walk_at "late")
theorem wK (T:Txt P w K mg t):FnOk P w K mg base FY 1 t.fLof t.dLof ["_law_way_here","_law_step"] (GG K mLof):=by
 refine T.FLof.okM (k:=0) uZ rfl fun cdv A outer s H E hr=> ?_
 unfold bLof
 conv=>arg 2;whnf
 refine' A6 ?_
 apply AE ?_
 refine' E7 (DI (HJ (AC hr)) LD (AM (AX (AC hr)) AL (A0 (A7 0 xE)) A4 ?_) (B9 (BD IL (AM (AX (AC hr)) AL (A0 (A7 1 wB)) A4 ?_) ?_ ?_)) ?_) (GZ (DI (HJ (AC hr)) LD (AM (AX (AC hr)) AL (A0 (A7 0 xE)) A4 ?_) (B9 (BD AD (AM (AX (AC hr)) AL (A0 (A7 1 wB)) A4 ?_) ?_ ?_)) ?_))
 all_goals (try walk_at "late")
theorem kI (T:Txt P w K mg t) (n:Nat):FnOk P w K mg base FY (n+1) t.fLends t.dLends ["_law_way_here","_law_row","_law_begins"] (GG K (mLends n)):=by
 induction n with
 |zero=>exact FnOk.empty
 |succ n ih=>
  have CLboth:=Cal.of (jN (P:=P) (w:=w) (base:=base) T) T.mLboth T.FLboth.kp T.bLboth
  have CLof:=Cal.of (wK (P:=P) (w:=w) (base:=base) T) T.mLof T.FLof.kp T.bLof
  have CLends:=Cal.of ih T.mLends T.FLends.kp T.bLends
  refine FnOk.mono (j:=n+1+1) (T.FLends.okM (k:=n+1) EW rfl fun cdv A outer s H E hr=> ?_) (by omega)
  unfold bLends
  conv=>arg 2;whnf
  refine' A3 (AK (i:=3) EW.nd ?_ (Or.inl YT.lk) (AM (AX (AC hr)) AL (A0 (A7 0 RD)) A4 ?_) ?_ ?_) (A3 (B0 (AI (AS (B6 hr)) B8 (A0 (A7 3 YT)) AD ?_) (A6 (AE ((A0 (A7 2 Z0))))) AF) (A3 (B0 (AI (AS (B6 hr)) B8 (A0 (A7 3 YT)) AD ?_) (A6 (AE (A9 CLends ?_ YK (C2 (AM (AX (AC hr)) AL (A0 (A7 0 RD)) A4 ?_) (A0 (A7 1 YN)) (A9 CLends ?_ YK (C2 (AM (AX (AC hr)) AL (A0 (A7 0 RD)) A4 ?_) (A0 (A7 1 YN)) (A0 (A7 2 Z0)) ?_ ?_ ?_) ?_ ?_) ?_ ?_ ?_) ?_ ?_))) AF) (A3 (B0 (AI (AS (B6 hr)) B8 (A0 (A7 3 YT)) AD ?_) (A6 (AE (A9 CLboth ?_ qD (BD (A9 CLends ?_ YK (C2 (AM (AX (AC hr)) AL (A0 (A7 0 RD)) A4 ?_) (A0 (A7 1 YN)) (A0 (A7 2 Z0)) ?_ ?_ ?_) ?_ ?_) (A9 CLends ?_ YK (C2 (AM (AX (AC hr)) AL (A0 (A7 0 RD)) A4 ?_) (A0 (A7 1 YN)) (A0 (A7 2 Z0)) ?_ ?_ ?_) ?_ ?_) ?_ ?_) ?_ ?_))) AF) (A3 (B0 (AI (AS (B6 hr)) B8 (A0 (A7 3 YT)) AD ?_) (A6 (AE (DO (N':=["_law_k","_law_way_here","_law_row"]) (ix:=[none,some 0,some 1]) ⟨rfl,by decide+kernel,by decide+kernel,C4 _ _ rfl,rfl,DE _ _ _ _ rfl⟩ ?_ (D7 ?_) (D5 ((A0 (A7 2 Z0)))) (fun _ _ _ _=>(aR (i:=0) (by walk_at "n") (show List.Nodup (["_law_k","_law_way_here","_law_row"]:List Str) from by decide+kernel) (by rfl))) (fun _ _ _ _=>L9 (PW.pt (LT (AI GU LC (A0 (A7 0 (NmOk.own (by walk_at "n")))) (C8 BL CM (NmOk.glob (by walk_at "n")) T.z_len PySem.boot_len (BA (A0 (aN 2 (by walk_at "n"))) ?_) ?_ ?_) ?_) (JE (KA (A9 CLof ?_ (NmOk.glob (by walk_at "n")) (BD (A0 (aN 1 (by walk_at "n"))) (AM (AX (AC hr)) AL (A0 (aN 2 (by walk_at "n"))) (A0 (A7 0 (NmOk.own (by walk_at "n")))) ?_) ?_ ?_) ?_ ?_) ?_))))) (fun _ _ _ _=>AO AQ AZ ((A0 (A7 0 (NmOk.own (by walk_at "n"))))) A4) ?_))) AF) (A3 (AK (i:=4) EW.nd ?_ (Or.inr VU.lk) (DN EK) ?_ ?_) (A3 (AK (i:=5) EW.nd ?_ (Or.inl UG.lk) (A0 (A7 2 Z0)) ?_ ?_) (A3 (B0 (AI (AS (B6 hr)) B8 (A0 (A7 3 YT)) AD ?_) (A3 (NR _ ?_ (AI (NO (AC hr)) UF (DO (N':=["_law_k","_law_found"]) (ix:=[none,some 4]) ⟨rfl,by decide+kernel,by decide+kernel,C4 _ _ rfl,rfl,DE _ _ _ _ rfl⟩ ?_ (D7 ?_) (D5 ((A0 (A7 5 UG)))) (fun _ _ _ _=>(aR (i:=0) (by walk_at "n") (show List.Nodup (["_law_k","_law_found"]:List Str) from by decide+kernel) (by rfl))) (fun _ _ _ _=>L9 (AI (JA (AC hr)) L3 (A0 (A7 0 (NmOk.own (by walk_at "n")))) (A0 (aN 1 (by walk_at "n"))) ?_)) (fun _ _ _ _=>(A0 (A7 0 (NmOk.own (by walk_at "n"))))) ?_) (DN EK) ?_) (A3 (AK (i:=4) EW.nd ?_ (Or.inr VU.lk) (A9 CLboth ?_ qD (BD (A0 (A7 4 VU)) (A0 (A7 5 UG)) ?_ ?_) ?_ ?_) ?_ ?_) (A6 (AK (i:=5) EW.nd ?_ (Or.inl UG.lk) (A9 CLends ?_ YK (C2 (AM (AX (AC hr)) AL (A0 (A7 0 RD)) A4 ?_) (A0 (A7 1 YN)) (A0 (A7 5 UG)) ?_ ?_ ?_) ?_ ?_) ?_ ?_)))) (A6 (AE ((A0 (A7 4 VU)))))) AF) (A3 (EN ?_ ?_ (GJ A0H.lk T.z_range (BA (AO AQ AZ (AM (AX (AC hr)) AL (A0 (A7 0 RD)) A4 ?_) A4) ?_) ?_) (C9 (C7 (i:=6) EW.nd ?_ (Or.inl vQ.lk) ?_)) (A3 (B0 (AI W5 cW (A0 (A7 6 vQ)) (AM (AX (AC hr)) AL (A0 (A7 0 RD)) A4 ?_) ?_) (A6 (AK (i:=4) EW.nd ?_ (Or.inr VU.lk) (A9 CLboth ?_ qD (BD (A0 (A7 4 VU)) (A0 (A7 5 UG)) ?_ ?_) ?_ ?_) ?_ ?_)) AF) (A6 (AK (i:=5) EW.nd ?_ (Or.inl UG.lk) (A9 CLends ?_ YK (C2 (AM (AX (AC hr)) AL (A0 (A7 0 RD)) A4 ?_) (A0 (A7 1 YN)) (A0 (A7 5 UG)) ?_ ?_ ?_) ?_ ?_) ?_ ?_))) ?_) (A6 (AE ((A0 (A7 4 VU)))))))))))))
  all_goals (try walk_at "late")
theorem bF (T:Txt P w K mg t):FnOk P w K mg base FY 14 t.fLtells t.dLtells ["_law_way_here","_law_row"] (GG K mLtells):=by
 have CLends:=Cal.of (kI (P:=P) (w:=w) (base:=base) T 12) T.mLends T.FLends.kp T.bLends
 refine T.FLtells.okM (k:=13) gR rfl fun cdv A outer s H E hr=> ?_
 unfold bLtells
 conv=>arg 2;whnf
 refine' A6 ?_
 apply AE ?_
 refine' DI (HJ (AC hr)) LD (C8 BL CM zW T.z_len PySem.boot_len (BA (A0 (A7 1 uC)) ?_) ?_ ?_) (A9 CLends ?_ A17 (C2 (A0 (A7 0 A11)) (A0 (A7 1 uC)) (DN (BA A4 ?_)) ?_ ?_ ?_) ?_ ?_) ?_
 all_goals (try walk_at "late")
theorem aK (T:Txt P w K mg t) (n:Nat):FnOk P w K mg base FY (n+1) t.fLrow_of t.dLrow_of ["_law_hand_here","_law_way_here","_law_kinds_here"] (GG K (mLrow_of n)):=by
 induction n with
 |zero=>exact FnOk.empty
 |succ n ih=>
  have CLtake:=Cal.of (J9 (P:=P) (w:=w) (base:=base) T) T.mLtake T.FLtake.kp T.bLtake
  have CLrow_of:=Cal.of ih T.mLrow_of T.FLrow_of.kp T.bLrow_of
  refine FnOk.mono (j:=n+1+1) (T.FLrow_of.okM (k:=n+1) CD rfl fun cdv A outer s H E hr=> ?_) (by omega)
  unfold bLrow_of
  conv=>arg 2;whnf
  refine' A3 (AK (i:=3) CD.nd ?_ (Or.inl Z3.lk) (AM (AX (AC hr)) AL (A0 (A7 1 OQ)) A4 ?_) ?_ ?_) (A3 (B0 (AI (AS (B6 hr)) B8 (A0 (A7 3 Z3)) AD ?_) (A3 (qX (i:=4) (j:=5) ?_ CD.nd ?_ ?_ ?_ kB.lk fC.lk (BD (AM (AX (AC hr)) AL (A0 (A7 1 OQ)) A4 ?_) (AM (AX (AC hr)) AL (A0 (A7 1 OQ)) A4 ?_) ?_ ?_) ?_ ?_) (A3 (B0 (AI W2 dF (A0 (A7 4 kB)) IL ?_) (A6 (AK (i:=4) CD.nd ?_ (Or.inl kB.lk) (AM (AX (AC hr)) AL (AO AQ AZ (A0 (A7 2 aA)) (DN (BA AD ?_))) (A9 CLtake ?_ cZ (BD (A0 (A7 0 QZ)) (AO AQ AZ (C8 BL CM A12 T.z_len PySem.boot_len (BA (A0 (A7 2 aA)) ?_) ?_ ?_) A4) ?_ ?_) ?_ ?_) ?_) ?_ ?_)) AF) (A3 (B0 (AI (AS (B6 hr)) B8 (A0 (A7 5 fC)) AD ?_) (A6 (AK (i:=5) CD.nd ?_ (Or.inl fC.lk) (AM (AX (AC hr)) AL (B9 (BD AD AD ?_ ?_)) (A9 CLtake ?_ cZ (BD (A0 (A7 0 QZ)) A4 ?_ ?_) ?_ ?_) ?_) ?_ ?_)) AF) (A6 (AE (B9 (BA (B9 (BD (A0 (A7 4 kB)) (A0 (A7 5 fC)) ?_ ?_)) ?_))))))) AF) (A3 (B0 (AI (AS (B6 hr)) B8 (A0 (A7 3 Z3)) AD ?_) (A6 (AE (AO AQ AZ (A9 CLrow_of ?_ iU (C2 (A0 (A7 0 QZ)) (AM (AX (AC hr)) AL (A0 (A7 1 OQ)) A4 ?_) (A0 (A7 2 aA)) ?_ ?_ ?_) ?_ ?_) (A9 CLrow_of ?_ iU (C2 (A0 (A7 0 QZ)) (AM (AX (AC hr)) AL (A0 (A7 1 OQ)) A4 ?_) (A0 (A7 2 aA)) ?_ ?_ ?_) ?_ ?_)))) AF) (A3 (B0 (AI (AS (B6 hr)) B8 (A0 (A7 3 Z3)) AD ?_) (A6 (AE (A9 CLrow_of ?_ iU (C2 (A0 (A7 0 QZ)) (AM (AX (AC hr)) AL (A0 (A7 1 OQ)) (AO AQ AZ A4 (A9 CLtake ?_ cZ (BD (A0 (A7 0 QZ)) A4 ?_ ?_) ?_ ?_)) ?_) (A0 (A7 2 aA)) ?_ ?_ ?_) ?_ ?_))) AF) (A3 (AK (i:=6) CD.nd ?_ (Or.inl kR.lk) A4 ?_ ?_) (A3 (B0 (AI (AS (B6 hr)) B8 (A0 (A7 3 Z3)) AD ?_) (A6 (AK (i:=6) CD.nd ?_ (Or.inl kR.lk) (A9 CLtake ?_ cZ (BD (A0 (A7 0 QZ)) A4 ?_ ?_) ?_ ?_) ?_ ?_)) AF) (A3 (B0 (AI (AS (B6 hr)) B8 (A0 (A7 3 Z3)) AD ?_) (A6 (AK (i:=6) CD.nd ?_ (Or.inl kR.lk) (AO AQ AZ (AM (AX (AC hr)) AL (A0 (A7 1 OQ)) A4 ?_) (A9 CLtake ?_ cZ (BD (A0 (A7 0 QZ)) (AO AQ AZ (AO FL FM (AM (AX (AC hr)) AL (A0 (A7 1 OQ)) A4 ?_) (AM (AX (AC hr)) AL (A0 (A7 1 OQ)) A4 ?_)) A4) ?_ ?_) ?_ ?_)) ?_ ?_)) AF) (A3 (AK (i:=7) CD.nd ?_ (Or.inl lW.lk) (B9 EK) ?_ ?_) (A3 (EN ?_ ?_ (GJ zB.lk T.z_range (BA (A0 (A7 6 kR)) ?_) ?_) (C9 (C7 (i:=5) CD.nd ?_ (Or.inl fC.lk) ?_)) (A6 (AK (i:=7) CD.nd ?_ (Or.inl lW.lk) (AO AQ AZ (A0 (A7 7 lW)) (A9 CLrow_of ?_ iU (C2 (A0 (A7 0 QZ)) (AM (AX (AC hr)) AL (A0 (A7 1 OQ)) A4 ?_) (A0 (A7 2 aA)) ?_ ?_ ?_) ?_ ?_)) ?_ ?_)) ?_) (A6 (AE ((A0 (A7 7 lW)))))))))))))
  all_goals (try walk_at "late")
theorem UW (T:Txt P w K mg t):FnOk P w K mg base FY 2 t.fLchanged t.dLchanged ["_law_hand_here","_law_row","_law_kinds_here"] (GG K mLchanged):=by
 have CLtake:=Cal.of (J9 (P:=P) (w:=w) (base:=base) T) T.mLtake T.FLtake.kp T.bLtake
 refine T.FLchanged.okM (k:=1) GY rfl fun cdv A outer s H E hr=> ?_
 unfold bLchanged
 conv=>arg 2;whnf
 refine' A3 (AK (i:=3) GY.nd ?_ (Or.inl YW.lk) (A9 CLtake ?_ lX (BD (A0 (A7 0 iA)) A4 ?_ ?_) ?_ ?_) ?_ ?_) (A3 (AK (i:=4) GY.nd ?_ (Or.inl o0.lk) (B9 (BD (AM (AX (AC hr)) AL (AO AQ AZ (A0 (A7 2 uU)) (DN (BA AD ?_))) (A9 CLtake ?_ lX (BD (A0 (A7 0 iA)) (AO AQ AZ (C8 BL CM vY T.z_len PySem.boot_len (BA (A0 (A7 2 uU)) ?_) ?_ ?_) A4) ?_ ?_) ?_ ?_) ?_) (AM (AX (AC hr)) AL (B9 (BD AD AD ?_ ?_)) (A9 CLtake ?_ lX (BD (A0 (A7 0 iA)) A4 ?_ ?_) ?_ ?_) ?_) ?_ ?_)) ?_ ?_) (A3 (AK (i:=5) GY.nd ?_ (Or.inl NL.lk) (A9 CLtake ?_ lX (BD (A0 (A7 0 iA)) (AO AQ AZ (C8 BL CM vY T.z_len PySem.boot_len (BA (A0 (A7 1 ML)) ?_) ?_ ?_) A4) ?_ ?_) ?_ ?_) ?_ ?_) (A3 (B0 (AI (AS (B6 hr)) B8 (A0 (A7 3 YW)) A4 ?_) (A6 (AE ((A0 (A7 1 ML))))) AF) (A3 (B0 (AI (AS (B6 hr)) B8 (A0 (A7 3 YW)) A4 ?_) (A6 (AE (AO AQ AZ (BU HW DY (A0 (A7 1 ML)) C6 (C0 ((A0 (A7 5 NL))))) (BU HW DY (A0 (A7 1 ML)) (C0 (AO AQ AZ ((A0 (A7 5 NL))) A4)) C6)))) AF) (A3 (B0 (AI (AS (B6 hr)) B8 (A0 (A7 3 YW)) A4 ?_) (A6 (AE (AO AQ AZ (AO AQ AZ (BU HW DY (A0 (A7 1 ML)) C6 (C0 ((A0 (A7 5 NL))))) (BU HW DY (A0 (A7 1 ML)) (C0 ((A0 (A7 5 NL)))) (C0 (AO AQ AZ ((A0 (A7 5 NL))) A4)))) (BU HW DY (A0 (A7 1 ML)) (C0 ((A0 (A7 5 NL)))) C6)))) AF) (A3 (B0 (AI (AS (B6 hr)) B8 (A0 (A7 3 YW)) A4 ?_) (A6 (AE (AO AQ AZ (AO AQ AZ (BU HW DY (A0 (A7 1 ML)) C6 (C0 ((A0 (A7 5 NL))))) (B9 (BA (A0 (A7 4 o0)) ?_))) (BU HW DY (A0 (A7 1 ML)) (C0 ((A0 (A7 5 NL)))) C6)))) AF) (A3 (B0 (AI (AS (B6 hr)) B8 (A0 (A7 3 YW)) A4 ?_) (A6 (AE (AO AQ AZ (AO AQ AZ (BU HW DY (A0 (A7 1 ML)) C6 (C0 ((A0 (A7 5 NL))))) (B9 (BA (A0 (A7 4 o0)) ?_))) (BU HW DY (A0 (A7 1 ML)) (C0 (AO AQ AZ ((A0 (A7 5 NL))) A4)) C6)))) AF) (A6 (AE (a9 ?_ A0A T.z_tuple zI T.z_reversed (A0 (A7 1 ML)) ?_))))))))))
 all_goals (try walk_at "late")
theorem jM (T:Txt P w K mg t):FnOk P w K mg base FY 1 t.fLback t.dLback ["_law_row"] (GG K mLback):=by
 refine T.FLback.okM (k:=0) jX rfl fun cdv A outer s H E hr=> ?_
 unfold bLback
 conv=>arg 2;whnf
 refine' A6 ?_
 apply AE ?_
 refine' HK JO T7 A18 T.z_tuple ?_ (BA (DO (N':=["_law_kind","_law_turn"]) (ix:=[none,none]) ⟨rfl,by decide+kernel,by decide+kernel,C4 _ _ rfl,rfl,DE _ _ _ _ rfl⟩ ?_ (id (oA (TB (D7 rfl) (TB (D7 rfl) jR)))) (rO ?_ zO T.z_reversed (A0 (A7 0 A15)) ?_) (fun _ _ _ _=>bD ?_ (OJ (aR (i:=0) (by walk_at "n") (show List.Nodup (["_law_kind","_law_turn"]:List Str) from by decide+kernel) (by rfl)) (OJ (aR (i:=1) (by walk_at "n") (show List.Nodup (["_law_kind","_law_turn"]:List Str) from by decide+kernel) (by rfl)) XF ?_) ?_) ?_ ?_) (fun _ _ _ _=>HQ) (fun _ _ _ _=>B9 (BD (A0 (A7 0 (NmOk.own (by walk_at "n")))) (AM (AX (AC hr)) AL (nL (S4 AD AD (S4 AD AD eW)) ?_ ?_ ?_ ?_) (A0 (A7 1 (NmOk.own (by walk_at "n")))) ?_) ?_ ?_)) ?_) ?_) ?_ ?_
 all_goals (try walk_at "late")
theorem QW (T:Txt P w K mg t):FnOk P w K mg base FY 74 t.fLall_rests t.dLall_rests ["_law_way_here","_law_kinds_here"] (GG K mLall_rests):=by
 have C_rests:=Cal.of (fG (P:=P) (w:=w) (base:=base) T 24) T.m_rests T.F_rests.kp T.b_rests
 have C_is_way:=Cal.of (Z9 (P:=P) (w:=w) (base:=base) T 24) T.m_is_way T.F_is_way.kp T.b_is_way
 refine T.FLall_rests.okM (k:=73) BZ rfl fun cdv A outer s H E hr=> ?_
 unfold bLall_rests
 conv=>arg 2;whnf
 refine' A3 (AK (i:=2) BZ.nd ?_ (Or.inl rV.lk) SJ ?_ ?_) (A3 (AK (i:=3) BZ.nd ?_ (Or.inl iZ.lk) (GW (BA (A0 (A7 0 xU)) ?_)) ?_ ?_) (A3 (AK (i:=4) BZ.nd ?_ (Or.inl l3.lk) (jL (S4 (HK (EZ hr.gd (AC hr)) J8 hX T.z_str ?_ (BA (A0 (A7 0 xU)) ?_) ?_ ?_) MF eW) ?_ ?_ ?_ ?_) ?_ ?_) (A3 (NR _ ?_ (AI (NO (AC hr)) UF (A0 (A7 3 iZ)) (DN EK) ?_) (A3 (AK (i:=5) BZ.nd ?_ (Or.inl rC.lk) (qW PySem.F.plainAttrs_list PySem.F.slot_list_pop PySem.F.type_list_pop nM (fun _ _ _ _ _=>WI) j9 (A0 (A7 3 iZ)) ?_ ?_) ?_ ?_) (A3 (EN ?_ ?_ (D5 (AO AQ AZ (A0 (A7 1 A1J)) (DN (BA AD ?_)))) (C9 (C7 (i:=6) BZ.nd ?_ (Or.inl qV.lk) ?_)) (A6 (EN ?_ ?_ (S2 (B9 (BD AD AD ?_ ?_))) (C9 (C7 (i:=7) BZ.nd ?_ (Or.inl pO.lk) ?_)) (A3 (AK (i:=8) BZ.nd ?_ (Or.inl lO.lk) (A9 C_rests ?_ A0K (C2 (A0 (A7 5 rC)) (A0 (A7 6 qV)) (A0 (A7 7 pO)) ?_ ?_ ?_) ?_ ?_) ?_ ?_) (A3 (B0 (QI (KA (C8 (TK rfl) OG zF T.z_all PyProof.Rows.boot_all (BA (DO (N':=["_law_rest"]) (ix:=[none]) ⟨rfl,by decide+kernel,by decide+kernel,C4 _ _ rfl,rfl,DE _ _ _ _ rfl⟩ ?_ (D7 ?_) (D5 ((A0 (A7 8 lO)))) (fun _ _ _ _=>(aR (i:=0) (by walk_at "n") (show List.Nodup (["_law_rest"]:List Str) from by decide+kernel) (by rfl))) (fun _ _ _ _=>HQ) (fun _ _ _ _=>A9 C_is_way ?_ (NmOk.glob (by walk_at "n")) (BA (A0 (A7 0 (NmOk.own (by walk_at "n")))) ?_) ?_ ?_) ?_) ?_) ?_ ?_) ?_)) (A6 (AE IL)) AF) (A3 (XW (hu1 hr) (A0 (A7 2 rV)) (HK (EZ hr.gd (AC hr)) J8 hX T.z_str ?_ (BA (B9 (C2 (A0 (A7 5 rC)) (A0 (A7 6 qV)) (A0 (A7 7 pO)) ?_ ?_ ?_)) ?_) ?_ ?_) (A0 (A7 8 lO)) ?_) (A6 (EN ?_ ?_ (D5 ((A0 (A7 8 lO)))) (C9 (C7 (i:=9) BZ.nd ?_ (Or.inl k8.lk) ?_)) (A6 (B0 (AI (JA (AC hr)) L3 (HK (EZ hr.gd (AC hr)) J8 hX T.z_str ?_ (BA (A0 (A7 9 k8)) ?_) ?_ ?_) (A0 (A7 4 l3)) ?_) (A3 (XW (hu1 hr) (A0 (A7 4 l3)) (HK (EZ hr.gd (AC hr)) J8 hX T.z_str ?_ (BA (A0 (A7 9 k8)) ?_) ?_ ?_) MF ?_) (A6 (RS (cV PySem.F.plainAttrs_list PySem.F.slot_list_append PySem.F.type_list_append M7 (fun _ _ _ _ _=>WI) Q5 (A0 (A7 3 iZ)) (BA (A0 (A7 9 k8)) ?_) ?_ ?_ ?_ ?_ ?_) ?_))) AF)) ?_))))) ?_)) ?_) (A6 (B0 (AI R1 X3 (C8 BL CM A0B T.z_len PySem.boot_len (BA (A0 (A7 4 l3)) ?_) ?_ ?_) A4 ?_) (A6 (AE IL)) AF))))) (A6 (AE ((A0 (A7 2 rV))))))))
 all_goals (try walk_at "late")
theorem qE (T:Txt P w K mg t):FnOk P w K mg base FY 51 t.fLled t.dLled ["_law_way_here","_law_goings","_law_row"] (GG K mLled):=by
 have C_tells:=Cal.of (SW (P:=P) (w:=w) (base:=base) T) T.m_tells T.F_tells.kp T.b_tells
 refine T.FLled.okM (k:=50) JV rfl fun cdv A outer s H E hr=> ?_
 unfold bLled
 conv=>arg 2;whnf
 refine' A3 (AK (i:=3) JV.nd ?_ (Or.inl hE.lk) (DN (BA (A0 (A7 0 z4)) ?_)) ?_ ?_) (A3 (EN ?_ ?_ (S2 ((A0 (A7 2 zU)))) (aY ?_ (IE (C9 (C7 (i:=4) JV.nd ?_ (Or.inl xW.lk) ?_)) (IE (C9 (C7 (i:=5) JV.nd ?_ (Or.inl tO.lk) ?_)) XJ ?_) ?_) ?_ ?_) (A3 (AK (i:=6) JV.nd ?_ (Or.inl sD.lk) SJ ?_ ?_) (A3 (EN ?_ ?_ (D5 ((A0 (A7 3 hE)))) (C9 (C7 (i:=7) JV.nd ?_ (Or.inl tZ.lk) ?_)) (A6 (RS (cV PySem.F.plainAttrs_dict PySem.F.slot_dict_update PySem.F.type_dict_update (nZ ?_) (fun _ _ _ _ _=>nH) oG (A0 (A7 6 sD)) (BA (DO (N':=["_law_rest"]) (ix:=[none]) ⟨rfl,by decide+kernel,by decide+kernel,C4 _ _ rfl,rfl,DE _ _ _ _ rfl⟩ ?_ (D7 ?_) (D5 (AM (AX (AC hr)) AL (A0 (A7 1 A13)) (HK (EZ hr.gd (AC hr)) J8 A14 T.z_str ?_ (BA (B9 (C2 (A0 (A7 7 tZ)) (A0 (A7 4 xW)) (A0 (A7 5 tO)) ?_ ?_ ?_)) ?_) ?_ ?_) ?_)) (fun _ _ _ _=>(aR (i:=0) (by walk_at "n") (show List.Nodup (["_law_rest"]:List Str) from by decide+kernel) (by rfl))) (fun _ _ _ _=>HQ) (fun _ _ _ _=>B9 (BD (HK (EZ hr.gd (AC hr)) J8 (NmOk.glob (by walk_at "n")) T.z_str ?_ (BA (A0 (A7 0 (NmOk.own (by walk_at "n")))) ?_) ?_ ?_) (A0 (A7 0 (NmOk.own (by walk_at "n")))) ?_ ?_)) ?_) ?_) ?_ ?_ ?_ ?_ ?_) ?_)) ?_) (A6 (AK (i:=3) JV.nd ?_ (Or.inl hE.lk) (U5 ?_ zA T.z_list (A0 (A7 6 sD)) ?_ ?_) ?_ ?_)))) ?_) (A6 (AE (C8 (dJ rfl) pP zY T.z_any PyProof.Rows.boot_any (BA (DO (N':=["_law_one"]) (ix:=[none]) ⟨rfl,by decide+kernel,by decide+kernel,C4 _ _ rfl,rfl,DE _ _ _ _ rfl⟩ ?_ (D7 ?_) (D5 ((A0 (A7 3 hE)))) (fun _ _ _ _=>(aR (i:=0) (by walk_at "n") (show List.Nodup (["_law_one"]:List Str) from by decide+kernel) (by rfl))) (fun _ _ _ _=>HQ) (fun _ _ _ _=>A9 C_tells ?_ (NmOk.glob (by walk_at "n")) (BD (A0 (A7 0 (NmOk.own (by walk_at "n")))) (B9 EK) ?_ ?_) ?_ ?_) ?_) ?_) ?_ ?_))))
 all_goals (try walk_at "late")
theorem RA (T:Txt P w K mg t):FnOk P w K mg base FY 15 t.fLgreat_way t.dLgreat_way ["_law_hand_here","_law_kinds_here"] (GG K mLgreat_way):=by
 have CLtake:=Cal.of (J9 (P:=P) (w:=w) (base:=base) T) T.mLtake T.FLtake.kp T.bLtake
 have CLway:=Cal.of (sL (P:=P) (w:=w) (base:=base) T 12) T.mLway T.FLway.kp T.bLway
 have CLleaf:=Cal.of (WS (P:=P) (w:=w) (base:=base) T) T.mLleaf T.FLleaf.kp T.bLleaf
 refine T.FLgreat_way.okM (k:=14) ES rfl fun cdv A outer s H E hr=> ?_
 unfold bLgreat_way
 conv=>arg 2;whnf
 refine' A3 (AK (i:=2) ES.nd ?_ (Or.inl fY.lk) (kO (DO (N':=["_law_k","_law_hand_here","_law_kinds_here"]) (ix:=[none,some 0,some 1]) ⟨rfl,by decide+kernel,by decide+kernel,C4 _ _ rfl,rfl,DE _ _ _ _ rfl⟩ ?_ (D7 ?_) (GJ A0V.lk T.z_range (BA A4 ?_) ?_) (fun _ _ _ _=>(aR (i:=0) (by walk_at "n") (show List.Nodup (["_law_k","_law_hand_here","_law_kinds_here"]:List Str) from by decide+kernel) (by rfl))) (fun _ _ _ _=>HQ) (fun _ _ _ _=>A9 CLway ?_ (NmOk.glob (by walk_at "n")) (O0 (A0 (aN 1 (by walk_at "n"))) (A0 (aN 2 (by walk_at "n"))) A4 A4 ?_ ?_ ?_ ?_) ?_ ?_) ?_) (DN (BA (A9 CLway ?_ A0F (O0 (A0 (A7 0 UX)) (A0 (A7 1 vX)) A4 A4 ?_ ?_ ?_ ?_) ?_ ?_) ?_))) ?_ ?_) (A3 (B0 (AI (AS (B6 hr)) B8 (A9 CLtake ?_ fF (BD (A0 (A7 0 UX)) A4 ?_ ?_) ?_ ?_) A4 ?_) (A3 (AK (i:=3) ES.nd ?_ (Or.inl i6.lk) (A9 CLtake ?_ fF (BD (A0 (A7 0 UX)) A4 ?_ ?_) ?_ ?_) ?_ ?_) (A6 (RK (B9 (O0 AD (A9 CLleaf ?_ A06 (BD (A0 (A7 0 UX)) (A0 (A7 1 vX)) ?_ ?_) ?_ ?_) (A0 (A7 3 i6)) (AO AQ AZ (A0 (A7 3 i6)) (A9 CLtake ?_ fF (BD (A0 (A7 0 UX)) (AO FL FM A4 ((A0 (A7 3 i6)))) ?_ ?_) ?_ ?_)) ?_ ?_ ?_ ?_)) (WE (A0 (A7 2 fY)) A4 ?_) ?_ ?_ ?_))) AF) (A3 (AK (i:=4) ES.nd ?_ (Or.inl xN.lk) (AM (AX (AC hr)) AL (B9 (BD AD AD ?_ ?_)) (A9 CLtake ?_ fF (BD (A0 (A7 0 UX)) A4 ?_ ?_) ?_ ?_) ?_) ?_ ?_) (A6 (AE (B9 (C2 (A0 (A7 4 xN)) (AM (AX (AC hr)) AL (A0 (A7 2 fY)) A4 ?_) (B9 (C2 (AM (AX (AC hr)) AL (B9 (BD AD AD ?_ ?_)) (A9 CLtake ?_ fF (BD (A0 (A7 0 UX)) A4 ?_ ?_) ?_ ?_) ?_) (AM (AX (AC hr)) AL (A0 (A7 2 fY)) A4 ?_) (AM (AX (AC hr)) AL (A0 (A7 2 fY)) A4 ?_) ?_ ?_ ?_)) ?_ ?_ ?_))))))
 all_goals (try walk_at "late")
theorem oW (T:Txt P w K mg t):FnOk P w K mg base FY 75 t.f_law t.d_law ["_law_script"] (GG K m_law):=by
 have CLhand:=Cal.of (lM (P:=P) (w:=w) (base:=base) T) T.mLhand T.FLhand.kp T.bLhand
 have CLkinds:=Cal.of (dO (P:=P) (w:=w) (base:=base) T) T.mLkinds T.FLkinds.kp T.bLkinds
 have CLgreat_way:=Cal.of (RA (P:=P) (w:=w) (base:=base) T) T.mLgreat_way T.FLgreat_way.kp T.bLgreat_way
 have CLall_rests:=Cal.of (QW (P:=P) (w:=w) (base:=base) T) T.mLall_rests T.FLall_rests.kp T.bLall_rests
 have C_turned:=Cal.of (ZX (P:=P) (w:=w) (base:=base) T 24) T.m_turned T.F_turned.kp T.b_turned
 have CLrow_of:=Cal.of (aK (P:=P) (w:=w) (base:=base) T 12) T.mLrow_of T.FLrow_of.kp T.bLrow_of
 have CLchanged:=Cal.of (UW (P:=P) (w:=w) (base:=base) T) T.mLchanged T.FLchanged.kp T.bLchanged
 have CLtells:=Cal.of (bF (P:=P) (w:=w) (base:=base) T) T.mLtells T.FLtells.kp T.bLtells
 have C_tells:=Cal.of (SW (P:=P) (w:=w) (base:=base) T) T.m_tells T.F_tells.kp T.b_tells
 have CLled:=Cal.of (qE (P:=P) (w:=w) (base:=base) T) T.mLled T.FLled.kp T.bLled
 have C_least_steps:=Cal.of (IB (P:=P) (w:=w) (base:=base) T 24) T.m_least_steps T.F_least_steps.kp T.b_least_steps
 have CLback:=Cal.of (jM (P:=P) (w:=w) (base:=base) T) T.mLback T.FLback.kp T.bLback
 refine T.F_law.okM (k:=74) FJ rfl fun cdv A outer s H E hr=> ?_
 unfold Y9
 conv=>arg 2;whnf
 refine' A3 (AK (i:=1) FJ.nd ?_ (Or.inl gI.lk) (A9 CLhand ?_ A00 (BD (A0 (A7 0 A0W)) A4 ?_ ?_) ?_ ?_) ?_ ?_) (A3 (AK (i:=2) FJ.nd ?_ (Or.inr gP.lk) (A9 CLkinds ?_ A0Q (BA (A0 (A7 1 gI)) ?_) ?_ ?_) ?_ ?_) (A3 (AK (i:=3) FJ.nd ?_ (Or.inl T5.lk) (A9 CLgreat_way ?_ zE (BD (A0 (A7 1 gI)) (A0 (A7 2 gP)) ?_ ?_) ?_ ?_) ?_ ?_) (A3 (AK (i:=4) FJ.nd ?_ (Or.inl p7.lk) (A9 CLall_rests ?_ zT (BD (A0 (A7 3 T5)) (A0 (A7 2 gP)) ?_ ?_) ?_ ?_) ?_ ?_) (A3 (B0 (AI W2 dF (A0 (A7 4 p7)) IL ?_) (A6 (AE MF)) AF) (A3 (AK (i:=5) FJ.nd ?_ (Or.inl u4.lk) (A9 C_turned ?_ zN (BA (A0 (A7 3 T5)) ?_) ?_ ?_) ?_ ?_) (A3 (EN ?_ ?_ (GJ zH.lk T.z_range (BA A4 ?_) ?_) (C9 (C7 (i:=6) FJ.nd ?_ (Or.inl A1D.lk) ?_)) (A3 (AK (i:=7) FJ.nd ?_ (Or.inl pL.lk) (BU HW DY (A9 CLrow_of ?_ A0O (C2 (A0 (A7 1 gI)) (A0 (A7 3 T5)) (A0 (A7 2 gP)) ?_ ?_ ?_) ?_ ?_) C6 (C0 A4)) ?_ ?_) (A3 (AK (i:=8) FJ.nd ?_ (Or.inl uO.lk) (BU HW DY (A9 CLchanged ?_ A09 (C2 (A0 (A7 1 gI)) (A0 (A7 7 pL)) (AO AQ AZ (A0 (A7 2 gP)) (DN (BA AD ?_))) ?_ ?_ ?_) ?_ ?_) C6 (C0 A4)) ?_ ?_) (A6 (EN ?_ ?_ (S2 (B9 (BD (A0 (A7 7 pL)) (HK JO T7 A0G T.z_tuple ?_ (BA (DO (N':=["_law_step","_law_kinds_here"]) (ix:=[none,some 2]) ⟨rfl,by decide+kernel,by decide+kernel,C4 _ _ rfl,rfl,DE _ _ _ _ rfl⟩ ?_ (D7 ?_) (S2 ((A0 (A7 8 uO)))) (fun _ _ _ _=>(aR (i:=0) (by walk_at "n") (show List.Nodup (["_law_step","_law_kinds_here"]:List Str) from by decide+kernel) (by rfl))) (fun _ _ _ _=>L9 (AI (HJ (AC hr)) LD (AM (AX (AC hr)) AL (A0 (A7 0 (NmOk.own (by walk_at "n")))) A4 ?_) (AO AQ AZ (A0 (aN 1 (by walk_at "n"))) (DN (BA AD ?_))) ?_)) (fun _ _ _ _=>(A0 (A7 0 (NmOk.own (by walk_at "n"))))) ?_) ?_) ?_ ?_) ?_ ?_))) (C9 (C7 (i:=9) FJ.nd ?_ (Or.inl aL.lk) ?_)) (A3 (AK (i:=10) FJ.nd ?_ (Or.inl cS.lk) (A9 CLtells ?_ A07 (BD (A0 (A7 3 T5)) (A0 (A7 9 aL)) ?_ ?_) ?_ ?_) ?_ ?_) (A3 (B0 (PW.pt (OB (AI (NO (AC hr)) UF (A9 C_tells ?_ tS (BD (A0 (A7 3 T5)) (A0 (A7 9 aL)) ?_ ?_) ?_ ?_) (A0 (A7 10 cS)) ?_) (OB (AI (NO (AC hr)) UF (A9 C_tells ?_ tS (BD (A0 (A7 5 u4)) (A9 CLback ?_ A19 (BA (A0 (A7 9 aL)) ?_) ?_ ?_) ?_ ?_) ?_ ?_) (A0 (A7 10 cS)) ?_) (OD (AI (NO (AC hr)) UF (A9 CLled ?_ A0X (C2 (A0 (A7 3 T5)) (A0 (A7 4 p7)) (A0 (A7 9 aL)) ?_ ?_ ?_) ?_ ?_) (A0 (A7 10 cS)) ?_))))) (A6 (AE MF)) AF) (A6 (B0 (PW.pt (LT (KA (A0 (A7 10 cS)) ?_) (JE (AI GU LC (C8 BL CM z7 T.z_len PySem.boot_len (BA (A0 (A7 9 aL)) ?_) ?_ ?_) (A9 C_least_steps ?_ A0I (BA (A0 (A7 3 T5)) ?_) ?_ ?_) ?_)))) (A6 (AE MF)) AF)))) ?_)))) ?_) (A6 (AE MF))))))))
 all_goals (try walk_at "late")
end
end K22
set_option maxHeartbeats 4000000
namespace K22
open PySem L2
local macro_rules| `(tactic|walk_at "e")=> `(tactic|(with_reducible first
 |refine IW ?_|refine CS ?_|refine t9 ?_|refine e_sqB ?_|refine e_sqC ?_|refine xR ?_|refine e_lqC ?_|refine e_lqB ?_|refine e_lqR ?_|refine xJ ?_|refine e_fqN ?_|refine PJ ?_|refine SG ?_|refine EA ?_|refine TX ?_|refine e_retN ?_|refine cU ?_|refine CN ?_|refine e_brk ?_|refine e_cont ?_
 |refine c9 ?_|refine VH ?_|refine A1L ?_|refine u9 ?_|refine o4 ?_|refine CO ?_|refine QD ?_|refine iC ?_|refine FX ?_|refine WH ?_|refine bP ?_|refine qN ?_|refine wD ?_|refine A1B ?_|refine uE ?_|refine y2 ?_|refine lH ?_|refine HP ?_
 |refine mW ?_|refine mY ?_|refine gB ?_|refine lL ?_|refine A0P ?_|refine cM ?_|refine PC ?_|refine NT ?_|refine qC ?_|refine lY ?_
 |(refine mH ?h1 ?_;(case h1=>with_unfolding_all rfl))
 |(refine' BG ?hv ?_;(case hv=>with_unfolding_all rfl))
 |refine M5 ?_|refine dG ?_|refine p_eqTT ?_|refine p_eqTF ?_|refine p_eqFT ?_|refine p_eqFF ?_|refine p_neTT ?_|refine p_neTF ?_|refine p_neFT ?_|refine p_neFF ?_|refine p_isTT ?_|refine p_isTF ?_|refine p_isFT ?_|refine p_isFF ?_|refine p_isNotTT ?_|refine p_isNotTF ?_|refine p_isNotFT ?_|refine p_isNotFF ?_
 |refine NA ?_|refine oF ?_|refine WN ?_|refine mR ?_|refine m8 ?_|refine y3 ?_|refine p_ltS ?_|refine wT ?_|refine p_neI ?_|refine m5 ?_|refine p_neS ?_|refine p_eqB ?_|refine X1 ?_|refine n0 ?_|refine p_isNotN ?_|refine p_isB ?_|refine p_isNotB ?_|refine p_neg ?_|refine u5 ?_|refine p_intI ?_|refine qR ?_|refine uX ?_|refine xI ?_
 |refine QA ?_|refine OM ?_|refine rJ ?_|refine wU ?_|refine tK ?_|refine WZ ?_
 |(refine b9 ?h1 ?_;(case h1=>with_unfolding_all rfl))
 |(refine gQ ?h1 ?_;(case h1=>with_unfolding_all rfl))
 |(refine rH ?h1 ?_;(case h1=>omega))
 |(refine tQ ?h1 ?_;(case h1=>omega))
 |(refine uN ?h1 ?_;(case h1=>omega))
 |(refine xD ?h1 ?_;(case h1=>decide))
 |refine pi_non_str ?_|refine pi_non_int ?_|refine pi_non_bool ?_|refine pi_non_tuple ?_|refine pi_non_list ?_|refine pi_bl_str ?_|refine pi_bl_int ?_|refine pi_bl_bool ?_|refine pi_bl_tuple ?_|refine pi_bl_list ?_|refine pi_int_str ?_|refine UZ ?_|refine T3 ?_|refine pi_int_tuple ?_|refine pi_int_list ?_|refine WJ ?_|refine pi_str_int ?_|refine pi_str_bool ?_|refine pi_str_tuple ?_|refine pi_str_list ?_|refine pi_tup_str ?_|refine pi_tup_int ?_|refine pi_tup_bool ?_|refine R3 ?_|refine pi_tup_list ?_|refine pi_lst_str ?_|refine pi_lst_int ?_|refine pi_lst_bool ?_|refine pi_lst_tuple ?_|refine pi_lst_list ?_|refine pi_scr_str ?_|refine pi_scr_int ?_|refine pi_scr_bool ?_|refine pi_scr_tuple ?_|refine pi_scr_list ?_|refine pi_dct_str ?_|refine pi_dct_int ?_|refine pi_dct_bool ?_|refine pi_dct_tuple ?_|refine pi_dct_list ?_
 |(refine mG ⟨?h1,?_⟩;(case h1=>decide))
 |refine mG ?_|refine wC ?_|refine pA ?_))
local macro_rules| `(tactic|walk_at "es")=> `(tactic|repeat (walk_at "e"))
local macro_rules| `(tactic|walk_at "w")=> `(tactic|repeat (first|(with_reducible refine bU ?_)|(with_reducible refine kX ?_)|(with_reducible refine oP ?_)|(with_reducible refine xF ?_)|walk_at "e"|(with_reducible refine bY (by simp) ?_)))
local macro_rules| `(tactic|walk_at "x")=> `(tactic|first|(with_reducible refine bU ?_)|(with_reducible refine kX ?_)|(with_reducible refine oP ?_)|(with_reducible refine xF ?_)|walk_at "e"|(with_reducible refine bY (by simp) ?_))
inductive Wy where
 |emp
 |step (k:Option Str) (t:Str)
 |again (w:Wy)
 |many (w:Wy) (lo hi:Nat)
 |thn (a b:Wy)
 |alt (a b:Wy)
def oM:Option Str→M
 |none=> .non
 |some z=> .str z
def wM:Wy→M
 | .emp=> .tup [.str "empty"]
 | .step k t=> .tup [.str "step",oM k, .str t]
 | .again w=> .tup [.str "again",wM w]
 | .many w lo hi=> .tup [.str "many",wM w, .int lo, .int hi]
 | .thn a b=> .tup [.str "then",wM a,wM b]
 | .alt a b=> .tup [.str "or",wM a,wM b]
def deep:Wy→Nat
 | .emp=>1
 | .step _ _=>1
 | .again w=>deep w+1
 | .many w _ _=>deep w+1
 | .thn a b=>max (deep a) (deep b)+1
 | .alt a b=>max (deep a) (deep b)+1
abbrev Rw:=List (Str×Str)
def pM (p:Str×Str):M:= .tup [.str p.1, .str p.2]
def rM (row:Rw):List M:=row.map pM
def KF (k:Option Str) (t:Str) (p:Str×Str):Bool:=(match k with|none=>true|some y=>p.1==y)&&[("either":Str),p.2].any (· ==t)
inductive Star (R:Int→Int→Prop):Int→Int→Prop
 |refl (i:Int):Star R i i
 |tail {i m j:Int}:Star R i m→R m j→Star R i j
def Pow (R:Int→Int→Prop):Nat→Int→Int→Prop
 |0,i,j=>i=j
 |n+1,i,j=>∃m,Pow R n i m∧R m j
def FZ (row:Rw):Wy→Int→Int→Prop
 | .emp=>fun i j=>i=j
 | .step k t=>fun i j=>∃p,0≤i∧row[i.toNat]? =some p∧KF k t p=true∧j=i+1
 | .again w=>Star (FZ row w)
 | .many w lo hi=>fun i j=>∃n,lo≤n∧n≤hi∧Pow (FZ row w) n i j
 | .thn a b=>fun i j=>∃m,FZ row a i m∧FZ row b m j
 | .alt a b=>fun i j=>FZ row a i j∨FZ row b i j
def Rg (row:Rw) (ns:List Int):Prop:=ns.length≤64∧∀k∈ns,0≤k∧k≤row.length
theorem Rg.small {row:Rw} {ns:List Int} (h:Rg row ns) (hl:row.length≤40):∀k∈ns,0≤k∧k<50:=fun k hk=>by have:=h.2 k hk;omega
def t0 (f:FF) (row:Rw) (w:Wy):Prop:=∀(h:AA) (x:M) (ns:List Int) (R:M→AA→Prop),(x= .tup (rM row)∨x= .lst (rM row))→row.length≤40→Rg row ns→
 (∀ks,Rg row ks→(∀k,k∈ks↔∃s∈ns,FZ row w s k)→R (.lst (ks.map M.int)) h)→Ens (f [wM w,x, .lst (ns.map M.int)] h) R
theorem DG {A B:Prop} {c:Bool} (h:c=false) (q:B):if c=true then A else B:=by rw[h];exact q
theorem G9 {A B:Prop} {c:Bool} (h:c=true) (q:A):if c=true then A else B:=by rw[h];exact q
section
variable {h:AA} {R:M→Prop}
theorem U0 {b:Int}:∀(bs:List Int),(bs.map D.int).any (fun e=>BN e (.int b))=bs.any (· ==b)
 |[]=>rfl
 |c::bs=>by rw[List.map_cons,List.any_cons,List.any_cons,U0 bs];simp[BN]
theorem LR:∀(bs:List Int),WA h (bs.map M.int)=some (bs.map D.int)
 |[]=>rfl
 |b::bs=>by
  show(LU (F3 h 20) (M.int b)).bind (fun d=>(EF (F3 h 20) (bs.map M.int)).map (d:: ·))=_
  rw[show EF (F3 h 20) (bs.map M.int)=some (bs.map D.int) from LR bs];rfl
theorem KB:∀(bs:List Int),D.deeps (bs.map D.int)=0
 |[]=>rfl
 |b::bs=>by rw[List.map_cons,D.deeps,KB bs];rfl
theorem PK {b:Int} {bs:List Int} {f:Bool→M}:O5 (.int b) (bs.map M.int) h f=some (f (bs.any (· ==b))):=by
 unfold O5
 rw[LR,Option.bind_some]
 show(some (D.int b)).bind _=_
 rw[Option.bind_some,if_pos (by rw[KB];decide),U0]
theorem WO {b:Int} {bs:List Int}:bs.any (· ==b)=decide (b∈bs):=by
 rw[Bool.eq_iff_iff,List.any_eq_true,decide_eq_true_eq]
 exact⟨fun⟨x,hx,e⟩=>by rw[←(beq_iff_eq.1 e)];exact hx,fun hb=>⟨b,hb,beq_iff_eq.2 rfl⟩⟩
theorem mB {b:Int} {bs:List Int} (q:R (.bl (decide (b∈bs)))):Enp (J0 (.int b) (.lst (bs.map M.int)) h) R:=⟨_,PK (f:=fun b=> .bl b),by rw[WO];exact q⟩
theorem TR {b:Int} {bs:List Int} (q:R (.bl (!decide (b∈bs)))):Enp (CP (.int b) (.lst (bs.map M.int)) h) R:=⟨.bl (!bs.any (· ==b)),PK (f:=fun b=> .bl (!b)),by rw[WO];exact q⟩
theorem nA {k:Option Str} {z:Str} (q:R (.bl (match k with|none=>true|some y=>z==y))):Enp (J0 (oM k) (.tup [.non, .str z]) h) R:=by
 cases k with
 |none=>exact⟨_,rfl,q⟩
 |some y=>exact⟨.bl (z==y),by show some (M.bl ((BN .non (.str y))||((z==y)||false)))=_;simp[BN],q⟩
end
theorem Q3 {h:AA} {b:Str} {bs:List Str} {f:Bool→M}:O5 (.str b) (bs.map M.str) h f=some (f (bs.any (· ==b))):=by
 unfold O5
 rw[P9,Option.bind_some]
 show(some (D.str b)).bind _=_
 rw[Option.bind_some,if_pos (by rw[ON];decide)]
 congr 2
 induction bs with
 |nil=>rfl
 |cons c bs ih=>rw[List.map_cons,List.any_cons,List.any_cons,ih];simp[BN]
theorem WU {h:AA} {R:M→Prop} {b:Str} {ss:List Str} (q:R (.bl (ss.any (· ==b)))):Enp (J0 (.str b) (.tup (ss.map M.str)) h) R:=⟨_,Q3 (f:=fun b=> .bl b),q⟩
theorem LS {h:AA} {a b:List Int} {R:M→AA→Prop} (ha:∀k∈a,0≤k∧k<50) (hb:∀k∈b,0≤k∧k<50) (k:R (.lst ((L2.FV (a++b)).map M.int)) h):Ens (m_merged [.lst (a.map M.int), .lst (b.map M.int)] h) R:=by
 refine AV rfl ?_
 unfold b_merged
 refine TX ?_
 refine oB ?_
 refine BG rfl ⟨a,NU ha,?_⟩
 refine BG rfl ⟨b,NU hb,?_⟩
 exact k
theorem kG {h:AA} {a b:List Int} {R:M→AA→Prop} (hl:a.length+b.length≤16777216) (ha:∀k∈a,0≤k∧k<50) (hb:∀k∈b,0≤k∧k<50) (k:R (.lst ((L2.FV (a++b)).map M.int)) h):Ens (mLboth [.lst (a.map M.int), .lst (b.map M.int)] h) R:=by
 refine AV rfl ?_
 unfold bLboth
 refine TX ?_
 refine qO ?_
 walk_at "es"
 refine HZ (by simpa using hl) ?_
 rw[←List.map_append]
 exact⟨a++b,NU fun k hk=>(List.mem_append.1 hk).elim (ha k) (hb k),k⟩
theorem Y6 {h:AA} {k:Option Str} {t:Str} {p:Str×Str} {R:M→AA→Prop} (q:R (.bl (KF k t p)) h):Ens (m_is_step_of [wM (.step k t), .str p.1, .str p.2] h) R:=by
 show Ens (m_is_step_of [.tup [.str "step",oM k, .str t], .str p.1, .str p.2] h) R
 refine AV rfl ?_
 unfold b_is_step_of
 walk_at "w"
 refine nA ?_
 walk_at "w"
 unfold KF at q
 refine BM (fun h1=> ?_) (fun h1=> ?_)
 ·walk_at "w"
  refine WU (ss:=[("either":Str),p.2]) ?_
  rw[h1,Bool.true_and]at q
  exact q
 ·rw[h1,Bool.false_and]at q
  walk_at "es"
  exact q
theorem oQ {h:AA} {k:Option Str} {t:Str} {p:Str×Str} {R:M→AA→Prop} (q:R (.bl (KF k t p)) h):Ens (mLof [wM (.step k t),pM p] h) R:=by
 show Ens (mLof [.tup [.str "step",oM k, .str t], .tup [.str p.1, .str p.2]] h) R
 refine AV rfl ?_
 unfold bLof
 walk_at "w"
 refine nA ?_
 walk_at "w"
 unfold KF at q
 refine BM (fun h1=> ?_) (fun h1=> ?_)
 ·walk_at "w"
  refine WU (ss:=[("either":Str),p.2]) ?_
  rw[h1,Bool.true_and]at q
  exact q
 ·rw[h1,Bool.false_and]at q
  walk_at "w"
  exact q
theorem jH {ns:List Int} (hb:∀k∈ns,0≤k∧k<50) {k:Int}:k∈L2.FV ns↔k∈ns:=by
 rw[L2.mem_upTo];exact⟨fun h=>h.2,fun h=>⟨hb k h,h⟩⟩
theorem XR {row:Rw} {i:Int} {p:Str×Str} (h0:0≤i) (e:row[i.toNat]? =some p):NH (rM row) i=some (pM p):=by
 have ek:i=((i.toNat:Nat):Int):=by omega
 have z:NH (rM row) ((i.toNat:Nat):Int)=some (pM p):=L5 (by unfold rM;rw[List.getElem?_map,e];rfl)
 rwa [←ek]at z
theorem CK {row:Rw}:(rM row).length=row.length:=by unfold rM;simp
def GL (row:Rw) (k:Option Str) (t:Str) (i:Int):Bool:=decide (i<(row.length:Int))&&(match row[i.toNat]?with|some p=>KF k t p|none=>false)
theorem SK {row:Rw} {k:Option Str} {t:Str} {ns:List Int} (hn:Rg row ns):Rg row ((ns.filter (GL row k t)).map (· +1))∧∀j,j∈(ns.filter (GL row k t)).map (· +1)↔∃s∈ns,FZ row (.step k t) s j:=by
 constructor
 ·refine⟨by rw[List.length_map];exact Nat.le_trans (List.length_filter_le _ _) hn.1,fun j hj=> ?_⟩
  obtain⟨i,hi,rfl⟩:=List.mem_map.1 hj
  obtain⟨h1,h2⟩:=List.mem_filter.1 hi
  have:=hn.2 i h1
  unfold GL at h2
  rw[Bool.and_eq_true,decide_eq_true_eq]at h2
  omega
 ·intro j
  rw[List.mem_map]
  constructor
  ·rintro⟨i,hi,rfl⟩
   obtain⟨h1,h2⟩:=List.mem_filter.1 hi
   refine⟨i,h1,?_⟩
   unfold GL at h2
   rw[Bool.and_eq_true,decide_eq_true_eq]at h2
   obtain⟨h2,h3⟩:=h2
   cases hp:row[i.toNat]?with
   |none=>rw[hp]at h3;cases h3
   |some p=>rw[hp]at h3;exact⟨p,(hn.2 i h1).1,hp,h3,rfl⟩
  ·rintro⟨s,hs,p,h0,hp,ho,rfl⟩
   refine⟨s,List.mem_filter.2 ⟨hs,?_⟩,rfl⟩
   have hl:=(List.getElem?_eq_some_iff.1 hp).1
   unfold GL
   rw[hp,Bool.and_eq_true,decide_eq_true_eq]
   exact⟨by omega,ho⟩
def bR (f:Int→Bool) (x:M):Bool:=match x with| .int i=>f i|_=>false
def o5 (x:M):M:=match x with| .int i=> .int (i+1)|x=>x
theorem J7 {ns:List Int} (f:Int→Bool):((ns.map M.int).filter (bR f))=(ns.filter f).map M.int:=by
 rw[List.filter_map];rfl
theorem T1 {ns:List Int}:(ns.map M.int).map o5=(ns.map (· +1)).map M.int:=by
 rw[List.map_map,List.map_map];rfl
theorem Rg.up {row:Rw} {ns:List Int} (h:∀k∈ns,0≤k∧k≤row.length):Rg row (L2.FV ns):=⟨Nat.le_trans (UJ ns) (by decide),fun k hk=>h k (L2.mem_upTo.1 hk).2⟩
theorem Rg.app {row:Rw} {a b:List Int} (ha:Rg row a) (hb:Rg row b):∀k∈a++b,0≤k∧k≤row.length:=fun k hk=>(List.mem_append.1 hk).elim (ha.2 k) (hb.2 k)
theorem M0 {row:Rw} {a b:List Int} (ha:Rg row a) (hb:Rg row b) (hl:row.length≤40) {k:Int}:k∈L2.FV (a++b)↔k∈a∨k∈b:=by
 rw[jH fun k hk=>by have:=Rg.app ha hb k hk;omega,List.mem_append]
theorem Rg.filt {row:Rw} {a:List Int} (ha:Rg row a) (f:Int→Bool):Rg row (a.filter f):=⟨Nat.le_trans (List.length_filter_le _ _) ha.1,fun k hk=>ha.2 k (List.mem_filter.1 hk).1⟩
theorem IK {c:FT} {bd:FS} {S:Out→AA→Prop} (I:Nat→BJ→AA→Prop) (hs:∀n ρ h,I n ρ h→Ens (c ρ h) fun t h1=>if t=true then Ens (bd ρ h1) (LQ (fun ρ' h'=>∃m,m<n∧I m ρ' h') S) else S (.nx ρ) h1):∀{N n:Nat} {ρ:BJ} {h:AA},n<N→I n ρ h→Ens (F0 c bd N ρ h) S
 |0,n,ρ,h,hN,_=>by omega
 |N+1,n,ρ,h,hN,hI=>by
  unfold F0
  refine .bnd ((hs n ρ h hI).mono fun t h1 q=> ?_)
  cases t with
  |false=>exact .ret q
  |true=>
   refine .bnd (q.mono fun o h2 q=> ?_)
   cases o with
   |nx ρ'=>obtain⟨m,hm,q⟩:=q;exact IK I hs (by omega) q
   |ct ρ'=>obtain⟨m,hm,q⟩:=q;exact IK I hs (by omega) q
   |bk ρ'=>exact .ret q
   |rt d=>exact .ret q
def XM (a:List Int):Nat:=(ST.smalls.filter fun k=> !decide (k∈a)).length
theorem eV (a:List Int):XM a≤50:=Nat.le_trans (List.length_filter_le _ _) (by decide)
theorem fB {a b:List Int} (h:∀k∈a,k∈b) {k:Int} (h0:0≤k∧k<50) (hb:k∈b) (ha:k∉a):XM b<XM a:=by
 have:=ST.N0 (l:=k::ST.smalls.filter fun k=> !decide (k∈b)) (m:=ST.smalls.filter fun k=> !decide (k∈a)) (List.nodup_cons.2 ⟨fun hm=>by have:=(List.mem_filter.1 hm).2;simp[hb]at this,ST.smalls_nd.filter _⟩) fun x hx=>by
  rcases List.mem_cons.1 hx with e|e
  ·subst e;exact List.mem_filter.2 ⟨ST.mem_smalls.2 h0,by simp[ha]⟩
  ·obtain⟨e1,e2⟩:=List.mem_filter.1 e
   refine List.mem_filter.2 ⟨e1,?_⟩
   simp at e2⊢
   exact fun z=>e2 (h x z)
 unfold XM
 simp only[List.length_cons]at this
 omega
theorem o6 {a b:List Int} (h:∀k,k∈a↔k∈b):XM a=XM b:=by
 unfold XM
 congr 2
 funext k
 simp[h k]
theorem cD {ns:List Int}:((ns.map M.int).isEmpty)=ns.isEmpty:=by cases ns<;>rfl
theorem dM {f:FF} {row:Rw} {w:Wy} (hf:t0 f row w) {h:AA} {x:M} {ns:List Int} {R:M→AA→Prop} (hx:x= .tup (rM row)∨x= .lst (rM row)) (hl:row.length≤40) (hn:Rg row ns)
 (k:∀ks,Rg row ks→(∀k,k∈ks↔∃s∈ns,Star (FZ row w) s k)→R (.lst (ks.map M.int)) h):Ens (m_ends_again f [wM w,x, .lst (ns.map M.int)] h) R:=by
 refine AV rfl ?_
 unfold b_ends_again
 refine IW ?_
 walk_at "e"
 walk_at "e"
 walk_at "e"
 walk_at "e"
 walk_at "e"
 walk_at "e"
 walk_at "e"
 walk_at "e"
 walk_at "e"
 refine IW ?_
 refine IK (fun n ρ h'=>∃found fresh:List Int,ρ=[some (wM w),some x,some (.lst (ns.map M.int)),some (.lst (found.map M.int)),some (.lst (fresh.map M.int))]∧h'=h∧Rg row found∧Rg row fresh∧(∀k∈ns,k∈found)∧
  (∀k∈found,∃s∈ns,Star (FZ row w) s k)∧(∀k∈fresh,k∈found)∧(∀k∈found,k∉fresh→∀j,FZ row w k j→j∈found)∧n=2*XM found+(if fresh.isEmpty=true then 0 else 1)) ?_ (n:=2*XM ns+(if ns.isEmpty=true then 0 else 1)) (by have:=eV ns;split<;>omega)
  ⟨ns,ns,rfl,rfl,hn,hn,fun _ h=>h,fun k hk=>⟨k,hk, .refl k⟩,fun _ h=>h,fun k h1 h2=>absurd h1 h2,rfl⟩
 rintro n ρ h' ⟨found,fresh,rfl,rfl,hfo,hfr,i1,i2,i3,i4,rfl⟩
 refine nF ?_
 refine BG rfl ⟨_,rfl,?_⟩
 rw[cD]
 cases hne:fresh.isEmpty with
 |true=>
  refine M5 ?_
  have hnil:fresh=[]:=List.isEmpty_iff.1 hne
  walk_at "es"
  refine k found hfo fun j=>⟨i2 j,?_⟩
  rintro⟨s,hs,st⟩
  induction st with
  |refl=>exact i1 _ hs
  |tail _ hr ih=>exact i4 _ ih (by rw[hnil];simp) _ hr
 |false=>
  refine dG ?_
  walk_at "es"
  refine UM ?_
  walk_at "es"
  refine hf h' x fresh _ hx hl hfr fun ks hk hm=> ?_
  refine⟨_,rfl,?_⟩
  refine⟨by rw[List.length_map];have:=hk.1;omega,?_⟩
  refine HC (bR fun i=> !decide (i∈found)) id (fun y hy=> ?_) ?_
  ·obtain⟨i,hi,rfl⟩:=List.mem_map.1 hy
   refine EA ⟨rfl,?_⟩
   walk_at "es"
   refine TR ?_
   refine FX ⟨rfl,rfl,fun _=> ?_⟩
   exact BG rfl ⟨rfl,rfl⟩
  ·rw[J7,List.map_id]
   have hnew:Rg row (ks.filter fun i=> !decide (i∈found)):=hk.filt _
   have hmem:∀j,j∈ks.filter (fun i=> !decide (i∈found))↔(∃s∈fresh,FZ row w s j)∧j∉found:=fun j=>by rw[List.mem_filter,hm j];simp
   generalize ks.filter (fun i=> !decide (i∈found))=nw at hnew hmem⊢
   walk_at "e"
   walk_at "e"
   walk_at "es"
   refine LS (hfo.small hl) (hnew.small hl) ?_
   refine EA ?_
   have hup:∀j,j∈L2.FV (found++nw)↔j∈found∨j∈nw:=fun j=>M0 hfo hnew hl
   refine⟨2*XM (L2.FV (found++nw))+(if nw.isEmpty=true then 0 else 1),?_,L2.FV (found++nw),nw,rfl,rfl,Rg.up (Rg.app hfo hnew),hnew,fun j hj=>(hup j).2 (.inl (i1 j hj)),fun j hj=> ?_,fun j hj=>(hup j).2 (.inr hj),fun j hj hj2 l hr=> ?_,rfl⟩
   ·have hsub:∀j∈found,j∈L2.FV (found++nw):=fun j hj=>(hup j).2 (.inl hj)
    cases nw with
    |nil=>
     have:XM (L2.FV (found++[]))=XM found:=o6 fun j=>by rw[hup j];simp
     rw[this];simp
    |cons j nw=>
     have h1:=(hmem j).1 (by simp)
     have:=fB hsub (hnew.small hl j (by simp)) ((hup j).2 (.inr (by simp))) h1.2
     simp;omega
   ·rcases(hup j).1 hj with g|g
    ·exact i2 j g
    ·obtain⟨⟨s,hs,hr⟩,_⟩:=(hmem j).1 g
     obtain⟨s0,h0,st⟩:=i2 s (i3 s hs)
     exact⟨s0,h0, .tail st hr⟩
   ·rw[hup l]
    rcases(hup j).1 hj with g|g
    ·by_cases hfrj:j∈fresh
     ·by_cases hlf:l∈found
      ·exact .inl hlf
      ·exact .inr ((hmem l).2 ⟨⟨j,hfrj,hr⟩,hlf⟩)
     ·exact .inl (i4 j g hfrj l hr)
    ·exact absurd g hj2
theorem iD {f:FF} {row:Rw} {w:Wy} {lo hi:Nat} (hf:t0 f row w) {h:AA} {x:M} {ns:List Int} {R:M→AA→Prop} (hhi:hi≤1000) (hx:x= .tup (rM row)∨x= .lst (rM row)) (hl:row.length≤40) (hn:Rg row ns)
 (k:∀ks,Rg row ks→(∀k,k∈ks↔∃s∈ns,FZ row (.many w lo hi) s k)→R (.lst (ks.map M.int)) h):Ens (m_ends_many f [wM (.many w lo hi),x, .lst (ns.map M.int)] h) R:=by
 show Ens (m_ends_many f [.tup [.str "many",wM w, .int lo, .int hi],x, .lst (ns.map M.int)] h) R
 refine AV rfl ?_
 unfold b_ends_many
 walk_at "w"
 refine UB ?_
 walk_at "w"
 refine⟨(hi:Int)+1,rfl,by omega,?_⟩
 refine GF (fun i ρ h'=>∃found here:List Int,∃v,ρ=[some (.tup [.str "many",wM w, .int lo, .int hi]),some x,some (.lst (ns.map M.int)),some (.lst (found.map M.int)),some (.lst (here.map M.int)),v]∧h'=h∧Rg row found∧Rg row here∧
  (∀k,k∈here↔∃s∈ns,Pow (FZ row w) i s k)∧(∀k,k∈found↔∃s∈ns,∃n,lo≤n∧n<i∧Pow (FZ row w) n s k)) ?_ ?_ ?_
 ·refine⟨[],ns,_,rfl,rfl,⟨by simp,fun k hk=>by simp at hk⟩,hn,fun k=> ?_,fun k=> ?_⟩
  ·exact⟨fun hk=>⟨k,hk,rfl⟩,fun⟨s,hs,e⟩=>by cases e;exact hs⟩
  ·exact⟨fun hk=>by simp at hk,fun⟨_,_,n,_,hn,_⟩=>by omega⟩
 ·rintro i y ρ h' hy ⟨found,here,v,rfl,rfl,hfo,hhe,q1,q2⟩
  have ey:y= .int (i:Int):=by
   rw[List.getElem?_map]at hy
   obtain⟨j,hj,rfl⟩:=Option.map_eq_some_iff.mp hy
   obtain⟨hlt,ej⟩:=List.getElem?_eq_some_iff.1 hj
   rw[List.getElem_range]at ej
   rw[ej]
  subst ey
  walk_at "es"
  have tail:∀found',Rg row found'→(∀k,k∈found'↔∃s∈ns,∃n,lo≤n∧n<i+1∧Pow (FZ row w) n s k)→Ens (B2 (AB f (A1 (AG BH (A2 0) (mC (.int 1))) (A1 (A2 1) (A1 (A2 4) A5)))) (BI 4)
   [some (.tup [.str "many",wM w, .int lo, .int hi]),some x,some (.lst (ns.map M.int)),some (.lst (found'.map M.int)),some (.lst (here.map M.int)),some (.int (i:Int))] h')
   (LQ (fun ρ h''=>∃found here:List Int,∃v,ρ=[some (.tup [.str "many",wM w, .int lo, .int hi]),some x,some (.lst (ns.map M.int)),some (.lst (found.map M.int)),some (.lst (here.map M.int)),v]∧h''=h'∧Rg row found∧Rg row here∧
     (∀k,k∈here↔∃s∈ns,Pow (FZ row w) (i+1) s k)∧(∀k,k∈found↔∃s∈ns,∃n,lo≤n∧n<i+1∧Pow (FZ row w) n s k)) (SQ (AY (A2 3)) (FQ R))):=fun found' g1 g2=>by
   walk_at "w"
   refine hf h' x here _ hx hl hhe fun ks hk hm=> ?_
   walk_at "w"
   refine⟨found',ks,_,rfl,rfl,g1,hk,fun j=> ?_,g2⟩
   rw[hm j]
   constructor
   ·rintro⟨s,hs,hr⟩
    obtain⟨s0,h0,hp⟩:=(q1 s).1 hs
    exact⟨s0,h0,s,hp,hr⟩
   ·rintro⟨s0,h0,s,hp,hr⟩
    exact⟨s,(q1 s).2 ⟨s0,h0,hp⟩,hr⟩
  walk_at "w"
  refine BM (fun hc=> ?_) (fun hc=> ?_)
  ·have hlo:lo≤i:=by have:=of_decide_eq_true hc;omega
   walk_at "w"
   refine LS (hfo.small hl) (hhe.small hl) ?_
   walk_at "e"
   walk_at "e"
   refine tail _ (Rg.up (Rg.app hfo hhe)) fun j=> ?_
   rw[M0 hfo hhe hl,q1 j,q2 j]
   constructor
   ·rintro(⟨s,hs,n,a,b,c⟩|⟨s,hs,c⟩)
    ·exact⟨s,hs,n,a,by omega,c⟩
    ·exact⟨s,hs,i,hlo,by omega,c⟩
   ·rintro⟨s,hs,n,a,b,c⟩
    by_cases e:n=i
    ·subst e;exact .inr ⟨s,hs,c⟩
    ·exact .inl ⟨s,hs,n,a,by omega,c⟩
  ·have hlo:¬lo≤i:=by have:=of_decide_eq_false hc;omega
   walk_at "e"
   walk_at "e"
   refine tail found hfo fun j=> ?_
   rw[q2 j]
   exact⟨fun⟨s,hs,n,a,b,c⟩=>⟨s,hs,n,a,by omega,c⟩,fun⟨s,hs,n,a,b,c⟩=>by omega⟩
 ·rintro ρ h' ⟨found,here,v,rfl,rfl,hfo,hhe,q1,q2⟩
  have hlen:((List.range ((hi:Int)+1).toNat).map fun(i:Nat)=>M.int (i:Int)).length=hi+1:=by simp
  rw[hlen]at q2
  walk_at "w"
  refine k found hfo fun j=> ?_
  rw[q2 j]
  exact⟨fun⟨s,hs,n,a,b,c⟩=>⟨s,hs,n,a,by omega,c⟩,fun⟨s,hs,n,a,b,c⟩=>⟨s,hs,n,a,by omega,c⟩⟩
def ZN:List Str:=["knows","a","aa","zebra","empty","quartzes","again","likes"]
def UP:List Str:=["forth","back","either"]
def CZ:Wy→Prop
 | .emp=>True
 | .step k t=>(∀z,k=some z→z∈ZN)∧t∈UP
 | .again w=>CZ w
 | .many w lo hi=>CZ w∧lo≤hi∧hi≤6
 | .thn a b=>CZ a∧CZ b
 | .alt a b=>CZ a∧CZ b
local macro_rules| `(tactic|walk_at "v")=> `(tactic|repeat (first|walk_at "x"|(with_reducible refine DG (by decide+kernel) ?_)|(with_reducible refine G9 (by decide+kernel) ?_)))
theorem XS {row:Rw} {a b:Wy} {ns ms ks:List Int} (h1:∀k,k∈ms↔∃s∈ns,FZ row a s k) (h2:∀k,k∈ks↔∃s∈ms,FZ row b s k) (k:Int):k∈ks↔∃s∈ns,FZ row (.thn a b) s k:=by
 rw[h2 k]
 constructor
 ·rintro⟨m,hm,hb⟩
  obtain⟨s,hs,ha⟩:=(h1 m).1 hm
  exact⟨s,hs,m,ha,hb⟩
 ·rintro⟨s,hs,m,ha,hb⟩
  exact⟨m,(h1 m).2 ⟨s,hs,ha⟩,hb⟩
theorem WX {row:Rw} {a b:Wy} {ns ms ks:List Int} (h1:∀k,k∈ms↔∃s∈ns,FZ row a s k) (h2:∀k,k∈ks↔∃s∈ns,FZ row b s k) (k:Int):k∈ms∨k∈ks↔∃s∈ns,FZ row (.alt a b) s k:=by
 rw[h1 k,h2 k]
 constructor
 ·rintro(⟨s,hs,ha⟩|⟨s,hs,ha⟩)
  ·exact⟨s,hs, .inl ha⟩
  ·exact⟨s,hs, .inr ha⟩
 ·rintro⟨s,hs,ha|ha⟩
  ·exact .inl ⟨s,hs,ha⟩
  ·exact .inr ⟨s,hs,ha⟩
theorem YA {row:Rw}:∀(n:Nat) (w:Wy),deep w≤n→CZ w→t0 (m_ends n) row w
 |0,w,hd,_=>by exfalso;cases w<;>simp[deep]at hd
 |n+1,w,hd,hw=>by
  intro h x ns R hx hl hn k
  have ih:=fun w' (h':deep w'≤n) (h2:CZ w')=>YA (row:=row) n w' h' h2
  show Ens (B5 3 1 (b_ends (m_ends n)) _ h) R
  cases w with
  |emp=>
   show Ens (B5 3 1 (b_ends (m_ends n)) [.tup [.str "empty"],x, .lst (ns.map M.int)] h) R
   refine AV rfl ?_
   unfold b_ends
   walk_at "v"
   exact k ns hn fun j=>⟨fun hj=>⟨j,hj,rfl⟩,fun⟨s,hs,e⟩=>by cases e;exact hs⟩
  |step kd t=>
   show Ens (B5 3 1 (b_ends (m_ends n)) [.tup [.str "step",oM kd, .str t],x, .lst (ns.map M.int)] h) R
   refine AV rfl ?_
   unfold b_ends
   walk_at "v"
   refine UM ?_
   walk_at "v"
   refine⟨_,rfl,by rw[List.length_map];have:=hn.1;omega,?_⟩
   obtain⟨g1,g2⟩:=SK (k:=kd) (t:=t) hn
   refine HC (bR (GL row kd t)) o5 (fun y hy=> ?_) ?_
   ·obtain⟨i,hi,rfl⟩:=List.mem_map.1 hy
    have hr:=hn.2 i hi
    refine EA ⟨rfl,?_⟩
    have key:Ens ((HX (tV (AG KY (A2 0) (E3 DH (A1 (A2 2) A5)))) (tV (AB m_is_step_of (A1 (A2 1) (A1 (AG BH (AG BH (A2 2) (A2 0)) (mC (.int 0))) (A1 (AG BH (AG BH (A2 2) (A2 0)) (mC (.int 1))) A5))))))
     [some (.int i),some (wM (.step kd t)),some x] h) fun t' h2=>h2=h∧t'=GL row kd t i:=by
     have YU:∀{R:M→Prop},R (.int row.length)→Enp (DH [x] h) R:=fun{R} q=>by
      rcases hx with rfl|rfl
      ·exact OM (by rw[CK];exact q)
      ·exact QA (by rw[CK];exact q)
     walk_at "es"
     refine YU ?_
     refine WN ?_
     refine FX ?_
     refine BM (fun hc=> ?_) (fun hc=> ?_)
     ·have hlt:=of_decide_eq_true hc
      have hnat:i.toNat<row.length:=by omega
      have hp:row[i.toNat]? =some row[i.toNat]:=List.getElem?_eq_getElem hnat
      have ixq:∀{R:M→Prop},R (pM row[i.toNat])→Enp (BH x (.int i) h) R:=fun{R} q=>by
       rcases hx with rfl|rfl
       ·exact gQ (XR hr.1 hp) q
       ·exact b9 (XR hr.1 hp) q
      walk_at "es"
      refine ixq ?_
      refine c9 ?_
      refine bU ?_
      walk_at "es"
      refine ixq ?_
      refine c9 ?_
      refine kX ?_
      refine CO ?_
      refine Y6 ?_
      refine FX ⟨rfl,?_⟩
      unfold GL
      rw[hc,hp];rfl
     ·refine⟨rfl,?_⟩
      unfold GL
      rw[hc];rfl
    refine key.mono fun t' h2 ⟨e1,e2⟩=>⟨e1,e2,fun _=> ?_⟩
    subst e1
    refine VH ?_
    refine BG rfl ?_
    refine c9 ?_
    exact NA ⟨rfl,rfl⟩
   ·rw[J7,T1]
    walk_at "v"
    exact k _ g1 g2
  |again w=>
   have hd':deep w≤n:=by simp[deep]at hd;omega
   show Ens (B5 3 1 (b_ends (m_ends n)) [.tup [.str "again",wM w],x, .lst (ns.map M.int)] h) R
   refine AV rfl ?_
   unfold b_ends
   walk_at "v"
   exact dM (ih w hd' hw) hx hl hn k
  |many w lo hi=>
   have hd':deep w≤n:=by simp[deep]at hd;omega
   show Ens (B5 3 1 (b_ends (m_ends n)) [.tup [.str "many",wM w, .int lo, .int hi],x, .lst (ns.map M.int)] h) R
   refine AV rfl ?_
   unfold b_ends
   walk_at "v"
   exact iD (ih w hd' hw.1) (by have:=hw.2.2;omega) hx hl hn k
  |thn a b=>
   have hd':deep a≤n∧deep b≤n:=by simp[deep]at hd;omega
   show Ens (B5 3 1 (b_ends (m_ends n)) [.tup [.str "then",wM a,wM b],x, .lst (ns.map M.int)] h) R
   refine AV rfl ?_
   unfold b_ends
   walk_at "v"
   refine ih a hd'.1 hw.1 h x ns _ hx hl hn fun ms hm h1=> ?_
   walk_at "v"
   exact ih b hd'.2 hw.2 h x ms _ hx hl hm fun ks hk h2=>k ks hk (XS h1 h2)
  |alt a b=>
   have hd':deep a≤n∧deep b≤n:=by simp[deep]at hd;omega
   show Ens (B5 3 1 (b_ends (m_ends n)) [.tup [.str "or",wM a,wM b],x, .lst (ns.map M.int)] h) R
   refine AV rfl ?_
   unfold b_ends
   walk_at "v"
   refine ih a hd'.1 hw.1 h x ns _ hx hl hn fun ms hm h1=> ?_
   walk_at "v"
   refine ih b hd'.2 hw.2 h x ns _ hx hl hn fun ks hk h2=> ?_
   walk_at "v"
   exact LS (hm.small hl) (hk.small hl) (k _ (Rg.up (Rg.app hm hk)) fun j=>by rw[M0 hm hk hl];exact WX h1 h2 j)
local macro_rules| `(tactic|walk_at "u")=> `(tactic|repeat ((fail_if_success with_reducible refine PC ?_);first|walk_at "x"|(with_reducible refine DG (by decide+kernel) ?_)|(with_reducible refine G9 (by decide+kernel) ?_)))
theorem j3 {h:AA} {ns:List Int} {R:M→Prop} (q:R (.bl (!ns.isEmpty))):Enp (JW (.lst (ns.map M.int)) (.lst []) h) R:=by
 refine⟨.bl (!ns.isEmpty),?_,q⟩
 unfold JW
 show(((WA h (ns.map M.int)).map D.lst).bind _)=_
 rw[LR]
 show(some (D.lst (ns.map D.int))).bind _=_
 rw[Option.bind_some]
 show(some (D.lst [])).bind _=_
 rw[Option.bind_some]
 show(if D.deeps (ns.map D.int)+1≤150 then _ else _)=_
 rw[KB,if_pos (by decide)]
 cases ns<;>rfl
theorem cQ {h:AA} {row:Rw} {a b:List Int} {R:M→AA→Prop} (hl:row.length≤40) (ha:Rg row a) (hb:Rg row b) (k:R (.lst ((L2.FV (a++b)).map M.int)) h):Ens (mLboth [.lst (a.map M.int), .lst (b.map M.int)] h) R:=
 kG (by have:=ha.1;have:=hb.1;omega) (ha.small hl) (hb.small hl) k
theorem o7 {f:FF} {row:Rw} {w:Wy} (hf:t0 f row w) {h:AA} {x:M} {ns:List Int} {S:Out→AA→Prop} {v0 v3 v6:Option M} (hx:x= .tup (rM row)∨x= .lst (rM row)) (hl:row.length≤40) (hn:Rg row ns)
 (k:∀ks ρ,Rg row ks→(∀k,k∈ks↔∃s∈ns,Star (FZ row w) s k)→ρ[4]? =some (some (.lst (ks.map M.int)))→S (.nx ρ) h):
 Ens (F0 (tV (AG JW (DW [none,some 4] (iL (A2 5)) (BI 0) (tV (AG CP (A2 0) (A2 1))) (A2 0)) (HV A5))) (AJ (B2 (AB mLboth (A1 (A2 4) (A1 (A2 5) A5))) (BI 4))
  (B2 (AB f (A1 (AG BH (A2 0) (mC (.int 1))) (A1 (A2 1) (A1 (A2 5) A5)))) (BI 5))) 1000000
  [some (.tup [.str "again",wM w]),some x,some (.lst (ns.map M.int)),v3,some (.lst []),some (.lst (ns.map M.int)),v6] h) S:=by
 refine IK (fun n ρ h'=>∃found here:List Int,ρ=[some (.tup [.str "again",wM w]),some x,some (.lst (ns.map M.int)),v3,some (.lst (found.map M.int)),some (.lst (here.map M.int)),v6]∧h'=h∧Rg row found∧Rg row here∧
  (∀k∈ns,k∈found∨k∈here)∧(∀k,k∈found∨k∈here→∃s∈ns,Star (FZ row w) s k)∧(∀k∈found,∀j,FZ row w k j→j∈found∨j∈here)∧n=XM found) ?_ (n:=XM []) (by have:=eV [];omega)
  ⟨[],ns,rfl,rfl,⟨by simp,fun k hk=>by simp at hk⟩,hn,fun _ h=> .inr h,fun k hk=>⟨k,hk.elim (fun z=>by simp at z) id, .refl k⟩,fun k hk=>by simp at hk,rfl⟩
 rintro n ρ h' ⟨found,here,rfl,rfl,hfo,hhe,i1,i2,i3,rfl⟩
 walk_at "es"
 refine UM ?_
 refine BG rfl ⟨_,rfl,?_⟩
 refine⟨by rw[List.length_map];have:=hhe.1;omega,?_⟩
 refine HC (bR fun i=> !decide (i∈found)) id (fun y hy=> ?_) ?_
 ·obtain⟨i,hi,rfl⟩:=List.mem_map.1 hy
  refine EA ⟨rfl,?_⟩
  walk_at "es"
  refine TR ?_
  refine FX ⟨rfl,rfl,fun _=> ?_⟩
  exact BG rfl ⟨rfl,rfl⟩
 ·rw[J7,List.map_id]
  walk_at "v"
  refine j3 ?_
  refine FX ?_
  refine BM (fun hc=> ?_) (fun hc=> ?_)
  ·have hne:∃j,j∈here∧j∉found:=by
    cases hq:here.filter (fun i=> !decide (i∈found)) with
    |nil=>rw[hq]at hc;cases hc
    |cons j l=>
     obtain⟨h1,h2⟩:=List.mem_filter.1 (show j∈here.filter (fun i=> !decide (i∈found)) by rw[hq];simp)
     exact⟨j,h1,by simpa using h2⟩
   obtain⟨j,hj1,hj2⟩:=hne
   have hup:∀j,j∈L2.FV (found++here)↔j∈found∨j∈here:=fun j=>M0 hfo hhe hl
   have hlt:=fB (fun k hk=>(hup k).2 (.inl hk)) (hhe.small hl j hj1) ((hup j).2 (.inr hj1)) hj2
   walk_at "v"
   refine cQ hl hfo hhe ?_
   walk_at "v"
   refine hf h' x here _ hx hl hhe fun ks hk hm=> ?_
   walk_at "v"
   refine⟨_,hlt,L2.FV (found++here),ks,rfl,rfl,Rg.up (Rg.app hfo hhe),hk,fun k hk=> .inl ((hup k).2 (i1 k hk)),?_,?_,rfl⟩
   ·rintro k (g|g)
    ·exact i2 k ((hup k).1 g)
    ·obtain⟨s,hs,hr⟩:=(hm k).1 g
     obtain⟨s0,h0,st⟩:=i2 s (.inr hs)
     exact⟨s0,h0, .tail st hr⟩
   ·intro k hk l hr
    rcases(hup k).1 hk with g|g
    ·exact .inl ((hup l).2 (i3 k g l hr))
    ·exact .inr ((hm l).2 ⟨k,g,hr⟩)
  ·have hall:∀j∈here,j∈found:=fun j hj=>by
    by_cases e:j∈found
    ·exact e
    ·have:j∈here.filter (fun i=> !decide (i∈found)):=List.mem_filter.2 ⟨hj,by simp[e]⟩
     rw[show here.filter (fun i=> !decide (i∈found))=[] by simpa using hc]at this
     cases this
   refine k found _ hfo (fun j=>⟨fun hj=>i2 j (.inl hj),?_⟩) rfl
   rintro⟨s,hs,st⟩
   induction st with
   |refl=>exact(i1 _ hs).elim id (hall _)
   |tail _ hr ih=>exact(i3 _ ih _ hr).elim id (hall _)
theorem xM {f:FF} {row:Rw} {w:Wy} {lo hi:Nat} (hf:t0 f row w) {h:AA} {x:M} {ns:List Int} {S:Out→AA→Prop} {v3 v6:Option M} (hhi:hi≤1000) (hx:x= .tup (rM row)∨x= .lst (rM row)) (hl:row.length≤40) (hn:Rg row ns)
 (k:∀ks ρ,Rg row ks→(∀k,k∈ks↔∃s∈ns,FZ row (.many w lo hi) s k)→ρ[4]? =some (some (.lst (ks.map M.int)))→S (.nx ρ) h):
 Ens (GB (kZ (A1 (AG AW (AG BH (A2 0) (mC (.int 3))) (mC (.int 1))) A5)) (BI 6) (AJ (CV (tV (AG W8 (A2 6) (AG BH (A2 0) (mC (.int 2))))) (B2 (AB mLboth (A1 (A2 4) (A1 (A2 5) A5))) (BI 4)) AT)
  (B2 (AB f (A1 (AG BH (A2 0) (mC (.int 1))) (A1 (A2 1) (A1 (A2 5) A5)))) (BI 5)))
  [some (.tup [.str "many",wM w, .int lo, .int hi]),some x,some (.lst (ns.map M.int)),v3,some (.lst []),some (.lst (ns.map M.int)),v6] h) S:=by
 walk_at "w"
 refine UB ?_
 walk_at "w"
 refine⟨(hi:Int)+1,rfl,by omega,?_⟩
 refine GF (fun i ρ h'=>∃found here:List Int,∃v,ρ=[some (.tup [.str "many",wM w, .int lo, .int hi]),some x,some (.lst (ns.map M.int)),v3,some (.lst (found.map M.int)),some (.lst (here.map M.int)),v]∧h'=h∧Rg row found∧Rg row here∧
  (∀k,k∈here↔∃s∈ns,Pow (FZ row w) i s k)∧(∀k,k∈found↔∃s∈ns,∃n,lo≤n∧n<i∧Pow (FZ row w) n s k)) ?_ ?_ ?_
 ·refine⟨[],ns,_,rfl,rfl,⟨by simp,fun k hk=>by simp at hk⟩,hn,fun k=> ?_,fun k=> ?_⟩
  ·exact⟨fun hk=>⟨k,hk,rfl⟩,fun⟨s,hs,e⟩=>by cases e;exact hs⟩
  ·exact⟨fun hk=>by simp at hk,fun⟨_,_,n,_,hn,_⟩=>by omega⟩
 ·rintro i y ρ h' hy ⟨found,here,v,rfl,rfl,hfo,hhe,q1,q2⟩
  have ey:y= .int (i:Int):=by
   rw[List.getElem?_map]at hy
   obtain⟨j,hj,rfl⟩:=Option.map_eq_some_iff.mp hy
   obtain⟨hlt,ej⟩:=List.getElem?_eq_some_iff.1 hj
   rw[List.getElem_range]at ej
   rw[ej]
  subst ey
  walk_at "es"
  have tail:∀found',Rg row found'→(∀k,k∈found'↔∃s∈ns,∃n,lo≤n∧n<i+1∧Pow (FZ row w) n s k)→Ens (B2 (AB f (A1 (AG BH (A2 0) (mC (.int 1))) (A1 (A2 1) (A1 (A2 5) A5)))) (BI 5)
   [some (.tup [.str "many",wM w, .int lo, .int hi]),some x,some (.lst (ns.map M.int)),v3,some (.lst (found'.map M.int)),some (.lst (here.map M.int)),some (.int (i:Int))] h')
   (LQ (fun ρ h''=>∃found here:List Int,∃v,ρ=[some (.tup [.str "many",wM w, .int lo, .int hi]),some x,some (.lst (ns.map M.int)),v3,some (.lst (found.map M.int)),some (.lst (here.map M.int)),v]∧h''=h'∧Rg row found∧Rg row here∧
     (∀k,k∈here↔∃s∈ns,Pow (FZ row w) (i+1) s k)∧(∀k,k∈found↔∃s∈ns,∃n,lo≤n∧n<i+1∧Pow (FZ row w) n s k)) S):=fun found' g1 g2=>by
   walk_at "w"
   refine hf h' x here _ hx hl hhe fun ks hk hm=> ?_
   walk_at "w"
   refine⟨found',ks,_,rfl,rfl,g1,hk,fun j=> ?_,g2⟩
   rw[hm j]
   constructor
   ·rintro⟨s,hs,hr⟩
    obtain⟨s0,h0,hp⟩:=(q1 s).1 hs
    exact⟨s0,h0,s,hp,hr⟩
   ·rintro⟨s0,h0,s,hp,hr⟩
    exact⟨s,(q1 s).2 ⟨s0,h0,hp⟩,hr⟩
  walk_at "w"
  refine BM (fun hc=> ?_) (fun hc=> ?_)
  ·have hlo:lo≤i:=by have:=of_decide_eq_true hc;omega
   walk_at "w"
   refine cQ hl hfo hhe ?_
   walk_at "e"
   walk_at "e"
   refine tail _ (Rg.up (Rg.app hfo hhe)) fun j=> ?_
   rw[M0 hfo hhe hl,q1 j,q2 j]
   constructor
   ·rintro(⟨s,hs,n,a,b,c⟩|⟨s,hs,c⟩)
    ·exact⟨s,hs,n,a,by omega,c⟩
    ·exact⟨s,hs,i,hlo,by omega,c⟩
   ·rintro⟨s,hs,n,a,b,c⟩
    by_cases e:n=i
    ·subst e;exact .inr ⟨s,hs,c⟩
    ·exact .inl ⟨s,hs,n,a,by omega,c⟩
  ·have hlo:¬lo≤i:=by have:=of_decide_eq_false hc;omega
   walk_at "e"
   walk_at "e"
   refine tail found hfo fun j=> ?_
   rw[q2 j]
   exact⟨fun⟨s,hs,n,a,b,c⟩=>⟨s,hs,n,a,by omega,c⟩,fun⟨s,hs,n,a,b,c⟩=>by omega⟩
 ·rintro ρ h' ⟨found,here,v,rfl,rfl,hfo,hhe,q1,q2⟩
  have hlen:((List.range ((hi:Int)+1).toNat).map fun(i:Nat)=>M.int (i:Int)).length=hi+1:=by simp
  rw[hlen]at q2
  refine k found _ hfo (fun j=> ?_) rfl
  rw[q2 j]
  exact⟨fun⟨s,hs,n,a,b,c⟩=>⟨s,hs,n,a,by omega,c⟩,fun⟨s,hs,n,a,b,c⟩=>⟨s,hs,n,a,by omega,c⟩⟩
theorem T8 {row:Rw}:∀(n:Nat) (w:Wy),deep w≤n→CZ w→t0 (mLends n) row w
 |0,w,hd,_=>by exfalso;cases w<;>simp[deep]at hd
 |n+1,w,hd,hw=>by
  intro h x ns R hx hl hn k
  have ih:=fun w' (h':deep w'≤n) (h2:CZ w')=>T8 (row:=row) n w' h' h2
  show Ens (B5 3 4 (bLends (mLends n)) _ h) R
  cases w with
  |emp=>
   show Ens (B5 3 4 (bLends (mLends n)) [.tup [.str "empty"],x, .lst (ns.map M.int)] h) R
   refine AV rfl ?_
   unfold bLends
   walk_at "v"
   exact k ns hn fun j=>⟨fun hj=>⟨j,hj,rfl⟩,fun⟨s,hs,e⟩=>by cases e;exact hs⟩
  |step kd t=>
   show Ens (B5 3 4 (bLends (mLends n)) [.tup [.str "step",oM kd, .str t],x, .lst (ns.map M.int)] h) R
   refine AV rfl ?_
   unfold bLends
   walk_at "v"
   refine UM ?_
   walk_at "v"
   refine⟨_,rfl,by rw[List.length_map];have:=hn.1;omega,?_⟩
   obtain⟨g1,g2⟩:=SK (k:=kd) (t:=t) hn
   refine HC (bR (GL row kd t)) o5 (fun y hy=> ?_) ?_
   ·obtain⟨i,hi,rfl⟩:=List.mem_map.1 hy
    have hr:=hn.2 i hi
    refine EA ⟨rfl,?_⟩
    have key:Ens ((HX (tV (AG KY (A2 0) (E3 DH (A1 (A2 2) A5)))) (tV (AB mLof (A1 (A2 1) (A1 (AG BH (A2 2) (A2 0)) A5)))))
     [some (.int i),some (wM (.step kd t)),some x] h) fun t' h2=>h2=h∧t'=GL row kd t i:=by
     have YU:∀{R:M→Prop},R (.int row.length)→Enp (DH [x] h) R:=fun{R} q=>by
      rcases hx with rfl|rfl
      ·exact OM (by rw[CK];exact q)
      ·exact QA (by rw[CK];exact q)
     walk_at "es"
     refine YU ?_
     refine WN ?_
     refine FX ?_
     refine BM (fun hc=> ?_) (fun hc=> ?_)
     ·have hlt:=of_decide_eq_true hc
      have hnat:i.toNat<row.length:=by omega
      have hp:row[i.toNat]? =some row[i.toNat]:=List.getElem?_eq_getElem hnat
      have ixq:∀{R:M→Prop},R (pM row[i.toNat])→Enp (BH x (.int i) h) R:=fun{R} q=>by
       rcases hx with rfl|rfl
       ·exact gQ (XR hr.1 hp) q
       ·exact b9 (XR hr.1 hp) q
      walk_at "es"
      refine ixq ?_
      refine CO ?_
      refine oQ ?_
      refine FX ⟨rfl,?_⟩
      unfold GL
      rw[hc,hp];rfl
     ·refine⟨rfl,?_⟩
      unfold GL
      rw[hc];rfl
    refine key.mono fun t' h2 ⟨e1,e2⟩=>⟨e1,e2,fun _=> ?_⟩
    subst e1
    refine VH ?_
    refine BG rfl ?_
    refine c9 ?_
    exact NA ⟨rfl,rfl⟩
   ·rw[J7,T1]
    walk_at "v"
    exact k _ g1 g2
  |again w=>
   have hd':deep w≤n:=by simp[deep]at hd;omega
   show Ens (B5 3 4 (bLends (mLends n)) [.tup [.str "again",wM w],x, .lst (ns.map M.int)] h) R
   refine AV rfl ?_
   unfold bLends
   walk_at "v"
   refine o7 (v0:=none) (ih w hd' hw) hx hl hn fun ks ρ hk hm e=> ?_
   walk_at "v"
   refine BG e ?_
   walk_at "v"
   exact k ks hk hm
  |many w lo hi=>
   have hd':deep w≤n:=by simp[deep]at hd;omega
   show Ens (B5 3 4 (bLends (mLends n)) [.tup [.str "many",wM w, .int lo, .int hi],x, .lst (ns.map M.int)] h) R
   refine AV rfl ?_
   unfold bLends
   walk_at "u"
   refine xM (ih w hd' hw.1) (by have:=hw.2.2;omega) hx hl hn fun ks ρ hk hm e=> ?_
   walk_at "v"
   refine BG e ?_
   walk_at "v"
   exact k ks hk hm
  |thn a b=>
   have hd':deep a≤n∧deep b≤n:=by simp[deep]at hd;omega
   show Ens (B5 3 4 (bLends (mLends n)) [.tup [.str "then",wM a,wM b],x, .lst (ns.map M.int)] h) R
   refine AV rfl ?_
   unfold bLends
   walk_at "v"
   refine ih a hd'.1 hw.1 h x ns _ hx hl hn fun ms hm h1=> ?_
   walk_at "v"
   exact ih b hd'.2 hw.2 h x ms _ hx hl hm fun ks hk h2=>k ks hk (XS h1 h2)
  |alt a b=>
   have hd':deep a≤n∧deep b≤n:=by simp[deep]at hd;omega
   show Ens (B5 3 4 (bLends (mLends n)) [.tup [.str "or",wM a,wM b],x, .lst (ns.map M.int)] h) R
   refine AV rfl ?_
   unfold bLends
   walk_at "v"
   refine ih a hd'.1 hw.1 h x ns _ hx hl hn fun ms hm h1=> ?_
   walk_at "v"
   refine ih b hd'.2 hw.2 h x ns _ hx hl hn fun ks hk h2=> ?_
   walk_at "v"
   exact cQ hl hm hk (k _ (Rg.up (Rg.app hm hk)) fun j=>by rw[M0 hm hk hl];exact WX h1 h2 j)
local macro_rules| `(tactic|walk_at "s")=> `(tactic|repeat (first|walk_at "x"|(with_reducible refine DG (by decide+kernel) ?_)|(with_reducible refine G9 (by decide+kernel) ?_)|(with_reducible refine⟨_,rfl,?_⟩)))
open Classical in
noncomputable def T (row:Rw) (w:Wy):Bool:=decide (FZ row w 0 row.length)
theorem rg0 (row:Rw):Rg row [0]:=⟨by simp,fun k hk=>by simp at hk;subst hk;omega⟩
theorem vA {row:Rw} {w:Wy} {ks:List Int} (hm:∀k,k∈ks↔∃s∈[(0:Int)],FZ row w s k):decide ((row.length:Int)∈ks)=T row w:=by
 unfold T
 classical
 rw[Bool.eq_iff_iff,decide_eq_true_eq,decide_eq_true_eq,hm]
 simp
theorem YU {row:Rw} {x:M} {h:AA} {R:M→Prop} (hx:x= .tup (rM row)∨x= .lst (rM row)) (q:R (.int row.length)):Enp (DH [x] h) R:=by
 rcases hx with rfl|rfl
 ·exact OM (by rw[CK];exact q)
 ·exact QA (by rw[CK];exact q)
theorem NF {row:Rw} {w:Wy} {x:M} {h:AA} {R:M→AA→Prop} (hd:deep w≤24) (hw:CZ w) (hx:x= .tup (rM row)∨x= .lst (rM row)) (hl:row.length≤40) (k:R (.bl (T row w)) h):Ens (m_tells [wM w,x] h) R:=by
 refine AV rfl ?_
 unfold b_tells
 walk_at "x"
 walk_at "x"
 walk_at "x"
 walk_at "x"
 refine BG rfl ?_
 walk_at "x"
 refine YU hx ?_
 walk_at "x"
 walk_at "x"
 refine BG rfl ?_
 walk_at "x"
 refine BG rfl ?_
 walk_at "x"
 walk_at "x"
 walk_at "x"
 walk_at "x"
 walk_at "x"
 walk_at "x"
 walk_at "x"
 refine YA 24 w hd hw h x [0] _ hx hl (rg0 row) fun ks hk hm=> ?_
 refine mB ?_
 rw[vA hm]
 exact k
theorem aF {row:Rw} {w:Wy} {x:M} {h:AA} {R:M→AA→Prop} (hd:deep w≤12) (hw:CZ w) (hx:x= .tup (rM row)∨x= .lst (rM row)) (hl:row.length≤40) (k:R (.bl (T row w)) h):Ens (mLtells [wM w,x] h) R:=by
 refine AV rfl ?_
 unfold bLtells
 walk_at "x"
 walk_at "x"
 walk_at "x"
 walk_at "x"
 refine BG rfl ?_
 walk_at "x"
 refine YU hx ?_
 walk_at "x"
 walk_at "x"
 refine BG rfl ?_
 walk_at "x"
 refine BG rfl ?_
 walk_at "x"
 walk_at "x"
 walk_at "x"
 walk_at "x"
 walk_at "x"
 walk_at "x"
 walk_at "x"
 refine T8 12 w hd hw h x [0] _ hx hl (rg0 row) fun ks hk hm=> ?_
 refine mB ?_
 rw[vA hm]
 exact k
def BoxAt (h:AA) (p:Nat×AA) (c:Nat):Prop:=∃a b:Int,∃n:Nat,h[p.1]? =some (.lst [.int a, .int b, .int n])∧0≤a∧0≤b∧b<4000000000000000000∧n≤c∧Kp p.1 p.2 h
theorem BoxAt.mono {h:AA} {p:Nat×AA} {c c':Nat} (b:BoxAt h p c) (hc:c≤c'):BoxAt h p c':=by
 obtain⟨a,b,n,h1,h2,h3,h4,h5,h6⟩:=b
 exact⟨a,b,n,h1,h2,h3,h4,by omega,h6⟩
theorem BK {h:AA} {p:Nat×AA} {c:Nat} {many:Int} {R:M→AA→Prop} (hh:BoxAt h p c) (m1:0<many) (m2:many<1073741824) (m3:c<1000000)
 (k:∀r h',0≤r→r<many→BoxAt h' p (c+1)→R (.int r) h'):Ens (mLtake [.ref p.1, .int many] h) R:=by
 obtain⟨a,b,n,e,ha,hb,hb2,hnc,hkp⟩:=hh
 refine AV rfl ?_
 unfold bLtake
 walk_at "es"
 refine KO e rfl ?_
 walk_at "es"
 refine BM (fun _=> ?_) (fun _=> ?_)
 ·walk_at "es"
  refine KO e rfl ?_
  walk_at "es"
  refine KO e rfl ?_
  walk_at "es"
  refine mU (k:=p.1) (j:=0) rfl rfl e rfl fun h1 e1 k1=> ?_
  walk_at "es"
  exact k _ _ (Int.emod_nonneg _ (by omega)) (Int.emod_lt_of_pos _ m1) ⟨_,b,n,e1,Int.ediv_nonneg ha (by omega),hb,hb2,by omega,hkp.trans k1⟩
 ·walk_at "es"
  refine KO e rfl ?_
  walk_at "es"
  refine mU (k:=p.1) (j:=2) rfl rfl e rfl fun h1 e1 k1=> ?_
  replace e1:h1[p.1]? =some (.lst [.int a, .int b, .int ((n:Int)+1)]):=e1
  walk_at "es"
  refine KO e1 rfl ?_
  walk_at "es"
  refine KO e1 rfl ?_
  have hn1:(0:Int)≤(n:Int)+1∧(n:Int)+1<1000002:=by omega
  generalize hq:(n:Int)+1=q at hn1 e1
  walk_at "e"
  walk_at "e"
  walk_at "e"
  walk_at "e"
  walk_at "e"
  walk_at "e"
  walk_at "e"
  walk_at "e"
  walk_at "e"
  walk_at "es"
  exact k _ _ (Int.emod_nonneg _ (by omega)) (Int.emod_lt_of_pos _ m1) ⟨a,b,n+1,(by show h1[p.1]? =some (.lst [.int a, .int b, .int ((n:Int)+1)]);rw[hq];exact e1),ha,hb,hb2,by omega,hkp.trans k1⟩
def PR (xs:List M):Prop:=(∀x∈xs,∃z∈ZN,x= .str z)∧1≤xs.length∧xs.length≤8
def IA:List M:=[.str "knows", .str "a", .str "aa", .str "zebra", .str "empty", .str "quartzes", .str "again", .str "likes"]
def A1I (x:M):Bool:=match x with| .str z=>ZN.any (· ==z)|_=>false
def XX (r m:Nat):Bool:=let ys:=DB (DB IA (some (r:Int)) none++DB IA none (some (r:Int))) none (some (m:Int));ys.all A1I&&decide (1≤ys.length)&&decide (ys.length≤8)&&decide ((DB IA (some (r:Int)) none).length+(DB IA none (some (r:Int))).length≤16777216)
theorem Z5:(List.range 8).all (fun r=>(List.range 9).all fun m=>m==0||XX r m)=true:=by decide+kernel
theorem TU {r m:Int} (h0:0≤r) (h1:r<8) (h2:1≤m) (h3:m≤8):PR (DB (DB IA (some r) none++DB IA none (some r)) none (some m))∧(DB IA (some r) none).length+(DB IA none (some r)).length≤16777216:=by
 obtain⟨a,rfl⟩:=Int.eq_ofNat_of_zero_le h0
 obtain⟨b,rfl⟩:=Int.eq_ofNat_of_zero_le (show 0≤m by omega)
 have:=List.all_eq_true.1 (List.all_eq_true.1 Z5 a (List.mem_range.2 (by omega))) b (List.mem_range.2 (by omega))
 rw[Bool.or_eq_true,beq_iff_eq]at this
 rcases this with e|e
 ·omega
 ·unfold XX at e
  simp only[Bool.and_eq_true,decide_eq_true_eq]at e
  obtain⟨⟨⟨e1,e2⟩,e3⟩,e4⟩:=e
  refine⟨⟨fun x hx=> ?_,e2,e3⟩,e4⟩
  have:=List.all_eq_true.1 e1 x hx
  cases x with
  |str z=>
   obtain⟨y,hy,e⟩:=List.any_eq_true.1 (show ZN.any (· ==z)=true from this)
   exact⟨z,by rw[←eq_of_beq e];exact hy,rfl⟩
  |_=>cases this
theorem eB {h:AA} {p:Nat×AA} {c:Nat} {R:M→AA→Prop} (hh:BoxAt h p c) (hc:c<900000) (k:∀xs h',PR xs→BoxAt h' p (c+4)→R (.lst xs) h'):Ens (mLkinds [.ref p.1] h) R:=by
 refine AV rfl ?_
 unfold bLkinds
 walk_at "v"
 refine BK hh (by decide) (by decide) (by omega) fun r h1 r0 r1 b1=> ?_
 walk_at "v"
 refine BK b1 (by decide) (by decide) (by omega) fun r2 h2 r20 r21 b2=> ?_
 walk_at "v"
 refine BK b2 (by decide) (by decide) (by omega) fun r3 h3 r30 r31 b3=> ?_
 walk_at "v"
 refine BM (fun _=> ?_) (fun _=> ?_)
 ·walk_at "v"
  refine BK b3 (by decide) (by decide) (by omega) fun r4 h4 r40 r41 b4=> ?_
  obtain⟨g1,g2⟩:=TU r0 r1 (m:=7+r4) (by omega) (by omega)
  walk_at "s"
  refine HZ g2 ?_
  walk_at "s"
  exact k _ h4 g1 b4
 ·obtain⟨g1,g2⟩:=TU r0 r1 (m:=1+r2) (by omega) (by omega)
  walk_at "s"
  refine HZ g2 ?_
  walk_at "s"
  exact k _ h3 g1 (b3.mono (by omega))
def yP:List M:=[.str "forth", .str "back", .str "either", .str "forth"]
theorem o3:∀x∈yP,∃t∈UP,x= .str t:=fun x hx=>by
 simp only[yP,List.mem_cons,List.not_mem_nil,or_false]at hx
 rcases hx with rfl|rfl|rfl|rfl<;>exact⟨_,by decide+kernel,rfl⟩
theorem XN {h:AA} {p:Nat×AA} {c:Nat} {xs:List M} {R:M→AA→Prop} (hk:PR xs) (hh:BoxAt h p c) (hc:c<900000) (k:∀w h',BoxAt h' p (c+3)→(w= .emp∨∃k t,w= .step k t∧(∀z,k=some z→z∈ZN∧ .str z∈xs)∧t∈UP)→R (wM w) h'):Ens (mLleaf [.ref p.1, .lst xs] h) R:=by
 refine AV rfl ?_
 unfold bLleaf
 walk_at "s"
 refine BK hh (by decide) (by decide) (by omega) fun r h1 r0 r1 b1=> ?_
 walk_at "s"
 refine BM (fun _=> ?_) (fun _=> ?_)
 ·walk_at "s"
  exact k .emp h1 (b1.mono (by omega)) (.inl rfl)
 ·walk_at "s"
  have hk2:=hk.2
  refine BK b1 (by omega) (by omega) (by omega) fun r2 h2 r20 r21 b2=> ?_
  refine bQ r20 r21 fun x hx=> ?_
  obtain⟨z,hz,rfl⟩:=hk.1 x hx
  have fin:∀(kd:Option Str) ρ,(∀z,kd=some z→z∈ZN∧ .str z∈xs)→ρ=[some (.ref p.1),some (.lst xs),some (.int r),some (oM kd)]→Ens (AY (BS (A1 (mC (.str "step")) (A1 (A2 3) (A1 (AG BH (BS (A1 (mC (.str "forth")) (A1 (mC (.str "back")) (A1 (mC (.str "either")) (A1 (mC (.str "forth")) A5))))) (AB mLtake (A1 (A2 0) (A1 (mC (.int 4)) A5)))) A5)))) ρ h2) (FQ R):=by
   rintro kd ρ hkd rfl
   walk_at "s"
   refine BK b2 (by decide) (by decide) (by omega) fun r3 h3 r30 r31 b3=> ?_
   refine K2 (xs:=yP) r30 (by simpa[yP]using r31) fun x hx=> ?_
   obtain⟨t,ht,rfl⟩:=o3 x hx
   walk_at "s"
   exact k (.step kd t) h3 b3 (.inr ⟨_,_,rfl,hkd,ht⟩)
  walk_at "x"
  walk_at "es"
  walk_at "s"
  refine BM (fun _=> ?_) (fun _=> ?_)
  ·refine SG ?_
   refine c9 ?_
   refine EA ?_
   refine CS ?_
   exact fin none _ (fun z e=>by cases e) rfl
  ·refine CN ?_
   refine CS ?_
   exact fin (some z) _ (fun y e=>by cases e;exact⟨hz,hx⟩) rfl
def sz:Wy→Nat
 | .emp=>1
 | .step _ _=>3
 | .again w=>3*sz w+1
 | .many w _ _=>6*sz w+1
 | .thn a b=>sz a+sz b+1
 | .alt a b=>sz a+sz b+1
def nd:Wy→Nat
 | .emp=>1
 | .step _ _=>1
 | .again w=>nd w+1
 | .many w _ _=>nd w+1
 | .thn a b=>nd a+nd b+1
 | .alt a b=>nd a+nd b+1
def cn:Wy→Nat
 | .emp=>0
 | .step _ _=>1
 | .again w=>cn w
 | .many w _ hi=>hi*cn w
 | .thn a b=>cn a+cn b
 | .alt a b=>cn a+cn b
def WK (xs:List M):Wy→Prop
 | .emp=>True
 | .step k _=>∀z,k=some z→ .str z∈xs
 | .again w=>WK xs w
 | .many w _ _=>WK xs w
 | .thn a b=>WK xs a∧WK xs b
 | .alt a b=>WK xs a∧WK xs b
def R6 (nest CW:Nat) (w:Wy):Prop:=sz w+1≤4*(6^nest)*CW∧nd w≤CW∧2*cn w≤5^nest*(CW+1)
def sF:List M:=[.str "then", .str "or"]
theorem M3 {p:Nat×AA} {xs:List M} (hk:PR xs):∀(n CW nest:Nat) {h:AA} {c:Nat} {R:M→AA→Prop},1≤CW→CW≤n→nest≤2→BoxAt h p c→c+10*CW<900000→
 (∀w h',BoxAt h' p (c+10*CW)→CZ w→deep w≤CW→R6 nest CW w→WK xs w→R (wM w) h')→Ens (mLway n [.ref p.1, .lst xs, .int CW, .int nest] h) R
 |0,CW,nest,h,c,R,h1,h2,_,_,_,_=>by omega
 |n+1,CW,nest,h,c,R,h1,h2,h3,hb,hc,k=>by
  show Ens (B5 4 5 (bLway (mLway n)) [.ref p.1, .lst xs, .int CW, .int nest] h) R
  refine AV rfl ?_
  unfold bLway
  walk_at "es"
  refine BK hb (by decide) (by decide) (by omega) fun how g1 w0 w1 b1=> ?_
  refine EA ?_
  refine CS ?_
  refine IW ?_
  have hn:nest=0∨nest=1∨nest=2:=by omega
  have leaf:∀{S:Out→AA→Prop},(∀d h',R d h'→S (.rt d) h')→Ens (AY (AB mLleaf (A1 (A2 0) (A1 (A2 1) A5))) [some (.ref p.1),some (.lst xs),some (.int CW),some (.int nest),some (.int how),none,none,none,none] g1) S:=fun hS=>by
   refine TX ?_
   walk_at "s"
   refine XN hk b1 (by omega) fun w h' b' hw=>hS _ _ ?_
   refine k w h' (b'.mono (by omega)) ?_ ?_ ?_ ?_
   ·rcases hw with rfl|⟨_,_,rfl,q⟩
    ·trivial
    ·exact⟨fun z e=>(q.1 z e).1,q.2⟩
   ·rcases hw with rfl|⟨_,_,rfl,_⟩<;>exact h1
   ·unfold R6
    rcases hn with rfl|rfl|rfl<;>rcases hw with rfl|⟨_,_,rfl,_⟩<;>simp[sz,nd,cn]<;>omega
   ·rcases hw with rfl|⟨_,_,rfl,q⟩
    ·trivial
    ·exact fun z e=>(q.1 z e).2
  refine PJ ?_
  refine Ens.mono (Q:=fun t h2=>h2=g1∧t=(decide ((CW:Int)<2)||(decide (how<2)||(decide ((CW:Int)<3)&&((nest:Int)==0))))) ?_ ?_
  ·refine bP ?_
   walk_at "s"
   refine BM (fun e1=>⟨rfl,by rw[e1];rfl⟩) (fun e1=> ?_)
   refine bP ?_
   walk_at "s"
   refine BM (fun e2=>⟨rfl,by rw[e1,e2];rfl⟩) (fun e2=> ?_)
   refine WH ?_
   walk_at "s"
   refine BM (fun e3=> ?_) (fun e3=>⟨rfl,by rw[e1,e2,e3];rfl⟩)
   walk_at "s"
   exact⟨rfl,by rw[e1,e2,e3];rfl⟩
  rintro t h2 ⟨rfl,et⟩
  refine BM (fun _=>leaf fun d h' q=>q) (fun e=> ?_)
  rw[e]at et
  have room2:2≤CW∧(CW<3→nest≠0):=by simp at et;omega
  refine CN ?_
  refine CS ?_
  refine IW ?_
  refine PJ ?_
  refine Ens.mono (Q:=fun t h'=>h'=h2∧t=((decide (how<4)||decide ((CW:Int)<3))&&decide ((0:Int)<nest))) ?_ ?_
  ·walk_at "es"
   walk_at "s"
   refine BM (fun e1=> ?_) (fun e1=> ?_)
   ·refine mW ?_
    walk_at "s"
    exact⟨rfl,by rw[e1];rfl⟩
   ·walk_at "s"
    refine BM (fun e2=> ?_) (fun e2=>⟨rfl,by rw[e1,e2];rfl⟩)
    walk_at "s"
    exact⟨rfl,by rw[e1,e2];rfl⟩
  rintro t h3' ⟨rfl,et2⟩
  refine BM (fun e2=> ?_) (fun e2=> ?_)
  ·rw[e2]at et2
   have hne:0<nest:=by simp at et2;omega
   walk_at "s"
   rw[show(CW:Int)-1=((CW-1:Nat):Int) by omega,show(nest:Int)-1=((nest-1:Nat):Int) by omega]
   refine M3 hk n (CW-1) (nest-1) (by omega) (by omega) (by omega) b1 (by omega) fun w h' b' hw hd hf hx=> ?_
   walk_at "s"
   refine k (.again w) h' (b'.mono (by omega)) hw (by simp[deep];omega) ?_ hx
   unfold R6 at hf⊢
   rcases hn with rfl|rfl|rfl
   ·omega
   ·simp[sz,nd,cn]at hf⊢;omega
   ·simp[sz,nd,cn]at hf⊢;omega
  ·rw[e2]at et2
   have room3:3≤CW:=by simp at et2;omega
   refine CN ?_
   refine CS ?_
   refine IW ?_
   refine PJ ?_
   refine Ens.mono (Q:=fun t h'=>h'=h3'∧t=((how==4)&&decide ((0:Int)<nest))) ?_ ?_
   ·refine WH ?_
    walk_at "s"
    refine BM (fun e1=> ?_) (fun e1=>⟨rfl,by rw[e1];rfl⟩)
    walk_at "s"
    exact⟨rfl,by rw[e1];rfl⟩
   rintro t h4 ⟨rfl,et3⟩
   refine BM (fun e3=> ?_) (fun e3=> ?_)
   ·rw[e3]at et3
    have hne:0<nest:=by simp at et3;omega
    walk_at "s"
    refine BK b1 (by decide) (by decide) (by omega) fun lo g2 l0 l1 b2=> ?_
    obtain⟨lo,rfl⟩:=Int.eq_ofNat_of_zero_le l0
    walk_at "s"
    refine BK b2 (by decide) (by decide) (by omega) fun q g3 q0 q1 b3=> ?_
    refine K2 (xs:=[.int 2, .int 2, .int 4]) q0 (by simpa using q1) fun y hy=> ?_
    have hy':∃z:Int,y= .int z∧2≤z∧z≤4:=by
     simp only[List.mem_cons,List.not_mem_nil,or_false]at hy
     rcases hy with rfl|rfl|rfl<;>exact⟨_,rfl,by decide,by decide⟩
    obtain⟨z,rfl,z0,z1⟩:=hy'
    walk_at "s"
    refine BK b3 (by omega) (by omega) (by omega) fun u g4 u0 u1 b4=> ?_
    obtain⟨u,rfl⟩:=Int.eq_ofNat_of_zero_le u0
    walk_at "s"
    rw[show(CW:Int)-1=((CW-1:Nat):Int) by omega,show(nest:Int)-1=((nest-1:Nat):Int) by omega]
    refine M3 hk n (CW-1) (nest-1) (by omega) (by omega) (by omega) b4 (by omega) fun w h' b' hw hd hf hx=> ?_
    walk_at "s"
    refine k (.many w lo (lo+u)) h' (b'.mono (by omega)) ⟨hw,by omega,by omega⟩ (by simp[deep];omega) ?_ hx
    unfold R6 at hf⊢
    have hq:=Nat.mul_le_mul_right (cn w) (show lo+u≤5 by omega)
    rcases hn with rfl|rfl|rfl
    ·omega
    ·simp[sz,nd,cn]at hf⊢;omega
    ·simp[sz,nd,cn]at hf⊢;omega
   ·walk_at "es"
    walk_at "s"
    refine BK b1 (by omega) (by omega) (by omega) fun lf g2 l0 l1 b2=> ?_
    obtain⟨lf,rfl⟩:=Int.eq_ofNat_of_zero_le l0
    walk_at "s"
    rw[show(1:Int)+(lf:Int)=((1+lf:Nat):Int) by omega]
    refine M3 hk n (1+lf) nest (by omega) (by omega) h3 b2 (by omega) fun a g3 b3 wa da fa xa=> ?_
    walk_at "s"
    refine K2 (xs:=sF) (Int.emod_nonneg _ (by decide)) (Int.emod_lt_of_pos _ (by decide)) fun y hy=> ?_
    walk_at "s"
    rw[show(CW:Int)-1-((1+lf:Nat):Int)=((CW-1-(1+lf):Nat):Int) by omega]
    refine M3 hk n (CW-1-(1+lf)) nest (by omega) (by omega) h3 b3 (by omega) fun b g4 b4 wb db fb xb=> ?_
    walk_at "s"
    have hfit:sz a+sz b+1+1≤4*6^nest*CW∧nd a+nd b+1≤CW∧2*(cn a+cn b)≤5^nest*(CW+1):=by
     unfold R6 at fa fb
     rcases hn with rfl|rfl|rfl<;>simp at fa fb⊢<;>omega
    simp only[sF,List.mem_cons,List.not_mem_nil,or_false]at hy
    rcases hy with rfl|rfl
    ·exact k (.thn a b) g4 (b4.mono (by omega)) ⟨wa,wb⟩ (by simp[deep];omega) hfit ⟨xa,xb⟩
    ·exact k (.alt a b) g4 (b4.mono (by omega)) ⟨wa,wb⟩ (by simp[deep];omega) hfit ⟨xa,xb⟩
local macro_rules| `(tactic|walk_at "u")=> `(tactic|repeat ((fail_if_success with_reducible refine PC ?_);first|walk_at "x"|(with_reducible refine DG (by decide+kernel) ?_)|(with_reducible refine G9 (by decide+kernel) ?_)|(with_reducible refine⟨_,rfl,?_⟩)))
def BF:Wy→Nat
 | .emp=>0
 | .step _ _=>1
 | .again _=>0
 | .many w lo _=>lo*BF w
 | .thn a b=>BF a+BF b
 | .alt a b=>min (BF a) (BF b)
def FB (row:Rw):Prop:=∀p∈row,p.2= "forth" ∨p.2= "back"
theorem FB.app {a b:Rw} (ha:FB a) (hb:FB b):FB (a++b):=fun p hp=>(List.mem_append.1 hp).elim (ha p) (hb p)
def FK (xs:List M) (row:Rw):Prop:=FB row∧∀p∈row,M.str p.1∈xs++[.str "strange"]
theorem FK.app {xs:List M} {a b:Rw} (ha:FK xs a) (hb:FK xs b):FK xs (a++b):=⟨ha.1.app hb.1,fun p hp=>(List.mem_append.1 hp).elim (ha.2 p) (hb.2 p)⟩
theorem VY (a b:Rw):rM a++rM b=rM (a++b):=by unfold rM;rw[List.map_append]
theorem QN {f:FF} {p:Nat×AA} {xs ws:List M} {w:Wy} {m c:Nat} {h:AA} {R:M→AA→Prop} {v3 v4 v5:Option M} (hm:m≤6) (hs:sz w≤10000) (hb:BoxAt h p c) (hc:c+m*sz w<900000)
 (hq:0<m→ws[1]? =some (wM w)∧∀{h:AA} {c:Nat} {R:M→AA→Prop},BoxAt h p c→c+sz w<900000→(∀row h',BoxAt h' p (c+sz w)→row.length≤sz w→BF w≤row.length→FK xs row→R (.tup (rM row)) h')→Ens (f [.ref p.1,wM w, .lst xs] h) R)
 (k:∀row h',BoxAt h' p (c+m*sz w)→row.length≤m*sz w→m*BF w≤row.length→FK xs row→R (.tup (rM row)) h'):
 Ens (GB (kZ (A1 (A2 6) A5)) (BI 5) (B2 (AG AW (A2 7) (AB f (A1 (A2 0) (A1 (AG BH (A2 1) (mC (.int 1))) (A1 (A2 2) A5))))) (BI 7))
  [some (.ref p.1),some (.tup ws),some (.lst xs),v3,v4,v5,some (.int m),some (.tup [])] h) (SQ (AY (A2 7)) (FQ R)):=by
 walk_at "x"
 refine UB ?_
 walk_at "x"
 walk_at "x"
 walk_at "x"
 refine⟨(m:Int),rfl,by omega,?_⟩
 refine GF (fun i ρ h'=>∃row v,ρ=[some (.ref p.1),some (.tup ws),some (.lst xs),v3,v4,v,some (.int m),some (.tup (rM row))]∧BoxAt h' p (c+i*sz w)∧row.length≤i*sz w∧i*BF w≤row.length∧FK xs row) ⟨[],_,rfl,by simpa using hb,by simp,by simp,⟨fun p hp=>(by cases hp),fun p hp=>(by cases hp)⟩⟩ ?_ ?_
 ·rintro i y ρ h' hy ⟨row,v,rfl,b,hr,hL,hF⟩
  have hi:i<m:=by
   have:=(List.getElem?_eq_some_iff.1 hy).1
   simpa using this
  have h6:(i+1)*sz w≤m*sz w:=Nat.mul_le_mul_right _ (by omega)
  have h5:m*sz w≤6*10000:=Nat.mul_le_mul hm hs
  have h7:(i+1)*sz w=i*sz w+sz w:=Nat.succ_mul _ _
  have h8:(i+1)*BF w=i*BF w+BF w:=Nat.succ_mul _ _
  obtain⟨q1,q2⟩:=hq (by omega)
  walk_at "es"
  refine eI (j:=1) q1 ?_
  walk_at "es"
  refine q2 b (by omega) fun r2 h2 b2 l2 L2 F2=> ?_
  refine N7 (by rw[CK,CK];omega) ?_
  rw[VY]
  refine EA ?_
  refine⟨row++r2,_,rfl,b2.mono (by omega),by rw[List.length_append];omega,by rw[List.length_append];omega,hF.app F2⟩
 ·rintro ρ h' ⟨row,v,rfl,b,hr,hL,hF⟩
  have hlen:((List.range (m:Int).toNat).map fun(i:Nat)=>M.int (i:Int)).length=m:=by simp
  rw[hlen]at b hr hL
  walk_at "es"
  exact k row h' b hr hL hF
theorem iN {t:Str} (ht:t∈UP) (hne:(t==("either":Str))=false):t= "forth" ∨t= "back":=by
 simp only[UP,List.mem_cons,List.not_mem_nil,or_false]at ht
 rcases ht with rfl|rfl|rfl
 ·exact .inl rfl
 ·exact .inr rfl
 ·exact absurd hne (by decide+kernel)
theorem KD {p:Nat×AA} {xs:List M} (hk:PR xs):∀(n:Nat) (w:Wy) {h:AA} {c:Nat} {R:M→AA→Prop},deep w≤n→CZ w→WK xs w→sz w≤10000→BoxAt h p c→c+sz w<900000→
 (∀row h',BoxAt h' p (c+sz w)→row.length≤sz w→BF w≤row.length→FK xs row→R (.tup (rM row)) h')→Ens (mLrow_of n [.ref p.1,wM w, .lst xs] h) R
 |0,w,h,c,R,hd,_,_,_,_,_,_=>by exfalso;cases w<;>simp[deep]at hd
 |n+1,w,h,c,R,hd,hw,hx,hz,hb,hc,k=>by
  show Ens (B5 3 5 (bLrow_of (mLrow_of n)) _ h) R
  cases w with
  |emp=>
   show Ens (B5 3 5 (bLrow_of (mLrow_of n)) [.ref p.1, .tup [.str "empty"], .lst xs] h) R
   refine AV rfl ?_
   unfold bLrow_of
   walk_at "u"
   exact QN (m:=0) (w:= .emp) (by decide) (by decide) hb (by omega) (fun h=>absurd h (by decide)) fun row h' b l L F=>k row h' (b.mono (by omega)) (by omega) (by show 0≤_;omega) F
  |step kd t=>
   show Ens (B5 3 5 (bLrow_of (mLrow_of n)) [.ref p.1, .tup [.str "step",oM kd, .str t], .lst xs] h) R
   have hc3:c+3<900000:=hc
   refine AV rfl ?_
   unfold bLrow_of
   walk_at "s"
   refine vC ?_
   walk_at "s"
   refine⟨_,_,rfl,?_⟩
   have fin:∀{S:Out→AA→Prop} (hS:∀d h',R d h'→S (.rt d) h') (z y:Str) ρ g c',(y= "forth" ∨y= "back")→M.str z∈xs++[.str "strange"]→c'≤c+3→BoxAt g p c'→ρ[4]? =some (some (.str z))→ρ[5]? =some (some (.str y))→Ens (AY (BS (A1 (BS (A1 (A2 4) (A1 (A2 5) A5))) A5)) ρ g) S:=fun hS z y ρ g c' hy' hzx hc' b e1 e2=>by
    walk_at "es"
    refine BG e1 ?_
    refine QD ?_
    refine BG e2 ?_
    refine CO ?_
    refine⟨by simp,?_⟩
    refine CO ?_
    refine⟨by simp,?_⟩
    refine hS _ _ ?_
    exact k [(z,y)] g (b.mono hc') (by show 1≤3;decide) (by show 1≤1;decide) ⟨fun p hp=>(by rw[List.mem_singleton.1 hp];exact hy'),fun p hp=>(by rw[List.mem_singleton.1 hp];exact hzx)⟩
   have turn:∀{S:Out→AA→Prop} (hS:∀d h',R d h'→S (.rt d) h') (z:Str) g,M.str z∈xs++[.str "strange"]→BoxAt g p (c+1)→Ens ((AJ (CV (tV (AG BO (A2 5) (mC (.str "either")))) (B2 (AG BH (BS (A1 (mC (.str "forth")) (A1 (mC (.str "back")) A5))) (AB mLtake (A1 (A2 0) (A1 (mC (.int 2)) A5)))) (BI 5)) AT)
    (AY (BS (A1 (BS (A1 (A2 4) (A1 (A2 5) A5))) A5)))) [some (.ref p.1),some (.tup [.str "step",oM kd, .str t]),some (.lst xs),some (.str "step"),some (.str z),some (.str t),none,none] g) S:=fun hS z g hzx b=>by
    walk_at "es"
    walk_at "s"
    refine BM (fun _=> ?_) (fun hne=> ?_)
    ·refine SG ?_
     walk_at "s"
     refine BK b (by decide) (by decide) (by omega) fun r g2 r0 r1 b2=> ?_
     refine K2 (xs:=[.str "forth", .str "back"]) r0 (by simpa using r1) fun y hy=> ?_
     have hy':∃q:Str,y= .str q∧(q= "forth" ∨q= "back"):=by
      simp only[List.mem_cons,List.not_mem_nil,or_false]at hy
      rcases hy with rfl|rfl
      ·exact⟨_,rfl, .inl rfl⟩
      ·exact⟨_,rfl, .inr rfl⟩
     obtain⟨q,rfl,hq⟩:=hy'
     refine EA ?_
     refine CS ?_
     exact fin hS z q _ g2 (c+1+1) hq hzx (by omega) b2 rfl rfl
    ·refine CN ?_
     refine CS ?_
     exact fin hS z t _ g (c+1) (iN hw.2 hne) hzx (by omega) b rfl rfl
   walk_at "es"
   cases kd with
   |none=>
    have hk2:=hk.2
    walk_at "s"
    refine HZ (by simp;omega) ?_
    walk_at "s"
    refine BK hb (by omega) (by omega) (by omega) fun r g r0 r1 b1=> ?_
    refine bQ r0 (by simp;omega) fun y hy=> ?_
    have hy':∃q:Str,y= .str q:=by
     rcases List.mem_append.1 hy with g|g
     ·obtain⟨q,_,e⟩:=hk.1 y g
      exact⟨q,e⟩
     ·simp at g;exact⟨_,g⟩
    obtain⟨q,rfl⟩:=hy'
    have hzx:=hy
    refine EA ?_
    refine CS ?_
    exact turn (fun d h' q=>q) q g hzx b1
   |some z=>
    walk_at "s"
    refine DG (by rfl) ?_
    refine CN ?_
    refine CS ?_
    exact turn (fun d h' q=>q) z h (List.mem_append_left _ (hx z rfl)) (hb.mono (by omega))
  |again w=>
   have hd':deep w≤n:=by simp[deep]at hd;omega
   have hz':3*sz w+1≤10000:=hz
   have hc':c+(3*sz w+1)<900000:=hc
   show Ens (B5 3 5 (bLrow_of (mLrow_of n)) [.ref p.1, .tup [.str "again",wM w], .lst xs] h) R
   refine AV rfl ?_
   unfold bLrow_of
   walk_at "u"
   refine BK hb (by decide) (by decide) (by omega) fun r g r0 r1 b1=> ?_
   obtain⟨r,rfl⟩:=Int.eq_ofNat_of_zero_le r0
   walk_at "u"
   have h3:r*sz w≤3*sz w:=Nat.mul_le_mul_right _ (by omega)
   exact QN (w:=w) (by omega) (by omega) b1 (by omega) (fun _=>⟨rfl,fun b' c' k'=>KD hk n w hd' hw hx (by omega) b' c' k'⟩) fun row h' b l L F=>k row h' (b.mono (by show _≤c+(3*sz w+1);omega)) (by show _≤3*sz w+1;omega) (by show 0≤_;omega) F
  |many w lo hi=>
   have hd':deep w≤n:=by simp[deep]at hd;omega
   have hz':6*sz w+1≤10000:=hz
   have hc':c+(6*sz w+1)<900000:=hc
   obtain⟨hw1,hw2,hw3⟩:=hw
   show Ens (B5 3 5 (bLrow_of (mLrow_of n)) [.ref p.1, .tup [.str "many",wM w, .int lo, .int hi], .lst xs] h) R
   refine AV rfl ?_
   unfold bLrow_of
   walk_at "u"
   refine BK hb (by omega) (by omega) (by omega) fun r g r0 r1 b1=> ?_
   obtain⟨r,rfl⟩:=Int.eq_ofNat_of_zero_le r0
   walk_at "u"
   rw[show(lo:Int)+(r:Int)=((lo+r:Nat):Int) by omega]
   have h6:(lo+r)*sz w≤6*sz w:=Nat.mul_le_mul_right _ (by omega)
   exact QN (w:=w) (by omega) (by omega) b1 (by omega) (fun _=>⟨rfl,fun b' c' k'=>KD hk n w hd' hw1 hx (by omega) b' c' k'⟩) fun row h' b l L F=>k row h' (b.mono (by show _≤c+(6*sz w+1);omega)) (by show _≤6*sz w+1;omega) (Nat.le_trans (Nat.mul_le_mul_right _ (by omega)) L) F
  |thn a b=>
   have hd':deep a≤n∧deep b≤n:=by simp[deep]at hd;omega
   have hz':sz a+sz b+1≤10000:=hz
   have hc':c+(sz a+sz b+1)<900000:=hc
   show Ens (B5 3 5 (bLrow_of (mLrow_of n)) [.ref p.1, .tup [.str "then",wM a,wM b], .lst xs] h) R
   refine AV rfl ?_
   unfold bLrow_of
   walk_at "s"
   refine KD hk n a hd'.1 hw.1 hx.1 (by omega) hb (by omega) fun r1 h1 b1 l1 L1 F1=> ?_
   walk_at "s"
   refine KD hk n b hd'.2 hw.2 hx.2 (by omega) b1 (by omega) fun r2 h2 b2 l2 L2 F2=> ?_
   refine N7 (by rw[CK,CK];omega) ?_
   rw[VY]
   walk_at "s"
   exact k _ h2 (b2.mono (by show _≤c+(sz a+sz b+1);omega)) (by rw[List.length_append];show _≤sz a+sz b+1;omega) (by rw[List.length_append];show BF a+BF b≤_;omega) (F1.app F2)
  |alt a b=>
   have hd':deep a≤n∧deep b≤n:=by simp[deep]at hd;omega
   have hz':sz a+sz b+1≤10000:=hz
   have hc':c+(sz a+sz b+1)<900000:=hc
   show Ens (B5 3 5 (bLrow_of (mLrow_of n)) [.ref p.1, .tup [.str "or",wM a,wM b], .lst xs] h) R
   refine AV rfl ?_
   unfold bLrow_of
   walk_at "s"
   refine BK hb (by decide) (by decide) (by omega) fun r g r0 r1 b1=> ?_
   have hr:r=0∨r=1:=by omega
   rcases hr with rfl|rfl
   ·refine NA ?_
    rw[show(1:Int)+0=1 from rfl]
    walk_at "s"
    refine KD hk n a hd'.1 hw.1 hx.1 (by omega) b1 (by omega) fun r1 h1 b1 l1 L1 F1=> ?_
    walk_at "s"
    exact k _ h1 (b1.mono (by show _≤c+(sz a+sz b+1);omega)) (by show _≤sz a+sz b+1;omega) (by show min (BF a) (BF b)≤_;omega) F1
   ·refine NA ?_
    rw[show(1:Int)+1=2 from rfl]
    walk_at "s"
    refine KD hk n b hd'.2 hw.2 hx.2 (by omega) b1 (by omega) fun r1 h1 b1 l1 L1 F1=> ?_
    walk_at "s"
    exact k _ h1 (b1.mono (by show _≤c+(sz a+sz b+1);omega)) (by show _≤sz a+sz b+1;omega) (by show min (BF a) (BF b)≤_;omega) F1
theorem MU (row:Rw) (lo hi:Option Int):∃r,DB (rM row) lo hi=rM r∧r.length≤row.length∧(FB row→FB r):=by
 unfold DB
 refine⟨(row.drop (HT.CY (rM row).length 0 lo)).take (HT.CY (rM row).length (rM row).length hi-HT.CY (rM row).length 0 lo),?_,?_,fun f p hp=>f p (List.mem_of_mem_drop (List.mem_of_mem_take hp))⟩
 ·unfold rM;rw[List.map_take,List.map_drop]
 ·rw[List.length_take,List.length_drop];omega
section
variable {h:AA} {R:M→Prop} {a b:Rw} {l1 h1 l2 h2:Option Int} {q:Str×Str}
theorem R8 (hl:a.length+b.length≤1000) (fa:FB a) (fb:FB b) (k:∀c:Rw,c.length≤a.length+b.length→FB c→R (.tup (rM c))):Enp (AW (.tup (rM a)) (.tup (rM b)) h) R:=
 N7 (by rw[CK,CK];omega) (by rw[VY];exact k _ (by rw[List.length_append];omega) (fa.app fb))
theorem Y8 (hl:a.length+b.length≤1000) (fa:FB a) (fb:FB b) (k:∀c:Rw,c.length≤a.length+b.length→FB c→R (.tup (rM c))):Enp (AW (.tup (DB (rM a) l1 h1)) (.tup (DB (rM b) l2 h2)) h) R:=by
 obtain⟨r1,e1,g1,f1⟩:=MU a l1 h1
 obtain⟨r2,e2,g2,f2⟩:=MU b l2 h2
 rw[e1,e2]
 exact R8 (by omega) (f1 fa) (f2 fb) fun c hc=>k c (by omega)
theorem RO (hl:a.length+b.length≤1000) (fa:FB a) (fb:FB b) (k:∀c:Rw,c.length≤a.length+b.length→FB c→R (.tup (rM c))):Enp (AW (.tup (rM a)) (.tup (DB (rM b) l2 h2)) h) R:=by
 obtain⟨r2,e2,g2,f2⟩:=MU b l2 h2
 rw[e2]
 exact R8 (by omega) fa (f2 fb) fun c hc=>k c (by omega)
theorem X0 (hl:a.length≤900) (fa:FB a) (fq:q.2= "forth" ∨q.2= "back") (k:∀c:Rw,c.length≤a.length+1→FB c→R (.tup (rM c))):Enp (AW (.tup (DB (rM a) l1 h1)) (.tup [pM q]) h) R:=by
 obtain⟨r1,e1,g1,f1⟩:=MU a l1 h1
 rw[e1,show[pM q]=rM [q] from rfl]
 exact R8 (by simp;omega) (f1 fa) (fun p hp=>by rw[List.mem_singleton.1 hp];exact fq) fun c hc=>k c (by simp at hc;omega)
end
theorem tU {R:M→Prop} {h:AA} {ns:List Int} {i:Nat} {v:Int} (e:ns[i]? =some v) (q:R (.int v)):Enp (BH (.scr ns) (.int (i:Int)) h) R:=by
 refine⟨.int v,?_,q⟩
 show(GV h (.scr ns)).bind (fun xs=>NH xs (i:Int))=_
 show NH (ns.map M.int) (i:Int)=_
 rw[L5 (show(ns.map M.int)[i]? =some (.int v) by rw[List.getElem?_map,e];rfl)]
theorem jK {ns:List Int} {i:Nat} {h:AA} {R:M→AA→Prop} (hi:i≤20) (k:∀g,BoxAt g (h.length,g) 0→g.length=h.length+1→R (.ref h.length) g):Ens (mLhand [.scr ns, .int (i:Int)] h) R:=by
 refine AV rfl ?_
 unfold bLhand
 have rest:∀(v:Int) ρ,ρ=[some (.scr ns),some (.int (i:Int)),some (.int v),none,none]→Ens (AJ (B2 (mC (.int 0)) (BI 3))
 (AJ (GB (iL (OR MN (A2 0) PU (D0 (mC (.int 63))))) (BI 4) (B2 (AG HR (AG AW (AG EQ (mC (.int 31)) (A2 3)) (A2 4)) (mC (.int 2305843009213693951))) (BI 3)))
 (AY (JQ (A1 (AG EQ (E3 VD (A1 (A2 2) A5)) (E3 c7 (A1 (AG W8 (E3 VD (A1 (A2 2) A5)) (AG Y0 (mC (.int 10)) (mC (.int 18)))) A5))) (A1 (AG AW (AG AW (AG HR (AG AW (A2 2) (A2 3)) (mC (.int 2305843009213693951))) (AG EQ (mC (.int 7919)) (A2 1))) (mC (.int 3))) (A1 (mC (.int 0)) A5)))))) ρ h) (FQ R):=by
   rintro v ρ rfl
   walk_at "x"
   walk_at "x"
   walk_at "x"
   walk_at "x"
   walk_at "es"
   refine UM ?_
   walk_at "s"
   refine GF (fun j ρ h'=>∃f v4,ρ=[some (.scr ns),some (.int (i:Int)),some (.int v),some (.int f),v4]∧h'=h) ⟨_,_,rfl,rfl⟩ ?_ ?_
   ·rintro j y ρ h' hy ⟨f,v4,rfl,rfl⟩
    have hy':∃z,y= .int z:=by
     have:=List.mem_of_getElem? hy
     unfold DB at this
     obtain⟨z,_,rfl⟩:=List.mem_map.1 (List.mem_of_mem_drop (List.mem_of_mem_take this))
     exact⟨z,rfl⟩
    obtain⟨z,rfl⟩:=hy'
    refine NT ?_
    refine EA ?_
    refine SG ?_
    walk_at "x"
    walk_at "x"
    walk_at "x"
    walk_at "x"
    walk_at "x"
    walk_at "x"
    walk_at "x"
    walk_at "x"
    walk_at "s"
    exact⟨_,_,rfl,rfl⟩
   ·rintro ρ h' ⟨f,v4,rfl,rfl⟩
    walk_at "s"
    have hm:=Int.emod_nonneg (v+f) (b:=2305843009213693951) (by decide)
    have hm2:=Int.emod_lt_of_pos (v+f) (b:=2305843009213693951) (by decide)
    refine k _ ⟨_,_,0,XD rfl,?_,?_,?_,Nat.le_refl _,Kp.refl⟩ (by simp)
    ·apply Int.mul_nonneg
     ·split<;>omega
     ·split<;>omega
    ·omega
    ·omega
 walk_at "x"
 walk_at "x"
 walk_at "x"
 walk_at "x"
 walk_at "es"
 walk_at "s"
 refine BM (fun q=> ?_) (fun q=> ?_)
 ·have hi':i<ns.length:=by have:=of_decide_eq_true q;omega
  refine SG ?_
  walk_at "x"
  walk_at "x"
  walk_at "x"
  refine tU (List.getElem?_eq_getElem hi') ?_
  refine EA ?_
  refine CS ?_
  exact rest _ _ rfl
 ·refine CN ?_
  refine CS ?_
  exact rest _ _ rfl
theorem VF {p:Nat×AA} {xs:List M} (hk:(∀x∈xs,∃z,x= .str z)∧1≤xs.length∧xs.length≤9) {row:Rw} {h:AA} {c:Nat} {R:M→AA→Prop} (hl:row.length≤40) (hF:FB row) (hb:BoxAt h p c) (hc:c+4<900000) (k:∀r h',BoxAt h' p (c+4)→r.length≤1000→FB r→R (.tup (rM r)) h'):Ens (mLchanged [.ref p.1, .tup (rM row), .lst xs] h) R:=by
 have hk2:=hk.2
 refine AV rfl ?_
 unfold bLchanged
 walk_at "s"
 refine BK hb (by decide) (by decide) (by omega) fun how g1 w0 w1 b1=> ?_
 walk_at "s"
 refine HZ (by simp;omega) ?_
 walk_at "s"
 refine BK b1 (by omega) (by omega) (by omega) fun r g2 r0 r1 b2=> ?_
 refine bQ r0 (by simp;omega) fun y hy=> ?_
 have hy':∃q:Str,y= .str q:=by
  rcases List.mem_append.1 hy with g|g
  ·obtain⟨q,e⟩:=hk.1 y g
   exact⟨q,e⟩
  ·simp at g;exact⟨_,g⟩
 obtain⟨z,rfl⟩:=hy'
 walk_at "s"
 refine BK b2 (by decide) (by decide) (by omega) fun r2 g3 r20 r21 b3=> ?_
 refine K2 (xs:=[.str "forth", .str "back"]) r20 (by simpa using r21) fun y hy=> ?_
 have hy':∃q:Str,y= .str q∧(q= "forth" ∨q= "back"):=by
  simp only[List.mem_cons,List.not_mem_nil,or_false]at hy
  rcases hy with rfl|rfl
  ·exact⟨_,rfl, .inl rfl⟩
  ·exact⟨_,rfl, .inr rfl⟩
 obtain⟨u,rfl,hu⟩:=hy'
 walk_at "s"
 refine BK b3 (by rw[CK];omega) (by rw[CK];omega) (by omega) fun at' g4 a0 a1 b4=> ?_
 walk_at "s"
 refine BM (fun _=> ?_) (fun _=> ?_)
 ·walk_at "s"
  exact k row g4 b4 (by omega) hF
 walk_at "s"
 refine BM (fun _=> ?_) (fun _=> ?_)
 ·walk_at "s"
  refine Y8 (by omega) hF hF fun r hr fr=> ?_
  walk_at "s"
  exact k r g4 b4 (by omega) fr
 walk_at "s"
 refine BM (fun _=> ?_) (fun _=> ?_)
 ·walk_at "s"
  refine Y8 (by omega) hF hF fun r hr fr=> ?_
  walk_at "s"
  refine RO (by omega) fr hF fun r hr fr=> ?_
  walk_at "s"
  exact k r g4 b4 (by omega) fr
 walk_at "s"
 refine BM (fun _=> ?_) (fun _=> ?_)
 ·walk_at "s"
  refine X0 (q:=(z,u)) (by omega) hF hu fun r hr fr=> ?_
  walk_at "s"
  refine RO (by omega) fr hF fun r hr fr=> ?_
  walk_at "s"
  exact k r g4 b4 (by omega) fr
 walk_at "s"
 refine BM (fun _=> ?_) (fun _=> ?_)
 ·walk_at "s"
  refine X0 (q:=(z,u)) (by omega) hF hu fun r hr fr=> ?_
  walk_at "s"
  refine RO (by omega) fr hF fun r hr fr=> ?_
  walk_at "s"
  exact k r g4 b4 (by omega) fr
 refine CN ?_
 refine CS ?_
 refine TX ?_
 refine c8 ?_
 refine BG rfl ⟨_,rfl,?_⟩
 rw[show(rM row).reverse=rM row.reverse by unfold rM;rw[List.map_reverse]]
 exact k _ g4 b4 (by simp;omega) (fun p hp=>hF p (List.mem_reverse.1 hp))
theorem F9:∀(n:Nat) (w:Wy) {h:AA} {R:M→AA→Prop},deep w≤n→CZ w→R (.int (BF w)) h→Ens (m_least_steps n [wM w] h) R
 |0,w,h,R,hd,_,_=>by exfalso;cases w<;>simp[deep]at hd
 |n+1,w,h,R,hd,hw,k=>by
  show Ens (B5 1 1 (b_least_steps (m_least_steps n)) _ h) R
  cases w with
  |emp=>
   show Ens (B5 1 1 (b_least_steps (m_least_steps n)) [.tup [.str "empty"]] h) R
   refine AV rfl ?_
   unfold b_least_steps
   walk_at "s"
   exact k
  |step kd t=>
   show Ens (B5 1 1 (b_least_steps (m_least_steps n)) [.tup [.str "step",oM kd, .str t]] h) R
   refine AV rfl ?_
   unfold b_least_steps
   walk_at "s"
   exact k
  |again w=>
   show Ens (B5 1 1 (b_least_steps (m_least_steps n)) [.tup [.str "again",wM w]] h) R
   refine AV rfl ?_
   unfold b_least_steps
   walk_at "s"
   exact k
  |many w lo hi=>
   have hd':deep w≤n:=by simp[deep]at hd;omega
   obtain⟨hw1,hw2,hw3⟩:=hw
   show Ens (B5 1 1 (b_least_steps (m_least_steps n)) [.tup [.str "many",wM w, .int lo, .int hi]] h) R
   refine AV rfl ?_
   unfold b_least_steps
   walk_at "s"
   refine F9 n w hd' hw1 ?_
   walk_at "s"
   have k':R (.int ((lo*BF w:Nat):Int)) h:=k
   rw[Int.natCast_mul]at k'
   exact k'
  |thn a b=>
   have hd':deep a≤n∧deep b≤n:=by simp[deep]at hd;omega
   show Ens (B5 1 1 (b_least_steps (m_least_steps n)) [.tup [.str "then",wM a,wM b]] h) R
   refine AV rfl ?_
   unfold b_least_steps
   walk_at "s"
   refine F9 n a hd'.1 hw.1 ?_
   walk_at "s"
   refine F9 n b hd'.2 hw.2 ?_
   walk_at "s"
   exact k
  |alt a b=>
   have hd':deep a≤n∧deep b≤n:=by simp[deep]at hd;omega
   show Ens (B5 1 1 (b_least_steps (m_least_steps n)) [.tup [.str "or",wM a,wM b]] h) R
   refine AV rfl ?_
   unfold b_least_steps
   walk_at "s"
   refine F9 n a hd'.1 hw.1 ?_
   walk_at "s"
   refine F9 n b hd'.2 hw.2 ?_
   walk_at "s"
   have k':R (.int ((min (BF a) (BF b):Nat):Int)) h:=k
   rw[show((min (BF a) (BF b):Nat):Int)=if(BF b:Int)<BF a then(BF b:Int) else BF a by split<;>omega]at k'
   exact k'
def In:Wy→Rw→Prop
 | .emp,r=>r=[]
 | .step k t,r=>∃p,r=[p]∧KF k t p=true
 | .thn a b,r=>∃u v,r=u++v∧In a u∧In b v
 | .alt a b,r=>In a r∨In b r
 | .again w,r=>∃ls:List Rw,r=ls.flatten∧∀l∈ls,In w l
 | .many w lo hi,r=>∃ls:List Rw,lo≤ls.length∧ls.length≤hi∧r=ls.flatten∧∀l∈ls,In w l
def RI (w:Wy):Prop:=∀(pre rest:Rw) (j:Int),FZ (pre++rest) w pre.length j↔∃u v,rest=u++v∧In w u∧j=((pre++u).length:Int)
theorem M4 {w:Wy} (h:RI w):∀(n:Nat) (pre rest:Rw) (j:Int),Pow (FZ (pre++rest) w) n pre.length j↔∃(ls:List Rw) (v:Rw),ls.length=n∧rest=ls.flatten++v∧(∀l∈ls,In w l)∧j=((pre++ls.flatten).length:Int)
 |0,pre,rest,j=>by
  constructor
  ·intro e
   exact⟨[],rest,rfl,rfl,(fun l hl=>by cases hl),by rw[List.flatten_nil,List.append_nil];exact(show(pre.length:Int)=j from e).symm⟩
  ·rintro⟨ls,v,hn,_,_,e⟩
   cases ls with
   |nil=>rw[List.flatten_nil,List.append_nil]at e;exact e.symm
   |cons a l=>cases hn
 |n+1,pre,rest,j=>by
  constructor
  ·rintro⟨m,h1,h2⟩
   obtain⟨ls,v,hn,rfl,hl,rfl⟩:=(M4 h n pre rest m).1 h1
   have h3:FZ ((pre++ls.flatten)++v) w ((pre++ls.flatten).length:Int) j:=by rw[List.append_assoc];exact h2
   obtain⟨u,v',rfl,hu,rfl⟩:=(h (pre++ls.flatten) v j).1 h3
   refine⟨ls++[u],v',by simp[hn],by simp,fun l hx=> ?_,by simp⟩
   rcases List.mem_append.1 hx with hx|hx
   ·exact hl l hx
   ·rw[List.mem_singleton.1 hx];exact hu
  ·rintro⟨ls,v,hn,rfl,hl,rfl⟩
   have hne:ls≠[]:=fun e=>by rw[e]at hn;cases hn
   obtain⟨ls',u,rfl⟩:∃ls' u,ls=ls'++[u]:=⟨ls.dropLast,ls.getLast hne,(List.dropLast_concat_getLast hne).symm⟩
   refine⟨((pre++ls'.flatten).length:Int),(M4 h n pre _ _).2 ⟨ls',u++v,by simpa using hn,by simp,fun l hx=>hl l (List.mem_append_left _ hx),rfl⟩,?_⟩
   have:=(h (pre++ls'.flatten) (u++v) ((pre++(ls'++[u]).flatten).length:Int)).2 ⟨u,v,rfl,hl u (by simp),by simp⟩
   simpa using this
theorem cT {R:Int→Int→Prop} {i j:Int}:Star R i j↔∃n,Pow R n i j:=by
 constructor
 ·intro h
  induction h with
  |refl=>exact⟨0,rfl⟩
  |tail h1 h2 ih=>obtain⟨n,hn⟩:=ih;exact⟨n+1,_,hn,h2⟩
 ·rintro⟨n,h⟩
  induction n generalizing j with
  |zero=>cases(show i=j from h);exact .refl i
  |succ n ih=>obtain⟨m,h1,h2⟩:=h;exact .tail (ih h1) h2
theorem FC:∀w:Wy,RI w
 | .emp=>fun pre rest j=>by
   constructor
   ·intro e
    exact⟨[],rest,rfl,rfl,by rw[List.append_nil];exact(show(pre.length:Int)=j from e).symm⟩
   ·rintro⟨u,v,_,hu,e⟩
    cases(show u=[] from hu)
    rw[List.append_nil]at e;exact e.symm
 | .step k t=>fun pre rest j=>by
   constructor
   ·rintro⟨p,_,h1,h2,rfl⟩
    rw[Int.toNat_natCast,List.getElem?_append_right (Nat.le_refl _),Nat.sub_self]at h1
    cases rest with
    |nil=>cases h1
    |cons q v=>cases h1;exact⟨[p],v,rfl,⟨p,rfl,h2⟩,by simp⟩
   ·rintro⟨u,v,rfl,⟨p,rfl,h2⟩,rfl⟩
    exact⟨p,by omega,by simp,h2,by simp⟩
 | .thn a b=>fun pre rest j=>by
   constructor
   ·rintro⟨m,h1,h2⟩
    obtain⟨u,v,rfl,hu,rfl⟩:=(FC a pre rest m).1 h1
    obtain⟨u',v',rfl,hu',rfl⟩:=(FC b (pre++u) v j).1 (by rw[List.append_assoc];exact h2)
    exact⟨u++u',v',by simp,⟨u,u',rfl,hu,hu'⟩,by simp⟩
   ·rintro⟨x,v,rfl,⟨u,u',rfl,hu,hu'⟩,rfl⟩
    refine⟨((pre++u).length:Int),(FC a pre _ _).2 ⟨u,u'++v,by simp,hu,rfl⟩,?_⟩
    have:=(FC b (pre++u) (u'++v) ((pre++(u++u')).length:Int)).2 ⟨u',v,rfl,hu',by simp⟩
    simpa using this
 | .alt a b=>fun pre rest j=>by
   show FZ _ a _ _∨FZ _ b _ _↔_
   rw[FC a,FC b]
   constructor
   ·rintro(⟨u,v,e,hu,hj⟩|⟨u,v,e,hu,hj⟩)
    ·exact⟨u,v,e, .inl hu,hj⟩
    ·exact⟨u,v,e, .inr hu,hj⟩
   ·rintro⟨u,v,e,hu|hu,hj⟩
    ·exact .inl ⟨u,v,e,hu,hj⟩
    ·exact .inr ⟨u,v,e,hu,hj⟩
 | .again w=>fun pre rest j=>by
   show Star _ _ _↔_
   rw[cT]
   constructor
   ·rintro⟨n,h⟩
    obtain⟨ls,v,_,e,hl,hj⟩:=(M4 (FC w) n pre rest j).1 h
    exact⟨ls.flatten,v,e,⟨ls,rfl,hl⟩,hj⟩
   ·rintro⟨u,v,e,⟨ls,rfl,hl⟩,hj⟩
    exact⟨ls.length,(M4 (FC w) _ pre rest j).2 ⟨ls,v,rfl,e,hl,hj⟩⟩
 | .many w lo hi=>fun pre rest j=>by
   constructor
   ·rintro⟨n,h1,h2,h⟩
    obtain⟨ls,v,rfl,e,hl,hj⟩:=(M4 (FC w) n pre rest j).1 h
    exact⟨ls.flatten,v,e,⟨ls,h1,h2,rfl,hl⟩,hj⟩
   ·rintro⟨u,v,e,⟨ls,h1,h2,rfl,hl⟩,hj⟩
    exact⟨ls.length,h1,h2,(M4 (FC w) _ pre rest j).2 ⟨ls,v,rfl,e,hl,hj⟩⟩
theorem iR (row:Rw) (w:Wy):T row w=true↔In w row:=by
 unfold T
 classical
 rw[decide_eq_true_eq]
 have:=FC w [] row (row.length:Int)
 rw[List.nil_append]at this
 refine this.trans ⟨?_,fun h=>⟨row,[],by simp,h,by simp⟩⟩
 rintro⟨u,v,rfl,hu,e⟩
 have:v=[]:=List.eq_nil_of_length_eq_zero (by simp at e;omega)
 subst this
 rw[List.append_nil];exact hu
def BV:Wy→Bool
 | .emp=>true
 |_=>false
theorem t3 {t:Wy}:BV t=true↔t= .emp:=by cases t<;>simp[BV]
def AN:Wy→Wy→Wy
 | .emp,t=>t
 | .thn a b,t=>if BV t=true then .thn a b else .thn a (AN b t)
 | .step k s,t=>if BV t=true then .step k s else .thn (.step k s) t
 | .again w,t=>if BV t=true then .again w else .thn (.again w) t
 | .many w lo hi,t=>if BV t=true then .many w lo hi else .thn (.many w lo hi) t
 | .alt a b,t=>if BV t=true then .alt a b else .thn (.alt a b) t
theorem fE (w:Wy) (r:Rw):In w r↔In (.thn w .emp) r:=
 ⟨fun h=>⟨r,[],by simp,h,rfl⟩,by rintro⟨u,v,rfl,h,hv⟩;cases(show v=[] from hv);simpa using h⟩
theorem U7:∀(w t:Wy) (r:Rw),In (AN w t) r↔In (.thn w t) r:=by
 have one:∀(w t:Wy) (r:Rw),In (if BV t=true then w else .thn w t) r↔In (.thn w t) r:=by
  intro w t r
  by_cases h:BV t=true
  ·rw[if_pos h,t3.1 h];exact fE w r
  ·rw[if_neg h]
 intro w t r
 induction w generalizing r with
 |emp=>exact⟨fun h=>⟨[],r,by simp,rfl,h⟩,by rintro⟨u,v,rfl,hu,hv⟩;cases(show u=[] from hu);exact hv⟩
 |step k s=>exact one _ _ _
 |again w _=>exact one _ _ _
 |many w lo hi _=>exact one _ _ _
 |alt a b _ _=>exact one _ _ _
 |thn a b _ ihb=>
  show In (if BV t=true then .thn a b else .thn a (AN b t)) r↔_
  by_cases h:BV t=true
  ·rw[if_pos h,t3.1 h];exact fE _ r
  ·rw[if_neg h]
   constructor
   ·rintro⟨u,v,rfl,hu,hv⟩
    obtain⟨v1,v2,rfl,h1,h2⟩:=(ihb v).1 hv
    exact⟨u++v1,v2,by simp,⟨u,v1,rfl,hu,h1⟩,h2⟩
   ·rintro⟨x,v2,rfl,⟨u,v1,rfl,hu,h1⟩,h2⟩
    exact⟨u,v1++v2,by simp,hu,(ihb _).2 ⟨v1,v2,rfl,h1,h2⟩⟩
theorem fP {ls:List Rw} (h:[]=ls.flatten):∀l∈ls,l=[]:=fun l hl=>List.flatten_eq_nil_iff.1 h.symm l hl
theorem JS:∀w:Wy,CZ w→(BF w=0↔In w [])
 | .emp,_=>⟨fun _=>rfl,fun _=>rfl⟩
 | .step _ _,_=>⟨fun h=>absurd (show 1=0 from h) (by decide),by rintro⟨p,h,_⟩;cases h⟩
 | .again _,_=>⟨fun _=>⟨[],rfl,(fun l hl=>by cases hl)⟩,fun _=>rfl⟩
 | .thn a b,h=>by
   have ha:=JS a h.1
   have hb:=JS b h.2
   show BF a+BF b=0↔_
   constructor
   ·intro e
    exact⟨[],[],rfl,ha.1 (by omega),hb.1 (by omega)⟩
   ·rintro⟨u,v,e,hu,hv⟩
    obtain⟨rfl,rfl⟩:=List.append_eq_nil_iff.1 e.symm
    rw[ha.2 hu,hb.2 hv]
 | .alt a b,h=>by
   have ha:=JS a h.1
   have hb:=JS b h.2
   show min (BF a) (BF b)=0↔In a []∨In b []
   rw[←ha,←hb]
   omega
 | .many w lo hi,h=>by
   have hw:=JS w h.1
   show lo*BF w=0↔_
   constructor
   ·intro e
    rcases Nat.mul_eq_zero.1 e with e|e
    ·exact⟨[],by rw[e];exact Nat.zero_le _,Nat.zero_le _,rfl,fun l hl=>by cases hl⟩
    ·refine⟨List.replicate lo [],by simp,by simp;exact h.2.1,?_,fun l hl=> ?_⟩
     ·simp
     ·rw[(List.mem_replicate.1 hl).2];exact hw.1 e
   ·rintro⟨ls,h1,h2,e,hl⟩
    cases ls with
    |nil=>rw[Nat.le_zero.1 h1];simp
    |cons l ls=>
     have:=fP e l (by simp)
     rw[hw.2 (this▸hl l (by simp))];simp
def HI (k t:Str):Wy→List Wy
 | .emp=>[]
 | .step x y=>if KF x y (k,t)=true then[.emp] else[]
 | .alt a b=>HI k t a++HI k t b
 | .thn a b=>(HI k t a).map (AN · b)++(if BF a=0 then HI k t b else[])
 | .again w=>(HI k t w).map (AN · (.again w))
 | .many w lo hi=>if hi=0 then[] else(HI k t w).map (AN · (if hi=1 then .emp else .many w (lo-1) (hi-1)))
theorem LK {p:Str×Str} {r:Rw}:∀{ls:List Rw},p::r=ls.flatten→∃es l ls',ls=es++(p::l)::ls'∧(∀e∈es,e=[])∧r=l++ls'.flatten
 |[],h=>by cases h
 |[]::ls,h=>by
  obtain⟨es,l,ls',rfl,he,hr⟩:=LK (ls:=ls) h
  exact⟨[]::es,l,ls',rfl,(fun e hx=>(List.mem_cons.1 hx).elim id (he e)),hr⟩
 |(q::l)::ls,h=>by
  have e:p::r=q::(l++ls.flatten):=h
  cases e
  exact⟨[],l,ls,rfl,(fun e hx=>by cases hx),rfl⟩
theorem A1C {ds:List Wy} {b:Wy} {r:Rw}:(∃d∈ds.map (AN · b),In d r)↔∃d∈ds,∃u v,r=u++v∧In d u∧In b v:=by
 constructor
 ·rintro⟨d,hd,h⟩
  obtain⟨d',hd',rfl⟩:=List.mem_map.1 hd
  exact⟨d',hd',(U7 d' b r).1 h⟩
 ·rintro⟨d,hd,h⟩
  exact⟨_,List.mem_map.2 ⟨d,hd,rfl⟩,(U7 d b r).2 h⟩
theorem IY:∀(w:Wy),CZ w→∀(p:Str×Str) (r:Rw),In w (p::r)↔∃d∈HI p.1 p.2 w,In d r
 | .emp,_,p,r=>⟨(fun h=>by cases(show p::r=[] from h)),by rintro⟨d,hd,_⟩;cases hd⟩
 | .step x y,_,p,r=>by
   constructor
   ·rintro⟨q,e,h⟩
    cases e
    exact⟨.emp,by rw[HI,if_pos h];exact List.mem_singleton.2 rfl,rfl⟩
   ·rintro⟨d,hd,h⟩
    by_cases ho:KF x y p=true
    ·rw[HI,if_pos ho]at hd
     cases List.mem_singleton.1 hd
     cases(show r=[] from h)
     exact⟨p,rfl,ho⟩
    ·rw[HI,if_neg ho]at hd;cases hd
 | .alt a b,hw,p,r=>by
   show In a _∨In b _↔_
   rw[IY a hw.1,IY b hw.2]
   constructor
   ·rintro(⟨d,hd,h⟩|⟨d,hd,h⟩)
    ·exact⟨d,List.mem_append_left _ hd,h⟩
    ·exact⟨d,List.mem_append_right _ hd,h⟩
   ·rintro⟨d,hd,h⟩
    rcases List.mem_append.1 hd with hd|hd
    ·exact .inl ⟨d,hd,h⟩
    ·exact .inr ⟨d,hd,h⟩
 | .thn a b,hw,p,r=>by
   have ha:=IY a hw.1
   have hb:=IY b hw.2
   constructor
   ·rintro⟨u,v,e,hu,hv⟩
    cases u with
    |nil=>
     rw[List.nil_append]at e
     subst e
     obtain⟨d,hd,h⟩:=(hb p r).1 hv
     exact⟨d,List.mem_append_right _ (by rw[if_pos ((JS a hw.1).2 hu)];exact hd),h⟩
    |cons q u=>
     cases e
     obtain⟨d,hd,h⟩:=(ha p u).1 hu
     obtain⟨d',hd',h'⟩:=A1C.2 ⟨d,hd,u,v,rfl,h,hv⟩
     exact⟨d',List.mem_append_left _ hd',h'⟩
   ·rintro⟨d,hd,h⟩
    rcases List.mem_append.1 hd with hd|hd
    ·obtain⟨d',hd',u,v,rfl,h1,h2⟩:=A1C.1 ⟨d,hd,h⟩
     exact⟨p::u,v,rfl,(ha p u).2 ⟨d',hd',h1⟩,h2⟩
    ·by_cases hl:BF a=0
     ·rw[if_pos hl]at hd
      exact⟨[],p::r,rfl,(JS a hw.1).1 hl,(hb p r).2 ⟨d,hd,h⟩⟩
     ·rw[if_neg hl]at hd;cases hd
 | .again w,hw,p,r=>by
   have ha:=IY w hw
   constructor
   ·rintro⟨ls,e,hl⟩
    obtain⟨es,l,ls',rfl,_,rfl⟩:=LK e
    obtain⟨d,hd,h⟩:=(ha p l).1 (hl _ (by simp))
    exact A1C.2 ⟨d,hd,l,ls'.flatten,rfl,h,ls',rfl,fun x hx=>hl x (by simp[hx])⟩
   ·intro h
    obtain⟨d,hd,u,v,rfl,h1,ls,rfl,hl⟩:=A1C.1 h
    exact⟨(p::u)::ls,rfl,fun x hx=>(List.mem_cons.1 hx).elim (fun e=>e▸(ha p u).2 ⟨d,hd,h1⟩) (hl x)⟩
 | .many w lo hi,hw,p,r=>by
   have ha:=IY w hw.1
   constructor
   ·rintro⟨ls,h1,h2,e,hl⟩
    obtain⟨es,l,ls',rfl,he,rfl⟩:=LK e
    obtain⟨d,hd,h⟩:=(ha p l).1 (hl _ (by simp))
    have hlen:(es++(p::l)::ls').length=es.length+ls'.length+1:=by rw[List.length_append,List.length_cons];omega
    have hi0:hi≠0:=by omega
    rw[HI,if_neg hi0]
    refine A1C.2 ⟨d,hd,l,ls'.flatten,rfl,h,?_⟩
    by_cases h3:hi=1
    ·rw[if_pos h3]
     have:ls'=[]:=List.eq_nil_of_length_eq_zero (by omega)
     rw[this];rfl
    ·rw[if_neg h3]
     refine⟨es++ls',by rw[List.length_append];omega,by rw[List.length_append];omega,?_,fun x hx=>hl x ?_⟩
     ·rw[List.flatten_append,List.flatten_eq_nil_iff.2 he,List.nil_append]
     ·rcases List.mem_append.1 hx with hx|hx
      ·exact List.mem_append_left _ hx
      ·exact List.mem_append_right _ (List.mem_cons_of_mem _ hx)
   ·intro h
    by_cases hi0:hi=0
    ·rw[HI,if_pos hi0]at h
     obtain⟨d,hd,_⟩:=h;cases hd
    ·rw[HI,if_neg hi0]at h
     obtain⟨d,hd,u,v,rfl,h1,h2⟩:=A1C.1 h
     have hlo:=hw.2.1
     have hu:=(ha p u).2 ⟨d,hd,h1⟩
     by_cases h3:hi=1
     ·rw[if_pos h3]at h2
      cases(show v=[] from h2)
      refine⟨[p::u],?_,?_,by simp,fun x hx=>by rw[List.mem_singleton.1 hx];exact hu⟩
      ·rw[List.length_singleton];omega
      ·rw[List.length_singleton];omega
     ·rw[if_neg h3]at h2
      obtain⟨ls,h4,h5,rfl,hl⟩:=h2
      refine⟨(p::u)::ls,?_,?_,rfl,fun x hx=>(List.mem_cons.1 hx).elim (fun e=>e▸hu) (hl x)⟩
      ·rw[List.length_cons];omega
      ·rw[List.length_cons];omega
theorem PN:∀(a b:Wy),BV (AN a b)=(BV a&&BV b)
 | .emp,b=>rfl
 | .step _ _,b=>by unfold AN;split<;>rfl
 | .again _,b=>by unfold AN;split<;>rfl
 | .many _ _ _,b=>by unfold AN;split<;>rfl
 | .alt _ _,b=>by unfold AN;split<;>rfl
 | .thn _ _,b=>by unfold AN;split<;>rfl
theorem GH:∀a:Wy,AN a .emp=a
 | .emp=>rfl
 | .step _ _=>rfl
 | .again _=>rfl
 | .many _ _ _=>rfl
 | .alt _ _=>rfl
 | .thn _ _=>rfl
theorem JC {w:Wy} (hw:∀t,AN w t=if BV t=true then w else .thn w t) (b c:Wy):AN (AN w b) c=AN w (AN b c):=by
 rw[hw b,hw (AN b c),PN]
 by_cases hb:BV b=true
 ·rw[if_pos hb,hw c,t3.1 hb];rfl
 ·rw[if_neg hb]
  have hb':BV b=false:=by simpa using hb
  rw[hb',Bool.false_and,if_neg (by decide)]
  show(if BV c=true then Wy.thn w b else .thn w (AN b c))=_
  by_cases hc:BV c=true
  ·rw[if_pos hc,t3.1 hc,GH]
  ·rw[if_neg hc]
theorem MB:∀(a b c:Wy),AN (AN a b) c=AN a (AN b c)
 | .emp,b,c=>rfl
 | .step _ _,b,c=>JC (fun _=>rfl) b c
 | .again _,b,c=>JC (fun _=>rfl) b c
 | .many _ _ _,b,c=>JC (fun _=>rfl) b c
 | .alt _ _,b,c=>JC (fun _=>rfl) b c
 | .thn x y,b,c=>by
   have ih:=MB y b c
   show AN (if BV b=true then .thn x y else .thn x (AN y b)) c=(if BV (AN b c)=true then .thn x y else .thn x (AN y (AN b c)))
   rw[PN]
   by_cases hb:BV b=true
   ·rw[if_pos hb,t3.1 hb];rfl
   ·have hb':BV b=false:=by simpa using hb
    rw[if_neg hb,hb',Bool.false_and,if_neg (by decide),←ih]
    show(if BV c=true then Wy.thn x (AN y b) else .thn x (AN (AN y b) c))=_
    by_cases hc:BV c=true
    ·rw[if_pos hc,t3.1 hc,GH]
    ·rw[if_neg hc]
theorem LV {k t:Str}:∀(a b d:Wy),d∈HI k t (AN a b)→(∃e∈HI k t a,d=AN e b)∨d∈HI k t b:=by
 have one:∀(w b d:Wy),d∈HI k t (if BV b=true then w else .thn w b)→(∃e∈HI k t w,d=AN e b)∨d∈HI k t b:=by
  intro w b d h
  by_cases hb:BV b=true
  ·rw[if_pos hb]at h
   exact .inl ⟨d,h,by rw[t3.1 hb,GH]⟩
  ·rw[if_neg hb,HI]at h
   rcases List.mem_append.1 h with h|h
   ·obtain⟨e,he,rfl⟩:=List.mem_map.1 h
    exact .inl ⟨e,he,rfl⟩
   ·split at h
    ·exact .inr h
    ·cases h
 intro a
 induction a with
 |emp=>exact fun b d h=> .inr h
 |step x y=>exact one _
 |again w _=>exact one _
 |many w lo hi _=>exact one _
 |alt x y _ _=>exact one _
 |thn x y _ ih=>
  intro b d h
  have h:d∈HI k t (if BV b=true then .thn x y else .thn x (AN y b)):=h
  by_cases hb:BV b=true
  ·rw[if_pos hb]at h
   exact .inl ⟨d,h,by rw[t3.1 hb,GH]⟩
  ·rw[if_neg hb,HI]at h
   rcases List.mem_append.1 h with h|h
   ·obtain⟨e,he,rfl⟩:=List.mem_map.1 h
    exact .inl ⟨AN e y,List.mem_append_left _ (List.mem_map.2 ⟨e,he,rfl⟩),(MB e y b).symm⟩
   ·by_cases hl:BF x=0
    ·rw[if_pos hl]at h
     rcases ih b d h with⟨e,he,rfl⟩|h
     ·exact .inl ⟨e,List.mem_append_right _ (by rw[if_pos hl];exact he),rfl⟩
     ·exact .inr h
    ·rw[if_neg hl]at h;cases h
def XG (w:Wy) (lo hi j:Nat):Wy:=if hi-j=1 then .emp else .many w (lo-(j+1)) (hi-(j+1))
def Dl:Wy→List Wy
 | .emp=>[]
 | .step _ _=>[.emp]
 | .alt a b=>Dl a++Dl b
 | .thn a b=>(Dl a).map (AN · b)++Dl b
 | .again w=>(Dl w).map (AN · (.again w))
 | .many w lo hi=>(List.range hi).flatMap fun j=>(Dl w).map (AN · (XG w lo hi j))
theorem yI {w:Wy} {lo hi:Nat} {d:Wy}:d∈Dl (.many w lo hi)↔∃j,j<hi∧∃e∈Dl w,d=AN e (XG w lo hi j):=by
 rw[Dl,List.mem_flatMap]
 constructor
 ·rintro⟨j,hj,h⟩
  obtain⟨e,he,rfl⟩:=List.mem_map.1 h
  exact⟨j,List.mem_range.1 hj,e,he,rfl⟩
 ·rintro⟨j,hj,e,he,rfl⟩
  exact⟨j,List.mem_range.2 hj,List.mem_map.2 ⟨e,he,rfl⟩⟩
theorem kM {k t:Str} {w:Wy} {lo hi j:Nat} {d:Wy} (hj:j<hi) (h:d∈HI k t (XG w lo hi j)):j+1<hi∧∃e∈HI k t w,d=AN e (XG w lo hi (j+1)):=by
 unfold XG at h
 split at h
 ·cases h
 ·rename_i h1
  have h0:hi-(j+1)≠0:=by omega
  rw[HI,if_neg h0]at h
  obtain⟨e,he,rfl⟩:=List.mem_map.1 h
  exact⟨by omega,e,he,by rw[XG,show lo-(j+1)-1=lo-(j+1+1) by omega,show hi-(j+1)-1=hi-(j+1+1) by omega]⟩
theorem DZ {k t:Str}:∀(w d:Wy),d∈HI k t w→d∈Dl w
 | .emp,d,h=>by cases h
 | .step x y,d,h=>by
   rw[HI]at h
   split at h
   ·exact h
   ·cases h
 | .alt a b,d,h=>(List.mem_append.1 h).elim (fun h=>List.mem_append_left _ (DZ a d h)) fun h=>List.mem_append_right _ (DZ b d h)
 | .thn a b,d,h=>by
   rcases List.mem_append.1 h with h|h
   ·obtain⟨e,he,rfl⟩:=List.mem_map.1 h
    exact List.mem_append_left _ (List.mem_map.2 ⟨e,DZ a e he,rfl⟩)
   ·split at h
    ·exact List.mem_append_right _ (DZ b d h)
    ·cases h
 | .again w,d,h=>by
   obtain⟨e,he,rfl⟩:=List.mem_map.1 h
   exact List.mem_map.2 ⟨e,DZ w e he,rfl⟩
 | .many w lo hi,d,h=>by
   rw[HI]at h
   split at h
   ·cases h
   ·rename_i h0
    obtain⟨e,he,rfl⟩:=List.mem_map.1 h
    exact yI.2 ⟨0,by omega,e,DZ w e he,rfl⟩
theorem OE {k t:Str}:∀(w d r:Wy),d∈Dl w→r∈HI k t d→r∈Dl w
 | .emp,d,r,h,_=>by cases h
 | .step x y,d,r,h,hr=>by rw[List.mem_singleton.1 h]at hr;cases hr
 | .alt a b,d,r,h,hr=>(List.mem_append.1 h).elim (fun h=>List.mem_append_left _ (OE a d r h hr)) fun h=>List.mem_append_right _ (OE b d r h hr)
 | .thn a b,d,r,h,hr=>by
   rcases List.mem_append.1 h with h|h
   ·obtain⟨e,he,rfl⟩:=List.mem_map.1 h
    rcases LV e b r hr with⟨e',h',rfl⟩|h'
    ·exact List.mem_append_left _ (List.mem_map.2 ⟨e',OE a e e' he h',rfl⟩)
    ·exact List.mem_append_right _ (DZ b r h')
   ·exact List.mem_append_right _ (OE b d r h hr)
 | .again w,d,r,h,hr=>by
   obtain⟨e,he,rfl⟩:=List.mem_map.1 h
   rcases LV e (.again w) r hr with⟨e',h',rfl⟩|h'
   ·exact List.mem_map.2 ⟨e',OE w e e' he h',rfl⟩
   ·exact DZ (.again w) r h'
 | .many w lo hi,d,r,h,hr=>by
   obtain⟨j,hj,e,he,rfl⟩:=yI.1 h
   rcases LV e _ r hr with⟨e',h',rfl⟩|h'
   ·exact yI.2 ⟨j,hj,e',OE w e e' he h',rfl⟩
   ·obtain⟨h1,e',h2,rfl⟩:=kM hj h'
    exact yI.2 ⟨j+1,h1,e',DZ w e' h2,rfl⟩
theorem MV {w b:Wy} (hw:CZ w) (hb:CZ b):CZ (if BV b=true then w else .thn w b):=by
 split
 ·exact hw
 ·exact⟨hw,hb⟩
theorem J2:∀(a b:Wy),CZ a→CZ b→CZ (AN a b)
 | .emp,_,_,hb=>hb
 | .step _ _,_,ha,hb=>MV ha hb
 | .again _,_,ha,hb=>MV ha hb
 | .many _ _ _,_,ha,hb=>MV ha hb
 | .alt _ _,_,ha,hb=>MV ha hb
 | .thn x y,b,ha,hb=>by
   show CZ (if BV b=true then .thn x y else .thn x (AN y b))
   split
   ·exact ha
   ·exact⟨ha.1,J2 y b ha.2 hb⟩
theorem lR {w:Wy} {lo hi j:Nat} (h:CZ (.many w lo hi)):CZ (XG w lo hi j):=by
 unfold XG
 split
 ·trivial
 ·have h1:=h.2.1
  have h2:=h.2.2
  exact⟨h.1,by omega,by omega⟩
theorem JY:∀(w:Wy),CZ w→∀d∈Dl w,CZ d
 | .emp,_,d,h=>by cases h
 | .step _ _,_,d,h=>by rw[List.mem_singleton.1 h];trivial
 | .alt a b,hw,d,h=>(List.mem_append.1 h).elim (JY a hw.1 d) (JY b hw.2 d)
 | .thn a b,hw,d,h=>by
   rcases List.mem_append.1 h with h|h
   ·obtain⟨e,he,rfl⟩:=List.mem_map.1 h
    exact J2 e b (JY a hw.1 e he) hw.2
   ·exact JY b hw.2 d h
 | .again w,hw,d,h=>by
   obtain⟨e,he,rfl⟩:=List.mem_map.1 h
   exact J2 e (.again w) (JY w hw e he) hw
 | .many w lo hi,hw,d,h=>by
   obtain⟨j,_,e,he,rfl⟩:=yI.1 h
   exact J2 e _ (JY w hw.1 e he) (lR hw)
theorem oJ {a b:Option Str} (h:oM a=oM b):a=b:=by
 cases a<;>cases b<;>first|rfl|(cases h;rfl)|cases h
theorem IF:∀(a b:Wy),wM a=wM b→a=b
 | .emp,b,h=>by cases b<;>simp[wM]at h<;>rfl
 | .step k t,b,h=>by
   cases b<;>simp[wM]at h<;>first|exact absurd h.1 (by decide+kernel)|(rw[oJ h.1,h.2])
 | .again w,b,h=>by
   cases b<;>simp[wM]at h
   rw[IF w _ h]
 | .many w lo hi,b,h=>by
   cases b<;>simp[wM]at h
   rw[IF w _ h.1]
   congr 1<;>omega
 | .thn x y,b,h=>by
   cases b<;>simp[wM]at h<;>first|exact absurd h.1 (by decide+kernel)|rw[IF x _ h.1,IF y _ h.2]
 | .alt x y,b,h=>by
   cases b<;>simp[wM]at h<;>first|exact absurd h.1 (by decide+kernel)|rw[IF x _ h.1,IF y _ h.2]
def ch:Wy→Nat
 | .thn _ b=>ch b+1
 |_=>0
theorem DS:∀w:Wy,deep w≤nd w
 | .emp=>Nat.le_refl _
 | .step _ _=>Nat.le_refl _
 | .again w=>Nat.succ_le_succ (DS w)
 | .many w _ _=>Nat.succ_le_succ (DS w)
 | .thn a b=>by have:=DS a;have:=DS b;simp only[deep,nd];omega
 | .alt a b=>by have:=DS a;have:=DS b;simp only[deep,nd];omega
theorem n8:∀w:Wy,ch w+1≤nd w
 | .emp=>Nat.le_refl _
 | .step _ _=>Nat.le_refl _
 | .again w=>by simp only[ch,nd];omega
 | .many w _ _=>by simp only[ch,nd];omega
 | .thn a b=>by have:=n8 b;simp only[ch,nd];omega
 | .alt a b=>by simp only[ch,nd];omega
theorem QY {w b:Wy} (hw:ch w=0) (e:AN w b=if BV b=true then w else .thn w b):ch (AN w b)≤ch w+ch b+1∧deep (AN w b)≤max (deep w+1) (ch w+1+deep b):=by
 rw[e,hw]
 split
 ·omega
 ·simp only[ch,deep];omega
theorem F8:∀a b:Wy,ch (AN a b)≤ch a+ch b+1∧deep (AN a b)≤max (deep a+1) (ch a+1+deep b)
 | .emp,b=>by simp only[AN,ch];omega
 | .step _ _,b=>QY rfl rfl
 | .again _,b=>QY rfl rfl
 | .many _ _ _,b=>QY rfl rfl
 | .alt _ _,b=>QY rfl rfl
 | .thn x y,b=>by
   have ih:=F8 y b
   simp only[AN]
   split
   ·simp only[ch];omega
   ·simp only[ch,deep];omega
theorem UU (w:Wy) (lo hi j:Nat):ch (XG w lo hi j)=0∧deep (XG w lo hi j)≤deep w+1∧nd (XG w lo hi j)≤nd w+1:=by
 unfold XG
 split
 ·exact⟨rfl,by simp only[deep];omega,by simp only[nd];omega⟩
 ·exact⟨rfl,Nat.le_refl _,Nat.le_refl _⟩
theorem JK:∀(w d:Wy),d∈Dl w→ch d+1≤nd w∧deep d≤2*nd w
 | .emp,d,h=>by cases h
 | .step _ _,d,h=>by rw[List.mem_singleton.1 h];exact⟨Nat.le_refl _,by simp only[deep,nd];omega⟩
 | .alt a b,d,h=>by
   simp only[nd]
   rcases List.mem_append.1 h with h|h
   ·have:=JK a d h;omega
   ·have:=JK b d h;omega
 | .thn a b,d,h=>by
   simp only[nd]
   rcases List.mem_append.1 h with h|h
   ·obtain⟨e,he,rfl⟩:=List.mem_map.1 h
    have:=JK a e he;have:=F8 e b;have:=DS b;have:=n8 b
    omega
   ·have:=JK b d h;omega
 | .again w,d,h=>by
   obtain⟨e,he,rfl⟩:=List.mem_map.1 h
   have:=JK w e he;have h2:=F8 e (.again w);have:=DS w
   simp only[nd,ch,deep]at h2⊢
   omega
 | .many w lo hi,d,h=>by
   obtain⟨j,_,e,he,rfl⟩:=yI.1 h
   have:=JK w e he;have h2:=F8 e (XG w lo hi j);have:=DS w;have:=UU w lo hi j
   simp only[nd]at h2⊢
   omega
theorem U9 {α β:Type} {f:α→List β} {c:Nat}:∀(l:List α),(∀x∈l,(f x).length=c)→(l.flatMap f).length=l.length*c
 |[],_=>by simp
 |x::l,h=>by
  rw[List.flatMap_cons,List.length_append,h x (by simp),U9 l (fun y hy=>h y (by simp[hy])),List.length_cons,Nat.succ_mul,Nat.add_comm]
theorem JZ:∀w:Wy,(Dl w).length=cn w
 | .emp=>rfl
 | .step _ _=>rfl
 | .alt a b=>by simp only[Dl,cn,List.length_append,JZ a,JZ b]
 | .thn a b=>by simp only[Dl,cn,List.length_append,List.length_map,JZ a,JZ b]
 | .again w=>by simp only[Dl,cn,List.length_map,JZ w]
 | .many w lo hi=>by
   rw[Dl,U9 (c:=cn w) _ (fun j _=>by rw[List.length_map,JZ w]),List.length_range];rfl
def Sh (N:Nat):Wy→Prop
 | .thn a b=>nd a≤N∧Sh N b
 |w=>nd w≤N
theorem JN {N:Nat}:∀w:Wy,nd w≤N→Sh N w
 | .emp,h=>h
 | .step _ _,h=>h
 | .again _,h=>h
 | .many _ _ _,h=>h
 | .alt _ _,h=>h
 | .thn a b,h=>⟨by simp only[nd]at h;omega,JN b (by simp only[nd]at h;omega)⟩
theorem R7 {N:Nat} {w b:Wy} (hw:nd w≤N) (hb:Sh N b):Sh N (if BV b=true then w else .thn w b):=by
 split
 ·exact JN w hw
 ·exact⟨hw,hb⟩
theorem KG {N:Nat}:∀a b:Wy,Sh N a→Sh N b→Sh N (AN a b)
 | .emp,_,_,hb=>hb
 | .step _ _,_,ha,hb=>R7 ha hb
 | .again _,_,ha,hb=>R7 ha hb
 | .many _ _ _,_,ha,hb=>R7 ha hb
 | .alt _ _,_,ha,hb=>R7 ha hb
 | .thn x y,b,ha,hb=>by
   show Sh N (if BV b=true then .thn x y else .thn x (AN y b))
   split
   ·exact ha
   ·exact⟨ha.1,KG y b ha.2 hb⟩
theorem NI {N:Nat}:∀w d:Wy,nd w≤N→d∈Dl w→Sh N d
 | .emp,d,_,h=>by cases h
 | .step _ _,d,hn,h=>by rw[List.mem_singleton.1 h];exact hn
 | .alt a b,d,hn,h=>by
   simp only[nd]at hn
   exact(List.mem_append.1 h).elim (NI a d (by omega)) (NI b d (by omega))
 | .thn a b,d,hn,h=>by
   simp only[nd]at hn
   rcases List.mem_append.1 h with h|h
   ·obtain⟨e,he,rfl⟩:=List.mem_map.1 h
    exact KG e b (NI a e (by omega) he) (JN b (by omega))
   ·exact NI b d (by omega) h
 | .again w,d,hn,h=>by
   obtain⟨e,he,rfl⟩:=List.mem_map.1 h
   exact KG e (.again w) (NI w e (by simp only[nd]at hn;omega) he) hn
 | .many w lo hi,d,hn,h=>by
   obtain⟨j,_,e,he,rfl⟩:=yI.1 h
   simp only[nd]at hn
   exact KG e _ (NI w e (by omega) he) (JN _ (Nat.le_trans (UU w lo hi j).2.2 hn))
theorem rZ {N:Nat} {k t:Str}:∀d e:Wy,Sh N d→e∈HI k t d→deep e≤2*N+deep d+1:=by
 have one:∀d e:Wy,nd d≤N→e∈HI k t d→deep e≤2*N+deep d+1:=fun d e h he=>by
  have:=JK d e (DZ d e he);omega
 intro d
 induction d with
 |emp=>exact fun e h he=>one _ e h he
 |step _ _=>exact fun e h he=>one _ e h he
 |again _ _=>exact fun e h he=>one _ e h he
 |many _ _ _ _=>exact fun e h he=>one _ e h he
 |alt _ _ _ _=>exact fun e h he=>one _ e h he
 |thn x y _ ih=>
  intro e h he
  simp only[deep]
  rcases List.mem_append.1 he with he|he
  ·obtain⟨e',h',rfl⟩:=List.mem_map.1 he
   have:=JK x e' (DZ x e' h');have:=F8 e' y;have:=h.1
   omega
  ·split at he
   ·have:=ih e h.2 he;omega
   ·cases he
noncomputable instance wyD:DecidableEq Wy:=fun a b=>Classical.propDecidable (a=b)
noncomputable def RF (acc ws:List Wy):List Wy:=ws.foldl (fun f w=>if w∈f then f else f++[w]) acc
noncomputable def SS (ws:List Wy):List Wy:=RF [] ws
theorem S6 {x:Wy}:∀{ws acc:List Wy},x∈RF acc ws↔x∈acc∨x∈ws
 |[],acc=>by simp[RF]
 |w::ws,acc=>by
  show x∈RF (if w∈acc then acc else acc++[w]) ws↔_
  rw[S6,List.mem_cons]
  split
  ·rename_i hw
   constructor
   ·rintro(h|h)
    ·exact .inl h
    ·exact .inr (.inr h)
   ·rintro(h|rfl|h)
    ·exact .inl h
    ·exact .inl hw
    ·exact .inr h
  ·rw[List.mem_append,List.mem_singleton,or_assoc]
theorem J3:∀{ws acc:List Wy},acc.Nodup→(RF acc ws).Nodup
 |[],acc,h=>h
 |w::ws,acc,h=>by
  show(RF (if w∈acc then acc else acc++[w]) ws).Nodup
  split
  ·exact J3 h
  ·rename_i hw
   refine J3 (List.nodup_append.2 ⟨h,by simp,fun a ha b hb e=>hw ?_⟩)
   rw[←List.mem_singleton.1 hb,←e];exact ha
theorem S8:∀{ws acc:List Wy},(RF acc ws).length≤acc.length+ws.length
 |[],acc=>Nat.le_refl _
 |w::ws,acc=>by
  show(RF (if w∈acc then acc else acc++[w]) ws).length≤_
  refine Nat.le_trans S8 ?_
  split
  ·simp only[List.length_cons];omega
  ·simp only[List.length_append,List.length_cons,List.length_nil];omega
theorem L8 {x:Wy} {ws:List Wy}:x∈SS ws↔x∈ws:=by unfold SS;rw[S6];simp
theorem J6 {ws:List Wy}:(SS ws).Nodup:=J3 List.nodup_nil
theorem J4 {ws:List Wy}:(SS ws).length≤ws.length:=by have:=S8 (ws:=ws) (acc:=[]);simpa[SS]using this
theorem XI:∀{a b:List Wy},a.Nodup→(∀k∈a,k∈b)→a.length≤b.length
 |[],_,_,_=>Nat.zero_le _
 |x::a,b,hn,hs=>by
  obtain⟨h1,h2⟩:=List.nodup_cons.1 hn
  have hx:x∈b:=hs x List.mem_cons_self
  have:=XI (b:=b.erase x) h2 fun k hk=>(List.mem_erase_of_ne (fun(e:k=x)=>h1 (by rw[←e];exact hk))).2 (hs k (List.mem_cons_of_mem _ hk))
  rw[List.length_erase_of_mem hx]at this
  have hb:0<b.length:=List.length_pos_of_mem hx
  rw[List.length_cons]
  omega
noncomputable def D9 (k t:Str):Wy→List Wy
 | .emp=>[]
 | .step x y=>if KF x y (k,t)=true then[.emp] else[]
 | .alt a b=>SS (D9 k t a++D9 k t b)
 | .thn a b=>SS (SS ((D9 k t a).map (AN · b))++(if BF a=0 then D9 k t b else[]))
 | .again w=>SS ((D9 k t w).map (AN · (.again w)))
 | .many w lo hi=>if hi=0 then[] else SS ((D9 k t w).map (AN · (if hi=1 then .emp else .many w (lo-1) (hi-1))))
theorem N6 {f:Wy→Wy} {a b:List Wy} (h:∀x,x∈a↔x∈b) (x:Wy):x∈a.map f↔x∈b.map f:=by
 rw[List.mem_map,List.mem_map]
 exact⟨fun⟨y,h1,h2⟩=>⟨y,(h y).1 h1,h2⟩,fun⟨y,h1,h2⟩=>⟨y,(h y).2 h1,h2⟩⟩
theorem DQ {k t:Str}:∀(w x:Wy),x∈D9 k t w↔x∈HI k t w
 | .emp,x=>Iff.rfl
 | .step _ _,x=>Iff.rfl
 | .alt a b,x=>by rw[D9,L8,HI,List.mem_append,List.mem_append,DQ a,DQ b]
 | .thn a b,x=>by
   rw[D9,L8,HI,List.mem_append,List.mem_append,L8,N6 (DQ a)]
   split
   ·rw[DQ b]
   ·exact Iff.rfl
 | .again w,x=>by rw[D9,L8,HI,N6 (DQ w)]
 | .many w lo hi,x=>by
   rw[D9,HI]
   split
   ·exact Iff.rfl
   ·rw[L8,N6 (DQ w)]
theorem ZM {k t:Str} (w:Wy):(D9 k t w).Nodup:=by
 cases w<;>rw[D9]
 ·exact List.nodup_nil
 ·split<;>simp
 ·exact J6
 ·split
  ·exact List.nodup_nil
  ·exact J6
 ·exact J6
 ·exact J6
theorem HH {k t:Str}:∀w:Wy,(D9 k t w).length≤nd w
 | .emp=>by simp[D9]
 | .step x y=>by rw[D9];split<;>simp[nd]
 | .alt a b=>by
   have ha:=HH (k:=k) (t:=t) a
   have hb:=HH (k:=k) (t:=t) b
   have h1:=J4 (ws:=D9 k t a++D9 k t b)
   rw[List.length_append]at h1
   simp only[D9,nd]
   omega
 | .thn a b=>by
   have ha:=HH (k:=k) (t:=t) a
   have hb:=HH (k:=k) (t:=t) b
   have h1:=J4 (ws:=SS ((D9 k t a).map (AN · b))++(if BF a=0 then D9 k t b else[]))
   have h4:=J4 (ws:=(D9 k t a).map (AN · b))
   have h5:(if BF a=0 then D9 k t b else[]).length≤(D9 k t b).length:=by split<;>simp
   rw[List.length_append]at h1
   rw[List.length_map]at h4
   simp only[D9,nd]
   omega
 | .again w=>by
   have ha:=HH (k:=k) (t:=t) w
   have h1:=J4 (ws:=(D9 k t w).map (AN · (.again w)))
   rw[List.length_map]at h1
   simp only[D9,nd]
   omega
 | .many w lo hi=>by
   have ha:=HH (k:=k) (t:=t) w
   have h1:=J4 (ws:=(D9 k t w).map (AN · (if hi=1 then .emp else .many w (lo-1) (hi-1))))
   rw[List.length_map]at h1
   simp only[D9,nd]
   split
   ·simp only[List.length_nil];omega
   ·omega
theorem QF {w b:Wy} (e:AN w b=if BV b=true then w else .thn w b):nd (AN w b)≤nd w+nd b+1:=by
 rw[e]
 split
 ·omega
 ·simp only[nd];omega
theorem KQ:∀a b:Wy,nd (AN a b)≤nd a+nd b+1
 | .emp,b=>by simp only[AN];omega
 | .step _ _,b=>QF rfl
 | .again _,b=>QF rfl
 | .many _ _ _,b=>QF rfl
 | .alt _ _,b=>QF rfl
 | .thn x y,b=>by
   have ih:=KQ y b
   simp only[AN]
   split
   ·omega
   ·simp only[nd];omega
theorem O4:∀(w d:Wy),nd w≤12→d∈Dl w→nd d≤14*nd w
 | .emp,d,_,h=>by cases h
 | .step _ _,d,_,h=>by rw[List.mem_singleton.1 h];simp only[nd];omega
 | .alt a b,d,hn,h=>by
   simp only[nd]at hn⊢
   rcases List.mem_append.1 h with h|h
   ·have:=O4 a d (by omega) h;omega
   ·have:=O4 b d (by omega) h;omega
 | .thn a b,d,hn,h=>by
   simp only[nd]at hn⊢
   rcases List.mem_append.1 h with h|h
   ·obtain⟨e,he,rfl⟩:=List.mem_map.1 h
    have:=O4 a e (by omega) he;have:=KQ e b
    omega
   ·have:=O4 b d (by omega) h;omega
 | .again w,d,hn,h=>by
   obtain⟨e,he,rfl⟩:=List.mem_map.1 h
   have h2:=KQ e (.again w)
   simp only[nd]at hn h2⊢
   have:=O4 w e (by omega) he
   omega
 | .many w lo hi,d,hn,h=>by
   obtain⟨j,_,e,he,rfl⟩:=yI.1 h
   have h2:=KQ e (XG w lo hi j);have:=(UU w lo hi j).2.2
   simp only[nd]at hn h2⊢
   have:=O4 w e (by omega) he
   omega
theorem GK:∀(w:Wy) (r:Rw),In w r→BF w≤r.length
 | .emp,r,_=>Nat.zero_le _
 | .step _ _,r,h=>by obtain⟨p,rfl,_⟩:=h;exact Nat.le_refl _
 | .again _,r,_=>Nat.zero_le _
 | .thn a b,r,h=>by
   obtain⟨u,v,rfl,hu,hv⟩:=h
   have:=GK a u hu;have:=GK b v hv
   rw[List.length_append];simp only[BF];omega
 | .alt a b,r,h=>by
   simp only[BF]
   rcases h with h|h
   ·have:=GK a r h;omega
   ·have:=GK b r h;omega
 | .many w lo hi,r,h=>by
   obtain⟨ls,h1,_,rfl,hl⟩:=h
   have:∀ls:List Rw,(∀l∈ls,In w l)→ls.length*BF w≤ls.flatten.length:=by
    intro ls
    induction ls with
    |nil=>intro _;simp
    |cons l ls ih=>
     intro hl
     have h3:=GK w l (hl l (by simp))
     have h4:=ih fun x hx=>hl x (by simp[hx])
     rw[List.flatten_cons,List.length_append,List.length_cons,Nat.succ_mul]
     omega
   exact Nat.le_trans (Nat.mul_le_mul_right _ h1) (this ls hl)
def oD:Option Str→D
 |none=> .non
 |some z=> .str z
def dW:Wy→D
 | .emp=> .tup [.str "empty"]
 | .step k t=> .tup [.str "step",oD k, .str t]
 | .again w=> .tup [.str "again",dW w]
 | .many w lo hi=> .tup [.str "many",dW w, .int lo, .int hi]
 | .thn a b=> .tup [.str "then",dW a,dW b]
 | .alt a b=> .tup [.str "or",dW a,dW b]
theorem EL (f:Nat→Option D):∀w:Wy,LU f (wM w)=some (dW w)
 | .emp=>rfl
 | .step k t=>by cases k<;>rfl
 | .again w=>by simp[wM,dW,LU,EF,EL f w]
 | .many w lo hi=>by simp[wM,dW,LU,EF,EL f w]
 | .thn a b=>by simp[wM,dW,LU,EF,EL f a,EL f b]
 | .alt a b=>by simp[wM,dW,LU,EF,EL f a,EL f b]
theorem RY (f:Nat→Option D):∀ws:List Wy,EF f (ws.map wM)=some (ws.map dW)
 |[]=>rfl
 |w::ws=>by simp[EF,EL f w,RY f ws]
theorem i0 (k:Option Str):(oD k).deep=0:=by cases k<;>rfl
theorem G7:∀w:Wy,(dW w).deep=deep w
 | .emp=>by simp[dW,D.deep,D.deeps,deep]
 | .step k t=>by simp[dW,D.deep,D.deeps,deep,i0]
 | .again w=>by simp[dW,D.deep,D.deeps,deep,G7 w]
 | .many w lo hi=>by simp[dW,D.deep,D.deeps,deep,G7 w]
 | .thn a b=>by simp[dW,D.deep,D.deeps,deep,G7 a,G7 b]
 | .alt a b=>by simp[dW,D.deep,D.deeps,deep,G7 a,G7 b]
theorem SA:∀ws:List Wy,(∀w∈ws,deep w≤100)→D.deeps (ws.map dW)≤100
 |[],_=>by simp[D.deeps]
 |w::ws,h=>by
  have h1:=h w (by simp)
  have h2:=SA ws fun x hx=>h x (by simp[hx])
  rw[List.map_cons,D.deeps,G7]
  omega
theorem W4 {a b:Str} (h:BN (.str a) (.str b)=true):a=b:=by rw[BN]at h;exact eq_of_beq h
theorem cL {a b:Nat} (h:BN (.int (a:Int)) (.int (b:Int))=true):a=b:=by rw[BN]at h;have:=eq_of_beq h;omega
theorem cY {x y:D} {xs ys:List D} (h:G1 (x::xs) (y::ys)=true):BN x y=true∧G1 xs ys=true:=by rw[G1,Bool.and_eq_true]at h;exact h
theorem dqt {xs ys:List D} (h:BN (.tup xs) (.tup ys)=true):G1 xs ys=true:=by rw[BN]at h;exact h
theorem wN {a b:Option Str} (h:BN (oD a) (oD b)=true):a=b:=by
 cases a<;>cases b
 ·rfl
 ·exact absurd h (by simp[oD,BN])
 ·exact absurd h (by simp[oD,BN])
 ·rw[W4 h]
def ww:Wy→Str
 | .emp=> "empty"
 | .step _ _=> "step"
 | .again _=> "again"
 | .many _ _ _=> "many"
 | .thn _ _=> "then"
 | .alt _ _=> "or"
def ar:Wy→List D
 | .emp=>[]
 | .step k t=>[oD k, .str t]
 | .again w=>[dW w]
 | .many w lo hi=>[dW w, .int lo, .int hi]
 | .thn a b=>[dW a,dW b]
 | .alt a b=>[dW a,dW b]
theorem LY {a b:Wy} (h:BN (dW a) (dW b)=true):ww a=ww b∧G1 (ar a) (ar b)=true:=by
 have e:∀w,dW w= .tup (.str (ww w)::ar w):=fun w=>by cases w<;>rfl
 rw[e a,e b]at h
 have:=cY (dqt h)
 exact⟨W4 this.1,this.2⟩
theorem vP:∀(a b:Wy),BN (dW a) (dW b)=true→a=b:=by
 intro a
 induction a with
 |emp=>
  intro b h
  obtain⟨hw,z⟩:=LY h
  clear h
  cases b<;>simp only[ww]at hw<;>first|exact absurd hw (by decide+kernel)|rfl
 |step k t=>
  intro b h
  obtain⟨hw,z⟩:=LY h
  clear h
  cases b<;>simp only[ww]at hw<;>first|exact absurd hw (by decide+kernel)|skip
  rename_i k' t'
  have h1:=cY (show G1 [oD k, .str t] [oD k', .str t']=true from z)
  rw[wN h1.1,W4 (cY h1.2).1]
 |again w ih=>
  intro b h
  obtain⟨hw,z⟩:=LY h
  clear h
  cases b<;>simp only[ww]at hw<;>first|exact absurd hw (by decide+kernel)|skip
  rename_i w'
  rw[ih _ (cY (show G1 [dW w] [dW w']=true from z)).1]
 |many w lo hi ih=>
  intro b h
  obtain⟨hw,z⟩:=LY h
  clear h
  cases b<;>simp only[ww]at hw<;>first|exact absurd hw (by decide+kernel)|skip
  rename_i w' lo' hi'
  have h1:=cY (show G1 [dW w, .int lo, .int hi] [dW w', .int lo', .int hi']=true from z)
  have h2:=cY h1.2
  rw[ih _ h1.1,cL h2.1,cL (cY h2.2).1]
 |thn p q ihp ihq=>
  intro b h
  obtain⟨hw,z⟩:=LY h
  clear h
  cases b<;>simp only[ww]at hw<;>first|exact absurd hw (by decide+kernel)|skip
  rename_i p' q'
  have h1:=cY (show G1 [dW p,dW q] [dW p',dW q']=true from z)
  rw[ihp _ h1.1,ihq _ (cY h1.2).1]
 |alt p q ihp ihq=>
  intro b h
  obtain⟨hw,z⟩:=LY h
  clear h
  cases b<;>simp only[ww]at hw<;>first|exact absurd hw (by decide+kernel)|skip
  rename_i p' q'
  have h1:=cY (show G1 [dW p,dW q] [dW p',dW q']=true from z)
  rw[ihp _ h1.1,ihq _ (cY h1.2).1]
theorem gD (a b:Wy):BN (dW a) (dW b)=decide (a=b):=by
 rw[Bool.eq_iff_iff,decide_eq_true_eq]
 exact⟨vP a b,fun e=>e▸KP _⟩
theorem mV {a b:Wy} {h:AA} {R:M→Prop} (hd:deep a≤100) (q:R (.bl (decide (a=b)))):Enp (BO (wM a) (wM b) h) R:=⟨_,by
 unfold BO UO
 rw[EL,EL,Option.bind_some,Option.bind_some,G7,if_pos (by omega),gD],q⟩
theorem gF {a:Wy}:∀ws:List Wy,((ws.map dW).any fun e=>BN e (dW a))=decide (a∈ws)
 |[]=>by simp
 |w::ws=>by
  rw[List.map_cons,List.any_cons,gF ws,gD,Bool.eq_iff_iff,Bool.or_eq_true,decide_eq_true_eq,decide_eq_true_eq,decide_eq_true_eq,List.mem_cons,@eq_comm _ w a]
theorem eF {a:Wy} {k:Nat} {ws:List Wy} {h:AA} {R:M→Prop} (hk:h[k]? =some (.lst (ws.map wM))) (hd:∀w∈ws,deep w≤100) (q:R (.bl (!decide (a∈ws)))):Enp (CP (wM a) (.ref k) h) R:=⟨_,by
 unfold CP
 rw[show EE h (.ref k)=none by unfold EE;simp only[hk]]
 show(G0 h (.ref k)).bind (fun xs=>O5 (wM a) xs h fun b=> .bl (!b))=_
 rw[Y1 hk,Option.bind_some]
 unfold O5 WA UO
 rw[RY,EL,Option.bind_some,Option.bind_some,if_pos (Nat.le_trans (SA ws hd) (by decide)),gF],q⟩
def tl (z:Str):List Nat:=z.cps.toList
theorem V6 (a b:Str):tl (a++b)=tl a++tl b:=by
 show(a.cps++b.cps).toList=_
 rw[Array.toList_append];rfl
def tx (w:Wy):Str:=(C3 (dW w)).shown
def oT:Option Str→Str
 |none=> "None"
 |some z=>reprText z
def sc (k:Option Str) (t:Str):List Nat:=tl (oT k)++([44,32]++(tl (reprText t)++[41]))
def iTx (i:Nat):Str:=toString (i:Int)
def mc (lo hi:Nat):List Nat:=[44,32]++(tl (iTx lo)++([44,32]++(tl (iTx hi)++[41])))
def nf:Wy→List Nat
 | .emp=>[40,39,101,109,112,116,121,39,44,41]
 | .step k t=>[40,39,115,116,101,112,39,44,32]++sc k t
 | .again w=>[40,39,97,103,97,105,110,39,44,32]++(nf w++[41])
 | .many w lo hi=>[40,39,109,97,110,121,39,44,32]++(nf w++mc lo hi)
 | .thn a b=>[40,39,116,104,101,110,39,44,32]++(nf a++([44,32]++(nf b++[41])))
 | .alt a b=>[40,39,111,114,39,44,32]++(nf a++([44,32]++(nf b++[41])))
theorem A05 (a b:Str):tl (tupleText [a,b])=[40]++(tl a++([44,32]++(tl b++[41]))):=by
 show tl (("(":Str)++(a++ ", " ++b)++(")":String))=_
 simp only[V6,List.append_assoc]
 rfl
theorem iY (a b c:Str):tl (tupleText [a,b,c])=[40]++(tl a++([44,32]++(tl b++([44,32]++(tl c++[41]))))):=by
 show tl (("(":Str)++(a++ ", " ++(b++ ", " ++c))++(")":String))=_
 simp only[V6,List.append_assoc]
 rfl
theorem zQ (a b c d:Str):tl (tupleText [a,b,c,d])=[40]++(tl a++([44,32]++(tl b++([44,32]++(tl c++([44,32]++(tl d++[41]))))))):=by
 show tl (("(":Str)++(a++ ", " ++(b++ ", " ++(c++ ", " ++d)))++(")":String))=_
 simp only[V6,List.append_assoc]
 rfl
theorem uM (k:Option Str):(C3 (oD k)).shown=oT k:=by cases k<;>simp[oD,C3,PyData.shown,oT]
theorem JP:∀w:Wy,tl (tx w)=nf w
 | .emp=>by decide+kernel
 | .step k t=>by
   show tl (C3 (.tup [.str "step",oD k, .str t])).shown=_
   simp only[C3,CF,PyData.shown,PyData.shownAll,uM]
   rw[iY,show tl (reprText "step")=[39,115,116,101,112,39] by decide+kernel]
   rfl
 | .again w=>by
   have ih:=JP w
   unfold tx at ih
   show tl (C3 (.tup [.str "again",dW w])).shown=_
   simp only[C3,CF,PyData.shown,PyData.shownAll]
   rw[A05,show tl (reprText "again")=[39,97,103,97,105,110,39] by decide+kernel,ih]
   rfl
 | .many w lo hi=>by
   have ih:=JP w
   unfold tx at ih
   show tl (C3 (.tup [.str "many",dW w, .int lo, .int hi])).shown=_
   simp only[C3,CF,PyData.shown,PyData.shownAll]
   rw[zQ,show tl (reprText "many")=[39,109,97,110,121,39] by decide+kernel,ih]
   rfl
 | .thn a b=>by
   have iha:=JP a
   have ihb:=JP b
   unfold tx at iha ihb
   show tl (C3 (.tup [.str "then",dW a,dW b])).shown=_
   simp only[C3,CF,PyData.shown,PyData.shownAll]
   rw[iY,show tl (reprText "then")=[39,116,104,101,110,39] by decide+kernel,iha,ihb]
   rfl
 | .alt a b=>by
   have iha:=JP a
   have ihb:=JP b
   unfold tx at iha ihb
   show tl (C3 (.tup [.str "or",dW a,dW b])).shown=_
   simp only[C3,CF,PyData.shown,PyData.shownAll]
   rw[iY,show tl (reprText "or")=[39,111,114,39] by decide+kernel,iha,ihb]
   rfl
def wd:Wy→Nat
 | .emp=>101
 | .step _ _=>115
 | .again _=>97
 | .many _ _ _=>109
 | .thn _ _=>116
 | .alt _ _=>111
theorem HU (w:Wy) (x:List Nat):(nf w++x)[2]? =some (wd w):=by cases w<;>rfl
def xO:List (Option Str):=none::ZN.map some
theorem sN:xO.all (fun k=>UP.all fun t=>decide ((sc k t).length≤31)&&xO.all fun k'=>UP.all fun t'=> !((sc k t).isPrefixOf (sc k' t'))||(k==k'&&t==t'))=true:=by decide+kernel
theorem pC:(List.range 7).all (fun k=>(List.range 7).all fun t=>decide ((mc k t).length≤31)&&(List.range 7).all fun k'=>(List.range 7).all fun t'=> !((mc k t).isPrefixOf (mc k' t'))||(k==k'&&t==t'))=true:=by decide+kernel
theorem M2 {k:Option Str} (h:∀z,k=some z→z∈ZN):k∈xO:=by
 cases k with
 |none=>exact List.mem_cons_self
 |some z=>exact List.mem_cons_of_mem _ (List.mem_map.2 ⟨z,h z rfl,rfl⟩)
theorem WD {k k':Option Str} {t t':Str} (h1:k∈xO) (h2:t∈UP) (h3:k'∈xO) (h4:t'∈UP):(sc k t).length≤31∧(sc k t<+:sc k' t'→k=k'∧t=t'):=by
 have:=List.all_eq_true.1 (List.all_eq_true.1 sN k h1) t h2
 rw[Bool.and_eq_true,decide_eq_true_eq]at this
 refine⟨this.1,fun e=> ?_⟩
 have:=List.all_eq_true.1 (List.all_eq_true.1 this.2 k' h3) t' h4
 rw[List.isPrefixOf_iff_prefix.2 e]at this
 simpa using this
theorem W1 {k k' t t':Nat} (h1:k<7) (h2:t<7) (h3:k'<7) (h4:t'<7):(mc k t).length≤31∧(mc k t<+:mc k' t'→k=k'∧t=t'):=by
 have:=List.all_eq_true.1 (List.all_eq_true.1 pC k (List.mem_range.2 h1)) t (List.mem_range.2 h2)
 rw[Bool.and_eq_true,decide_eq_true_eq]at this
 refine⟨this.1,fun e=> ?_⟩
 have:=List.all_eq_true.1 (List.all_eq_true.1 this.2 k' (List.mem_range.2 h3)) t' (List.mem_range.2 h4)
 rw[List.isPrefixOf_iff_prefix.2 e]at this
 simpa using this
theorem dC {a b x y:List Nat} (h:a++x=b++y):a<+:b∨b<+:a:=List.prefix_or_prefix_of_prefix ⟨x,h⟩ ⟨y,rfl⟩
theorem c4:∀(a b:Wy),CZ a→CZ b→∀x y:List Nat,nf a++x=nf b++y→a=b∧x=y:=by
 intro a
 induction a with
 |emp=>
  intro b _ _ x y h
  have hw:wd .emp=wd b:=Option.some.inj (by rw[←HU _ x,h,HU])
  cases b<;>simp only[wd]at hw<;>first|exact absurd hw (by decide)|skip
  exact⟨rfl,List.append_cancel_left h⟩
 |step k t=>
  intro b ha hb x y h
  have hw:wd (.step k t)=wd b:=Option.some.inj (by rw[←HU _ x,h,HU])
  cases b<;>simp only[wd]at hw<;>first|exact absurd hw (by decide)|skip
  rename_i k' t'
  rw[nf,nf,List.append_assoc,List.append_assoc]at h
  have h:=List.append_cancel_left h
  have p1:=WD (M2 ha.1) ha.2 (M2 hb.1) hb.2
  have p2:=WD (M2 hb.1) hb.2 (M2 ha.1) ha.2
  have e:k=k'∧t=t':=(dC h).elim p1.2 fun z=>⟨(p2.2 z).1.symm,(p2.2 z).2.symm⟩
  obtain⟨rfl,rfl⟩:=e
  exact⟨rfl,List.append_cancel_left h⟩
 |again w ih=>
  intro b ha hb x y h
  have hw:wd (.again w)=wd b:=Option.some.inj (by rw[←HU _ x,h,HU])
  cases b<;>simp only[wd]at hw<;>first|exact absurd hw (by decide)|skip
  rename_i w'
  rw[nf,nf,List.append_assoc,List.append_assoc,List.append_assoc,List.append_assoc]at h
  obtain⟨rfl,e⟩:=ih w' ha hb _ _ (List.append_cancel_left h)
  exact⟨rfl,List.append_cancel_left e⟩
 |many w lo hi ih=>
  intro b ha hb x y h
  have hw:wd (.many w lo hi)=wd b:=Option.some.inj (by rw[←HU _ x,h,HU])
  cases b<;>simp only[wd]at hw<;>first|exact absurd hw (by decide)|skip
  rename_i w' lo' hi'
  rw[nf,nf,List.append_assoc,List.append_assoc,List.append_assoc,List.append_assoc]at h
  obtain⟨rfl,q⟩:=ih w' ha.1 hb.1 _ _ (List.append_cancel_left h)
  have ha:=ha.2
  have hb:=hb.2
  have p1:=W1 (k:=lo) (t:=hi) (k':=lo') (t':=hi') (by omega) (by omega) (by omega) (by omega)
  have p2:=W1 (k:=lo') (t:=hi') (k':=lo) (t':=hi) (by omega) (by omega) (by omega) (by omega)
  have e:lo=lo'∧hi=hi':=(dC q).elim p1.2 fun z=>⟨(p2.2 z).1.symm,(p2.2 z).2.symm⟩
  obtain⟨rfl,rfl⟩:=e
  exact⟨rfl,List.append_cancel_left q⟩
 |thn p q ihp ihq=>
  intro b ha hb x y h
  have hw:wd (.thn p q)=wd b:=Option.some.inj (by rw[←HU _ x,h,HU])
  cases b<;>simp only[wd]at hw<;>first|exact absurd hw (by decide)|skip
  rename_i p' q'
  simp only[nf,List.append_assoc]at h
  obtain⟨rfl,e⟩:=ihp p' ha.1 hb.1 _ _ (List.append_cancel_left h)
  obtain⟨rfl,e2⟩:=ihq q' ha.2 hb.2 _ _ (List.append_cancel_left e)
  exact⟨rfl,List.append_cancel_left e2⟩
 |alt p q ihp ihq=>
  intro b ha hb x y h
  have hw:wd (.alt p q)=wd b:=Option.some.inj (by rw[←HU _ x,h,HU])
  cases b<;>simp only[wd]at hw<;>first|exact absurd hw (by decide)|skip
  rename_i p' q'
  simp only[nf,List.append_assoc]at h
  obtain⟨rfl,e⟩:=ihp p' ha.1 hb.1 _ _ (List.append_cancel_left h)
  obtain⟨rfl,e2⟩:=ihq q' ha.2 hb.2 _ _ (List.append_cancel_left e)
  exact⟨rfl,List.append_cancel_left e2⟩
theorem VN {a b:Wy} (ha:CZ a) (hb:CZ b) (h:tx a=tx b):a=b:=
 (c4 a b ha hb [] [] (by rw[List.append_nil,List.append_nil,←JP,←JP,h])).1
theorem IC:∀w:Wy,CZ w→(nf w).length≤40*nd w
 | .emp,_=>by simp[nf,nd]
 | .step k t,h=>by
   have:=(WD (M2 h.1) h.2 (M2 h.1) h.2).1
   simp only[nf,nd,List.length_append,List.length_cons,List.length_nil];omega
 | .again w,h=>by
   have:=IC w h
   simp only[nf,nd,List.length_append,List.length_cons,List.length_nil];omega
 | .many w lo hi,h=>by
   have:=IC w h.1
   have h2:=h.2
   have:=(W1 (k:=lo) (t:=hi) (k':=lo) (t':=hi) (by omega) (by omega) (by omega) (by omega)).1
   simp only[nf,nd,List.length_append,List.length_cons,List.length_nil];omega
 | .thn a b,h=>by
   have h1:=IC a h.1
   have h2:=IC b h.2
   simp only[nf,nd,List.length_append,List.length_cons,List.length_nil];omega
 | .alt a b,h=>by
   have h1:=IC a h.1
   have h2:=IC b h.2
   simp only[nf,nd,List.length_append,List.length_cons,List.length_nil];omega
theorem MK:∀w:Wy,(C3 (dW w)).depth≤deep w+1
 | .emp=>by simp[dW,C3,CF,PyData.depth,PyData.depthAll,deep]
 | .step k t=>by cases k<;>simp[dW,oD,C3,CF,PyData.depth,PyData.depthAll,deep]
 | .again w=>by have:=MK w;simp[dW,C3,CF,PyData.depth,PyData.depthAll,deep];omega
 | .many w lo hi=>by have:=MK w;simp[dW,C3,CF,PyData.depth,PyData.depthAll,deep];omega
 | .thn a b=>by have:=MK a;have:=MK b;simp[dW,C3,CF,PyData.depth,PyData.depthAll,deep];omega
 | .alt a b=>by have:=MK a;have:=MK b;simp[dW,C3,CF,PyData.depth,PyData.depthAll,deep];omega
theorem P8 {i:Nat} (h:i≤6):decide ((i:Int).natAbs.log2<1920)=true:=by
 have:∀j:Nat,j<7→decide ((j:Int).natAbs.log2<1920)=true:=by decide+kernel
 exact this i (by omega)
theorem IM:∀w:Wy,CZ w→(C3 (dW w)).showable=true
 | .emp,_=>by simp[dW,C3,CF,PyData.showable,PyData.showableAll]
 | .step k t,_=>by cases k<;>simp[dW,oD,C3,CF,PyData.showable,PyData.showableAll]
 | .again w,h=>by have:=IM w h;simp[dW,C3,CF,PyData.showable,PyData.showableAll,this]
 | .many w lo hi,h=>by
   have:=IM w h.1
   have h2:=h.2
   have e1:=P8 (i:=lo) (by omega)
   have e2:=P8 (i:=hi) (by omega)
   simp only[dW,C3,CF,PyData.showable,PyData.showableAll,this,e1,e2,Bool.and_self]
 | .thn a b,h=>by have:=IM a h.1;have:=IM b h.2;simp[dW,C3,CF,PyData.showable,PyData.showableAll, *]
 | .alt a b,h=>by have:=IM a h.1;have:=IM b h.2;simp[dW,C3,CF,PyData.showable,PyData.showableAll, *]
theorem QX {w:Wy} {h:AA} {R:M→Prop} (hw:CZ w) (hd:deep w≤24) (hn:nd w≤200) (q:R (.str (tx w))):Enp (EC [wM w] h) R:=⟨_,by
 have e:∃ms,wM w= .tup ms:=by cases w<;>exact⟨_,rfl⟩
 obtain⟨ms,e⟩:=e
 rw[e]
 show(UO h (.tup ms)).bind _=_
 rw[←e]
 unfold UO
 rw[EL,Option.bind_some]
 have h1:=MK w
 have h2:=IC w hw
 have h4:(C3 (dW w)).shown.length=(nf w).length:=by rw[←JP];exact(Array.length_toList).symm
 rw[if_pos ⟨IM w hw,by omega,by rw[h4];omega⟩];rfl,q⟩
def Ls (h:AA) (x:M) (ws:List Wy):Prop:=x= .lst (ws.map wM)∨∃k,x= .ref k∧h[k]? =some (.lst (ws.map wM))
theorem Ls.seq {h:AA} {x:M} {ws:List Wy} (l:Ls h x ws):G0 h x=some (ws.map wM):=by
 rcases l with rfl|⟨k,rfl,l⟩
 ·rfl
 ·exact Y1 l
theorem dU {ma:FE} {ρ:BJ} {h1:AA} {s:SI} (q:Ens (ma ρ h1) fun x h2=>∃ws h g,h2=h++g∧Ls h x ws∧∀o,(∀g,L2.KF (ws.map wM) o (h++g))→s (ws.map wM,o) h2):Ens (iL ma ρ h1) s:= .bnd (q.mono fun x h2 q=>by
 obtain⟨ws,h,g,rfl,rfl|⟨k,rfl,e⟩,q⟩:=q
 ·exact .ret (q none fun _=>trivial)
 ·have e':∀g:AA,(h++g)[k]? =some (.lst (ws.map wM)):=fun g=>by
   rw[List.getElem?_append_left (List.getElem?_eq_some_iff.1 e).1];exact e
  refine⟨(ws.map wM,some k),h++g,?_,q (some k) e'⟩
  dsimp only
  rw[e' g])
theorem MW {xs:List M} {o:Option Nat} {bd:M→FS} {S:Out→AA→Prop} (I:Nat→BJ→AA→Prop) (hI:∀i ρ h,I i ρ h→L2.KF xs o h):∀{l:List M} {i:Nat} {ρ:BJ} {h:AA},l=xs.drop i→i≤xs.length→I i ρ h→
 (∀i x ρ h,xs[i]? =some x→I i ρ h→Ens (bd x ρ h) (LQ (I (i+1)) S))→(∀ρ h,I xs.length ρ h→S (.nx ρ) h)→Ens (FN xs o bd l ρ h) S
 |[],i,ρ,h,e,hi,hj,_,hd=>by
  have:i=xs.length:=by
   have:=congrArg List.length e
   simp at this;omega
  subst this
  unfold FN
  rw[if_pos (hI _ _ _ hj)]
  exact .ret (hd ρ h hj)
 |x::r,i,ρ,h,e,hi,hj,hs,hd=>by
  have hx:xs[i]? =some x:=by
   have:=congrArg (fun l:List M=>l[0]?) e
   simpa using this.symm
  have hr:r=xs.drop (i+1):=by
   have:=congrArg List.tail e
   simpa using this
  have hlt:i<xs.length:=(List.getElem?_eq_some_iff.mp hx).1
  unfold FN
  rw[if_pos (hI _ _ _ hj)]
  refine .bnd ((hs i x ρ h hx hj).mono fun o h1 q=> ?_)
  cases o with
  |nx ρ'=>exact MW I hI hr hlt q hs hd
  |ct ρ'=>exact MW I hI hr hlt q hs hd
  |bk ρ'=>exact .ret q
  |rt d=>exact .ret q
theorem XT {xs:List M} {o:Option Nat} {g:FG} {c:FT} {e:FE} {τ:BJ} {h:AA} {V:List M→AA→Prop} (f:M→M) (ho:L2.KF xs o h)
 (hs:∀x∈xs,Ens (g x τ h) fun τ' h1=>h1=h∧Ens (c τ' h1) fun t h2=>h2=h∧t=true∧(t=true→Ens (e τ' h2) fun y h3=>h3=h∧y=f x)) (q:V (xs.map f) h):Ens (D1 xs o g c e τ xs h) V:=by
 have q':V ((xs.filter fun _=>true).map f) h:=by rw[List.filter_eq_self.2 fun _ _=>rfl];exact q
 cases o with
 |none=>exact HC (fun _=>true) f hs q'
 |some n=>exact XE (fun _=>true) f ho hs q'
theorem o9 {ws:List Wy} {f:M→M} {g:Wy→Wy} (h:∀w∈ws,f (wM w)=wM (g w)):(ws.map wM).map f=(ws.map g).map wM:=by
 rw[List.map_map,List.map_map]
 exact List.map_congr_left h
theorem VB {ws:List Wy} {i:Nat} {x:M} (h:(ws.map wM)[i]? =some x):∃w,ws[i]? =some w∧x=wM w:=by
 rw[List.getElem?_map]at h
 obtain⟨w,hw,rfl⟩:=Option.map_eq_some_iff.1 h
 exact⟨w,hw,rfl⟩
theorem KR {ws:List Wy} {i:Nat} {w:Wy} (h:ws[i]? =some w):ws.take (i+1)=ws.take i++[w]:=by
 rw[List.take_succ,h];rfl
theorem TW {acc ws:List Wy} {w:Wy}:RF acc (ws++[w])=if w∈RF acc ws then RF acc ws else RF acc ws++[w]:=by
 unfold RF
 rw[List.foldl_append];rfl
theorem JB {ws:List Wy} {x:M} {h:AA} {R:M→AA→Prop} (hx:Ls h x ws) (hl:ws.length≤1000000) (hd:∀w∈ws,deep w≤100) (k:R (.ref h.length) (h++[.lst ((SS ws).map wM)])):Ens (m_unlike [x] h) R:=by
 refine AV rfl ?_
 unfold b_unlike
 walk_at "es"
 refine⟨by decide,?_⟩
 walk_at "es"
 refine dU ?_
 refine BG rfl ?_
 refine⟨ws,h,_,rfl,hx,fun o ho=> ?_⟩
 refine MW (fun i ρ h'=>∃v,ρ=[some x,some (.ref h.length),v]∧h'=h++[.lst ((RF [] (ws.take i)).map wM)]) (fun i ρ h' ⟨_,_,e⟩=>by rw[e];exact ho _) (i:=0) (by simp) (Nat.zero_le _) ⟨_,rfl,rfl⟩ ?_ ?_
 ·rintro i y ρ h' hy ⟨v,rfl,rfl⟩
  obtain⟨w,hw,rfl⟩:=VB hy
  have hsub:∀z∈RF [] (ws.take i),deep z≤100:=fun z hz=>by
   rcases S6.1 hz with hz|hz
   ·cases hz
   ·exact hd z (List.mem_of_mem_take hz)
  walk_at "es"
  refine eF (XD rfl) hsub ?_
  refine FX ?_
  refine BM (fun e=> ?_) (fun e=> ?_)
  ·refine cU ?_
   refine jV ?_
   refine BG rfl ?_
   refine⟨V7 (XD rfl),?_⟩
   walk_at "es"
   refine UH (XD rfl) ?_ ?_
   ·have:=S8 (ws:=ws.take i) (acc:=[])
    have h2:(ws.take i).length≤ws.length:=List.length_take_le' ..
    rw[List.length_map]
    simp only[List.length_nil]at this
    omega
   ·refine⟨_,rfl,?_⟩
    rw[zP rfl,KR hw,TW,if_neg (by simpa using e),List.map_append];rfl
  ·refine CN ?_
   refine⟨_,rfl,?_⟩
   rw[KR hw,TW,if_pos (by simpa using e)]
 ·rintro ρ h' ⟨v,rfl,rfl⟩
  walk_at "es"
  rw[List.length_map,List.take_length]
  exact k
theorem A0R {w:Wy} {h:AA} {R:M→Prop} (q:R (.str (ww w))):Enp (BH (wM w) (.int 0) h) R:=by cases w<;>exact⟨_,rfl,q⟩
theorem A0J {a b:Wy} {h:AA} {R:M→Prop} (q:R (wM a)):Enp (BH (wM (.thn a b)) (.int 1) h) R:=⟨_,rfl,q⟩
theorem A1K {a b:Wy} {h:AA} {R:M→Prop} (q:R (wM b)):Enp (BH (wM (.thn a b)) (.int 2) h) R:=⟨_,rfl,q⟩
theorem TZ:∀(n:Nat) (a b:Wy) {h:AA} {R:M→AA→Prop},ch a<n→deep a≤100→deep b≤100→R (wM (AN a b)) h→Ens (m_in_row n [wM a,wM b] h) R
 |0,a,b,h,R,h1,_,_,_=>by omega
 |n+1,a,b,h,R,h1,h2,h3,k=>by
  show Ens (B5 2 0 (b_in_row (m_in_row n)) _ h) R
  refine AV rfl ?_
  unfold b_in_row
  walk_at "es"
  refine mV (b:= .emp) h2 ?_
  refine FX ?_
  refine BM (fun e=> ?_) (fun e=> ?_)
  ·walk_at "es"
   cases of_decide_eq_true e
   exact k
  walk_at "es"
  refine mV (b:= .emp) h3 ?_
  refine FX ?_
  refine BM (fun e2=> ?_) (fun e2=> ?_)
  ·walk_at "es"
   cases of_decide_eq_true e2
   rw[GH]at k
   exact k
  walk_at "es"
  refine A0R ?_
  refine c9 ?_
  refine m5 ?_
  refine FX ?_
  have hb:¬BV b=true:=fun z=>of_decide_eq_false e2 (t3.1 z)
  have rest:∀{S:Out→AA→Prop},(AN a b= .thn a b)→(∀d,d=wM (AN a b)→S (.rt d) h)→Ens (AY (BS (A1 (mC (.str "then")) (A1 (A2 0) (A1 (A2 1) A5)))) [some (wM a),some (wM b)] h) S:=fun ei hS=>by
   walk_at "es"
   refine⟨by simp,hS _ ?_⟩
   rw[ei];rfl
  have one:∀w:Wy,(AN w b=if BV b=true then w else .thn w b)→AN w b= .thn w b:=fun w e=>by rw[e,if_neg hb]
  cases a with
  |emp=>exact absurd rfl (of_decide_eq_false e)
  |step x y=>
   refine DG (by show(("step":Str)== "then")=false;decide+kernel) ?_
   refine CN ?_
   refine CS ?_
   exact rest (one _ rfl) fun d z=>by rw[z];exact k
  |again x=>
   refine DG (by show(("again":Str)== "then")=false;decide+kernel) ?_
   refine CN ?_
   refine CS ?_
   exact rest (one _ rfl) fun d z=>by rw[z];exact k
  |many x lo hi=>
   refine DG (by show(("many":Str)== "then")=false;decide+kernel) ?_
   refine CN ?_
   refine CS ?_
   exact rest (one _ rfl) fun d z=>by rw[z];exact k
  |alt x y=>
   refine DG (by show(("or":Str)== "then")=false;decide+kernel) ?_
   refine CN ?_
   refine CS ?_
   exact rest (one _ rfl) fun d z=>by rw[z];exact k
  |thn x y=>
   refine G9 (by show(("then":Str)== "then")=true;decide+kernel) ?_
   walk_at "es"
   refine A0J ?_
   walk_at "es"
   refine A1K ?_
   walk_at "es"
   simp only[ch]at h1
   simp only[deep]at h2
   refine TZ n y b (by omega) (by omega) h3 ?_
   refine CO ?_
   refine⟨by simp,?_⟩
   rw[show AN (.thn x y) b= .thn x (AN y b) from if_neg hb]at k
   exact k
theorem HY {ws:List Wy} {x:M} {b:Wy} {h:AA} {R:M→AA→Prop} (hx:Ls h x ws) (hl:ws.length≤1000000) (hd:∀w∈ws,deep w≤40∧ch w<24) (hb:deep b≤40) (k:R (.ref h.length) (h++[.lst ((SS (ws.map (AN · b))).map wM)])):Ens (m_followed [x,wM b] h) R:=by
 refine AV rfl ?_
 unfold b_followed
 walk_at "es"
 refine dU ?_
 refine BG rfl ?_
 refine⟨ws,h,[],(List.append_nil h).symm,hx,fun o ho=>⟨by show(ws.map wM).length≤_;rw[List.length_map];omega,?_⟩⟩
 classical
 let f:M→M:=fun m=>if e:∃w,wM w=m then wM (AN e.choose b) else m
 have hf:∀w,f (wM w)=wM (AN w b):=fun w=>by
  have e:∃w',wM w'=wM w:=⟨w,rfl⟩
  show(if e:∃w',wM w'=wM w then wM (AN e.choose b) else wM w)=_
  rw[dif_pos e,IF _ _ e.choose_spec]
 refine XT f (by have:=ho [];rwa [List.append_nil]at this) (fun y hy=> ?_) ?_
 ·obtain⟨w,hw,rfl⟩:=List.mem_map.1 hy
  refine EA ?_
  refine⟨rfl,?_⟩
  refine HP ?_
  refine⟨rfl,rfl,fun _=> ?_⟩
  walk_at "es"
  have:=hd w hw
  refine TZ 24 w b (by omega) (by omega) (by omega) ?_
  exact⟨rfl,(hf w).symm⟩
 ·rw[o9 (g:=(AN · b)) fun w _=>hf w]
  refine CO ?_
  refine JB (.inl rfl) (by rw[List.length_map];exact hl) (fun z hz=> ?_) ?_
  ·obtain⟨w,hw,rfl⟩:=List.mem_map.1 hz
   have h1:=hd w hw
   have:=(F8 w b).2
   omega
  ·exact k
theorem cF {x y:M} {a b:List Wy} {h:AA} {R:M→Prop} (hx:Ls h x a) (hy:Ls h y b) (hr:∃k,x= .ref k) (hl:a.length+b.length≤16777216) (q:R (.lst ((a++b).map wM))):Enp (AW x y h) R:=⟨_,by
 obtain⟨k,rfl⟩:=hr
 show(G0 h (.ref k)).bind (fun xs=>(G0 h y).bind fun ys=>if xs.length+ys.length≤16777216 then some (M.lst (xs++ys)) else none)=_
 rw[hx.seq,hy.seq,Option.bind_some,Option.bind_some,if_pos (by rw[List.length_map,List.length_map];exact hl),←List.map_append],q⟩
theorem NY {kd t:Str} {w d:Wy} (hs:Sh 12 w) (hw:deep w≤24) (h:d∈D9 kd t w):deep d≤49:=by
 have:=rZ w d hs ((DQ w d).1 h);omega
theorem S7 {kd t:Str} {w d:Wy} (hs:nd w≤12) (h:d∈D9 kd t w):deep d≤40∧ch d<24:=by
 have:=JK w d (DZ w d ((DQ w d).1 h));omega
theorem HD {kd t:Str} {w:Wy} (hw:nd w≤200):(D9 kd t w).length≤65536:=by
 have:=HH (k:=kd) (t:=t) w
 omega
def tP (f:FF) (kd t:Str) (w:Wy):Prop:=∀(h:AA) (R:M→AA→Prop),(∀k g,h.length≤k→(h++g)[k]? =some (.lst ((D9 kd t w).map wM))→R (.ref k) (h++g))→Ens (f [wM w, .str kd, .str t] h) R
theorem E2 {h g:AA} {k:Nat} {o:MO} (e:h[k]? =some o):(h++g)[k]? =some o:=by
 rw[List.getElem?_append_left (List.getElem?_eq_some_iff.1 e).1];exact e
theorem tL {x:M} {xs:List M}:DB (x::xs) (some 1) none=xs:=by
 rw[show(some (1:Int))=some ((1:Nat):Int) from rfl,TY (by simp)];rfl
theorem iE {f:FF} {kd t:Str} {w:Wy} {lo hi:Nat} (hf:tP f kd t w) (hd:deep w≤24) (hn:nd w≤12) {h:AA} {R:M→AA→Prop}
 (k:∀k g,h.length≤k→(h++g)[k]? =some (.lst ((D9 kd t (.many w lo hi)).map wM))→R (.ref k) (h++g)):Ens (m_rests_of_many f [wM (.many w lo hi), .str kd, .str t] h) R:=by
 show Ens (B5 3 4 (b_rests_of_many f) [.tup [.str "many",wM w, .int lo, .int hi], .str kd, .str t] h) R
 refine AV rfl ?_
 unfold b_rests_of_many
 walk_at "s"
 rw[tL]
 walk_at "s"
 have le:=HD (kd:=kd) (t:=t) (w:=w) (by omega)
 refine BM (fun e=> ?_) (fun e=> ?_)
 ·have e':hi=0:=by have:=eq_of_beq e;omega
  walk_at "s"
  have:=k h.length [.lst []] (Nat.le_refl _) (by rw[D9,if_pos e'];exact XD rfl)
  exact this
 ·have e':¬hi=0:=fun z=>by rw[z]at e;exact absurd e (by decide)
  have fin:∀{q:Nat} {g:AA} {b:Wy},(h++g)[q]? =some (.lst ((D9 kd t w).map wM))→b=(if hi=1 then .emp else .many w (lo-1) (hi-1))→deep b≤40→Ens (m_followed [.ref q,wM b] (h++g)) R:=fun{q g b} e2 eb hb=>by
   refine HY (.inr ⟨_,rfl,e2⟩) (by omega) (fun d hd=>S7 hn hd) hb ?_
   have:=k (h++g).length (g++[.lst ((SS ((D9 kd t w).map (AN · b))).map wM)]) (by rw[List.length_append];omega) (by rw[←List.append_assoc,D9,if_neg e',eb];exact XD rfl)
   rwa [←List.append_assoc]at this
  walk_at "s"
  refine BM (fun e1=> ?_) (fun e1=> ?_)
  ·have e1':hi=1:=by have:=eq_of_beq e1;omega
   walk_at "s"
   refine hf _ _ fun q g _ e2=> ?_
   walk_at "s"
   exact(fin (b:= .emp) e2 (by rw[if_pos e1']) (by decide)).mono fun _ _ z=>z
  ·have e1':¬hi=1:=fun z=>by rw[z]at e1;exact absurd e1 (by decide)
   walk_at "s"
   rw[show(if(0:Int)>(lo:Int)-1 then 0 else(lo:Int)-1)=((lo-1:Nat):Int) by split<;>omega,show(hi:Int)-1=((hi-1:Nat):Int) by omega]
   refine hf _ _ fun q g _ e2=> ?_
   walk_at "s"
   exact(fin (b:= .many w (lo-1) (hi-1)) e2 (by rw[if_neg e1']) (by simp only[deep];omega)).mono fun _ _ z=>z
theorem gL {h g:AA} {o:MO} {R:M→AA→Prop} {xs:List M} (e:o= .lst xs) (k:∀k g,h.length≤k→(h++g)[k]? =some (.lst xs)→R (.ref k) (h++g)):R (.ref (h++g).length) (h++g++[o]):=by
 subst e
 have:=k (h++g).length (g++[.lst xs]) (by rw[List.length_append];omega) (by rw[←List.append_assoc];exact XD rfl)
 rwa [←List.append_assoc]at this
theorem FP {kd t:Str}:∀(n:Nat) (w:Wy),deep w≤n→n≤24→nd w≤200→Sh 12 w→CZ w→tP (m_rests n) kd t w
 |0,w,hd,_,_,_,_=>by exfalso;cases w<;>simp[deep]at hd
 |n+1,w,hd,hn,hN,hs,hw=>by
  intro h R k
  have k0:∀{o:MO},o= .lst ((D9 kd t w).map wM)→R (.ref h.length) (h++[o]):=fun e=>by
   have:=gL (g:=[]) e k
   rwa [List.append_nil]at this
  have k1:∀{g:AA} {o:MO},o= .lst ((D9 kd t w).map wM)→R (.ref (h++g).length) (h++g++[o]):=fun e=>gL e k
  show Ens (B5 3 2 (b_rests (m_rests n)) _ h) R
  cases w with
  |emp=>
   show Ens (B5 3 2 (b_rests (m_rests n)) [.tup [.str "empty"], .str kd, .str t] h) R
   refine AV rfl ?_
   unfold b_rests
   walk_at "s"
   exact k0 rfl
  |step x y=>
   show Ens (B5 3 2 (b_rests (m_rests n)) [.tup [.str "step",oM x, .str y], .str kd, .str t] h) R
   refine AV rfl ?_
   unfold b_rests
   walk_at "s"
   refine Y6 (k:=x) (t:=y) (p:=(kd,t)) ?_
   refine FX ?_
   refine BM (fun e=> ?_) (fun e=> ?_)
   ·walk_at "s"
    exact k0 (by rw[D9,if_pos e];rfl)
   ·walk_at "s"
    exact k0 (by rw[D9,if_neg (by rw[e];decide)];rfl)
  |again w=>
   have hd':deep w≤n:=by simp[deep]at hd;omega
   have hn':nd w≤12:=by have:nd w+1≤12:=hs;omega
   show Ens (B5 3 2 (b_rests (m_rests n)) [.tup [.str "again",wM w], .str kd, .str t] h) R
   refine AV rfl ?_
   unfold b_rests
   walk_at "s"
   refine FP n w hd' (by omega) (by omega) (JN w hn') hw _ _ fun q g _ e=> ?_
   walk_at "s"
   refine HY (b:= .again w) (.inr ⟨_,rfl,e⟩) (by have:=HD (kd:=kd) (t:=t) (w:=w) (by omega);omega) (fun d hd=>S7 hn' hd) (by simp only[deep];omega) ?_
   exact k1 rfl
  |many w lo hi=>
   have hd':deep w≤n:=by simp[deep]at hd;omega
   have hn':nd w≤12:=by have:nd w+1≤12:=hs;omega
   show Ens (B5 3 2 (b_rests (m_rests n)) [.tup [.str "many",wM w, .int lo, .int hi], .str kd, .str t] h) R
   refine AV rfl ?_
   unfold b_rests
   walk_at "s"
   exact iE (FP n w hd' (by omega) (by omega) (JN w hn') hw.1) (by omega) hn' fun q g l e=>k q g l e
  |thn a b=>
   have hd':deep a≤n∧deep b≤n:=by simp[deep]at hd;omega
   have hn':nd a≤12:=hs.1
   simp only[nd]at hN
   show Ens (B5 3 2 (b_rests (m_rests n)) [.tup [.str "then",wM a,wM b], .str kd, .str t] h) R
   refine AV rfl ?_
   unfold b_rests
   walk_at "s"
   refine FP n a hd'.1 (by omega) (by omega) (JN a hn') hw.1 _ _ fun q g _ e=> ?_
   walk_at "s"
   have la:=HD (kd:=kd) (t:=t) (w:=a) (by omega)
   have lb:=HD (kd:=kd) (t:=t) (w:=b) (by omega)
   refine HY (b:=b) (.inr ⟨_,rfl,e⟩) (by omega) (fun d hd=>S7 hn' hd) (by omega) ?_
   walk_at "s"
   refine F9 24 a (by omega) hw.1 ?_
   walk_at "s"
   have lu:=J4 (ws:=(D9 kd t a).map (AN · b))
   rw[List.length_map]at lu
   have dp:∀z∈SS ((D9 kd t a).map (AN · b)),deep z≤100:=fun z hz=>by
    obtain⟨d,hd,rfl⟩:=List.mem_map.1 (L8.1 hz)
    have h1:=S7 hn' hd
    have:=(F8 d b).2
    omega
   refine BM (fun e2=> ?_) (fun e2=> ?_)
   ·have e3:BF a=0:=by have:=eq_of_beq e2;omega
    walk_at "s"
    rw[List.append_assoc]
    refine FP n b hd'.2 (by omega) (by omega) hs.2 hw.2 _ _ fun q2 g2 _ f2=> ?_
    walk_at "s"
    refine cF (a:=SS ((D9 kd t a).map (AN · b))) (b:=D9 kd t b) (.inr ⟨_,rfl,?_⟩) (.inr ⟨_,rfl,f2⟩) ⟨_,rfl⟩ (by omega) ?_
    ·rw[←List.append_assoc];exact E2 (XD rfl)
    walk_at "s"
    refine JB (.inl rfl) (by rw[List.length_append];omega) (fun z hz=> ?_) ?_
    ·rcases List.mem_append.1 hz with hz|hz
     ·exact dp z hz
     ·have:=NY hs.2 (by omega) hz;omega
    ·rw[List.append_assoc h]
     exact k1 (by rw[D9,if_pos e3])
   ·have e3:¬BF a=0:=fun z=>by rw[z]at e2;exact absurd e2 (by decide)
    walk_at "s"
    refine JB (ws:=SS ((D9 kd t a).map (AN · b))) (.inr ⟨_,rfl,XD rfl⟩) (by omega) dp ?_
    rw[List.append_assoc h]
    exact k1 (by rw[D9,if_neg e3,List.append_nil])
  |alt a b=>
   have hd':deep a≤n∧deep b≤n:=by simp[deep]at hd;omega
   have hn':nd a+nd b+1≤12:=hs
   have sa:Sh 12 a:=JN a (by omega)
   have sb:Sh 12 b:=JN b (by omega)
   show Ens (B5 3 2 (b_rests (m_rests n)) [.tup [.str "or",wM a,wM b], .str kd, .str t] h) R
   refine AV rfl ?_
   unfold b_rests
   walk_at "s"
   refine FP n a hd'.1 (by omega) (by omega) sa hw.1 _ _ fun q g _ e=> ?_
   walk_at "s"
   refine FP n b hd'.2 (by omega) (by omega) sb hw.2 _ _ fun q2 g2 _ e2=> ?_
   have la:=HD (kd:=kd) (t:=t) (w:=a) (by omega)
   have lb:=HD (kd:=kd) (t:=t) (w:=b) (by omega)
   refine cF (.inr ⟨_,rfl,E2 e⟩) (.inr ⟨_,rfl,e2⟩) ⟨_,rfl⟩ (by omega) ?_
   walk_at "s"
   refine JB (.inl rfl) (by rw[List.length_append];omega) (fun z hz=> ?_) ?_
   ·rcases List.mem_append.1 hz with hz|hz
    ·have:=NY sa (by omega) hz;omega
    ·have:=NY sb (by omega) hz;omega
   ·rw[List.append_assoc h]
    exact k1 rfl
theorem xL {a b z:Str} {h:AA} {R:M→Prop} (q:R (.bl ([a,b].any (· ==z)))):Enp (J0 (.str z) (.tup [.str a, .str b]) h) R:=WU (ss:=[a,b]) q
local macro_rules| `(tactic|walk_at "y")=> `(tactic|first|walk_at "x"|(with_reducible refine xL ?_)|(with_reducible refine DG (by decide+kernel) ?_)|(with_reducible refine G9 (by decide+kernel) ?_)|(with_reducible refine⟨_,rfl,?_⟩))
local macro_rules| `(tactic|walk_at "s")=> `(tactic|repeat (walk_at "y"))
def ot (t:Str):Str:=if t= "forth" then "back" else if t= "back" then "forth" else t
def tw:Wy→Wy
 | .emp=> .emp
 | .step k t=> .step k (ot t)
 | .again w=> .again (tw w)
 | .many w lo hi=> .many (tw w) lo hi
 | .thn a b=> .thn (tw b) (tw a)
 | .alt a b=> .alt (tw a) (tw b)
theorem XH {t:Str} (h:t∈UP):ot t∈UP∧ot (ot t)=t∧E5 EX (.inr t)=some (.str (ot t)):=by
 simp only[UP,List.mem_cons,List.not_mem_nil,or_false]at h
 rcases h with rfl|rfl|rfl
 ·refine⟨by decide+kernel,by decide+kernel,?_⟩
  rw[show ot "forth"= "back" by decide+kernel];rfl
 ·refine⟨by decide+kernel,by decide+kernel,?_⟩
  rw[show ot "back"= "forth" by decide+kernel];rfl
 ·refine⟨by decide+kernel,by decide+kernel,?_⟩
  rw[show ot "either"= "either" by decide+kernel];rfl
theorem O1:∀w,CZ w→tw (tw w)=w
 | .emp,_=>rfl
 | .step k t,h=>by show Wy.step k (ot (ot t))=_;rw[(XH h.2).2.1]
 | .again w,h=>by show Wy.again (tw (tw w))=_;rw[O1 w h]
 | .many w lo hi,h=>by show Wy.many (tw (tw w)) lo hi=_;rw[O1 w h.1]
 | .thn a b,h=>by show Wy.thn (tw (tw a)) (tw (tw b))=_;rw[O1 a h.1,O1 b h.2]
 | .alt a b,h=>by show Wy.alt (tw (tw a)) (tw (tw b))=_;rw[O1 a h.1,O1 b h.2]
theorem MG:∀w,CZ w→CZ (tw w)
 | .emp,_=>trivial
 | .step k t,h=>⟨h.1,(XH h.2).1⟩
 | .again w,h=>MG w h
 | .many w lo hi,h=>⟨MG w h.1,h.2⟩
 | .thn a b,h=>⟨MG b h.2,MG a h.1⟩
 | .alt a b,h=>⟨MG a h.1,MG b h.2⟩
theorem GQ:∀w,deep (tw w)=deep w
 | .emp=>rfl
 | .step k t=>rfl
 | .again w=>by show deep (tw w)+1=_;rw[GQ w];rfl
 | .many w lo hi=>by show deep (tw w)+1=_;rw[GQ w];rfl
 | .thn a b=>by show max (deep (tw b)) (deep (tw a))+1=max (deep a) (deep b)+1;rw[GQ a,GQ b,Nat.max_comm]
 | .alt a b=>by show max (deep (tw a)) (deep (tw b))+1=_;rw[GQ a,GQ b];rfl
theorem wO {x y:M} {xs:List M}:DB (x::y::xs) (some 2) none=xs:=by
 rw[show(some (2:Int))=some ((2:Nat):Int) from rfl,TY (by simp)];rfl
theorem E1:∀(n:Nat) (w:Wy) {h:AA} {R:M→AA→Prop},deep w≤n→CZ w→R (wM (tw w)) h→Ens (m_turned n [wM w] h) R
 |0,w,h,R,hd,_,_=>by exfalso;cases w<;>simp[deep]at hd
 |n+1,w,h,R,hd,hw,k=>by
  show Ens (B5 1 1 (b_turned (m_turned n)) _ h) R
  cases w with
  |emp=>
   show Ens (B5 1 1 (b_turned (m_turned n)) [.tup [.str "empty"]] h) R
   refine AV rfl ?_
   unfold b_turned
   walk_at "s"
   exact k
  |step kd t=>
   show Ens (B5 1 1 (b_turned (m_turned n)) [.tup [.str "step",oM kd, .str t]] h) R
   refine AV rfl ?_
   unfold b_turned
   walk_at "s"
   refine xH ?_
   walk_at "s"
   refine⟨_,_,rfl,(XH hw.2).2.2,?_⟩
   walk_at "s"
   exact k
  |again w=>
   have hd':deep w≤n:=by simp[deep]at hd;omega
   show Ens (B5 1 1 (b_turned (m_turned n)) [.tup [.str "again",wM w]] h) R
   refine AV rfl ?_
   unfold b_turned
   walk_at "s"
   refine E1 n w hd' hw ?_
   walk_at "s"
   rw[wO]
   refine N7 (by simp) ?_
   exact k
  |many w lo hi=>
   have hd':deep w≤n:=by simp[deep]at hd;omega
   show Ens (B5 1 1 (b_turned (m_turned n)) [.tup [.str "many",wM w, .int lo, .int hi]] h) R
   refine AV rfl ?_
   unfold b_turned
   walk_at "s"
   refine E1 n w hd' hw.1 ?_
   walk_at "s"
   rw[wO]
   refine N7 (by simp) ?_
   exact k
  |thn a b=>
   have hd':deep a≤n∧deep b≤n:=by simp[deep]at hd;omega
   show Ens (B5 1 1 (b_turned (m_turned n)) [.tup [.str "then",wM a,wM b]] h) R
   refine AV rfl ?_
   unfold b_turned
   walk_at "s"
   refine E1 n b hd'.2 hw.2 ?_
   walk_at "s"
   refine E1 n a hd'.1 hw.1 ?_
   walk_at "s"
   exact k
  |alt a b=>
   have hd':deep a≤n∧deep b≤n:=by simp[deep]at hd;omega
   show Ens (B5 1 1 (b_turned (m_turned n)) [.tup [.str "or",wM a,wM b]] h) R
   refine AV rfl ?_
   unfold b_turned
   walk_at "s"
   refine E1 n a hd'.1 hw.1 ?_
   walk_at "s"
   refine E1 n b hd'.2 hw.2 ?_
   walk_at "s"
   exact k
def TN (p:Str×Str):Str×Str:=(p.1,ot p.2)
def bk (row:Rw):Rw:=row.reverse.map TN
theorem V4 (row:Rw):(bk row).length=row.length:=by simp[bk]
theorem oK {p:Str×Str} (h:p.2= "forth" ∨p.2= "back"):p.2∈UP:=by
 rcases h with h|h<;>rw[h]<;>decide+kernel
theorem i8 {p:Str×Str} (h:p.2= "forth" ∨p.2= "back"):(TN p).2= "forth" ∨(TN p).2= "back":=by
 rcases h with h|h
 ·exact .inr (by show ot p.2=_;rw[h];decide+kernel)
 ·exact .inl (by show ot p.2=_;rw[h];decide+kernel)
theorem uP {row:Rw} (h:FB row):FB (bk row):=fun p hp=>by
 obtain⟨q,hq,rfl⟩:=List.mem_map.1 hp
 exact i8 (h q (List.mem_reverse.1 hq))
theorem uF {row:Rw} (h:FB row):bk (bk row)=row:=by
 unfold bk
 rw[←List.map_reverse,List.reverse_reverse,List.map_map]
 have:∀p∈row,(TN∘TN) p=id p:=fun p hp=>by
  show(p.1,ot (ot p.2))=p
  rw[(XH (oK (h p hp))).2.1]
 rw[List.map_congr_left this,List.map_id]
theorem vO {row:Rw} {i:Nat} {p:Str×Str} (e:row[i]? =some p):(bk row)[row.length-1-i]? =some (TN p):=by
 have hi:=(List.getElem?_eq_some_iff.1 e).1
 unfold bk
 rw[List.getElem?_map,List.getElem?_reverse (by omega),show row.length-1-(row.length-1-i)=i by omega,e]
 rfl
theorem eM {k:Option Str} {t:Str} {p:Str×Str} (ht:t∈UP) (hp:p.2= "forth" ∨p.2= "back") (h:KF k t p=true):KF k (ot t) (TN p)=true:=by
 unfold KF at h⊢
 rw[Bool.and_eq_true]at h⊢
 refine⟨h.1,?_⟩
 have h2:=h.2
 simp only[UP,List.mem_cons,List.not_mem_nil,or_false]at ht
 show[("either":Str),ot p.2].any (· ==ot t)=true
 obtain⟨p1,p2⟩:=p
 rcases ht with rfl|rfl|rfl<;>rcases hp with hp|hp<;>(have hp:p2=_:=hp;subst hp;dsimp only at h2⊢;revert h2;decide+kernel)
theorem DK {R:Int→Int→Prop} {i m j:Int} (r:R i m) (s:Star R m j):Star R i j:=by
 induction s with
 |refl=>exact .tail (.refl _) r
 |tail s q ih=>exact .tail ih q
theorem UD {R:Int→Int→Prop}:∀(n:Nat) {i m j:Int},R i m→Pow R n m j→Pow R (n+1) i j
 |0,i,m,j,r,p=>by cases(show m=j from p);exact⟨i,rfl,r⟩
 |n+1,i,m,j,r,⟨q,p,s⟩=>⟨q,UD n r p,s⟩
theorem IZ {row:Rw} (hF:FB row):∀(w:Wy) {i j:Int},CZ w→FZ row w i j→FZ (bk row) (tw w) (row.length-j) (row.length-i)
 | .emp,i,j,_,h=>by cases(show i=j from h);rfl
 | .step k t,i,j,hw,⟨p,h0,e,ok,ej⟩=>by
   have hi:=(List.getElem?_eq_some_iff.1 e).1
   have hp:p∈row:=List.mem_of_getElem? e
   refine⟨TN p,by omega,?_,eM hw.2 (hF p hp) ok,by omega⟩
   rw[show((row.length:Int)-j).toNat=row.length-1-i.toNat by omega]
   exact vO e
 | .again w,i,j,hw,h=>by
   have h':Star (FZ row w) i j:=h
   show Star (FZ (bk row) (tw w)) _ _
   clear h
   induction h' with
   |refl=>exact .refl _
   |tail s r ih=>exact DK (IZ hF w hw r) ih
 | .many w lo hi,i,j,hw,⟨n,h1,h2,h3⟩=>by
   refine⟨n,h1,h2,?_⟩
   have key:∀(n:Nat) {i j:Int},Pow (FZ row w) n i j→Pow (FZ (bk row) (tw w)) n (row.length-j) (row.length-i):=by
    intro n
    induction n with
    |zero=>intro i j h;cases(show i=j from h);rfl
    |succ n ih=>
     rintro i j ⟨m,h1,h2⟩
     exact UD n (IZ hF w hw.1 h2) (ih h1)
   exact key n h3
 | .thn a b,i,j,hw,⟨m,h1,h2⟩=>⟨row.length-m,IZ hF b hw.2 h2,IZ hF a hw.1 h1⟩
 | .alt a b,i,j,hw,h=>h.elim (fun h=> .inl (IZ hF a hw.1 h)) (fun h=> .inr (IZ hF b hw.2 h))
theorem zC {row:Rw} {w:Wy} (hF:FB row) (hw:CZ w):T (bk row) (tw w)=T row w:=by
 unfold T
 classical
 rw[Bool.eq_iff_iff,decide_eq_true_eq,decide_eq_true_eq,V4]
 constructor
 ·intro h
  have:=IZ (uP hF) (tw w) (MG w hw) h
  rw[uF hF,O1 w hw,V4]at this
  simpa using this
 ·intro h
  have:=IZ hF w hw h
  simpa using this
local macro_rules| `(tactic|walk_at "nm")=> `(tactic|repeat (first|(with_reducible refine UV ?_)|(with_reducible refine bU ?_)|(with_reducible refine kX ?_)|(with_reducible refine oP ?_)|walk_at "e"|(with_reducible refine⟨_,rfl,?_⟩)|(with_reducible refine DG (by decide+kernel) ?_)|(with_reducible refine G9 (by decide+kernel) ?_)))
def qY (c:Nat):Bool:=decide (97≤c)&&decide (c≤122)
def Nm (z:Str):Prop:=1≤z.length∧z.length≤8∧z.cps.toList.all qY=true
theorem ZZ {z:Str} {h:AA} {R:M→AA→Prop} (hz:Nm z) (k:R (.bl true) h):Ens (m_is_name [.str z] h) R:=by
 obtain⟨h1,h8,hl⟩:=hz
 refine AV rfl ?_
 unfold b_is_name
 walk_at "nm"
 refine nG (by omega) ?_
 walk_at "nm"
 refine BM (fun _=> ?_) (fun q=>absurd q (by simp;omega))
 walk_at "nm"
 refine mR ?_
 walk_at "nm"
 refine BM (fun q=>absurd q (by simp;omega)) (fun _=> ?_)
 walk_at "nm"
 refine A08 ?_
 walk_at "nm"
 have hlen:(z.cps.toList.map fun c=>M.str ⟨#[c]⟩).length≤8:=by simpa[Str.length]using h8
 refine⟨Nat.le_trans hlen (by decide),?_⟩
 refine HC (p:=fun _=>true) (f:=fun _=> .bl true) (fun x hx=> ?_) ?_
 ·obtain⟨c,hc,rfl⟩:=List.mem_map.mp hx
  have hcl:=List.all_eq_true.mp hl c hc
  unfold qY at hcl
  simp only[Bool.and_eq_true,decide_eq_true_eq]at hcl
  have ea:("a":Str).cps.toList=[97]:=by decide+kernel
  have ez:("z":Str).cps.toList=[122]:=by decide+kernel
  walk_at "nm"
  refine⟨rfl,?_⟩
  walk_at "nm"
  refine⟨rfl,rfl,fun _=> ?_⟩
  walk_at "nm"
  refine m6 ?_
  rw[ea,show(!decide (([c]:List Nat)<[97]))=true by rw[Bool.not_eq_true',decide_eq_false_iff_not,List.cons_lt_cons_iff];simp;omega]
  walk_at "nm"
  refine m6 ?_
  rw[ez,show(!decide (([122]:List Nat)<[c]))=true by rw[Bool.not_eq_true',decide_eq_false_iff_not,List.cons_lt_cons_iff];simp;omega]
  exact⟨rfl,rfl⟩
 ·rw[List.filter_eq_self.mpr (fun _ _=>rfl)]
  have e:((z.cps.toList.map fun c=>M.str ⟨#[c]⟩).map fun _=>M.bl true)=(z.cps.toList.map fun _=>true).map M.bl:=by rw[List.map_map,List.map_map];rfl
  rw[e]
  walk_at "nm"
  refine mO ?_
  walk_at "nm"
  rw[show(z.cps.toList.map fun _=>true).all id=true by simp]
  exact k
theorem eU {f g g':M→M→AA→Option M} {ma mb mc md:FE} {ρ:BJ} {h:AA} {R:M→AA→Prop} (q:Ens (ma ρ h) fun x h1=>Ens (mb ρ h1) fun y h2=>Enp (f x y h2) fun z=>EB z fun k=>if k=true then Ens (mc ρ h2) fun w h3=>Enp (g y w h3) fun z=>EB z fun k=>if k=true then Ens (md ρ h3) fun u h4=>Enp (g' w u h4) fun d=>R d h4 else R (.bl false) h3 else R (.bl false) h2):Ens (QL f g g' ma mb mc md ρ h) R:=
 .bnd (q.mono fun x h1 q=> .bnd (q.mono fun y h2 q=>by
   obtain⟨z,e,k,rfl,q⟩:=q
   rw[e,Option.bind_some]
   cases k with
   |false=>exact .ret q
   |true=>
    refine .bnd (q.mono fun w h3 q=> ?_)
    obtain⟨z,e,k,rfl,q⟩:=q
    rw[e,Option.bind_some]
    cases k with
    |false=>exact .ret q
    |true=>exact .bnd (q.mono fun u h4 q=>q.map)))
theorem sS {z:Str} (h:z∈ZN):Nm z:=by
 have:ZN.all (fun z=>decide (1≤z.length)&&(decide (z.length≤8)&&z.cps.toList.all qY))=true:=by decide+kernel
 have h2:=List.all_eq_true.1 this z h
 simp only[Bool.and_eq_true,decide_eq_true_eq]at h2
 exact h2
theorem tJ {x:M} {xs:List M} {h:AA} {R:M→Prop} (q:R (.tup xs)):Enp (MN (.tup (x::xs)) (some 1) none h) R:=WZ (by rw[tL];exact q)
theorem wJ {a b c z:Str} {h:AA} {R:M→Prop} (q:R (.bl ([a,b,c].any (· ==z)))):Enp (J0 (.str z) (.tup [.str a, .str b, .str c]) h) R:=WU (ss:=[a,b,c]) q
local macro_rules| `(tactic|walk_at "r")=> `(tactic|repeat (first|(with_reducible refine tJ ?_)|(with_reducible refine wJ ?_)|walk_at "y"|((with_reducible refine DG ?hh ?_);(case hh=>rfl))|((with_reducible refine G9 ?hh ?_);(case hh=>rfl))))
theorem eJ {i:Nat} {h:AA} {R:M→AA→Prop} (k:R (.bl true) h):Ens (m_is_number [.int i] h) R:=by
 refine AV rfl ?_
 unfold b_is_number
 walk_at "s"
 exact k
theorem g9 {lo hi:Nat} {h:AA} {R:M→AA→Prop} (h1:lo≤hi) (h2:hi≤6) (k:R (.bl true) h):Ens (m_are_times [.int lo, .int hi] h) R:=by
 refine AV rfl ?_
 unfold b_are_times
 walk_at "s"
 refine eJ ?_
 walk_at "s"
 refine eJ ?_
 walk_at "s"
 refine eU ?_
 walk_at "s"
 refine G9 (decide_eq_true (by omega)) ?_
 walk_at "s"
 refine G9 (decide_eq_true (by omega)) ?_
 simp only[HE]
 walk_at "s"
 rw[decide_eq_true (by omega:(hi:Int)≤6)]
 exact k
theorem FR:∀(n:Nat) (w:Wy) {h:AA} {R:M→AA→Prop},deep w≤n→CZ w→R (.bl true) h→Ens (m_is_way n [wM w] h) R
 |0,w,h,R,hd,_,_=>by exfalso;cases w<;>simp[deep]at hd
 |n+1,w,h,R,hd,hw,k=>by
  show Ens (B5 1 2 (b_is_way (m_is_way n)) _ h) R
  cases w with
  |emp=>
   show Ens (B5 1 2 (b_is_way (m_is_way n)) [.tup [.str "empty"]] h) R
   refine AV rfl ?_
   unfold b_is_way
   walk_at "r"
   exact k
  |step kd t=>
   show Ens (B5 1 2 (b_is_way (m_is_way n)) [.tup [.str "step",oM kd, .str t]] h) R
   have fin:[("forth":Str),"back","either"].any (· ==t)=true:=by
    have:UP.all (fun t=>[("forth":Str),"back","either"].any (· ==t))=true:=by decide+kernel
    exact List.all_eq_true.1 this t hw.2
   refine AV rfl ?_
   unfold b_is_way
   cases kd with
   |none=>
    walk_at "r"
    rw[fin]
    exact k
   |some z=>
    walk_at "r"
    refine ZZ (sS (hw.1 z rfl)) ?_
    walk_at "r"
    rw[fin]
    exact k
  |again w=>
   have hd':deep w≤n:=by simp[deep]at hd;omega
   show Ens (B5 1 2 (b_is_way (m_is_way n)) [.tup [.str "again",wM w]] h) R
   refine AV rfl ?_
   unfold b_is_way
   walk_at "r"
   exact FR n w hd' hw k
  |many w lo hi=>
   have hd':deep w≤n:=by simp[deep]at hd;omega
   show Ens (B5 1 2 (b_is_way (m_is_way n)) [.tup [.str "many",wM w, .int lo, .int hi]] h) R
   refine AV rfl ?_
   unfold b_is_way
   walk_at "r"
   refine g9 hw.2.1 hw.2.2 ?_
   walk_at "r"
   exact FR n w hd' hw.1 k
  |thn a b=>
   have hd':deep a≤n∧deep b≤n:=by simp[deep]at hd;omega
   show Ens (B5 1 2 (b_is_way (m_is_way n)) [.tup [.str "then",wM a,wM b]] h) R
   refine AV rfl ?_
   unfold b_is_way
   walk_at "r"
   refine FR n a hd'.1 hw.1 ?_
   walk_at "r"
   exact FR n b hd'.2 hw.2 k
  |alt a b=>
   have hd':deep a≤n∧deep b≤n:=by simp[deep]at hd;omega
   show Ens (B5 1 2 (b_is_way (m_is_way n)) [.tup [.str "or",wM a,wM b]] h) R
   refine AV rfl ?_
   unfold b_is_way
   walk_at "r"
   refine FR n a hd'.1 hw.1 ?_
   walk_at "r"
   exact FR n b hd'.2 hw.2 k
def mM:M→M
 | .tup [.str a, .str b]=> .tup [.str a, .str (ot b)]
 |x=>x
theorem i7 {row:Rw} {h:AA} {R:M→AA→Prop} (hF:FB row) (hl:row.length≤40) (k:R (.tup (rM (bk row))) h):Ens (mLback [.tup (rM row)] h) R:=by
 refine AV rfl ?_
 unfold bLback
 walk_at "es"
 refine wI ?_
 refine BG rfl ⟨_,rfl,?_⟩
 refine⟨by rw[List.length_reverse,CK];omega,?_⟩
 refine HC (fun _=>true) mM (fun x hx=> ?_) ?_
 ·obtain⟨p,hp,rfl⟩:=List.mem_map.1 (List.mem_reverse.1 hx)
  obtain⟨a,b⟩:=p
  have hb:=hF _ hp
  show Ens (gX 2 (DM (BI 0) (DM (BI 1) MD)) (.tup [.str a, .str b]) _ h) _
  walk_at "s"
  refine⟨rfl,?_⟩
  refine HP ⟨rfl,rfl,fun _=> ?_⟩
  walk_at "s"
  refine xK ?_
  walk_at "es"
  refine⟨_,rfl,by decide,?_⟩
  refine BG rfl ?_
  refine mJ (v:= .str (ot b)) rfl rfl ?_ ?_
  ·have hb':b= "forth" ∨b= "back":=hb
   rcases hb' with rfl|rfl
   ·rw[show ot "forth"= "back" by decide+kernel];rfl
   ·rw[show ot "back"= "forth" by decide+kernel];rfl
  ·walk_at "s"
   exact⟨rfl,rfl⟩
 ·refine CO ?_
  have e:(((rM row).reverse.filter fun _=>true).map mM)=rM (bk row):=by
   rw[List.filter_eq_self.mpr (fun _ _=>rfl)]
   unfold rM bk
   rw[←List.map_reverse,List.map_map,List.map_map]
   rfl
  rw[e]
  exact⟨_,rfl,k⟩
theorem fM (g:Wy→M):∃f:M→M,∀w,f (wM w)=g w:=by
 classical
 refine⟨fun m=>if e:∃w,wM w=m then g e.choose else m,fun w=> ?_⟩
 have e:∃w',wM w'=wM w:=⟨w,rfl⟩
 show(if e:∃w',wM w'=wM w then g e.choose else wM w)=_
 rw[dif_pos e,IF _ _ e.choose_spec]
theorem dY {f:M→M} {g:Wy→M} (h:∀w,f (wM w)=g w) (ws:List Wy):(ws.map wM).map f=ws.map g:=by
 rw[List.map_map]
 exact List.map_congr_left fun w _=>h w
theorem lP {bs:List Bool} {h:AA} {R:M→Prop} (q:R (.bl (bs.any id))):Enp (gY [.lst (bs.map M.bl)] h) R:=⟨_,by
 show(gW (bs.map M.bl)).map _=_
 have:∀bs:List Bool,gW (bs.map M.bl)=some bs:=fun bs=>by
  induction bs with
  |nil=>rfl
  |cons b bs ih=>show(gW (bs.map M.bl)).map (b:: ·)=_;rw[ih];rfl
 rw[this];rfl,q⟩
def SD (ws:List Wy):List (BC×M):=ws.map fun w=>(.inr (tx w),wM w)
theorem qA {ws:List Wy} {d:Wy} (hw:∀w∈ws,CZ w) (hd:CZ d):GD (SD ws) (.inr (tx d)) (wM d)=SD (if d∈ws then ws else ws++[d]):=by
 have ha:((SD ws).any fun kv=>decide (kv.1= .inr (tx d)))=decide (d∈ws):=by
  rw[Bool.eq_iff_iff,List.any_eq_true,decide_eq_true_eq]
  constructor
  ·rintro⟨kv,hk,e⟩
   obtain⟨w,hm,rfl⟩:=List.mem_map.1 hk
   have e:=of_decide_eq_true e
   injection e with e
   rw[←VN (hw w hm) hd e];exact hm
  ·intro hm
   exact⟨_,List.mem_map.2 ⟨d,hm,rfl⟩,by simp⟩
 unfold GD
 rw[ha]
 by_cases hm:d∈ws
 ·rw[if_pos (by simpa using hm),if_pos hm]
  unfold SD
  rw[List.map_map]
  refine List.map_congr_left fun w hw'=> ?_
  show(if(Sum.inr (tx w):BC)= .inr (tx d) then _ else _)=_
  split
  ·rename_i e
   injection e with e
   rw[VN (hw w hw') hd e]
  ·rfl
 ·rw[if_neg (by simpa using hm),if_neg hm]
  unfold SD
  rw[List.map_append];rfl
theorem SV:∀{vs ws:List Wy},(∀w∈ws,CZ w)→(∀w∈vs,CZ w)→D8 (SD ws) (SD vs)=SD (RF ws vs)
 |[],ws,_,_=>rfl
 |d::vs,ws,hw,hv=>by
  have hd:=hv d (by simp)
  show D8 (GD (SD ws) (.inr (tx d)) (wM d)) (SD vs)=SD (RF (if d∈ws then ws else ws++[d]) vs)
  rw[qA hw hd]
  refine SV (fun w hm=> ?_) fun w hm=>hv w (by simp[hm])
  split at hm
  ·exact hw w hm
  ·rcases List.mem_append.1 hm with hm|hm
   ·exact hw w hm
   ·rw[List.mem_singleton.1 hm];exact hd
theorem TJ:∀ws:List Wy,K3 (ws.map fun w=> .tup [.str (tx w),wM w])=some (SD ws)
 |[]=>rfl
 |w::ws=>by
  show(JG (.str (tx w))).bind (fun k'=>(K3 (ws.map fun w=> .tup [.str (tx w),wM w])).map ((k',wM w):: ·))=_
  rw[TJ ws];rfl
def Un (w d:Wy):Prop:=d=w∨d∈Dl w
theorem E4 {w d:Wy} (hw:CZ w) (hn:nd w≤12) (h:Un w d):CZ d∧deep d≤24∧Sh 12 d∧nd d≤200:=by
 rcases h with rfl|h
 ·exact⟨hw,by have:=DS d;omega,JN d hn,by omega⟩
 ·exact⟨JY w hw d h,by have:=JK w d h;omega,NI w d hn h,by have:=O4 w d hn h;omega⟩
theorem cR {w d e:Wy} {k t:Str} (h:Un w d) (he:e∈HI k t d):Un w e:=by
 rcases h with rfl|h
 ·exact .inr (DZ d e he)
 ·exact .inr (OE w d e h he)
theorem JX {w:Wy} {ws:List Wy} (hc:cn w≤300) (hn:ws.Nodup) (h:∀d∈ws,Un w d):ws.length≤301:=by
 have:=XI (b:=w::Dl w) hn fun d hd=>by
  rcases h d hd with e|e
  ·rw[e];exact List.mem_cons_self
  ·exact List.mem_cons_of_mem _ e
 rw[List.length_cons,JZ]at this
 omega
def fb:List Str:=["forth","back"]
def X8:List Str:=ZN++[("strange":Str)]
def gt (d:Wy) (k t:Str):Str:=(C3 (.tup [dW d, .str k, .str t])).shown
theorem fH (d:Wy) (k t:Str):tl (gt d k t)=[40]++(nf d++([44,32]++sc (some k) t)):=by
 unfold gt
 simp only[C3,CF,PyData.shown,PyData.shownAll]
 rw[iY,show tl (C3 (dW d)).shown=nf d from JP d]
 rfl
theorem mT:X8.all (fun k=>fb.all fun t=>decide ((sc (some k) t).length≤50)&&X8.all fun k'=>fb.all fun t'=> !(sc (some k) t==sc (some k') t')||(k==k'&&t==t'))=true:=by decide+kernel
theorem rR {k t:Str} (h1:k∈X8) (h2:t∈fb):(sc (some k) t).length≤50:=by
 have:=List.all_eq_true.1 (List.all_eq_true.1 mT k h1) t h2
 rw[Bool.and_eq_true,decide_eq_true_eq]at this
 exact this.1
theorem nR {d d':Wy} {k k' t t':Str} (hd:CZ d) (hd':CZ d') (h1:k∈X8) (h2:t∈fb) (h3:k'∈X8) (h4:t'∈fb) (h:gt d k t=gt d' k' t'):d=d'∧k=k'∧t=t':=by
 have e:=congrArg tl h
 rw[fH,fH]at e
 obtain⟨rfl,e2⟩:=c4 d d' hd hd' _ _ (List.append_cancel_left e)
 have e3:=List.append_cancel_left e2
 have:=List.all_eq_true.1 (List.all_eq_true.1 mT k h1) t h2
 rw[Bool.and_eq_true]at this
 have:=List.all_eq_true.1 (List.all_eq_true.1 this.2 k' h3) t' h4
 rw[e3]at this
 simp at this
 exact⟨rfl,this⟩
theorem gE {d:Wy} {k t:Str} {h:AA} {R:M→Prop} (hd:CZ d) (hn:nd d≤200) (hp:deep d≤24) (h1:k∈X8) (h2:t∈fb) (q:R (.str (gt d k t))):Enp (EC [.tup [wM d, .str k, .str t]] h) R:=⟨_,by
 show(UO h (.tup [wM d, .str k, .str t])).bind _=_
 have e:UO h (.tup [wM d, .str k, .str t])=some (.tup [dW d, .str k, .str t]):=by
  unfold UO
  simp[LU,EF,EL]
 rw[e,Option.bind_some]
 have a1:=MK d
 have a2:=IC d hd
 have a3:=rR h1 h2
 have a4:(gt d k t).length=(tl (gt d k t)).length:=(Array.length_toList).symm
 rw[fH]at a4
 simp only[List.length_append,List.length_cons,List.length_nil]at a4
 have a5:(C3 (.tup [dW d, .str k, .str t])).depth≤100:=by
  simp only[C3,CF,PyData.depth,PyData.depthAll];omega
 have a6:(C3 (.tup [dW d, .str k, .str t])).showable=true:=by
  simp only[C3,CF,PyData.showable,PyData.showableAll,IM d hd,Bool.and_self]
 rw[if_pos ⟨a6,a5,by show(gt d k t).length≤_;omega⟩];rfl,q⟩
theorem QE {kvs:List (BC×M)} {k k':BC} {v:M}:E5 (GD kvs k v) k'=if k'=k then some v else E5 kvs k':=by
 have hm:∀kvs:List (BC×M),E5 (kvs.map fun kv=>if kv.1=k then(kv.1,v) else kv) k'=if k'=k then(if(kvs.any fun kv=>decide (kv.1=k)) then some v else none) else E5 kvs k':=by
  intro kvs
  induction kvs with
  |nil=>unfold E5;simp
  |cons kv kvs ih=>
   unfold E5 at ih⊢
   rw[List.map_cons,List.find?_cons,List.any_cons,List.find?_cons]
   by_cases h1:kv.1=k
   ·rw[if_pos h1]
    by_cases h2:k'=k
    ·subst h2
     rw[decide_eq_true h1];simp
    ·have h3:¬kv.1=k':=fun z=>h2 (z.symm.trans h1)
     rw[decide_eq_false h3]
     simp only[if_neg h2]
     rw[if_neg h2]at ih
     exact ih
   ·rw[if_neg h1,decide_eq_false h1,Bool.false_or]
    by_cases h3:kv.1=k'
    ·have h2:¬k'=k:=fun z=>h1 (h3.trans z)
     rw[decide_eq_true h3,if_neg h2]
    ·rw[decide_eq_false h3]
     exact ih
 unfold GD
 split
 ·rename_i ha
  rw[hm kvs,ha];rfl
 ·rename_i ha
  unfold E5
  rw[List.find?_append]
  by_cases h2:k'=k
  ·subst h2
   rw[if_pos rfl]
   have:kvs.find? (fun kv=>decide (kv.1=k'))=none:=by
    rw[List.find?_eq_none]
    intro kv hk z
    exact ha (List.any_eq_true.2 ⟨kv,hk,z⟩)
   rw[this];simp
  ·rw[if_neg h2]
   have:[(k,v)].find? (fun kv=>decide (kv.1=k'))=none:=by
    rw[List.find?_eq_none]
    intro kv hk z
    rw[List.mem_singleton.1 hk]at z
    exact h2 (of_decide_eq_true z).symm
   rw[this,Option.or_none]
theorem iH {kvs:List (BC×M)} {k:BC} {v:M}:(GD kvs k v).length≤kvs.length+1:=by
 unfold GD
 split<;>simp
def i9 (ws:List Wy):List (BC×M):=ws.map fun w=>(.inr (tx w), .bl true)
theorem fV {ws:List Wy} {d:Wy} (hw:∀w∈ws,CZ w) (hd:CZ d):((i9 ws).any fun kv=>decide (kv.1= .inr (tx d)))=decide (d∈ws):=by
 rw[Bool.eq_iff_iff,List.any_eq_true,decide_eq_true_eq]
 constructor
 ·rintro⟨kv,hk,e⟩
  obtain⟨w,hm,rfl⟩:=List.mem_map.1 hk
  have e:=of_decide_eq_true e
  injection e with e
  rw[←VN (hw w hm) hd e];exact hm
 ·intro hm
  exact⟨_,List.mem_map.2 ⟨d,hm,rfl⟩,by simp⟩
theorem qZ {ws:List Wy} {d:Wy} (hw:∀w∈ws,CZ w) (hd:CZ d) (hm:d∉ws):GD (i9 ws) (.inr (tx d)) (.bl true)=i9 (ws++[d]):=by
 unfold GD
 rw[fV hw hd,if_neg (by simpa using hm)]
 unfold i9
 rw[List.map_append];rfl
theorem nP {ws:List Wy} {d:Wy} (hw:∀w∈ws,CZ w) (hd:CZ d):(E5 (i9 ws) (.inr (tx d))).isSome=decide (d∈ws):=by
 rw[←fV hw hd]
 unfold E5
 rw[Option.isSome_map,Bool.eq_iff_iff,List.find?_isSome,List.any_eq_true]
theorem fQ {k:Nat} {ws:List Wy} {h:AA} {R:M→Prop} (hk:h[k]? =some (.lst (ws.map wM))) (hd:∀w∈ws,deep w≤100) (q:R (.bl (!ws.isEmpty))):Enp (JW (.ref k) (.lst []) h) R:=⟨_,by
 unfold JW UO
 have e1:LU (F3 h 20) (.ref k)=some (.lst (ws.map dW)):=by
  show F3 h 20 k=_
  unfold F3
  simp only[hk,RY,Option.map_some]
 have:=SA ws hd
 rw[e1,Option.bind_some,show LU (F3 h 20) (.lst [])=some (.lst []) from rfl,Option.bind_some,if_pos (by rw[D.deep];omega)]
 rw[show BN (.lst (ws.map dW)) (.lst [])=ws.isEmpty by cases ws<;>simp[BN,G1]],q⟩
theorem lU {R:M→Prop} {k:Nat} {h:AA} {kvs:List (BC×M)} (e:h[k]? =some (.dct kvs)) (q:R (.int kvs.length)):Enp (DH [.ref k] h) R:=⟨_,by
 show(match GV h (.ref k) with|some ys=>some (M.int ys.length)|none=>(EE h (.ref k)).map fun(kvs:List (BC×M))=>M.int kvs.length)=_
 rw[show GV h (.ref k)=none by show G0 h (.ref k)=none;unfold G0;simp only[e],ID e];rfl,q⟩
theorem oY {k:Nat} {h:AA} {xs:List M} {y:M} {R:M→AA→Prop} (e:h[k]? =some (.lst (xs++[y]))) (q:R y (h.set k (.lst xs))):Ens (TV (.ref k) [] h) R:=⟨y,_,by
 unfold TV mX
 simp only[e]
 rw[show((xs++[y])[(xs++[y]).length-1]?)=some y by simp]
 simp only[Option.map_some,List.dropLast_concat],q⟩
def Ge (h0 h:AA) (kvs:List (BC×M)) (d:Wy) (k t:Str):Prop:=∃j,h0.length+3≤j∧E5 kvs (.inr (gt d k t))=some (.ref j)∧h[j]? =some (.lst ((D9 k t d).map wM))
structure St (w:Wy) (h0 h:AA) (P Wt Kn:List Wy) (kvs:List (BC×M)):Prop where
 ext:∃g,h=h0++g
 hG:h[h0.length]? =some (.dct kvs)
 hW:h[h0.length+1]? =some (.lst (Wt.map wM))
 hN:h[h0.length+2]? =some (.dct (i9 Kn))
 un:∀d∈Kn,Un w d
 kn:Kn.Nodup
 dis:(P++Wt).Nodup
 mem:∀d,d∈Kn↔d∈P∨d∈Wt
 hw:w∈Kn
def Dn (h0 h:AA) (kvs:List (BC×M)) (Kn:List Wy) (S:Wy→Str→Str→Prop):Prop:=∀d k t,S d k t→CZ d∧k∈X8∧t∈fb∧Ge h0 h kvs d k t∧∀e∈D9 k t d,e∈Kn
theorem MX {h0 h:AA} {q:Nat} {o:MO} (hq:h0.length≤q) (h1:∃g,h=h0++g):∃g,h.set q o=h0++g:=by
 obtain⟨g,rfl⟩:=h1
 exact⟨_,List.set_append_right _ _ hq⟩
theorem nD {h0 h:AA} {kvs:List (BC×M)} {d:Wy} {k t:Str} {q:Nat} {o:MO} (hq:q<h0.length+3) (g:Ge h0 h kvs d k t):Ge h0 (h.set q o) kvs d k t:=by
 obtain⟨j,h1,h2,h3⟩:=g
 exact⟨j,h1,h2,by rw[List.getElem?_set_ne (by omega)];exact h3⟩
theorem lI {w:Wy} {h0 h:AA} {P Wt Kn:List Wy} {kvs:List (BC×M)} {ρ:BJ} {e:Wy} {S:Out→AA→Prop} (hw:CZ w) (hn:nd w≤12) (hc:cn w≤300) (st:St w h0 h P Wt Kn kvs) (he:Un w e)
 (r3:ρ[3]? =some (some (.ref (h0.length+1)))) (r4:ρ[4]? =some (some (.ref (h0.length+2)))) (r9:ρ[9]? =some (some (wM e)))
 (k:∀h' Wt' Kn',St w h0 h' P Wt' Kn' kvs→(∀d∈Kn,d∈Kn')→e∈Kn'→(∀j,h0.length+3≤j→h'[j]? =h[j]?)→S (.nx ρ) h'):
 Ens (CV (tV (AG CP (E3 EC (A1 (A2 9) A5)) (A2 4))) (AJ (O2 (A2 4) (E3 EC (A1 (A2 9) A5)) (mC (.bl true)))
  (MA (gV n5 G8 (A2 3) (A1 (A2 9) A5)))) AT ρ h) S:=by
 obtain⟨ew,ed,_,en⟩:=E4 hw hn he
 have kw:∀d∈Kn,CZ d:=fun d hd=>(E4 hw hn (st.un d hd)).1
 walk_at "es"
 refine BG r9 ?_
 refine CO ?_
 refine QX ew ed en ?_
 refine BG r4 ?_
 refine gO (key:= .inr (tx e)) rfl (ID st.hN) ?_
 rw[nP kw ew]
 refine FX ?_
 refine BM (fun q=> ?_) (fun q=> ?_)
 ·have hne:e∉Kn:=by simpa using q
  have hl:=JX hc st.kn st.un
  refine IW ?_
  refine dH ?_
  refine c9 ?_
  refine BG r4 ?_
  walk_at "es"
  refine BG r9 ?_
  refine CO ?_
  refine QX ew ed en ?_
  refine⟨_, .inr (tx e),_,rfl,rfl,st.hN,by rw[i9,List.length_map];omega,?_⟩
  rw[qZ kw ew hne]
  walk_at "es"
  refine jV ?_
  refine BG r3 ?_
  have hW:(h.set (h0.length+2) (.dct (i9 (Kn++[e]))))[h0.length+1]? =some (.lst (Wt.map wM)):=by rw[List.getElem?_set_ne (by omega)];exact st.hW
  have l2:h0.length+2<h.length:=(List.getElem?_eq_some_iff.1 st.hN).1
  refine⟨V7 hW,?_⟩
  refine QD ?_
  refine BG r9 ?_
  refine CO ?_
  have hwl:Wt.length≤301:=JX hc ((List.nodup_append.1 st.dis).2.1) fun d hd=>st.un d ((st.mem d).2 (.inr hd))
  refine UH hW (by rw[List.length_map];omega) ?_
  have hnp:e∉P∧e∉Wt:=⟨fun z=>hne ((st.mem e).2 (.inl z)),fun z=>hne ((st.mem e).2 (.inr z))⟩
  refine k _ (Wt++[e]) (Kn++[e]) ⟨MX (by omega) (MX (by omega) st.ext),?_,?_,?_,?_,?_,?_,?_,List.mem_append_left _ st.hw⟩ (fun d hd=>List.mem_append_left _ hd) (by simp) fun j hj=> ?_
  ·rw[List.getElem?_set_ne (by omega),List.getElem?_set_ne (by omega)];exact st.hG
  ·rw[List.getElem?_set_self (by rw[List.length_set];omega),List.map_append];rfl
  ·rw[List.getElem?_set_ne (by omega),List.getElem?_set_self l2]
  ·intro d hd
   rcases List.mem_append.1 hd with hd|hd
   ·exact st.un d hd
   ·rw[List.mem_singleton.1 hd];exact he
  ·exact List.nodup_append.2 ⟨st.kn,by simp,fun a ha b hb z=>hne (by rw[←List.mem_singleton.1 hb,←z];exact ha)⟩
  ·rw[←List.append_assoc]
   exact List.nodup_append.2 ⟨st.dis,by simp,fun a ha b hb z=>(List.mem_append.1 ha).elim (fun y=>hnp.1 (by rw[←List.mem_singleton.1 hb,←z];exact y)) fun y=>hnp.2 (by rw[←List.mem_singleton.1 hb,←z];exact y)⟩
  ·intro d
   rw[List.mem_append,List.mem_append,st.mem d,or_assoc]
  ·rw[List.getElem?_set_ne (by omega),List.getElem?_set_ne (by omega)]
 ·refine CN ?_
  exact k h Wt Kn st (fun d hd=>hd) (by simpa using q) fun _ _=>rfl
noncomputable def bE:FS:=
 (AJ (B2 (AB (m_rests 24) (A1 (A2 5) (A1 (A2 6) (A1 (A2 7) A5)))) (BI 8))
 (AJ (CV (NC (tV (E3 YH (A1 (DW [none] (iL (A2 8)) (BI 0) FU (AB (m_is_way 24) (A1 (A2 0) A5))) A5)))) (AY (mC .non)) AT)
 (AJ (O2 (A2 2) (E3 EC (A1 (BS (A1 (A2 5) (A1 (A2 6) (A1 (A2 7) A5)))) A5)) (A2 8))
 (GB (iL (A2 8)) (BI 9) (CV (tV (AG CP (E3 EC (A1 (A2 9) A5)) (A2 4))) (AJ (O2 (A2 4) (E3 EC (A1 (A2 9) A5)) (mC (.bl true)))
 (MA (gV n5 G8 (A2 3) (A1 (A2 9) A5)))) AT)))))
def ZV (w:Wy) (xs:List M) (n:Nat) (d:Wy) (v6 v7 v8 v9:Option M):BJ:=[some (wM w),some (.lst xs),some (.ref n),some (.ref (n+1)),some (.ref (n+2)),some (wM d),v6,v7,v8,v9]
theorem lD {w:Wy} {h0 h:AA} {P Wt Kn:List Wy} {kvs:List (BC×M)} {D:Wy→Str→Str→Prop} {xs:List M} {d:Wy} {kd t:Str} {v8 v9:Option M} {S:Out→AA→Prop} (hw:CZ w) (hn:nd w≤12) (hc:cn w≤300) (st:St w h0 h P Wt Kn kvs) (dn:Dn h0 h kvs Kn D) (hd:Un w d) (hk:kd∈X8) (ht:t∈fb) (hl:kvs.length<10000)
 (k:∀h' Wt' Kn' kvs' v8 v9,St w h0 h' P Wt' Kn' kvs'→(∀d∈Kn,d∈Kn')→Dn h0 h' kvs' Kn' (fun d' k' t'=>D d' k' t'∨(d'=d∧k'=kd∧t'=t))→kvs'.length≤kvs.length+1→S (.nx (ZV w xs h0.length d (some (.str kd)) (some (.str t)) v8 v9)) h'):
 Ens (bE (ZV w xs h0.length d (some (.str kd)) (some (.str t)) v8 v9) h) S:=by
 obtain⟨dw,dd,ds,dN⟩:=E4 hw hn hd
 have rU:∀e∈D9 kd t d,Un w e:=fun e he=>cR hd ((DQ d e).1 he)
 have rl:=HD (kd:=kd) (t:=t) dN
 obtain⟨g0,e0⟩:=st.ext
 have hl3:h0.length+3≤h.length:=(List.getElem?_eq_some_iff.1 st.hN).1
 unfold bE
 walk_at "es"
 refine FP 24 d dd (by decide) dN ds dw _ _ fun q g hq e=> ?_
 walk_at "es"
 refine mK ?_
 refine BG rfl ?_
 refine⟨q,_,rfl,e,by show(List.map wM _).length≤_;rw[List.length_map];omega,?_⟩
 refine XE (fun _=>true) (fun _=> .bl true) e (fun y hy=> ?_) ?_
 ·obtain⟨x,hm,rfl⟩:=List.mem_map.1 hy
  have xa:=E4 hw hn (rU x hm)
  refine EA ?_
  refine⟨rfl,?_⟩
  refine HP ?_
  refine⟨rfl,rfl,fun _=> ?_⟩
  walk_at "es"
  exact FR 24 x xa.2.1 xa.1 ⟨rfl,rfl⟩
 refine CO ?_
 rw[List.filter_eq_self.2 fun _ _=>rfl,show((D9 kd t d).map wM).map (fun _=>M.bl true)=((D9 kd t d).map fun _=>true).map M.bl by rw[List.map_map,List.map_map];rfl]
 refine mO ?_
 rw[show((D9 kd t d).map fun _=>true).all id=true by simp]
 refine FX ?_
 refine M5 ?_
 walk_at "es"
 have hG:(h++g)[h0.length]? =some (.dct kvs):=E2 st.hG
 refine dH ?_
 walk_at "es"
 refine⟨by simp,?_⟩
 refine CO ?_
 refine gE dw dN dd hk ht ?_
 refine⟨_, .inr (gt d kd t),_,rfl,rfl,hG,by omega,?_⟩
 refine CS ?_
 have st1:St w h0 ((h++g).set h0.length (.dct (GD kvs (.inr (gt d kd t)) (.ref q)))) P Wt Kn (GD kvs (.inr (gt d kd t)) (.ref q)):=by
  refine⟨MX (Nat.le_refl _) ⟨g0++g,by rw[e0,List.append_assoc]⟩,?_,?_,?_,st.un,st.kn,st.dis,st.mem,st.hw⟩
  ·rw[List.getElem?_set_self (List.getElem?_eq_some_iff.1 hG).1]
  ·rw[List.getElem?_set_ne (by omega)];exact E2 st.hW
  ·rw[List.getElem?_set_ne (by omega)];exact E2 st.hN
 have e1:((h++g).set h0.length (.dct (GD kvs (.inr (gt d kd t)) (.ref q))))[q]? =some (.lst ((D9 kd t d).map wM)):=by rw[List.getElem?_set_ne (by omega)];exact e
 generalize hh:(h++g).set h0.length (.dct (GD kvs (.inr (gt d kd t)) (.ref q)))=h1 at st1 e1
 have old:∀j,h0.length+3≤j→∀o,h[j]? =some o→h1[j]? =some o:=fun j hj o ho=>by
  rw[←hh,List.getElem?_set_ne (by omega)];exact E2 ho
 refine PC ?_
 refine mK ?_
 refine BG rfl ?_
 refine⟨q,_,rfl,e1,?_⟩
 refine MW (fun i ρ h'=>∃Wt' Kn' v,ρ=[some (wM w),some (.lst xs),some (.ref h0.length),some (.ref (h0.length+1)),some (.ref (h0.length+2)),some (wM d),some (.str kd),some (.str t),some (.ref q),v]∧St w h0 h' P Wt' Kn' (GD kvs (.inr (gt d kd t)) (.ref q))∧(∀d∈Kn,d∈Kn')∧(∀e∈(D9 kd t d).take i,e∈Kn')∧∀j,h0.length+3≤j→h'[j]? =h1[j]?)
  (fun i ρ h' ⟨_,_,_,_,_,_,_,z⟩=>by show h'[q]? =_;rw[z q (by omega)];exact e1) (i:=0) (by simp) (Nat.zero_le _) ⟨Wt,Kn,_,rfl,st1,fun d hd=>hd,(fun e he=>by simp at he),fun _ _=>rfl⟩ ?_ ?_
 ·rintro i y ρ h' hy ⟨Wt',Kn',v,rfl,s',m1,m2,m3⟩
  obtain⟨x,hx,rfl⟩:=VB hy
  refine NT ?_
  refine EA ?_
  refine lI hw hn hc s' (rU x (List.mem_of_getElem? hx)) rfl rfl rfl fun h'' Wt'' Kn'' s'' n1 n2 n3=> ?_
  refine⟨Wt'',Kn'',_,rfl,s'',fun d hd=>n1 d (m1 d hd),fun e he=> ?_,fun j hj=>(n3 j hj).trans (m3 j hj)⟩
  rw[KR hx]at he
  rcases List.mem_append.1 he with he|he
  ·exact n1 e (m2 e he)
  ·rw[List.mem_singleton.1 he];exact n2
 ·rintro ρ h' ⟨Wt',Kn',v,rfl,s',m1,m2,m3⟩
  rw[List.length_map,List.take_length]at m2
  refine k h' Wt' Kn' _ _ _ s' m1 (fun d' k' t' hs=> ?_) iH
  rcases hs with hs|⟨rfl,rfl,rfl⟩
  ·obtain⟨a1,a2,a3,⟨j,b1,b2,b3⟩,a5⟩:=dn d' k' t' hs
   by_cases hh2:(Sum.inr (gt d' k' t'):BC)= .inr (gt d kd t)
   ·injection hh2 with hh2
    obtain⟨rfl,rfl,rfl⟩:=nR a1 dw a2 a3 hk ht hh2
    exact⟨dw,hk,ht,⟨q,by omega,by rw[QE,if_pos rfl],by rw[m3 q (by omega)];exact e1⟩,m2⟩
   ·exact⟨a1,a2,a3,⟨j,b1,by rw[QE,if_neg hh2];exact b2,by rw[m3 j b1];exact old j b1 _ b3⟩,fun e he=>m1 e (a5 e he)⟩
  ·exact⟨dw,hk,ht,⟨q,by omega,by rw[QE,if_pos rfl],by rw[m3 q (by omega)];exact e1⟩,m2⟩
def fbM:List M:=[.str "forth", .str "back"]
theorem VP {w:Wy} {h0 h:AA} {P Wt Kn:List Wy} {kvs:List (BC×M)} {D:Wy→Str→Str→Prop} {xs:List M} {ks:List Str} {d:Wy} {v6 v7 v8 v9:Option M} {S:Out→AA→Prop} (hw:CZ w) (hn:nd w≤12) (hc:cn w≤300) (hxs:xs++[.str "strange"]=ks.map M.str) (hks:∀k∈ks,k∈X8) (hkl:ks.length≤9) (st:St w h0 h P Wt Kn kvs) (dn:Dn h0 h kvs Kn D) (hd:Un w d) (hl:kvs.length≤9000)
 (k:∀h' Wt' Kn' kvs' v6 v7 v8 v9,St w h0 h' P Wt' Kn' kvs'→Dn h0 h' kvs' Kn' (fun d' k' t'=>D d' k' t'∨(d'=d∧k'∈ks∧t'∈fb))→kvs'.length≤kvs.length+18→S (.nx (ZV w xs h0.length d v6 v7 v8 v9)) h'):
 Ens (GB (iL (AG AW (A2 1) (HV (A1 (mC (.str "strange")) A5)))) (BI 6) (GB (iT (BS (A1 (mC (.str "forth")) (A1 (mC (.str "back")) A5)))) (BI 7) bE) (ZV w xs h0.length d v6 v7 v8 v9) h) S:=by
 refine PC ?_
 refine UM ?_
 walk_at "es"
 refine⟨by decide,?_⟩
 have hxl:xs.length+1=ks.length:=by have:=congrArg List.length hxs;simpa using this
 refine HZ (by simp;omega) ?_
 refine⟨_,rfl,?_⟩
 rw[hxs]
 refine GF (fun i ρ h'=>∃Wt' Kn' kvs' v6 v7 v8 v9,ρ=ZV w xs h0.length d v6 v7 v8 v9∧St w h0 h' P Wt' Kn' kvs'∧Dn h0 h' kvs' Kn' (fun d' k' t'=>D d' k' t'∨(d'=d∧k'∈ks.take i∧t'∈fb))∧kvs'.length≤kvs.length+2*i) ⟨Wt,Kn,kvs,_,_,_,_,rfl,st,fun d' k' t' hs=>dn d' k' t' (hs.elim id fun z=>by simp at z),by omega⟩ ?_ ?_
 ·rintro i y ρ h' hy ⟨Wt',Kn',kvs',v6,v7,v8,v9,rfl,s',dn',hl'⟩
  rw[List.getElem?_map]at hy
  obtain⟨kd,hkd,rfl⟩:=Option.map_eq_some_iff.1 hy
  have hi:=(List.getElem?_eq_some_iff.1 hkd).1
  have hkk:=hks kd (List.mem_of_getElem? hkd)
  walk_at "es"
  refine jA ?_
  walk_at "es"
  refine⟨by decide,fbM,rfl,?_⟩
  refine GF (fun j ρ h'=>∃Wt' Kn' kvs' v7 v8 v9,ρ=ZV w xs h0.length d (some (.str kd)) v7 v8 v9∧St w h0 h' P Wt' Kn' kvs'∧Dn h0 h' kvs' Kn' (fun d' k' t'=>(D d' k' t'∨(d'=d∧k'∈ks.take i∧t'∈fb))∨(d'=d∧k'=kd∧t'∈fb.take j))∧kvs'.length≤kvs.length+2*i+j) ⟨Wt',Kn',kvs',_,_,_,rfl,s',fun d' k' t' hs=>dn' d' k' t' (hs.elim id fun z=>by simp at z),by omega⟩ ?_ ?_
  ·rintro j y ρ h' hy ⟨Wt',Kn',kvs',v7,v8,v9,rfl,s',dn',hl'⟩
   have hj:∃t,fb[j]? =some t∧y= .str t:=by
    have:fbM=fb.map M.str:=rfl
    rw[this,List.getElem?_map]at hy
    obtain⟨t,h1,h2⟩:=Option.map_eq_some_iff.1 hy
    exact⟨t,h1,h2.symm⟩
   obtain⟨t,ht,rfl⟩:=hj
   have hj2:j<2:=(List.getElem?_eq_some_iff.1 ht).1
   walk_at "es"
   refine lD hw hn hc s' dn' hd hkk (List.mem_of_getElem? ht) (by omega) fun h'' Wt'' Kn'' kvs'' v8 v9 s'' _ dn'' l''=> ?_
   refine⟨Wt'',Kn'',kvs'',_,v8,v9,rfl,s'',fun d' k' t' hs=>dn'' d' k' t' ?_,by omega⟩
   rcases hs with hs|⟨rfl,rfl,hs⟩
   ·exact .inl (.inl hs)
   ·rw[List.take_succ,ht]at hs
    rcases List.mem_append.1 hs with hs|hs
    ·exact .inl (.inr ⟨rfl,rfl,hs⟩)
    ·exact .inr ⟨rfl,rfl,by simpa using hs⟩
  ·rintro ρ h' ⟨Wt',Kn',kvs',v7,v8,v9,rfl,s',dn',hl'⟩
   have hl2:kvs'.length≤kvs.length+2*i+2:=hl'
   refine⟨Wt',Kn',kvs',_,v7,v8,v9,rfl,s',fun d' k' t' hs=>dn' d' k' t' ?_,by omega⟩
   rcases hs with hs|⟨rfl,hs,ht⟩
   ·exact .inl (.inl hs)
   ·rw[List.take_succ,hkd]at hs
    rcases List.mem_append.1 hs with hs|hs
    ·exact .inl (.inr ⟨rfl,hs,ht⟩)
    ·exact .inr ⟨rfl,by simpa using hs,by exact ht⟩
 ·rintro ρ h' ⟨Wt',Kn',kvs',v6,v7,v8,v9,rfl,s',dn',hl'⟩
  rw[List.length_map]at dn' hl'
  rw[List.take_length]at dn'
  exact k h' Wt' Kn' kvs' v6 v7 v8 v9 s' dn' (by omega)
theorem nS {w:Wy} {ks:List Str} {xs:List M} {h0:AA} {R:M→AA→Prop} (hw:CZ w) (hn:nd w≤12) (hc:cn w≤300) (hxs:xs++[.str "strange"]=ks.map M.str) (hks:∀k∈ks,k∈X8) (hkl:ks.length≤9)
 (k:∀(h:AA) (kvs:List (BC×M)) (P:List Wy),(∃g,h=h0++g)→h[h0.length]? =some (.dct kvs)→w∈P→(∀d∈P,Un w d)→(∀d∈P,∀k∈ks,∀t∈fb,Ge h0 h kvs d k t∧∀e∈D9 k t d,e∈P)→R (.ref h0.length) h):Ens (mLall_rests [wM w, .lst xs] h0) R:=by
 obtain⟨ww,wd,_,wn⟩:=E4 hw hn (.inl rfl:Un w w)
 refine AV rfl ?_
 unfold bLall_rests
 walk_at "es"
 refine X5 ?_
 walk_at "es"
 refine⟨by simp,?_⟩
 walk_at "es"
 refine nO ?_
 walk_at "es"
 refine QX ww wd wn ?_
 walk_at "es"
 refine⟨[(.inr (tx w), .bl true)],rfl,by simp,?_⟩
 walk_at "es"
 have l1:(h0++[MO.dct []]).length=h0.length+1:=by simp
 have l2:(h0++[MO.dct []]++[MO.lst [wM w]]).length=h0.length+2:=by simp
 rw[l1,l2]
 have st0:St w h0 (h0++[MO.dct []]++[MO.lst [wM w]]++[MO.dct (D8 [] [(.inr (tx w), .bl true)])]) [] [w] [w] []:=by
  refine⟨⟨_,by rw[List.append_assoc,List.append_assoc]⟩,?_,?_,?_,fun d hd=> .inl (List.mem_singleton.1 hd),by simp,by simp,fun d=>by simp,by simp⟩
  ·exact E2 (E2 (XD rfl))
  ·exact E2 (XD l1.symm)
  ·exact XD l2.symm
 refine IK (N:=1000000) (n:=302) (fun n ρ h=>∃P Wt Kn kvs v5 v6 v7 v8 v9,ρ=[some (wM w),some (.lst xs),some (.ref h0.length),some (.ref (h0.length+1)),some (.ref (h0.length+2)),v5,v6,v7,v8,v9]∧St w h0 h P Wt Kn kvs∧Dn h0 h kvs Kn (fun d k t=>d∈P∧k∈ks∧t∈fb)∧kvs.length≤18*P.length∧n+P.length=302) ?_ (by decide) ⟨[],[w],[w],[],_,_,_,_,_,rfl,st0,(fun d k t hs=>by simp at hs),by simp,rfl⟩
 rintro n ρ h ⟨P,Wt,Kn,kvs,v5,v6,v7,v8,v9,rfl,st,dn,hl,hnP⟩
 have kU:∀d∈Kn,CZ d∧deep d≤24∧Sh 12 d∧nd d≤200:=fun d hd=>E4 hw hn (st.un d hd)
 walk_at "es"
 refine⟨by decide,?_⟩
 refine fQ st.hW (fun d hd=>by have:=(kU d ((st.mem d).2 (.inr hd))).2.1;omega) ?_
 refine FX ?_
 refine BM (fun e=> ?_) (fun e=> ?_)
 ·have hne:Wt≠[]:=fun z=>by rw[z]at e;exact absurd e (by decide)
  obtain⟨W0,d,rfl⟩:∃W0 d,Wt=W0++[d]:=⟨Wt.dropLast,Wt.getLast hne,(List.dropLast_concat_getLast hne).symm⟩
  have hd:Un w d:=st.un d ((st.mem d).2 (.inr (by simp)))
  have hPl:(P++[d]).length≤301:=JX hc (by
   have:=st.dis
   rw[←List.append_assoc,List.nodup_append]at this
   exact List.nodup_append.2 ⟨(List.nodup_append.1 this.1).1,by simp,fun a ha b hb z=>this.2.2 a (List.mem_append_left _ ha) b hb z⟩) fun x hx=>st.un x ((st.mem x).2 ((List.mem_append.1 hx).imp id fun z=>List.mem_append_right _ z))
  rw[List.length_append,List.length_singleton]at hPl
  walk_at "es"
  refine jV ?_
  refine BG rfl ?_
  refine⟨V7 st.hW,?_⟩
  refine CO ?_
  have hW:=st.hW
  rw[List.map_append]at hW
  refine oY hW ?_
  refine EA ?_
  refine CS ?_
  refine IW ?_
  have st1:St w h0 (h.set (h0.length+1) (.lst (W0.map wM))) (P++[d]) W0 Kn kvs:=by
   refine⟨MX (by omega) st.ext,?_,?_,?_,st.un,st.kn,?_,fun x=> ?_,st.hw⟩
   ·rw[List.getElem?_set_ne (by omega)];exact st.hG
   ·rw[List.getElem?_set_self (List.getElem?_eq_some_iff.1 st.hW).1]
   ·rw[List.getElem?_set_ne (by omega)];exact st.hN
   ·have:=st.dis
    rw[List.append_assoc]
    exact(List.Perm.append_left P List.perm_append_comm).nodup this
   ·rw[st.mem x,List.mem_append,List.mem_append,or_assoc]
    constructor
    ·rintro(a|a|a)
     ·exact .inl a
     ·exact .inr (.inr a)
     ·exact .inr (.inl a)
    ·rintro(a|a|a)
     ·exact .inl a
     ·exact .inr (.inr a)
     ·exact .inr (.inl a)
  have dn1:Dn h0 (h.set (h0.length+1) (.lst (W0.map wM))) kvs Kn (fun d k t=>d∈P∧k∈ks∧t∈fb):=fun d k t hs=>by
   obtain⟨a1,a2,a3,a4,a5⟩:=dn d k t hs
   exact⟨a1,a2,a3,nD (by omega) a4,a5⟩
  refine VP hw hn hc hxs hks hkl st1 dn1 hd (by omega) fun h' Wt' Kn' kvs' v6 v7 v8 v9 s' dn' l'=> ?_
  walk_at "es"
  refine lU s'.hN ?_
  refine c9 ?_
  refine m8 ?_
  refine FX ?_
  have hKl:=JX hc s'.kn s'.un
  refine DG (decide_eq_false (by rw[i9,List.length_map];omega)) ?_
  refine CN ?_
  refine⟨n-1,by omega,P++[d],Wt',Kn',kvs',_,v6,v7,v8,v9,rfl,s',fun d' k' t' hs=>dn' d' k' t' ?_,by rw[List.length_append,List.length_singleton];omega,by rw[List.length_append,List.length_singleton];omega⟩
  obtain⟨a1,a2,a3⟩:=hs
  rcases List.mem_append.1 a1 with a1|a1
  ·exact .inl ⟨a1,a2,a3⟩
  ·exact .inr ⟨List.mem_singleton.1 a1,a2,a3⟩
 ·have hnil:Wt=[]:=by
   cases Wt with
   |nil=>rfl
   |cons a l=>exact absurd e (by simp)
  subst hnil
  have hPK:∀d,d∈Kn↔d∈P:=fun d=>(st.mem d).trans (by simp)
  walk_at "es"
  refine k h kvs P st.ext st.hG ((hPK w).1 st.hw) (fun d hd=>st.un d ((hPK d).2 hd)) fun d hd kd hk t ht=> ?_
  obtain⟨a1,a2,a3,a4,a5⟩:=dn d kd t ⟨hd,hk,ht⟩
  exact⟨a4,fun e he=>(hPK e).1 (a5 e he)⟩
structure Gs (b:Nat) (w:Wy) (ks:List Str) (h:AA) (G:Nat):Prop where
 ne:G≠b
 go:∃(kvs:List (BC×M)) (P:List Wy),h[G]? =some (.dct kvs)∧w∈P∧(∀d∈P,Un w d)∧∀d∈P,∀k∈ks,∀t∈fb,(∃j,j≠b∧E5 kvs (.inr (gt d k t))=some (.ref j)∧h[j]? =some (.lst ((D9 k t d).map wM)))∧∀e∈D9 k t d,e∈P
theorem Gs.keep {b:Nat} {w:Wy} {ks:List Str} {h h':AA} {G:Nat} (s:Gs b w ks h G) (hk:∀j,j≠b→∀o,h[j]? =some o→h'[j]? =some o):Gs b w ks h' G:=by
 obtain⟨n,kvs,P,h1,h2,h3,h4⟩:=s
 refine⟨n,kvs,P,hk _ n _ h1,h2,h3,fun d hd k hk' t ht=> ?_⟩
 obtain⟨⟨j,a1,a2,a3⟩,a4⟩:=h4 d hd k hk' t ht
 exact⟨⟨j,a1,a2,hk _ a1 _ a3⟩,a4⟩
theorem Gs.kp {b:Nat} {w:Wy} {ks:List Str} {h h':AA} {G:Nat} (s:Gs b w ks h G) (hk:Kp b h h'):Gs b w ks h' G:=s.keep fun j hj o e=>by rw[hk.2 j hj];exact e
theorem Gs.app {b:Nat} {w:Wy} {ks:List Str} {h:AA} {G:Nat} (s:Gs b w ks h G) (g:AA):Gs b w ks (h++g) G:=s.keep fun j _ o e=>E2 e
theorem lB {h g:AA} {q:Nat} {o:MO} (hq:h.length≤q):(h++g).set q o=h++g.set (q-h.length) o:=List.set_append_right _ _ hq
theorem uJ {r:Rw} {L:List Wy} {P:Prop} {b:Bool} (hb:b=true↔P) (h:P↔∃d∈L,In d r):(L.map fun d=>T r d).any id=b:=by
 rw[Bool.eq_iff_iff,hb,h,List.any_eq_true]
 constructor
 ·rintro⟨c,hc,e⟩
  obtain⟨d,hd,rfl⟩:=List.mem_map.1 hc
  exact⟨d,hd,(iR r d).1 e⟩
 ·rintro⟨d,hd,e⟩
  exact⟨_,List.mem_map.2 ⟨d,hd,rfl⟩,(iR r d).2 e⟩
theorem dA {w:Wy} {L:List Wy} {kd t:Str} {h0 h:AA} {G:Nat} {x0 x2:M} {v7:Option M} {q:Nat} {S:Out→AA→Prop} {kvs:List (BC×M)} {P:List Wy} (hw:CZ w) (hn:nd w≤12) (hc:cn w≤300) (hG:h0[G]? =some (.dct kvs)) (pU:∀d∈P,Un w d)
 (go:∀d∈P,(∃j,E5 kvs (.inr (gt d kd t))=some (.ref j)∧h0[j]? =some (.lst ((D9 kd t d).map wM)))∧∀e∈D9 kd t d,e∈P) (hk:kd∈X8) (ht:t∈fb) (hL:∀d∈L,d∈P) (hq:h0.length≤q) (hg:∃g,h=h0++g) (hd:h[q]? =some (.dct []))
 (k:∀acc g v7,acc.Nodup→(∀e,e∈acc↔∃d∈L,e∈HI kd t d)→(h0++g)[q]? =some (.dct (SD acc))→S (.nx [some x0,some (.ref G),some x2,some (.lst (L.map wM)),some (.str kd),some (.str t),some (.ref q),v7]) (h0++g)):
 Ens (GB (iL (A2 3)) (BI 7) (MA (gV wH YE (A2 6) (A1 (DW [none] (iL (AG BH (A2 1) (E3 EC (A1 (BS (A1 (A2 7) (A1 (A2 4) (A1 (A2 5) A5)))) A5)))) (BI 0) FU (BS (A1 (E3 EC (A1 (A2 0) A5)) (A1 (A2 0) A5)))) A5)))
  [some x0,some (.ref G),some x2,some (.lst (L.map wM)),some (.str kd),some (.str t),some (.ref q),v7] h) S:=by
 obtain⟨g0,rfl⟩:=hg
 refine PC ?_
 refine UM ?_
 refine BG rfl ?_
 refine⟨_,rfl,?_⟩
 refine GF (fun i ρ h'=>∃acc g v7,acc.Nodup∧(∀e,e∈acc↔∃d∈L.take i,e∈HI kd t d)∧h'=h0++g∧h'[q]? =some (.dct (SD acc))∧ρ=[some x0,some (.ref G),some x2,some (.lst (L.map wM)),some (.str kd),some (.str t),some (.ref q),v7]) ⟨[],g0,v7,List.nodup_nil,fun e=>⟨(fun z=>by cases z),fun⟨d,z,_⟩=>by cases z⟩,rfl,hd,rfl⟩ ?_ ?_
 ·rintro i y ρ h' hy ⟨acc,g,v7,an,am,rfl,hq',rfl⟩
  obtain⟨d,hdi,rfl⟩:=VB hy
  have hdL:d∈L:=List.mem_of_getElem? hdi
  obtain⟨dw,dd,ds,dN⟩:=E4 hw hn (pU d (hL d hdL))
  obtain⟨⟨j,j1,j2⟩,rP⟩:=go d (hL d hdL)
  have aU:∀e∈acc,Un w e:=fun e he=>by
   obtain⟨d',h1,h2⟩:=(am e).1 he
   exact cR (pU d' (hL d' (List.mem_of_mem_take h1))) h2
  have rU:∀e∈D9 kd t d,Un w e:=fun e he=>pU e (rP e he)
  have la:=JX hc an aU
  have lr:=JX hc (ZM (k:=kd) (t:=t) d) rU
  have hx:Ls (h0++g) (.ref j) (D9 kd t d):= .inr ⟨j,rfl,E2 j2⟩
  walk_at "es"
  refine jV ?_
  refine BG rfl ?_
  refine⟨iJ hq',?_⟩
  walk_at "es"
  refine dU ?_
  walk_at "es"
  refine⟨by simp,?_⟩
  refine CO ?_
  refine gE dw dN dd hk ht ?_
  refine mJ (v:= .ref j) (key:= .inr (gt d kd t)) rfl (ID (E2 hG)) j1 ?_
  refine⟨D9 kd t d,h0++g,[],(List.append_nil _).symm,hx,fun o ho=>⟨by show(List.map wM _).length≤_;rw[List.length_map];omega,?_⟩⟩
  have ho0:=ho []
  rw[List.append_nil]at ho0
  obtain⟨f,hf⟩:=fM fun w=> .tup [.str (tx w),wM w]
  refine XT f ho0 (fun y hy=> ?_) ?_
  ·obtain⟨e,hm,rfl⟩:=List.mem_map.1 hy
   have ea:=E4 hw hn (rU e hm)
   refine EA ?_
   refine⟨rfl,?_⟩
   refine HP ?_
   refine⟨rfl,rfl,fun _=> ?_⟩
   walk_at "es"
   refine QX ea.1 ea.2.1 ea.2.2.2 ?_
   walk_at "es"
   exact⟨by simp,rfl,(hf e).symm⟩
  ·rw[dY hf]
   refine CO ?_
   refine xQ hq' (TJ _) (by rw[SD,List.length_map,List.length_map];omega) ?_
   rw[SV (fun e he=>(E4 hw hn (aU e he)).1) fun e he=>(E4 hw hn (rU e he)).1]
   refine⟨RF acc (D9 kd t d),g.set (q-h0.length) (.dct (SD (RF acc (D9 kd t d)))),some (wM d),J3 an,fun e=> ?_,?_,?_,rfl⟩
   ·rw[S6,am,DQ,KR hdi]
    constructor
    ·rintro(⟨d',h1,h2⟩|h1)
     ·exact⟨d',List.mem_append_left _ h1,h2⟩
     ·exact⟨d,by simp,h1⟩
    ·rintro⟨d',h1,h2⟩
     rcases List.mem_append.1 h1 with h1|h1
     ·exact .inl ⟨d',h1,h2⟩
     ·rw[List.mem_singleton.1 h1]at h2;exact .inr h2
   ·rw[lB hq]
   ·rw[List.getElem?_set_self (List.getElem?_eq_some_iff.1 hq').1]
 ·rintro ρ h' ⟨acc,g,v7,an,am,rfl,hq',rfl⟩
  rw[List.length_map,List.take_length]at am
  exact k acc g v7 an am hq'
theorem qJ {b:Nat} {w:Wy} {ks:List Str} {row:Rw} {h:AA} {G:Nat} {R:M→AA→Prop} (hw:CZ w) (hn:nd w≤12) (hc:cn w≤300) (hks:∀k∈ks,k∈X8) (gs:Gs b w ks h G) (hr:∀p∈row,p.1∈ks∧p.2∈fb) (k:∀g,R (.bl (T row w)) (h++g)):Ens (mLled [wM w, .ref G, .tup (rM row)] h) R:=by
 obtain⟨_,kvs,P,hG,wP,pU,go⟩:=gs
 refine AV rfl ?_
 unfold bLled
 walk_at "es"
 refine⟨by simp,?_⟩
 walk_at "es"
 refine jA ?_
 refine BG rfl ?_
 refine⟨_,rfl,?_⟩
 refine GF (fun i ρ h'=>∃(L:List Wy) (g:AA) (v4 v5 v6 v7:Option M),L.Nodup∧(∀d∈L,d∈P)∧(In w row↔∃d∈L,In d (row.drop i))∧h'=h++g∧ρ=[some (wM w),some (.ref G),some (.tup (rM row)),some (.lst (L.map wM)),v4,v5,v6,v7])
  ⟨[w],[],none,none,none,none,by simp,(fun d hd=>by rw[List.mem_singleton.1 hd];exact wP),by simp,(List.append_nil h).symm,rfl⟩ ?_ ?_
 ·rintro i y ρ h' hy ⟨L,g,v4,v5,v6,v7,Ln,LP,LI,rfl,rfl⟩
  rw[rM,List.getElem?_map]at hy
  obtain⟨p,hp,rfl⟩:=Option.map_eq_some_iff.1 hy
  obtain⟨hk,ht⟩:=hr p (List.mem_of_getElem? hp)
  have hdrop:row.drop i=p::row.drop (i+1):=by
   obtain⟨hlt,e⟩:=List.getElem?_eq_some_iff.1 hp
   rw[List.drop_eq_getElem_cons hlt,e]
  refine NT ?_
  show Ens (gX 2 (DM (BI 4) (DM (BI 5) MD)) (.tup [.str p.1, .str p.2]) _ _) _
  refine mH rfl ?_
  walk_at "es"
  refine X5 ?_
  refine EA ?_
  refine CS ?_
  refine IW ?_
  refine dA (h0:=h) hw hn hc hG pU (fun d hd=>let⟨⟨j,_,a2,a3⟩,a4⟩:=go d hd p.1 hk p.2 ht;⟨⟨j,a2,a3⟩,a4⟩) (hks _ hk) ht LP (by rw[List.length_append];omega) ⟨_,List.append_assoc _ _ _⟩ (XD rfl) fun acc g1 u7 an am hq=> ?_
  have aP:∀e∈acc,e∈P:=fun e he=>by
   obtain⟨d',h1,h2⟩:=(am e).1 he
   exact(go d' (LP d' h1) p.1 hk p.2 ht).2 e ((DQ d' e).2 h2)
  walk_at "es"
  refine oE (ID hq) ?_
  rw[show(SD acc).map (·.2)=acc.map wM by unfold SD;rw[List.map_map];rfl]
  refine EA ?_
  refine⟨acc,g1,_,_,_,u7,an,aP,?_,rfl,rfl⟩
  rw[LI,hdrop]
  constructor
  ·rintro⟨d,hd,hi⟩
   obtain⟨e,he,h2⟩:=(IY d (E4 hw hn (pU d (LP d hd))).1 p _).1 hi
   exact⟨e,(am e).2 ⟨d,hd,he⟩,h2⟩
  ·rintro⟨e,he,h2⟩
   obtain⟨d,hd,he'⟩:=(am e).1 he
   exact⟨d,hd,(IY d (E4 hw hn (pU d (LP d hd))).1 p _).2 ⟨e,he',h2⟩⟩
 ·rintro ρ h' ⟨L,g,v4,v5,v6,v7,Ln,LP,LI,rfl,rfl⟩
  rw[CK,List.drop_length]at LI
  have la:=JX hc Ln fun d hd=>pU d (LP d hd)
  walk_at "es"
  refine UM ?_
  refine BG rfl ?_
  refine⟨_,rfl,by show(List.map wM _).length≤_;rw[List.length_map];omega,?_⟩
  obtain⟨f,hf⟩:=fM fun d=> .bl (T [] d)
  refine HC (fun _=>true) f (fun y hy=> ?_) ?_
  ·obtain⟨d,hd,rfl⟩:=List.mem_map.1 hy
   have da:=E4 hw hn (pU d (LP d hd))
   refine EA ?_
   refine⟨rfl,?_⟩
   refine HP ?_
   refine⟨rfl,rfl,fun _=> ?_⟩
   rw[hf d]
   walk_at "es"
   refine⟨by simp,?_⟩
   refine CO ?_
   exact NF (row:=[]) da.2.1 da.1 (.inl rfl) (by decide) ⟨rfl,rfl⟩
  ·rw[List.filter_eq_self.2 fun _ _=>rfl,dY hf,show L.map (fun d=>M.bl (T [] d))=(L.map fun d=>T [] d).map M.bl by rw[List.map_map];rfl]
   refine CO ?_
   refine lP ?_
   rw[uJ (iR row w) LI]
   exact k g
def Wq (xs:List M) (m:Nat) (w:Wy):Prop:=CZ w∧WK xs w∧nd w≤m∧cn w≤70∧sz w≤600
theorem wq3 {xs:List M} {w:Wy} (h1:CZ w) (h2:WK xs w) (hf:R6 2 3 w):Wq xs 3 w:=by
 unfold R6 at hf
 simp at hf
 exact⟨h1,h2,hf.2.1,by omega,by omega⟩
theorem wq4 {xs:List M} {w:Wy} (h1:CZ w) (h2:WK xs w) (hf:R6 2 4 w):Wq xs 4 w:=by
 unfold R6 at hf
 simp at hf
 exact⟨h1,h2,hf.2.1,by omega,by omega⟩
theorem BoxAt.base {h:AA} {p:Nat×AA} {c:Nat} (b:BoxAt h p c) (g:AA):BoxAt (h++g) (p.1,h++g) c:=by
 obtain⟨a,b,n,e,h1,h2,h3,h4,_⟩:=b
 exact⟨a,b,n,E2 e,h1,h2,h3,h4,Kp.refl⟩
theorem BoxAt.kp {h:AA} {p:Nat×AA} {c:Nat} (b:BoxAt h p c):Kp p.1 p.2 h:=by
 obtain⟨_,_,_,_,_,_,_,_,k⟩:=b
 exact k
theorem BoxAt.lt {h:AA} {p:Nat×AA} {c:Nat} (b:BoxAt h p c):p.1<h.length:=by
 obtain⟨_,_,_,e,_⟩:=b
 exact(List.getElem?_eq_some_iff.1 e).1
theorem dQ {p:Nat×AA} {xs:List M} {h:AA} {c:Nat} {R:M→AA→Prop} (hk:PR xs) (hb:BoxAt h p c) (hc:c<1000)
 (k:∀w h',BoxAt h' (p.1,h') (c+200)→CZ w→WK xs w→nd w≤12→cn w≤300→sz w≤2000→R (wM w) h'):Ens (mLgreat_way [.ref p.1, .lst xs] h) R:=by
 refine AV rfl ?_
 unfold bLgreat_way
 walk_at "es"
 refine pJ ?_
 refine cM ?_
 refine UB ?_
 walk_at "es"
 refine⟨2,rfl,by omega,by simp,?_⟩
 refine Y2 (fun i acc h'=>∃ws:List Wy,acc=ws.map wM∧ws.length=i∧(∀w∈ws,Wq xs 3 w)∧BoxAt h' p (c+30*i)) ⟨[],rfl,rfl,(fun w hw=>by cases hw),by simpa using hb⟩ ?_ ?_
 ·rintro i x acc h' hx ⟨ws,rfl,hl,hq,b⟩
  have hi:i<2:=by
   have:=(List.getElem?_eq_some_iff.1 hx).1
   simpa using this
  refine EA ?_
  refine HP ?_
  rw[if_pos rfl]
  walk_at "es"
  refine M3 hk 12 3 2 (by decide) (by decide) (by decide) b (by omega) fun w h2 b2 hw _ hf hx=> ?_
  refine⟨ws++[w],by rw[List.map_append];rfl,by simp[hl],fun v hv=> ?_,b2.mono (by omega)⟩
  rcases List.mem_append.1 hv with hv|hv
  ·exact hq v hv
  ·rw[List.mem_singleton.1 hv];exact wq3 hw hx hf
 ·rintro acc h1 ⟨ws,rfl,hl,hq,b1⟩
  have hl:ws.length=2:=by rw[hl];simp
  obtain⟨a,b,rfl⟩:∃a b,ws=[a,b]:=by
   match ws,hl with
   |[a,b],_=>exact⟨a,b,rfl⟩
  have qa:=hq a (by simp)
  have qb:=hq b (by simp)
  have b1:BoxAt h1 p (c+60):=b1.mono (by simp)
  walk_at "es"
  refine M3 hk 12 4 2 (by decide) (by decide) (by decide) b1 (by omega) fun d h2 b2 hd _ hf hx=> ?_
  have qd:=wq4 hd hx hf
  refine CO ?_
  refine⟨by simp,_,_,rfl,rfl,by simp,?_⟩
  refine EA ?_
  refine CS ?_
  refine IW ?_
  have b3:=b2.base [.lst ([a,b].map wM++[wM d])]
  have hp:p.1≠h2.length:=by have:=b2.lt;omega
  generalize hH:h2++[MO.lst ([a,b].map wM++[wM d])]=H at b3
  have hn:H[h2.length]? =some (.lst [wM a,wM b,wM d]):=by rw[←hH];exact XD rfl
  have rest:∀(a':Wy) H' c' v3 v4,Wq xs 3 a'→BoxAt H' (p.1,H') c'→c'≤c+150→H'[h2.length]? =some (.lst [wM a',wM b,wM d])→Ens (AJ (B2 (AG BH (BS (A1 (mC (.str "then")) (A1 (mC (.str "or")) A5))) (AB mLtake (A1 (A2 0) (A1 (mC (.int 2)) A5)))) (BI 4))
   (AY (BS (A1 (A2 4) (A1 (AG BH (A2 2) (mC (.int 0))) (A1 (BS (A1 (AG BH (BS (A1 (mC (.str "then")) (A1 (mC (.str "or")) A5))) (AB mLtake (A1 (A2 0) (A1 (mC (.int 2)) A5)))) (A1 (AG BH (A2 2) (mC (.int 1))) (A1 (AG BH (A2 2) (mC (.int 2))) A5)))) A5)))))
   [some (.ref p.1),some (.lst xs),some (.ref h2.length),v3,v4] H') (FQ R):=fun a' H' c' v3 v4 qa' bx hc' hn'=>by
   walk_at "s"
   refine BK (p:=(p.1,H')) bx (by decide) (by decide) (by omega) fun r g r0 r1 b5=> ?_
   refine K2 (xs:=sF) r0 (by simpa[sF]using r1) fun y hy=> ?_
   walk_at "s"
   have hn5:g[h2.length]? =some (.lst [wM a',wM b,wM d]):=by rw[b5.kp.2 _ (Ne.symm hp)];exact hn'
   refine KO hn5 rfl ?_
   walk_at "s"
   refine BK (p:=(p.1,H')) b5 (by decide) (by decide) (by omega) fun r2 g2 r20 r21 b6=> ?_
   refine K2 (xs:=sF) r20 (by simpa[sF]using r21) fun z hz=> ?_
   have hn6:g2[h2.length]? =some (.lst [wM a',wM b,wM d]):=by rw[b6.kp.2 _ (Ne.symm hp)];exact hn'
   walk_at "s"
   refine KO hn6 rfl ?_
   walk_at "s"
   refine KO hn6 rfl ?_
   walk_at "s"
   have b7:=(b6.base []).mono (c':=c+200) (by omega)
   rw[List.append_nil]at b7
   obtain⟨a1,a2,a3,a4,a5⟩:=qa'
   obtain⟨e1,e2,e3,e4,e5⟩:=qb
   obtain⟨f1,f2,f3,f4,f5⟩:=qd
   simp only[sF,List.mem_cons,List.not_mem_nil,or_false]at hy hz
   rcases hy with rfl|rfl<;>rcases hz with rfl|rfl
   ·exact k (.thn a' (.thn b d)) g2 b7 ⟨a1,e1,f1⟩ ⟨a2,e2,f2⟩ (by simp only[nd];omega) (by simp only[cn];omega) (by simp only[sz];omega)
   ·exact k (.thn a' (.alt b d)) g2 b7 ⟨a1,e1,f1⟩ ⟨a2,e2,f2⟩ (by simp only[nd];omega) (by simp only[cn];omega) (by simp only[sz];omega)
   ·exact k (.alt a' (.thn b d)) g2 b7 ⟨a1,e1,f1⟩ ⟨a2,e2,f2⟩ (by simp only[nd];omega) (by simp only[cn];omega) (by simp only[sz];omega)
   ·exact k (.alt a' (.alt b d)) g2 b7 ⟨a1,e1,f1⟩ ⟨a2,e2,f2⟩ (by simp only[nd];omega) (by simp only[cn];omega) (by simp only[sz];omega)
  refine PJ ?_
  walk_at "s"
  refine BK (p:=(p.1,H)) b3 (by decide) (by decide) (by omega) fun r g r0 r1 b4=> ?_
  have hn4:g[h2.length]? =some (.lst [wM a,wM b,wM d]):=by rw[b4.kp.2 _ (Ne.symm hp)];exact hn
  walk_at "s"
  refine BM (fun _=> ?_) (fun _=> ?_)
  ·walk_at "s"
   refine BK (p:=(p.1,H)) b4 (by decide) (by decide) (by omega) fun lo g2 l0 l1 b5=> ?_
   obtain⟨lo,rfl⟩:=Int.eq_ofNat_of_zero_le l0
   walk_at "s"
   refine XN (p:=(p.1,H)) hk b5 (by omega) fun lf g3 b6 hlf=> ?_
   walk_at "s"
   refine BK (p:=(p.1,H)) b6 (by omega) (by omega) (by omega) fun u g4 u0 u1 b7=> ?_
   obtain⟨u,rfl⟩:=Int.eq_ofNat_of_zero_le u0
   have hn7:g4[h2.length]? =some (.lst [wM a,wM b,wM d]):=by rw[b7.kp.2 _ (Ne.symm hp)];exact hn
   walk_at "s"
   refine eT ?_
   walk_at "es"
   refine⟨h2.length,0,_,0,rfl,rfl,hn7,rfl,?_⟩
   refine CS ?_
   have hlt:h2.length<g4.length:=(List.getElem?_eq_some_iff.1 hn7).1
   have qm:Wq xs 3 (.many lf lo (lo+u)):=by
    rcases hlf with rfl|⟨kd,t,rfl,q1,q2⟩
    ·exact⟨⟨trivial,by omega,by omega⟩,trivial,by simp[nd],by simp[cn],by simp[sz]⟩
    ·exact⟨⟨⟨fun z e=>(q1 z e).1,q2⟩,by omega,by omega⟩,fun z e=>(q1 z e).2,by simp[nd],by simp[cn];omega,by simp[sz]⟩
   refine rest (.many lf lo (lo+u)) _ (c+150) _ _ qm ?_ (Nat.le_refl _) ?_
   ·obtain⟨x1,x2,x3,x4,x5,x6,x7,x8,_⟩:=b7
    exact⟨x1,x2,x3,by rw[List.getElem?_set_ne (Ne.symm hp)];exact x4,x5,x6,x7,by omega,Kp.refl⟩
   ·rw[List.getElem?_set_self hlt]
    show _=some (MO.lst [M.tup [.str "many",wM lf, .int lo, .int ((lo+u:Nat):Int)],wM b,wM d])
    rw[show((lo+u:Nat):Int)=(lo:Int)+u by omega]
    rfl
  ·refine CN ?_
   refine CS ?_
   have b8:=(b4.base []).mono (c':=c+150) (by omega)
   rw[List.append_nil]at b8
   exact rest a g (c+150) _ _ qa b8 (Nat.le_refl _) hn4
theorem gJ (row:Rw):∃r,DB (rM row) none (some 40)=rM r∧r.length≤40∧∀p∈r,p∈row:=by
 rcases Nat.lt_or_ge row.length 40 with g|g
 ·unfold DB
  refine⟨(row.drop (HT.CY (rM row).length 0 none)).take (HT.CY (rM row).length (rM row).length (some 40)-HT.CY (rM row).length 0 none),?_,?_,fun p hp=>List.mem_of_mem_drop (List.mem_of_mem_take hp)⟩
  ·unfold rM;rw[List.map_take,List.map_drop]
  ·rw[List.length_take,List.length_drop];omega
 ·refine⟨row.take 40,?_,by simp;omega,fun p hp=>List.mem_of_mem_take hp⟩
  rw[show(some (40:Int))=some ((40:Nat):Int) from rfl,nC (by rw[CK];omega)]
  unfold rM;rw[List.map_take]
theorem XV:∀{xs:List M},(∀x∈xs,∃z∈ZN,x= .str z)→∃zs:List Str,xs=zs.map M.str∧∀z∈zs,z∈ZN
 |[],_=>⟨[],rfl,fun z hz=>by cases hz⟩
 |x::xs,h=>by
  obtain⟨zs,rfl,h2⟩:=XV (xs:=xs) fun y hy=>h y (List.mem_cons_of_mem _ hy)
  obtain⟨z,hz,rfl⟩:=h x List.mem_cons_self
  exact⟨z::zs,rfl,fun y hy=>(List.mem_cons.1 hy).elim (fun e=>e▸hz) (h2 y)⟩
theorem iO {z:Str} {ks:List Str} (h:M.str z∈ks.map M.str):z∈ks:=by
 obtain⟨y,hy,e⟩:=List.mem_map.1 h
 injection e with e
 rw[←e];exact hy
theorem sB {h:AA} {R:M→Prop} {b:Str} {ss:List Str} (q:R (.bl (decide (b∈ss)))):Enp (J0 (.str b) (.lst (ss.map M.str)) h) R:=⟨_,Q3 (f:=fun b=> .bl b),by
 rw[show ss.any (· ==b)=decide (b∈ss) by rw[Bool.eq_iff_iff,List.any_eq_true,decide_eq_true_eq];exact⟨fun⟨x,hx,e⟩=>by rw[←eq_of_beq e];exact hx,fun hb=>⟨b,hb,beq_self_eq_true b⟩⟩];exact q⟩
theorem fL {t:Str} (h:t= "forth" ∨t= "back"):t∈fb:=by
 rcases h with rfl|rfl
 ·exact List.mem_cons_self
 ·exact List.mem_cons_of_mem _ List.mem_cons_self
theorem p6 {w:Wy} {ks:List Str} {row:Rw} {h:AA} {G:Nat} {xs:List M} {v0 v6 v7 v8 v10:Option M} {S:Out→AA→Prop} (hw:CZ w) (hn:nd w≤12) (hd:deep w≤12) (hc:cn w≤300) (hks:∀k∈ks,k∈X8) (gs:Gs 0 w ks h G) (hr:∀p∈row,p.1∈ks∧p.2∈fb) (hF:FB row) (hl:row.length≤40)
 (k:∀g v10,S (.nx [v0,some (.ref 0),some (.lst xs),some (wM w),some (.ref G),some (wM (tw w)),v6,v7,v8,some (.tup (rM row)),v10]) (h++g)):
 Ens (AJ (B2 (AB mLtells (A1 (A2 3) (A1 (A2 9) A5))) (BI 10))
 (AJ (CV (OC (tV (AG JW (AB m_tells (A1 (A2 3) (A1 (A2 9) A5))) (A2 10))) (OC (tV (AG JW (AB m_tells (A1 (A2 5) (A1 (AB mLback (A1 (A2 9) A5)) A5))) (A2 10))) (tV (AG JW (AB mLled (A1 (A2 3) (A1 (A2 4) (A1 (A2 9) A5)))) (A2 10))))) (AY (mC (.bl false))) AT)
 (CV (HX (tV (A2 10)) (tV (AG KY (E3 DH (A1 (A2 9) A5)) (AB (m_least_steps 24) (A1 (A2 3) A5))))) (AY (mC (.bl false))) AT))
     [v0,some (.ref 0),some (.lst xs),some (wM w),some (.ref G),some (wM (tw w)),v6,v7,v8,some (.tup (rM row)),v10] h) S:=by
 walk_at "es"
 refine aF hd hw (.inl rfl) hl ?_
 walk_at "es"
 refine NF (by omega) hw (.inl rfl) hl ?_
 refine BG rfl ?_
 refine X1 ?_
 rw[beq_self_eq_true]
 refine FX ?_
 refine M5 ?_
 walk_at "es"
 refine i7 hF hl ?_
 refine CO ?_
 refine NF (by rw[GQ];omega) (MG w hw) (.inl rfl) (by rw[V4];exact hl) ?_
 rw[zC hF hw]
 refine BG rfl ?_
 refine X1 ?_
 rw[beq_self_eq_true]
 refine FX ?_
 refine M5 ?_
 walk_at "es"
 refine qJ hw hn hc hks gs hr fun g=> ?_
 refine BG rfl ?_
 refine X1 ?_
 rw[beq_self_eq_true]
 refine FX ?_
 refine M5 ?_
 walk_at "es"
 refine BM (fun q=> ?_) (fun _=> ?_)
 ·have hle:=GK w row ((iR row w).1 q)
  refine iC ?_
  refine VH ?_
  refine u9 ?_
  refine QD ?_
  refine BG rfl ?_
  refine CO ?_
  refine OM ?_
  rw[CK]
  walk_at "es"
  refine F9 24 w (by omega) hw ?_
  refine WN ?_
  refine FX ?_
  refine DG (decide_eq_false (by omega)) ?_
  refine CN ?_
  exact k g _
 ·refine mY ?_
  refine CN ?_
  exact k g _
theorem cI (ns:List Int) (hl:ns.length≤63):∃h',m_law [.scr ns] []=some (.bl true,h'):=by
 suffices z:Ens (m_law [.scr ns] []) fun d _=>d= .bl true by
  obtain⟨d,h',e,rfl⟩:=z
  exact⟨h',e⟩
 refine AV rfl ?_
 unfold Y9
 walk_at "es"
 refine jK (i:=0) (by decide) fun g0 b0 hg0=> ?_
 replace b0:BoxAt g0 (0,g0) 0:=b0
 clear hg0
 walk_at "es"
 have e9:(0:Nat)<900000:=by omega
 refine eB (p:=(0,g0)) b0 e9 fun xs g1 hk b1=> ?_
 obtain⟨zs,rfl,hzs⟩:=XV hk.1
 have hzl:zs.length≤8:=by have:=hk.2.2;rwa [List.length_map]at this
 have hks:∀z∈zs++[("strange":Str)],z∈X8:=fun z hz=>(List.mem_append.1 hz).elim (fun h=>List.mem_append_left _ (hzs z h)) fun h=>List.mem_append_right _ h
 have hxs:zs.map M.str++[.str "strange"]=(zs++[("strange":Str)]).map M.str:=by rw[List.map_append];rfl
 walk_at "es"
 refine dQ (p:=(0,g0)) hk b1 (by decide) fun w g2 b2 hw hx hn hc hz=> ?_
 have hd:deep w≤12:=Nat.le_trans (DS w) hn
 walk_at "es"
 refine nS hw hn hc hxs hks (by rw[List.length_append,List.length_singleton];omega) fun g3 kvs P hg hG wP pU go=> ?_
 have gl:0<g2.length:=b2.lt
 have gs:Gs 0 w (zs++[("strange":Str)]) g3 g2.length:=⟨by omega,kvs,P,hG,wP,pU,fun d hd k hk t ht=>by
  obtain⟨⟨j,a1,a2,a3⟩,a4⟩:=go d hd k hk t ht
  exact⟨⟨j,by omega,a2,a3⟩,a4⟩⟩
 obtain⟨gx,rfl⟩:=hg
 have b3:=b2.base gx
 generalize g2++gx=g3 at gs b3
 clear hG go
 refine EA ?_
 refine CS ?_
 refine IW ?_
 refine PJ ?_
 refine iC ?_
 refine VH ?_
 refine BG rfl ?_
 refine c9 ?_
 refine n0 ?_
 refine FX ?_
 refine DG (by rfl) ?_
 walk_at "es"
 refine E1 24 w (by omega) hw ?_
 walk_at "es"
 refine UB ?_
 walk_at "es"
 refine⟨5,rfl,by omega,?_⟩
 refine GF (fun j ρ h=>∃v6 v7 v8 v9 v10,ρ=[some (.scr ns),some (.ref 0),some (.lst (zs.map M.str)),some (wM w),some (.ref g2.length),some (wM (tw w)),v6,v7,v8,v9,v10]∧BoxAt h (0,h) (1000+j*5000)∧Gs 0 w (zs++[("strange":Str)]) h g2.length) ⟨_,_,_,_,_,rfl,b3.mono (by decide),gs⟩ ?_ ?_
 ·rintro j y ρ h hy ⟨v6,v7,v8,v9,v10,rfl,bj,gj⟩
  have hj:j<5:=by
   have:=(List.getElem?_eq_some_iff.1 hy).1
   simpa using this
  walk_at "es"
  refine KD (p:=(0,h)) hk 12 w hd hw hx (by omega) bj (by omega) fun row g4 b4 l4 _ F4=> ?_
  refine gB ?_
  refine UV ?_
  refine WZ ?_
  obtain⟨row,er,lr,fr⟩:=gJ row
  rw[er]
  have F5:FB row:=fun p hp=>F4.1 p (fr p hp)
  have K5:∀p∈row,p.1∈zs++[("strange":Str)]∧p.2∈fb:=fun p hp=>⟨iO (by rw[←hxs];exact F4.2 p (fr p hp)),fL (F5 p hp)⟩
  walk_at "es"
  refine⟨by decide,?_⟩
  refine HZ (by simp;omega) ?_
  rw[hxs]
  refine CO ?_
  refine VF (p:=(0,h)) ⟨fun x hx=>(List.mem_map.1 hx).imp fun z e=>e.2.symm,by simp,by simp;omega⟩ lr F5 b4 (by omega) fun r5 g5 b5 l5 f5=> ?_
  refine gB ?_
  refine UV ?_
  refine WZ ?_
  obtain⟨r5,er5,lr5,fr5⟩:=gJ r5
  rw[er5]
  have f5:FB r5:=fun p hp=>f5 p (fr5 p hp)
  walk_at "es"
  refine jA ?_
  walk_at "es"
  refine jA ?_
  refine BG rfl ?_
  refine⟨_,rfl,by rw[CK];omega,?_⟩
  have hp2:∃f:M→Bool,∀p:Str×Str,f (pM p)=decide (p.1∈zs++[("strange":Str)]):=⟨fun m=>match m with| .tup [.str a,_]=>decide (a∈zs++[("strange":Str)])|_=>false,fun p=>rfl⟩
  obtain⟨f,hf⟩:=hp2
  refine HC f id (fun y hy=> ?_) ?_
  ·obtain⟨p,hp,rfl⟩:=List.mem_map.1 hy
   refine EA ?_
   refine⟨rfl,?_⟩
   refine iC ?_
   refine VH ?_
   refine VH ?_
   refine BG (v:= .tup [.str p.1, .str p.2]) rfl ?_
   refine c9 ?_
   refine bU ?_
   walk_at "es"
   refine⟨by decide,?_⟩
   refine HZ (by simp;omega) ?_
   rw[hxs]
   refine sB ?_
   refine FX ?_
   refine⟨rfl,(hf p).symm,fun _=> ?_⟩
   refine BG rfl ?_
   exact⟨rfl,rfl⟩
  have er6:((rM r5).filter f).map id=rM (r5.filter fun p=>decide (p.1∈zs++[("strange":Str)])):=by
   rw[List.map_id]
   unfold rM
   rw[List.filter_map]
   congr 1
   exact List.filter_congr fun p _=>hf p
  rw[er6]
  generalize hr6:(r5.filter fun p=>decide (p.1∈zs++[("strange":Str)]))=r6
  have K6:∀p∈r6,p.1∈zs++[("strange":Str)]∧p∈r5:=fun p hp=>by
   rw[←hr6]at hp
   have:=List.mem_filter.1 hp
   exact⟨of_decide_eq_true this.2,this.1⟩
  have l6:r6.length≤40:=by rw[←hr6];exact Nat.le_trans (List.length_filter_le _ _) lr5
  have F6:FB r6:=fun p hp=>f5 p (K6 p hp).2
  refine CO ?_
  refine⟨.tup (rM r6),rfl,?_⟩
  refine CO ?_
  refine⟨by simp,_,rfl,?_⟩
  have b6:=(b5.base []).mono (c':=1000+(j+1)*5000) (by omega)
  rw[List.append_nil]at b6
  refine GF (fun i ρ h'=>∃v9 v10,ρ=[some (.scr ns),some (.ref 0),some (.lst (zs.map M.str)),some (wM w),some (.ref g2.length),some (wM (tw w)),some y,some (.tup (rM row)),some (.tup (rM r5)),v9,v10]∧BoxAt h' (0,h') (1000+(j+1)*5000)∧Gs 0 w (zs++[("strange":Str)]) h' g2.length) ⟨_,_,rfl,b6,gj.kp b5.kp⟩ ?_ ?_
  ·rintro i x ρ h' hx ⟨v9,v10,rfl,bi,gi⟩
   have hr:∃r:Rw,x= .tup (rM r)∧(∀p∈r,p.1∈zs++[("strange":Str)]∧p.2∈fb)∧FB r∧r.length≤40:=by
    have:=List.mem_of_getElem? hx
    simp only[List.mem_cons,List.not_mem_nil,or_false]at this
    rcases this with rfl|rfl
    ·exact⟨row,rfl,K5,F5,lr⟩
    ·exact⟨r6,rfl,fun p hp=>⟨(K6 p hp).1,fL (F6 p hp)⟩,F6,l6⟩
   obtain⟨r,rfl,hr1,hr2,hr3⟩:=hr
   refine NT ?_
   refine EA ?_
   refine p6 hw hn hd hc hks gi hr1 hr2 hr3 fun g v10=> ?_
   exact⟨_,_,rfl,bi.base g,gi.app g⟩
  ·rintro ρ h' ⟨v9,v10,rfl,bi,gi⟩
   exact⟨_,_,_,_,_,rfl,bi,gi⟩
 ·rintro ρ h ⟨v6,v7,v8,v9,v10,rfl,_,_⟩
  walk_at "es"
  rfl
end K22
set_option maxHeartbeats 8000000
namespace K22
open PySem PySem.W PyProof.Rows
abbrev S (s:String) (t:Nat):Value:= .str (Str.ofString s) t
abbrev I (n:Int) (t:Nat):Value:= .int n t
abbrev R (a:Nat):Value:= .ref a
abbrev E (P:Params) (s:String) (t:Nat) (v:Value):DictEntry:=⟨PyData.keyHash P (Str.ofString s), .str (Str.ofString s) t,v⟩
abbrev cO (n:String) (k l g a q b:Nat) (x y:Value) (c e:Nat):Obj:={cls:= .type "code",data:= .fields #[S n k,S n (k+1),S "/claim/cut.py" (k+2),I l 0,I g 0,I 0 0,I 0 0,I 3 0,R a, .bool true,I q 0,R b, .none,x,y,R c,I e 0,I l 0,S "/claim/cut.py" (e+1)]}
abbrev fO (n:String) (s:Stmt) (m:String) (k c:Nat):Obj:={cls:= .type "function",data:= .func (fnOf (Str.ofString n) (Str.ofString n) (L2.ET s) (L2.DR s) (L2.AH s) .none .none .none (S m k) none (R c) .none)}
def vw:Program:={PySem.Challenge.pw_webstore_k22_whole_ways_of_twelve with main:={(PySem.Challenge.pw_webstore_k22_whole_ways_of_twelve).main with body:=[D3 1,D3 2,D3 3,D3 5,D3 6,D3 7,D3 8,D3 9,D3 10,D3 11,D3 12,D3 13,D3 14,D3 15,D3 16,D3 17,D3 18,D3 19,D3 20,D3 21,D3 22,D3 24,D3 25,D3 26,D3 27,D3 28,D3 29,D3 30,D3 31,D3 32,D3 33,D3 34,D3 35,D3 36,D3 37,D3 38,D3 39]}}
def kk:Params→Frag:=fun P=>
 (nat_lit 3,{cls:=Value.type "dict",data:=Data.dict (E P "__name__" 165 (S "law_webstore_k22_whole_ways_of_twelve" 349)::E P "__doc__" 166 (Value.none)::E P "__package__" 167 (Value.none)::E P "__loader__" 168 (Value.builtin "__main__.__loader__#opaque")::E P "__spec__" 169 (Value.none)::E P "__annotations__" 170 (R 6)::E P "__builtins__" 171 (R 4)::E P "__file__" 173 (S "/claim/cut.py" 172)::E P "__cached__" 174 (Value.none)::E P "LONGEST_NAME" 190 (I 8 189)::E P "is_name" 196 (R 19)::E P "is_number" 203 (R 26)::E P "MOST_TIMES" 207 (I 6 206)::E P "OTHER_TURN" 217 (R 27)::E P "EMPTY" 219 (R 28)::E P "is_way" 228 (R 35)::E P "are_times" 236 (R 42)::E P "tells" 244 (R 49)::E P "ends" 250 (R 54)::E P "ends_again" 256 (R 59)::E P "ends_many" 268 (R 66)::E P "merged" 276 (R 73)::E P "is_step_of" 285 (R 80)::E P "least_steps" 293 (R 87)::E P "turned" 301 (R 94)::E P "rests" 312 (R 101)::E P "rests_of_many" 325 (R 108)::E P "followed" 331 (R 113)::E P "in_row" 339 (R 120)::E P "unlike" 348 (R 127)::E P "_law_hand" 361 (R 134)::E P "_law_take" 372 (R 141)::E P "_law_kinds" 382 (R 148)::E P "_law_leaf" 392 (R 155)::E P "_law_way" 407 (R 162)::E P "_law_both" 415 (R 169)::E P "_law_ends" 421 (R 174)::E P "_law_of" 429 (R 181)::E P "_law_tells" 437 (R 188)::E P "_law_row_of" 451 (R 195)::E P "_law_changed" 463 (R 202)::E P "_law_back" 469 (R 207)::E P "_law_all_rests" 475 (R 212)::E P "_law_led" 481 (R 217)::E P "_law_great_way" 487 (R 222)::E P "law" 493 (R 227)::[]).toArray 46})::
 (nat_lit 18,cO "is_name" 191 3 1 15 181 16 .none .none 17 194)::
 (nat_lit 19,fO "is_name" CL "webstore.values" 187 18)::
 (nat_lit 25,cO "is_number" 197 7 1 20 181 21 (R 22) (R 23) 24 201)::
 (nat_lit 26,fO "is_number" CI "webstore.values" 187 25)::
 (nat_lit 27,{cls:=Value.type "dict",data:=Data.dict (E P "forth" 208 (S "back" 209)::E P "back" 210 (S "forth" 211)::E P "either" 212 (S "either" 213)::[]).toArray 3})::
 (nat_lit 28,{cls:=Value.type "tuple",data:=Data.seq #[S "empty" 218]})::
 (nat_lit 34,cO "is_way" 220 13 1 29 181 30 (R 31) (R 32) 33 226)::
 (nat_lit 35,fO "is_way" CC "webstore.ways" 204 34)::
 (nat_lit 41,cO "are_times" 229 27 2 36 181 37 (R 38) (R 39) 40 234)::
 (nat_lit 42,fO "are_times" CH "webstore.ways" 204 41)::
 (nat_lit 48,cO "tells" 237 29 2 43 181 44 (R 45) (R 46) 47 242)::
 (nat_lit 49,fO "tells" G2 "webstore.ways" 204 48)::
 (nat_lit 53,cO "ends" 245 31 3 50 181 51 .none .none 52 248)::
 (nat_lit 54,fO "ends" EM "webstore.ways" 204 53)::
 (nat_lit 58,cO "ends_again" 251 44 3 55 181 56 .none .none 57 254)::
 (nat_lit 59,fO "ends_again" BR "webstore.ways" 204 58)::
 (nat_lit 65,cO "ends_many" 257 51 3 60 181 61 (R 62) (R 63) 64 266)::
 (nat_lit 66,fO "ends_many" BQ "webstore.ways" 204 65)::
 (nat_lit 72,cO "merged" 269 59 2 67 181 68 (R 69) (R 70) 71 274)::
 (nat_lit 73,fO "merged" EI "webstore.ways" 204 72)::
 (nat_lit 79,cO "is_step_of" 277 61 3 74 181 75 (R 76) (R 77) 78 283)::
 (nat_lit 80,fO "is_step_of" CJ "webstore.ways" 204 79)::
 (nat_lit 86,cO "least_steps" 286 63 1 81 181 82 (R 83) (R 84) 85 291)::
 (nat_lit 87,fO "least_steps" C1 "webstore.ways" 204 86)::
 (nat_lit 93,cO "turned" 294 74 1 88 181 89 (R 90) (R 91) 92 299)::
 (nat_lit 94,fO "turned" ED "webstore.ways" 204 93)::
 (nat_lit 100,cO "rests" 302 85 3 95 181 96 (R 97) (R 98) 99 310)::
 (nat_lit 101,fO "rests" CA "webstore.ways" 204 100)::
 (nat_lit 107,cO "rests_of_many" 313 101 3 102 181 103 (R 104) (R 105) 106 323)::
 (nat_lit 108,fO "rests_of_many" AU "webstore.ways" 204 107)::
 (nat_lit 112,cO "followed" 326 107 2 109 181 110 .none .none 111 329)::
 (nat_lit 113,fO "followed" E6 "webstore.ways" 204 112)::
 (nat_lit 119,cO "in_row" 332 109 2 114 181 115 (R 116) (R 117) 118 337)::
 (nat_lit 120,fO "in_row" EG "webstore.ways" 204 119)::
 (nat_lit 126,cO "unlike" 340 117 1 121 181 122 (R 123) (R 124) 125 346)::
 (nat_lit 127,fO "unlike" FW "webstore.ways" 204 126)::
 (nat_lit 133,cO "_law_hand" 351 124 2 128 181 129 (R 130) (R 131) 132 359)::
 (nat_lit 134,fO "_law_hand" EJ "law_webstore_k22_whole_ways_of_twelve" 349 133)::
 (nat_lit 140,cO "_law_take" 362 132 2 135 181 136 (R 137) (R 138) 139 370)::
 (nat_lit 141,fO "_law_take" GX "law_webstore_k22_whole_ways_of_twelve" 349 140)::
 (nat_lit 147,cO "_law_kinds" 373 142 1 142 181 143 (R 144) (R 145) 146 380)::
 (nat_lit 148,fO "_law_kinds" EU "law_webstore_k22_whole_ways_of_twelve" 349 147)::
 (nat_lit 154,cO "_law_leaf" 383 149 2 149 181 150 (R 151) (R 152) 153 390)::
 (nat_lit 155,fO "_law_leaf" GA "law_webstore_k22_whole_ways_of_twelve" 349 154)::
 (nat_lit 161,cO "_law_way" 393 157 4 156 181 157 (R 158) (R 159) 160 405)::
 (nat_lit 162,fO "_law_way" EO "law_webstore_k22_whole_ways_of_twelve" 349 161)::
 (nat_lit 168,cO "_law_both" 408 170 2 163 181 164 (R 165) (R 166) 167 413)::
 (nat_lit 169,fO "_law_both" IN "law_webstore_k22_whole_ways_of_twelve" 349 168)::
 (nat_lit 173,cO "_law_ends" 416 172 3 170 181 171 .none .none 172 419)::
 (nat_lit 174,fO "_law_ends" DU "law_webstore_k22_whole_ways_of_twelve" 349 173)::
 (nat_lit 180,cO "_law_of" 422 194 2 175 181 176 (R 177) (R 178) 179 427)::
 (nat_lit 181,fO "_law_of" aB "law_webstore_k22_whole_ways_of_twelve" 349 180)::
 (nat_lit 187,cO "_law_tells" 430 196 2 182 181 183 (R 184) (R 185) 186 435)::
 (nat_lit 188,fO "_law_tells" G6 "law_webstore_k22_whole_ways_of_twelve" 349 187)::
 (nat_lit 194,cO "_law_row_of" 438 198 3 189 181 190 (R 191) (R 192) 193 449)::
 (nat_lit 195,fO "_law_row_of" BX "law_webstore_k22_whole_ways_of_twelve" 349 194)::
 (nat_lit 201,cO "_law_changed" 452 220 3 196 181 197 (R 198) (R 199) 200 461)::
 (nat_lit 202,fO "_law_changed" BW "law_webstore_k22_whole_ways_of_twelve" 349 201)::
 (nat_lit 206,cO "_law_back" 464 235 1 203 181 204 .none .none 205 467)::
 (nat_lit 207,fO "_law_back" K0 "law_webstore_k22_whole_ways_of_twelve" 349 206)::
 (nat_lit 211,cO "_law_all_rests" 470 237 2 208 181 209 .none .none 210 473)::
 (nat_lit 212,fO "_law_all_rests" B7 "law_webstore_k22_whole_ways_of_twelve" 349 211)::
 (nat_lit 216,cO "_law_led" 476 256 3 213 181 214 .none .none 215 479)::
 (nat_lit 217,fO "_law_led" F7 "law_webstore_k22_whole_ways_of_twelve" 349 216)::
 (nat_lit 221,cO "_law_great_way" 482 264 2 218 181 219 .none .none 220 485)::
 (nat_lit 222,fO "_law_great_way" BP "law_webstore_k22_whole_ways_of_twelve" 349 221)::
 (nat_lit 226,cO "law" 488 271 1 223 181 224 .none .none 225 491)::
 (nat_lit 227,fO "law" BY "law_webstore_k22_whole_ways_of_twelve" 349 226)::[]
def ka:List Addr:=[3,18,19,25,26,27,28,34,35,41,42,48,49,53,54,58,59,65,66,72,73,79,80,86,87,93,94,100,101,107,108,112,113,119,120,126,127,133,134,140,141,147,148,154,155,161,162,168,169,173,174,180,181,187,188,194,195,201,202,206,207,211,212,216,217,221,222,226,227]
theorem kp:∀P,ka=(kk P).map (·.1):=fun _=>by kernel_rfl
abbrev xt:Shared→Bool:=fun s=>xlAt vw [] s&&recOk (RowW.records (PySem.Challenge.rw_webstore_k22_whole_ways_of_twelve).row.toRowW) s
set_option maxHeartbeats 0 in
theorem hl:LeftO (PySem.Challenge.rw_webstore_k22_whole_ways_of_twelve).row.toRowW.prog vw [Str.ofString "OTHER_TURN"] xt (Hook.obs (kHook kk ka kp)) (Hook.val (kHook kk ka kp)) 2330:=LeftO.of_split "special-get-raises" fun w=>by rewrite [PySem.W.Fast.te4187177175401517315,PySem.W.Fast.te5923862056798008813,PySem.W.Fast.te2368527892694137696,PySem.W.Fast.te14364793385576792824];kernel_rfl
theorem ok0:(PySem.Challenge.rw_webstore_k22_whole_ways_of_twelve).wellSaid=true:=by rewrite [PySem.W.Fast.te9446332074065402090];kernel_rfl
end K22
set_option maxHeartbeats 8000000
namespace K22
open PySem L2
section
variable {P:Program} {w:World} {K:PySem.W.Frag} {mg:Str→Option Value} {base:Heap} {t:Adr}
theorem iF (T:Txt P w K mg t):FnOk P w K mg base FY 75 t.f_law t.d_law ["_law_script"] (WQ K):=(oW T).imp fun vs H Q E q=>YX cI q
end
abbrev Fq (K:PySem.W.Frag) (mg:Str→Option Value) (x:Str) (st:Stmt) (ps:List Str) (f:Addr) (d:FuncData):Prop:=Fun K x x st f d∧Binds K d ps []∧mg x=some (.ref f)
theorem uY {K:PySem.W.Frag} {h:Heap} {mg:Str→Option Value} {x:Str} {st:Stmt} {ps:List Str} {f:Addr} {oc:Value} {od an:Option Addr} {sl:Array (Option Value)} {kV dc pm cd ct:Value} (X:K.In h) (G:h.Ns mainGlobals mg)
 (a:PySem.W.nsIn K mainGlobals x=some (some (.ref f))) (l:K.lookup f=some ⟨oc,od, .func (PySem.W.fnOf x x (ET st) (DR st) (AH st) .none kV dc pm an cd ct),sl⟩) (c:PySem.W.codeIn K cd x=true) (k:PySem.W.keepIn K (.ref f)=true)
 (b:∀(kV doc pm:Value) (an:Option Addr) (cdv ct:Value) (us:List Value),us.length=ps.length→bindArgs (PySem.W.fnOf x x (ET st) (DR st) (AH st) .none kV doc pm an cdv ct) ⟨us,[]⟩=pure (ps.zip us)):
 Fq K mg x st ps f (PySem.W.fnOf x x (ET st) (DR st) (AH st) .none kV dc pm an cd ct):=⟨c5 l c k,(c5 l c k).binds b,PySem.W.mg_of X G a⟩
theorem oZ (P:Program) (w:World) {K:PySem.W.Frag} {h:Heap} {mg:Str→Option Value} {f0 f1 f2 f3 f4 f5 f6 f7 f8 f9 f10 f11 f12 f13 f14 f15 f16 f17 f18 f19 f20 f21 f22 f23 f24 f25 f26 f27 f28 f29 f30 f31 f32:Addr} {d0 d1 d2 d3 d4 d5 d6 d7 d8 d9 d10 d11 d12 d13 d14 d15 d16 d17 d18 d19 d20 d21 d22 d23 d24 d25 d26 d27 d28 d29 d30 d31 d32:FuncData} (X:K.In h) (G:h.Ns mainGlobals mg)
 (q0:Fq K mg "is_name" CL ["thing"] f0 d0)
 (q1:Fq K mg "is_number" CI ["thing"] f1 d1)
 (q2:Fq K mg "is_way" CC ["thing"] f2 d2)
 (q3:Fq K mg "are_times" CH ["low","high"] f3 d3)
 (q4:Fq K mg "tells" G2 ["way","steps"] f4 d4)
 (q5:Fq K mg "ends" EM ["way","steps","starts"] f5 d5)
 (q6:Fq K mg "ends_again" BR ["way","steps","starts"] f6 d6)
 (q7:Fq K mg "ends_many" BQ ["way","steps","starts"] f7 d7)
 (q8:Fq K mg "merged" EI ["one","other"] f8 d8)
 (q9:Fq K mg "is_step_of" CJ ["way","kind","turn"] f9 d9)
 (SC:Fq K mg "least_steps" C1 ["way"] f10 d10)
 (sH:Fq K mg "turned" ED ["way"] f11 d11)
 (yZ:Fq K mg "rests" CA ["way","kind","turn"] f12 d12)
 (j8:Fq K mg "rests_of_many" AU ["way","kind","turn"] f13 d13)
 (iQ:Fq K mg "followed" E6 ["ways","tail"] f14 d14)
 (yX:Fq K mg "in_row" EG ["way","tail"] f15 d15)
 (qT:Fq K mg "unlike" FW ["ways"] f16 d16)
 (yQ:Fq K mg "_law_hand" EJ ["_law_script","_law_k"] f17 d17)
 (yS:Fq K mg "_law_take" GX ["_law_hand_here","_law_many"] f18 d18)
 (vU:Fq K mg "_law_kinds" EU ["_law_hand_here"] f19 d19)
 (tH:Fq K mg "_law_leaf" GA ["_law_hand_here","_law_kinds_here"] f20 d20)
 (y4:Fq K mg "_law_way" EO ["_law_hand_here","_law_kinds_here","_law_room","_law_nest"] f21 d21)
 (x9:Fq K mg "_law_both" IN ["_law_one","_law_other"] f22 d22)
 (xB:Fq K mg "_law_ends" DU ["_law_way_here","_law_row","_law_begins"] f23 d23)
 (yT:Fq K mg "_law_of" aB ["_law_way_here","_law_step"] f24 d24)
 (yG:Fq K mg "_law_tells" G6 ["_law_way_here","_law_row"] f25 d25)
 (y8:Fq K mg "_law_row_of" BX ["_law_hand_here","_law_way_here","_law_kinds_here"] f26 d26)
 (gU:Fq K mg "_law_changed" BW ["_law_hand_here","_law_row","_law_kinds_here"] f27 d27)
 (kQ:Fq K mg "_law_back" K0 ["_law_row"] f28 d28)
 (gS:Fq K mg "_law_all_rests" B7 ["_law_way_here","_law_kinds_here"] f29 d29)
 (yA:Fq K mg "_law_led" F7 ["_law_way_here","_law_goings","_law_row"] f30 d30)
 (j4:Fq K mg "_law_great_way" BP ["_law_hand_here","_law_kinds_here"] f31 d31)
 (yW:Fq K mg "law" BY ["_law_script"] f32 d32)
 (z_abs:PySem.W.nsIn K mainGlobals "abs"=some none)
 (z_all:PySem.W.nsIn K mainGlobals "all"=some none)
 (z_any:PySem.W.nsIn K mainGlobals "any"=some none)
 (z_bool:PySem.W.nsIn K mainGlobals "bool"=some none)
 (z_int:PySem.W.nsIn K mainGlobals "int"=some none)
 (z_isinstance:PySem.W.nsIn K mainGlobals "isinstance"=some none)
 (z_len:PySem.W.nsIn K mainGlobals "len"=some none)
 (z_list:PySem.W.nsIn K mainGlobals "list"=some none)
 (z_max:PySem.W.nsIn K mainGlobals "max"=some none)
 (z_min:PySem.W.nsIn K mainGlobals "min"=some none)
 (z_range:PySem.W.nsIn K mainGlobals "range"=some none)
 (z_reversed:PySem.W.nsIn K mainGlobals "reversed"=some none)
 (z_set:PySem.W.nsIn K mainGlobals "set"=some none)
 (z_sorted:PySem.W.nsIn K mainGlobals "sorted"=some none)
 (z_str:PySem.W.nsIn K mainGlobals "str"=some none)
 (z_tuple:PySem.W.nsIn K mainGlobals "tuple"=some none)
 {tk_LONGEST_NAME_1:Tok} (c_LONGEST_NAME:PySem.W.nsIn K mainGlobals "LONGEST_NAME"=some (some (.int 8 tk_LONGEST_NAME_1)))
 {tk_MOST_TIMES_1:Tok} (c_MOST_TIMES:PySem.W.nsIn K mainGlobals "MOST_TIMES"=some (some (.int 6 tk_MOST_TIMES_1)))
 {ad_OTHER_TURN:Addr} {ob_OTHER_TURN:Obj} (c_OTHER_TURN:PySem.W.nsIn K mainGlobals "OTHER_TURN"=some (some (.ref ad_OTHER_TURN)))
 (l_OTHER_TURN:K.lookup ad_OTHER_TURN=some ob_OTHER_TURN) (d_OTHER_TURN:QS P w K EX (.ref ad_OTHER_TURN))
 {tk_EMPTY_2:Tok} {ad_EMPTY_1:Addr} {nn_EMPTY_1:Nat} {sl_EMPTY_1:Array (Option Value)} (c_EMPTY:PySem.W.nsIn K mainGlobals "EMPTY"=some (some (.ref ad_EMPTY_1)))
 (l_EMPTY_1:K.lookup ad_EMPTY_1=some {cls:= .type "tuple",dict:=none,data:= .seq [(.str "empty" tk_EMPTY_2)].toArray nn_EMPTY_1,slots:=sl_EMPTY_1})
 :∃t,Txt P w K mg t∧t.f_law=f32∧t.d_law=d32:=
 ⟨⟨f0,d0,f1,d1,f2,d2,f3,d3,f4,d4,f5,d5,f6,d6,f7,d7,f8,d8,f9,d9,f10,d10,f11,d11,f12,d12,f13,d13,f14,d14,f15,d15,f16,d16,f17,d17,f18,d18,f19,d19,f20,d20,f21,d21,f22,d22,f23,d23,f24,d24,f25,d25,f26,d26,f27,d27,f28,d28,f29,d29,f30,d30,f31,d31,f32,d32,_,_,_,_⟩,⟨q0.1,q0.2.1,q0.2.2,q1.1,q1.2.1,q1.2.2,q2.1,q2.2.1,q2.2.2,q3.1,q3.2.1,q3.2.2,q4.1,q4.2.1,q4.2.2,q5.1,q5.2.1,q5.2.2,q6.1,q6.2.1,q6.2.2,q7.1,q7.2.1,q7.2.2,q8.1,q8.2.1,q8.2.2,q9.1,q9.2.1,q9.2.2,SC.1,SC.2.1,SC.2.2,sH.1,sH.2.1,sH.2.2,yZ.1,yZ.2.1,yZ.2.2,j8.1,j8.2.1,j8.2.2,iQ.1,iQ.2.1,iQ.2.2,yX.1,yX.2.1,yX.2.2,qT.1,qT.2.1,qT.2.2,yQ.1,yQ.2.1,yQ.2.2,yS.1,yS.2.1,yS.2.2,vU.1,vU.2.1,vU.2.2,tH.1,tH.2.1,tH.2.2,y4.1,y4.2.1,y4.2.2,x9.1,x9.2.1,x9.2.2,xB.1,xB.2.1,xB.2.2,yT.1,yT.2.1,yT.2.2,yG.1,yG.2.1,yG.2.2,y8.1,y8.2.1,y8.2.2,gU.1,gU.2.1,gU.2.2,kQ.1,kQ.2.1,kQ.2.2,gS.1,gS.2.1,gS.2.2,yA.1,yA.2.1,yA.2.2,j4.1,j4.2.1,j4.2.2,yW.1,yW.2.1,yW.2.2,PySem.W.mg_none_of X G z_abs,PySem.W.mg_none_of X G z_all,PySem.W.mg_none_of X G z_any,PySem.W.mg_none_of X G z_bool,PySem.W.mg_none_of X G z_int,PySem.W.mg_none_of X G z_isinstance,PySem.W.mg_none_of X G z_len,PySem.W.mg_none_of X G z_list,PySem.W.mg_none_of X G z_max,PySem.W.mg_none_of X G z_min,PySem.W.mg_none_of X G z_range,PySem.W.mg_none_of X G z_reversed,PySem.W.mg_none_of X G z_set,PySem.W.mg_none_of X G z_sorted,PySem.W.mg_none_of X G z_str,PySem.W.mg_none_of X G z_tuple,PySem.W.mg_of X G c_LONGEST_NAME,PD,PySem.W.mg_of X G c_MOST_TIMES,PD,PySem.W.mg_of X G c_OTHER_TURN,d_OTHER_TURN,PySem.W.mg_of X G c_EMPTY,(eC l_EMPTY_1 (by simp) (VW aJ Z2))⟩,rfl,rfl⟩
end K22
open PySem PySem.W PyProof.Rows
local macro_rules| `(tactic|walk_at "fn")=> `(tactic|(refine' K22.uY (by assumption) (by assumption) ?a ?l ?c ?k ?b;(case a=>k_is);(case l=>k_is);(case c=>k_is);(case k=>k_is);(case b=>(intro _ _ _ _ _ _ us hl;rcases us with _|⟨_,_|⟨_,_|⟨_,_|⟨_,_|⟨_,us⟩⟩⟩⟩⟩<;>first|rfl|exact absurd hl (by simp)))))
set_option maxRecDepth 100000 in
set_option maxHeartbeats 0 in
theorem PySem.Challenge.cw_webstore_k22_whole_ways_of_twelve_holds : PySem.Challenge.rw_webstore_k22_whole_ways_of_twelve.Holds := by
 w_on
 refine holds_law K22.ok0 fun said=> ?_
 refine holds_open (q:=K22.vw) (loose:=[Str.ofString "OTHER_TURN"]) (Xt:=K22.xt) (XP:=XL K22.vw []) (Yf:=Hook.obs (kHook K22.kk K22.ka K22.kp)) (Ya:=Hook.val (kHook K22.kk K22.ka K22.kp)) (YP:=Hook.says (kHook K22.kk K22.ka K22.kp)) (N:=2330) K22.hl (Hook.of (kHook K22.kk K22.ka K22.kp)) (Hook.keeps (kHook K22.kk K22.ka K22.kp)) (fun s e=>xl_of s (Bool.and_eq_true_iff.mp e).1) XL.keeps (by rfl) (by rfl) (by rfl) (fun s e=>recFacts_of (Bool.and_eq_true_iff.mp e).2) (by rfl) (by first|assumption|decide+kernel) (by decide+kernel) ⟨rfl,rfl,rfl,rfl,rfl,by decide+kernel⟩ ?hw ?hc
 case hw=>w_witness2
 k_fill
 refine L2.bI (l:=PySem.Challenge.rw_webstore_k22_whole_ways_of_twelve) (n:=63) (k:=75) (x:= "_law_script") (CX:=L2.FY) (sp:=L2.WQ) rfl (by decide) rfl ⟨rfl,by decide,by decide,rfl⟩ (fun w h Y=>PySem.W.kIn_of Y) ?F ?S ?C
 case F=>
  intro w mg fa h KX G hmg
  have Z:∃f kV dc pm an cd ct t,K22.Txt (PySem.Challenge.rw_webstore_k22_whole_ways_of_twelve).prog w (L2.KOf KX) mg t∧t.f_law=f∧t.d_law=PySem.W.fnOf "law" "law" (L2.ET K22.BY) (L2.DR K22.BY) (L2.AH K22.BY) .none kV dc pm an cd ct:=by
   dsimp only[L2.KOf]
   refine' ⟨_,_,_,_,_,_,_,K22.oZ _ w KX G ?q0 ?q1 ?q2 ?q3 ?q4 ?q5 ?q6 ?q7 ?q8 ?q9 ?SC ?sH ?yZ ?j8 ?iQ ?yX ?qT ?yQ ?yS ?vU ?tH ?y4 ?x9 ?xB ?yT ?yG ?y8 ?gU ?kQ ?gS ?yA ?j4 ?yW ?z_abs ?z_all ?z_any ?z_bool ?z_int ?z_isinstance ?z_len ?z_list ?z_max ?z_min ?z_range ?z_reversed ?z_set ?z_sorted ?z_str ?z_tuple ?c_LONGEST_NAME ?c_MOST_TIMES ?c_OTHER_TURN ?l_OTHER_TURN ?d_OTHER_TURN ?c_EMPTY ?l_EMPTY_1⟩
   (case q0=>walk_at "fn")
   (case q1=>walk_at "fn")
   (case q2=>walk_at "fn")
   (case q3=>walk_at "fn")
   (case q4=>walk_at "fn")
   (case q5=>walk_at "fn")
   (case q6=>walk_at "fn")
   (case q7=>walk_at "fn")
   (case q8=>walk_at "fn")
   (case q9=>walk_at "fn")
   (case SC=>walk_at "fn")
   (case sH=>walk_at "fn")
   (case yZ=>walk_at "fn")
   (case j8=>walk_at "fn")
   (case iQ=>walk_at "fn")
   (case yX=>walk_at "fn")
   (case qT=>walk_at "fn")
   (case yQ=>walk_at "fn")
   (case yS=>walk_at "fn")
   (case vU=>walk_at "fn")
   (case tH=>walk_at "fn")
   (case y4=>walk_at "fn")
   (case x9=>walk_at "fn")
   (case xB=>walk_at "fn")
   (case yT=>walk_at "fn")
   (case yG=>walk_at "fn")
   (case y8=>walk_at "fn")
   (case gU=>walk_at "fn")
   (case kQ=>walk_at "fn")
   (case gS=>walk_at "fn")
   (case yA=>walk_at "fn")
   (case j4=>walk_at "fn")
   (case yW=>walk_at "fn")
   (case z_abs=>k_is)
   (case z_all=>k_is)
   (case z_any=>k_is)
   (case z_bool=>k_is)
   (case z_int=>k_is)
   (case z_isinstance=>k_is)
   (case z_len=>k_is)
   (case z_list=>k_is)
   (case z_max=>k_is)
   (case z_min=>k_is)
   (case z_range=>k_is)
   (case z_reversed=>k_is)
   (case z_set=>k_is)
   (case z_sorted=>k_is)
   (case z_str=>k_is)
   (case z_tuple=>k_is)
   (case c_LONGEST_NAME=>k_is)
   (case c_MOST_TIMES=>k_is)
   (case c_OTHER_TURN=>k_is)
   (case l_OTHER_TURN=>k_is)
   (case d_OTHER_TURN=>(refine' L2.YC ?lk ?rest ?nd;(case lk=>k_is);(case rest=>exact(L2.NN (L2.NN (L2.NN L2.jT))));(case nd=>decide+kernel)))
   (case c_EMPTY=>k_is)
   (case l_EMPTY_1=>k_is)
  obtain⟨f,kV,dc,pm,an,cd,ct,t,hT,hf,hd⟩:=Z
  have e:=hmg.symm.trans hT.m_law
  rw[hf]at e
  cases e
  subst hf
  refine⟨t.d_law,fun s u=>by rw[hd];exact .of_eq rfl,fun base kb nb=>(K22.iF hT).mono (by decide)⟩
 case S=>exact fun K H a ns hl hO hS=>L2.cP hl hS
 case C=>exact fun _ _ _ _ z=>z
