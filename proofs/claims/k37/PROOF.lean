import PyProof.Rows.All
import Wide.All
import OpenK.AllK
import Wide.FinOn
import Lean
import PyProof.EqAt
import PyProof.EqKinds
import PyProof.TupleCall
import PyProof.NeKinds
import PyProof.EnumFor
import PyProof.EnumMake
import PyProof.Rows.EnumRows
import PyProof.Rows.Range3
import PyProof.NoPylong
import PyProof.ListRange
import PyProof.TupleOfSeq
import PyProof.TupleOfStr
import PyProof.Draws
import PyProof.ZipIter
import PyProof.Rows.ZipGen
import PyProof.Rows.SortStr
import PyProof.Rows.TupAdd
import PyProof.SetRoads
import PyProof.Rows.SetFrom
import PyProof.StrWalks
import PyProof.CollectWalk
import KE.KDictList
import PyProof.Tail
import PyProof.TupleIter
import PyProof.AttrMiss
import KE.KDictOf
import OpenK.KTop
import PyProof.Rows.SortRev
import PyProof.Rows.CallKwBuiltin
import PyProof.Rows.CallKw2
import KE.KRevIter
import PyProof.SumWalkG
import PySem.Challenge.RW_lassoscribe_k37_great_nets
local macro_rules | `(tactic| omega) => `(tactic| first | lia | omega +splitDisjunctions)
set_option Elab.async false
set_option linter.all false
set_option maxRecDepth 100000
set_option maxHeartbeats 4000000
theorem bE {α β : Type} {o : Option α} {f : α -> Option β} {b : β} {C : Prop} (h : o.bind f = some b) (k : ∀ a, o = some a -> f a = some b -> C) : C := by
 obtain ⟨a, h1, h2⟩ := Option.bind_eq_some_iff.mp h
 exact k a h1 h2
abbrev FZ9 := PySem.W.Frag
namespace L2
open PySem PySem.Spec PyProof.Rows
noncomputable abbrev Key:=Sum Int Str
noncomputable def EI:Key->Value->Bool
 | .inl k,v=>Value.isInt k v
 | .inr x,v=>Value.isStrOf x v
noncomputable def keyH (w:World):Key->Int
 | .inl k=>hashInt k
 | .inr x=>hashStr w x
theorem Bb:∀ {k:Key}{v:Value},EI k v=true->(∃ i t,k=Sum.inl i/\v=Value.int i t)\/(∃ x t,k=Sum.inr x/\v=Value.str x t)
 | .inl i,v,h=>by
  obtain ⟨t,e⟩:=Value.isInt_shape (k:=i) (v:=v) h
  exact .inl ⟨i,t,rfl,e⟩
 | .inr x,v,h=>by
  obtain ⟨t,e⟩:=Value.isStrOf_shape (x:=x) (v:=v) h
  exact .inr ⟨x,t,rfl,e⟩
theorem keyIs_int (i:Int)(t:Tok):EI (.inl i) (.int i t)=true:=by simp [EI,Value.isInt]
theorem keyIs_str (x:Str)(t:Tok):EI (.inr x) (.str x t)=true:=by simp [EI,Value.isStrOf]
theorem key_ll (a b:Int):decide ((Sum.inl a:Key)=Sum.inl b)=(a == b):=by
 by_cases e:a=b
 ·subst e;simp
 ·have h:¬ (Sum.inl a:Key)=Sum.inl b:=fun q=>e (Sum.inl.inj q)
  rw [decide_eq_false h]
  exact (beq_eq_false_iff_ne.mpr e).symm
theorem key_rr (a b:Str):decide ((Sum.inr a:Key)=Sum.inr b)=decide (a=b):=by
 by_cases e:a=b
 ·subst e;simp
 ·have h:¬ (Sum.inr a:Key)=Sum.inr b:=fun q=>e (Sum.inr.inj q)
  rw [decide_eq_false h,decide_eq_false e]
theorem key_lr (a:Int)(b:Str):decide ((Sum.inl a:Key)=Sum.inr b)=false:=decide_eq_false (fun q=>nomatch q)
theorem key_rl (a:Str)(b:Int):decide ((Sum.inr a:Key)=Sum.inl b)=false:=decide_eq_false (fun q=>nomatch q)
noncomputable def BB (prog:Program)(w:World):PySem.KeyKind prog w Key where
 is:=EI
 hash:=keyH w
 inj:=fun v a b ha hb=>by
  rcases Bb ha with ⟨i,t,rfl,rfl⟩ | ⟨x,t,rfl,rfl⟩
  ·rcases Bb hb with ⟨j,u,rfl,e⟩ | ⟨y,u,rfl,e⟩
   ·injection e with e1 _;rw [e1]
   ·exact nomatch e
  ·rcases Bb hb with ⟨j,u,rfl,e⟩ | ⟨y,u,rfl,e⟩
   ·exact nomatch e
   ·injection e with e1 _;rw [e1]
 byValue:=fun k v h=>by
  rcases Bb h with ⟨i,t,rfl,rfl⟩ | ⟨x,t,rfl,rfl⟩<;>rfl
 pyHash:=fun hv h=>by
  rcases Bb hv with ⟨i,t,rfl,rfl⟩ | ⟨x,t,rfl,rfl⟩
  ·exact wpAny_pyHash_int h
  ·exact wpAny_pyHash_str h
 eqBool:=fun hu hv h=>by
  rcases Bb hu with ⟨i,t,rfl,rfl⟩ | ⟨x,t,rfl,rfl⟩
  ·rcases Bb hv with ⟨j,u,rfl,rfl⟩ | ⟨y,u,rfl,rfl⟩
   ·rw [key_ll] at h;exact wpAny_eqBool_int h
   ·rw [key_lr] at h;exact SeqAt.EqAt.int_str i t y u _ _ _ _ h
  ·rcases Bb hv with ⟨j,u,rfl,rfl⟩ | ⟨y,u,rfl,rfl⟩
   ·rw [key_rl] at h;exact SeqAt.EqAt.str_int x t j u _ _ _ _ h
   ·rw [key_rr] at h;exact wpAny_eqBool_str h
 «strs»:=fun k x t v h=>by
  rcases Bb h with ⟨i,u,rfl,e⟩ | ⟨y,u,rfl,e⟩
  ·exact nomatch e
  ·injection e with e1 _
   subst e1
   cases v<;>rfl
theorem mixKind_int (prog:Program)(w:World)(i:Int)(t:Tok):(BB prog w).is (.inl i) (.int i t)=true:=keyIs_int i t
theorem mixKind_str (prog:Program)(w:World)(x:Str)(t:Tok):(BB prog w).is (.inr x) (.str x t)=true:=keyIs_str x t
inductive V where
 | non|bl (b:Bool)|int (i:Int)|str (x:Str)|byt (b:Array UInt8)|flt (b:UInt64)|ref (a:Addr)|ty (n:String)
 deriving DecidableEq
noncomputable def RelV:V->Value->Prop
 | .non,u=>u=Value.none
 | .bl b,u=>u=Value.bool b
 | .int i,u=>∃ t,u=Value.int i t
 | .str x,u=>∃ t,u=Value.str x t
 | .byt b,u=>∃ t,u=Value.bytes b t
 | .flt b,u=>∃ t,u=Value.float b t
 | .ref a,u=>u=Value.ref a
 | .ty n,u=>u=Value.type n
noncomputable abbrev Vals:List V->List Value->Prop:=Paired RelV
theorem Vals.length {xs:List V}{us:List Value}(r:Vals xs us):xs.length=us.length:=Paired.length r
theorem Vals.get:∀ {xs:List V}{us:List Value}{i:Nat}{x:V},Vals xs us->xs[i]? = some x->∃ u,us[i]? = some u/\RelV x u
 | _,_,_,_,.nil,e=>by simp at e
 | _,_,0,_,.cons r _,e=>by simp at e;subst e;exact ⟨_,rfl,r⟩
 | _,_,i+1,x,.cons _ t,e=>by
  obtain ⟨u,h1,h2⟩:=Vals.get (i:=i) (x:=x) t (by simpa using e)
  exact ⟨u,by simpa using h1,h2⟩
theorem Vals.set {x:V}{u:Value}(r:RelV x u):∀ {xs:List V}{us:List Value}(i:Nat),Vals xs us->Vals (xs.set i x) (us.set i u)
 | _,_,_,.nil=>.nil
 | _,_,0,.cons _ t=>.cons r t
 | _,_,i+1,.cons q t=>.cons q (Vals.set r i t)
theorem Vals.append:∀ {xs ys:List V}{us ws:List Value},Vals xs us->Vals ys ws->Vals (xs++ys) (us++ws)
 | _,_,_,_,.nil,s=>s
 | _,_,_,_,.cons r t,s=>.cons r (Vals.append t s)
theorem Vals.take:∀ {xs:List V}{us:List Value}(n:Nat),Vals xs us->Vals (xs.take n) (us.take n)
 | _,_,0,_=>.nil
 | _,_,_+1,.nil=>.nil
 | _,_,n+1,.cons r t=>.cons r (Vals.take n t)
theorem Vals.drop:∀ {xs:List V}{us:List Value}(n:Nat),Vals xs us->Vals (xs.drop n) (us.drop n)
 | _,_,0,r=>r
 | _,_,_+1,.nil=>.nil
 | _,_,n+1,.cons _ t=>Vals.drop n t
noncomputable def RelO:Option V->Option Value->Prop
 | some v,some u=>RelV v u
 | none,none=>True
 | _,_=>False
noncomputable def KV {κ:Type}:List (κ × V)->List (κ × Value)->Prop:=Paired fun (p:κ × V) (q:κ × Value)=>p.1=q.1/\RelV p.2 q.2
noncomputable def kV:Key->V
 | .inl i=>.int i
 | .inr x=>.str x
inductive HO where
 | lst (xs:List V)
 | tup (xs:List V)
 | dK (kvs:List (Key × V))|dT (kvs:List (List Key × V))
 | set (S:Int->Bool) (n:Nat)
 | ins (C dx:Addr) (fs:List (Str × V))
 | own (x:Addr)
 | xd (fs:List (Str × V))
 | met (f x:Addr)
 | rng (lo hi:Int)
 | frz (o:Obj) (u:HO)
 | tbl (ps:Array Value)
 | ext (φ:Heap->Prop)
noncomputable abbrev Hp:=Addr->Option HO
noncomputable def upd (H:Hp)(a:Addr)(o:HO):Hp:=fun b=>if b=a then some o else H b
theorem AM {H:Hp}{a:Addr}{o:HO}:upd H a o a=some o:=by unfold upd;rw [if_pos rfl]
theorem Aq {H:Hp}{a b:Addr}{o:HO}(h:b≠a):upd H a o b=H b:=by unfold upd;rw [if_neg h]
theorem ne_of {H:Hp}{a b:Addr}{o u:HO}(h:H a=some o)(h':H b=some u)(d:o≠u):a≠b:=by
 intro e;subst e;rw [h] at h';exact d (Option.some.inj h')
theorem Ax {H:Hp}{a b:Addr}{o:HO}(h:H a=some o)(h':H b=none):a≠b:=by
 intro e;subst e;rw [h] at h';cases h'
section
variable (P:Program)(w:World)
noncomputable def ObjOk (H:Hp)(h:Heap)(a:Addr):HO->Prop
 | .lst xs=>xs.length<=sizeLine/\∃ (its:List Value) (n:Nat),Vals xs its/\h.get? a=some { cls:=.type "list",data:=.seq its.toArray n }
 | .tup xs=>xs.length<=sizeLine/\∃ its:List Value,Vals xs its/\IsTup h a its.toArray
 | .dK kvs=>kvs.length<=sizeLine/\(a == sysModules)=false/\∃ vs,KV kvs vs/\h.DictOf (BB P w) a vs
 | .dT kvs=>kvs.length<=sizeLine/\(a == sysModules)=false/\∃ xs:List (List Key × Addr × Value),
   Paired (fun (p:List Key × V) (q:List Key × Addr × Value)=>p.1=q.1/\H q.2.1=some (.tup (p.1.map kV))/\RelV p.2 q.2.2) kvs xs /\
   ∃ o es ep,h.get? a=some o/\o.ExactDict/\o.data = .dict es ep/\es.toList=xs.map (entryOfKey (tupleKind (BB P w)))/\(xs.map (·.1)).Nodup
 | .set S n=>h.SetOf (intKind P w) a S n
 | .ins C dx fs=>H dx=some (.own a)/\fs.length<=1000/\dx≠a/\h.get? a=some (PySem.W.instObj C dx) /\
   ∃ mA,h.Ns1 dx mA/\(∀ f,RelO (fs.lookup f) (mA f))/\PySem.Within mA (fs.map (·.1))
 | .own _=>∃ o,h.get? a=some o
 | .xd fs=>∃ mA,h.Ns1 a mA/\∀ f,RelO (fs.lookup f) (mA f)
 | .rng lo hi=>∃ t u v,h.get? a=some { cls:=.type "range",data:=.fields #[.int lo t,.int hi u,.int 1 v] }
 | .frz o u=>h.get? a=some o/\ObjOk H h a u
 | .tbl ps=>h.get? a=some { cls:=.none,data:=.fields ps }
 | .met f x=>h.get? a=some (PySem.W.methodObj (.ref f) (.ref x))
 | .ext φ=>φ h/\(∃ o,h.get? a=some o)/\∀ h1 h2:Heap,φ h1->(∀ o,h1.get? a=some o->h2.get? a=some o)->φ h2
noncomputable def HOk (H:Hp)(h:Heap):Prop:=∀ a o,H a=some o->ObjOk P w H h a o
end
section
variable {P:Program}{w:World}{H H':Hp}{h h':Heap}{a:Addr}{o:HO}
theorem ObjOk.lt (x:ObjOk P w H h a o):a<h.objs.size:=by
 cases o with
 | lst xs=>obtain ⟨_,_,_,_,e⟩:=x;exact Heap.lt_size e
 | tup xs=>obtain ⟨_,_,_,p⟩:=x;exact p.lt
 | dK kvs=>obtain ⟨_,_,_,_,o,_,_,e,_⟩:=x;exact Heap.lt_size e
 | dT kvs=>obtain ⟨_,_,_,_,o,_,_,e,_⟩:=x;exact Heap.lt_size e
 | set S n=>obtain ⟨o,_,_,_,e,_⟩:=x;exact Heap.lt_size e
 | ins C dx fs=>obtain ⟨_,_,_,e,_⟩:=x;exact Heap.lt_size e
 | own y=>obtain ⟨_,e⟩:=x;exact Heap.lt_size e
 | xd fs=>obtain ⟨_,⟨_,_,_,e,_⟩,_⟩:=x;exact Heap.lt_size e
 | rng lo hi=>obtain ⟨_,_,_,e⟩:=x;exact Heap.lt_size e
 | frz ob u=>obtain ⟨e,_⟩:=x;exact Heap.lt_size e
 | tbl ps=>exact Heap.lt_size (show h.get? a=some _ from x)
 | met f y=>exact Heap.lt_size (show h.get? a=some _ from x)
 | ext φ=>obtain ⟨_,⟨_,e⟩,_⟩:=x;exact Heap.lt_size e
theorem Paired.mapP {α β:Type}{F G:α->β->Prop}:∀ {l₁:List α}{l₂:List β},Paired F l₁ l₂->(∀ a b,F a b->G a b)->Paired G l₁ l₂
 | _,_,.nil,_=>.nil
 | _,_,.cons r t,f=>.cons (f _ _ r) (Paired.mapP t f)
theorem Paired.imp' {α β:Type}{F G:α->β->Prop}(f:∀ a b,F a b->G a b){l₁:List α}{l₂:List β}(r:Paired F l₁ l₂):Paired G l₁ l₂:=Paired.mapP r f
theorem ObjOk.stay (x:ObjOk P w H h a o)(k:∀ b u,(b=a\/H b=some (.own a))->h.get? b=some u->h'.get? b=some u)
  (ho:∀ b,H b=some (.own a)->H' b=some (.own a)) (ht:∀ b xs,H b=some (.tup xs)->H' b=some (.tup xs)):ObjOk P w H' h' a o:=by
 induction o with
 | lst xs=>obtain ⟨z,its,n,r,e⟩:=x;exact ⟨z,its,n,r,k _ _ (.inl rfl) e⟩
 | tup xs=>obtain ⟨z,its,r,ob,e,c⟩:=x;exact ⟨z,its,r,ob,k _ _ (.inl rfl) e,c⟩
 | dK kvs=>obtain ⟨z,y,vs,r,ob,es,ep,e,c⟩:=x;exact ⟨z,y,vs,r,ob,es,ep,k _ _ (.inl rfl) e,c⟩
 | dT kvs =>
  obtain ⟨z,y,xs,r,ob,es,ep,e,c⟩:=x
  exact ⟨z,y,xs,Paired.mapP r fun p q z=>⟨z.1,ht _ _ z.2.1,z.2.2⟩,ob,es,ep,k _ _ (.inl rfl) e,c⟩
 | set S n=>obtain ⟨ob,es,ep,t,e,c⟩:=x;exact ⟨ob,es,ep,t,k _ _ (.inl rfl) e,c⟩
 | ins C dx fs =>
  obtain ⟨d,z,ne,e,mA,⟨od,es,ep,e2,c⟩,r⟩:=x
  exact ⟨ho _ d,z,ne,k _ _ (.inl rfl) e,mA,⟨od,es,ep,k _ _ (.inr d) e2,c⟩,r⟩
 | own y=>obtain ⟨ob,e⟩:=x;exact ⟨ob,k _ _ (.inl rfl) e⟩
 | xd fs=>obtain ⟨mA,⟨od,es,ep,e,c⟩,r⟩:=x;exact ⟨mA,⟨od,es,ep,k _ _ (.inl rfl) e,c⟩,r⟩
 | rng lo hi=>obtain ⟨t,u,v,e⟩:=x;exact ⟨t,u,v,k _ _ (.inl rfl) e⟩
 | frz ob u ih=>obtain ⟨e,q⟩:=x;exact ⟨k _ _ (.inl rfl) e,ih q⟩
 | tbl ps =>
  have e:h.get? a=some { cls:=.none,data:=.fields ps }:=x
  show h'.get? a=some { cls:=.none,data:=.fields ps }
  exact k a _ (.inl rfl) e
 | met f y =>
  have e:h.get? a=some (PySem.W.methodObj (.ref f) (.ref y)):=x
  show h'.get? a=some (PySem.W.methodObj (.ref f) (.ref y))
  exact k a _ (.inl rfl) e
 | ext φ=>obtain ⟨p,⟨o,e⟩,st⟩:=x;exact ⟨st _ _ p fun o q=>k _ _ (.inl rfl) q,⟨o,k _ _ (.inl rfl) e⟩,st⟩
theorem HOk.lt (x:HOk P w H h)(e:H a=some o):a<h.objs.size:=(x a o e).lt
theorem HOk.fresh (x:HOk P w H h)(e:h.objs.size<=a):H a=none:=by
 cases q:H a with
 | none=>rfl
 | some u=>exact absurd (Nat.lt_of_lt_of_le (x.lt q) e) (Nat.lt_irrefl _)
theorem HOk.kept (x:HOk P w H h)(k:∀ b u,h.get? b=some u->h'.get? b=some u):HOk P w H h':=fun a o e =>
 (x a o e).stay (fun b u _ q=>k b u q) (fun _ q=>q) fun _ _ q=>q
theorem HOk.laid (x:HOk P w H h)(k:∀ b u,h.get? b=some u->h'.get? b=some u)(hp:h.objs.size<=a)(new:ObjOk P w (upd H a o) h' a o):HOk P w (upd H a o) h':=fun b u e=>by
 have hn:=x.fresh hp
 by_cases hb:b=a
 ·subst hb;rw [AM] at e;cases e;exact new
 ·rw [Aq hb] at e
  exact (x b u e).stay (fun c v _ q=>k c v q) (fun c q=>by rw [Aq (Ax q hn)];exact q) fun c xs q=>by rw [Aq (Ax q hn)];exact q
end
noncomputable def Rd (H:Hp)(a:Addr)(u:HO):Prop:=H a=some u\/∃ o,H a=some (.frz o u)
theorem Rd.ok {P:Program}{w:World}{H:Hp}{h:Heap}{a:Addr}{u:HO}(r:Rd H a u)(x:HOk P w H h):ObjOk P w H h a u:=by
 rcases r with r | ⟨o,r⟩
 ·exact x a u r
 ·obtain ⟨_,q⟩:=x a _ r
  exact q
noncomputable def Mut:Option HO->Prop
 | some (.lst _)=>True
 | some (.dK _)=>True
 | some (.dT _)=>True
 | some (.set _ _)=>True
 | some (.ins _ _ _)=>True
 | some (.ext _)=>True
 | _=>False
section
variable {P:Program}{w:World}{H:Hp}{h h':Heap}{x e:Addr}{o':HO}
theorem HOk.write (ok:HOk P w H h)(mu:Mut (H x))(he:e=x\/H e=some (.own x))(k:∀ b u,b≠e->h.get? b=some u->h'.get? b=some u)(heo:∃ u,h'.get? e=some u)
  (new:ObjOk P w (upd H x o') h' x o'):HOk P w (upd H x o') h':=fun b u q=>by
 have nown:∀ c y,H c=some (.own y)->c≠x:=fun c y r z=>by subst z;rw [r] at mu;exact mu
 have ntup:∀ c xs,H c=some (.tup xs)->c≠x:=fun c xs r z=>by subst z;rw [r] at mu;exact mu
 by_cases hb:b=x
 ·subst hb;rw [AM] at q;cases q;exact new
 ·rw [Aq hb] at q
  by_cases hbe:b=e
  ·have q':H b=some (.own x):=by
    rcases he with z|z
    ·exact absurd (hbe.trans z) hb
    ·rw [hbe];exact z
   rw [q] at q';cases q'
   obtain ⟨v,hv⟩:=heo
   exact ⟨v,by rw [hbe];exact hv⟩
  ·refine (ok b u q).stay (fun c v hc r=>k c v ?_ r) (fun c r=>by rw [Aq (nown c b r)];exact r) fun c xs r=>by rw [Aq (ntup c xs r)];exact r
   rcases hc with rfl|hc
   ·exact hbe
   ·rintro rfl
    rcases he with z|z
    ·exact nown c b hc z
    ·rw [hc] at z;cases z;exact hb rfl
end
structure Un (fs ex:List Addr)(H H':Hp)(h h':Heap):Prop where
 keep:∀ b o,h.get? b=some o->H b=none->b ∉ fs->b ∉ ex->h'.get? b=some o
 slot:∀ b o,h.get? b=some o->H b=none->b∈fs->b ∉ ex->∃ sl,h'.get? b=some { o with slots:=sl }
 free:∀ b o,h.get? b=some o->H b=none->b ∉ ex->H' b=none
 there:∀ b o,h.get? b=some o->b ∉ ex->∃ o',h'.get? b=some o'
 tups:∀ b xs,H b=some (.tup xs)->H' b=some (.tup xs)
 frzs:∀ b o u,H b=some (.frz o u)->H' b=some (.frz o u)
 tbls:∀ b ps,H b=some (.tbl ps)->∃ more,H' b=some (.tbl (ps++more))
section
variable {fs fs' ex ex':List Addr}{H H1 H2:Hp}{h h1 h2 h':Heap}{a x e:Addr}{o:HO}
theorem Un.any (u:Un fs ex H H1 h h1){b:Addr}{ob:Obj}(q:h.get? b=some ob)(n:H b=none)(hx:b ∉ ex):∃ sl,h1.get? b=some { ob with slots:=sl }:=by
 by_cases hb:b∈fs
 ·exact u.slot b ob q n hb hx
 ·exact ⟨ob.slots,u.keep b ob q n hb hx⟩
theorem Un.kept (k:∀ b u,h.get? b=some u->h'.get? b=some u):Un fs ex H H h h' :=
 ⟨fun b ob q _ _ _=>k b ob q,fun b ob q _ _ _=>⟨ob.slots,k b ob q⟩,fun _ _ _ n _=>n,fun b ob q _=>⟨ob,k b ob q⟩,fun _ _ q=>q,fun _ _ _ q=>q,fun _ ps q=>⟨#[],by rw [q];simp⟩⟩
theorem Un.refl:Un fs ex H H h h:=Un.kept fun _ _ q=>q
theorem Un.laid (k:∀ b u,h.get? b=some u->h'.get? b=some u)(hp:h.objs.size<=a)(hn:H a=none):Un fs ex H (upd H a o) h h' where
 keep:=fun b u q _ _ _=>k b u q
 slot:=fun b u q _ _ _=>⟨u.slots,k b u q⟩
 free:=fun b u q n _=>by rw [Aq (Nat.ne_of_lt (Nat.lt_of_lt_of_le (Heap.lt_size q) hp))];exact n
 there:=fun b u q _=>⟨u,k b u q⟩
 tups:=fun b xs q=>by rw [Aq (Ax q hn)];exact q
 frzs:=fun b u xs q=>by rw [Aq (Ax q hn)];exact q
 tbls:=fun b ps q=>⟨#[],by rw [Aq (Ax q hn),q];simp⟩
theorem Un.write (mu:Mut (H x))(he:e=x\/H e=some (.own x))(k:∀ b u,b≠e->h.get? b=some u->h'.get? b=some u)(heo:∃ u,h'.get? e=some u):Un fs ex H (upd H x o) h h':=by
 have hx:∀ b,H b=none->b≠x:=fun b n z=>by subst z;rw [n] at mu;exact mu
 have hb:∀ b,H b=none->b≠e:=fun b n z=>by
  subst z
  rcases he with r|r
  ·exact hx b n r
  ·rw [n] at r;cases r
 have hm:∀ b u,H b=some u->¬ Mut (some u)->b≠x:=fun b u q nm z=>by subst z;rw [q] at mu;exact nm mu
 refine ⟨fun b u q n _ _=>k b u (hb b n) q,fun b u q n _ _=>⟨u.slots,k b u (hb b n) q⟩,fun b u q n _=>by rw [Aq (hx b n)];exact n,fun b u q _=>?_,
  fun b xs q=>by rw [Aq (hm b _ q fun z=>z)];exact q,fun b u xs q=>by rw [Aq (hm b _ q fun z=>z)];exact q,fun b ps q=>⟨#[],by rw [Aq (hm b _ q fun z=>z),q];simp⟩⟩
 by_cases hbe:b=e
 ·subst hbe;exact heo
 ·exact ⟨u,k b u hbe q⟩
end
noncomputable def trk (h:Heap)(H:Hp):List Addr:=(List.range h.objs.size).filter fun a=>(H a).isSome
noncomputable def hidT (h:Heap)(H:Hp):Heap:=PySem.W.hideAll h (trk h H)
theorem hidT_size (h:Heap)(H:Hp):(hidT h H).objs.size=h.objs.size:=PySem.W.hideAll_size _ _
theorem hidT_get {h:Heap}{H:Hp}{b:Addr}{o:Obj}(e:h.get? b=some o)(n:H b=none):(hidT h H).get? b=some o :=
 PySem.W.hideAll_get _ e fun hm=>by
  have q:(H b).isSome=true:=(List.mem_filter.mp hm).2
  rw [n] at q;simp at q
theorem of_hidT {h:Heap}{H:Hp}{b:Addr}{o:Obj}(e:(hidT h H).get? b=some o):h.get? b=some o/\H b=none:=by
 have e':h.get? b=some o:=PySem.W.of_hideAll (trk h H) e
 refine ⟨e',?_⟩
 cases q:H b with
 | none=>rfl
 | some x =>
  have hm:b∈trk h H:=List.mem_filter.mpr ⟨List.mem_range.mpr (Heap.lt_size e'),by simp [q]⟩
  have z:(hidT h H).get? b=none:=PySem.W.hideAll_none (trk h H) hm
  rw [z] at e;cases e
structure Mod (K:FZ9)(mg:Str->Option Value)(base:Heap):Prop where
 kin:K.In base
 glob:base.Ns mainGlobals mg
 blt:∃ mb,base.Ns builtinsNs mb/\∀ x:Str,x ≠ "__name__" -> mb x=bootBuiltins x
 nolimit:base.NoLimit
structure Cx where
 prog:Program
 w:World
 K:FZ9
 mg:Str->Option Value
 base:Heap
 A:Around
 N:List Str
 s₀:Shared
 H₀:Hp
 env:Env
 outer:List Env
 stack:List Env
 ex:List Addr
 fn:Str->Bool
 calm:Bool
 pn:List (Addr × Obj)
 xe:Value->Shared->Prop
noncomputable def frs (l:List Env):List Addr:=l.filterMap (·.frame)
noncomputable abbrev Cx.fs (X:Cx):List Addr:=frs X.outer
noncomputable def Vis (sc:Scope)(x:Str):Prop:=sc.names.lookup x=some .local \/ sc.names.lookup x=some .cell\/sc.names.lookup x=some .free
noncomputable def Loc (sc:Scope)(x:Str):Prop:=sc.names.lookup x=some .local \/ sc.names.lookup x=some .cell
noncomputable def Look (env:Env)(h:Heap)(m:Str->Option Value)(x:Str)(u:Value):Prop :=
 (env.kindOf x=some .local /\ m x=some u)\/((env.kindOf x=some .cell\/env.kindOf x=some .free)/\∃ c,env.cells.lookup x=some c/\h.IsCell c (some u))
structure Cx.Ok (X:Cx):Prop where
 mod:Mod X.K X.mg X.base
 kind:X.env.scope.kind = .function
 glob:X.env.globals=mainGlobals
 blt:X.env.builtins=builtinsNs
 above:X.s₀.heap.objs.size<=X.env.locals
 inj:∀ x y c,X.env.cells.lookup x=some c->X.env.cells.lookup y=some c->x=y
 has:∀ x,(X.env.kindOf x=some .cell\/X.env.kindOf x=some .free)->∃ c,X.env.cells.lookup x=some c
 cab:∀ x c,X.fn x=true->X.env.cells.lookup x=some c->X.s₀.heap.objs.size<=c
 hd:X.calm=true->X.A.handled=none
 frames:X.A.frames=some X.stack
 stk:X.stack=X.outer\/(X.stack=X.env::X.outer/\X.env.frame=some X.env.locals)
 exf:∀ b∈X.ex,b≠X.env.locals/\∀ x c,X.env.cells.lookup x=some c->c≠b
 bs:∀ b o,X.base.get? b=some o->X.s₀.heap.get? b=some o/\X.H₀ b=none
 bsz:X.base.objs.size<=X.s₀.heap.objs.size
 noex:∀ b o,X.base.get? b=some o->b ∉ X.ex
 exfs:∀ b∈X.ex,b ∉ X.fs
 funs:X.s₀.heap.FunFrames X.base X.outer
 frf:∀ b∈X.fs,X.H₀ b=none
structure Inv (X:Cx)(pins:List (Addr × Obj))(σ:List (Option V))(H:Hp)(s:Shared):Prop where
 ok:X.Ok
 os:s.os=X.s₀.os
 bare:AllBare s.gens
 base:Un X.fs X.ex X.H₀ H X.s₀.heap s.heap
 loc:∃ m,s.heap.Ns X.env.locals m/\∀ (i:Nat) (x:Str) (v:V),X.N[i]? = some x->σ[i]? = some (some v)->Vis X.env.scope x->∃ u,RelV v u/\Look X.env s.heap m x u
 cell:∀ x c,X.env.cells.lookup x=some c->∃ v,s.heap.IsCell c v
 free:H X.env.locals=none
 freeC:∀ x c,X.env.cells.lookup x=some c->H c=none
 pin:∀ p∈X.pn++pins,s.heap.get? p.1=some p.2/\H p.1=none/\p.1≠X.env.locals/\p.1 ∉ X.fs/\∀ v,p.2.data ≠ .cell v
 hok:HOk X.prog X.w H s.heap
 len:σ.length=X.N.length
section
variable {X:Cx}{pins:List (Addr × Obj)}{σ:List (Option V)}{H H':Hp}{s:Shared}{h':Heap}
theorem Cx.Ok.nofr (ok:X.Ok){b:Addr}{o:Obj}(e:X.base.get? b=some o):b ∉ X.fs:=fun hb=>by
 have:=(ok.funs.mem hb).1
 rw [e] at this;cases this
theorem Inv.bs (I:Inv X pins σ H s):∀ b o,X.base.get? b=some o->s.heap.get? b=some o/\H b=none:=fun b o e =>
 ⟨I.base.keep b o (I.ok.bs b o e).1 (I.ok.bs b o e).2 (I.ok.nofr e) (I.ok.noex b o e),I.base.free b o (I.ok.bs b o e).1 (I.ok.bs b o e).2 (I.ok.noex b o e)⟩
theorem Inv.bk (I:Inv X pins σ H s):∀ b o,X.base.get? b=some o->s.heap.get? b=some o:=fun b o e=>(I.bs b o e).1
theorem Inv.mod (I:Inv X pins σ H s):Mod X.K X.mg X.base:=I.ok.mod
theorem Inv.kIn (I:Inv X pins σ H s):X.K.In s.heap:=I.ok.mod.kin.keeps I.bk
theorem Inv.lt (I:Inv X pins σ H s):X.env.locals<s.heap.objs.size:=let ⟨_,hn,_⟩:=I.loc;hn.lt
theorem Inv.sz (I:Inv X pins σ H s):X.s₀.heap.objs.size<=s.heap.objs.size:=Nat.le_trans I.ok.above (Nat.le_of_lt I.lt)
theorem Inv.nofs (I:Inv X pins σ H s){a:Addr}(h:s.heap.objs.size<=a):a ∉ X.fs:=fun hb=>by
 obtain ⟨_,o,ho,_⟩:=I.ok.funs.mem hb
 exact absurd (Nat.lt_of_lt_of_le (Heap.lt_size ho) (Nat.le_trans I.sz h)) (Nat.lt_irrefl _)
theorem Inv.cne (I:Inv X pins σ H s):∀ x c,X.env.cells.lookup x=some c->c≠X.env.locals:=fun x c e z=>by
 obtain ⟨v,o,ho,hd⟩:=I.cell x c e
 obtain ⟨m,⟨o',es,ep,ho',hd',_⟩,_⟩:=I.loc
 rw [z,ho'] at ho;cases ho;rw [hd'] at hd;cases hd
theorem Inv.funs (I:Inv X pins σ H s):s.heap.FunFrames X.base X.outer:=by
 have all:∀ (l:List Env),(∀ b∈frs l,b∈X.fs)->X.s₀.heap.FunFrames X.base l->s.heap.FunFrames X.base l:=by
  intro l
  induction l with
  | nil=>intro _ _;trivial
  | cons env r ih =>
   intro hs hl
   obtain ⟨hk,⟨L,o,hf,hn,ho,hd⟩,hr⟩:=hl
   have hL:L∈X.fs:=hs L (by unfold frs;rw [List.filterMap_cons,hf];exact List.mem_cons_self)
   obtain ⟨sl,e⟩:=I.base.slot L o ho (I.ok.frf L hL) hL fun z=>I.ok.exfs L z hL
   exact ⟨hk,⟨L,_,hf,hn,e,hd⟩,ih (fun b hb=>hs b (by unfold frs;rw [List.filterMap_cons,hf];exact List.mem_cons_of_mem _ hb)) hr⟩
 exact all X.outer (fun _ hb=>hb) I.ok.funs
theorem Inv.stack (I:Inv X pins σ H s):s.heap.FunFrames X.base X.stack:=by
 rcases I.ok.stk with e | ⟨e,hf⟩
 ·rw [e];exact I.funs
 ·rw [e]
  obtain ⟨m,hn,_⟩:=I.loc
  refine .cons (by rw [I.ok.kind];decide) hf hn ?_ I.funs
  exact Heap.get?_none_of_le (Nat.le_trans I.ok.bsz I.ok.above)
theorem Inv.stkSub (I:Inv X pins σ H s):∀ b∈frs X.stack,b∈X.env.locals::X.fs:=fun b hb=>by
 rcases I.ok.stk with e | ⟨e,hf⟩
 ·rw [e] at hb;exact List.mem_cons_of_mem _ hb
 ·rw [e] at hb
  unfold frs at hb
  rw [List.filterMap_cons,hf] at hb
  exact hb
theorem Inv.stkFree (I:Inv X pins σ H s):∀ b∈frs X.stack,H b=none:=fun b hb=>by
 rcases List.mem_cons.mp (I.stkSub b hb) with e|hb
 ·rw [e];exact I.free
 ·obtain ⟨_,o,ho,_⟩:=I.ok.funs.mem hb
  exact I.base.free b o ho (I.ok.frf b hb) fun z=>I.ok.exfs b z hb
theorem Inv.step {g':Array GenState}{t':Nat}{d':Drawn}{ch:List Addr}(I:Inv X pins σ H s)
  (hch:∀ b∈ch,(b∈X.ex\/X.s₀.heap.objs.size<=b)/\b≠X.env.locals/\(∀ x c,X.env.cells.lookup x=some c->c≠b)/\∀ p∈X.pn++pins,p.1≠b)
  (keep:∀ b o,b≠X.env.locals->b ∉ X.fs->b ∉ ch->s.heap.get? b=some o->H b=none->h'.get? b=some o)
  (slot:∀ b o,b≠X.env.locals->b∈X.fs->b ∉ ch->s.heap.get? b=some o->H b=none->∃ sl,h'.get? b=some { o with slots:=sl }) (free:∀ b o,b ∉ ch->s.heap.get? b=some o->H b=none->H' b=none)
  (there:∀ b o,b ∉ ch->s.heap.get? b=some o->∃ o',h'.get? b=some o')
  (tups:∀ b xs,H b=some (.tup xs)->H' b=some (.tup xs)) (frzs:∀ b o u,H b=some (.frz o u)->H' b=some (.frz o u)) (tbls:∀ b ps,H b=some (.tbl ps)->∃ more,H' b=some (.tbl (ps++more)))
  (ns:∀ m,s.heap.Ns X.env.locals m->h'.Ns X.env.locals m) (hok:HOk X.prog X.w H' h') (hg:AllBare g') :
  Inv X pins σ H' { s with heap:=h',gens:=g',drawn:=d',toks:=t' }:=by
 have neL:∀ b o,X.s₀.heap.get? b=some o->b≠X.env.locals:=fun b o e=>Nat.ne_of_lt (Nat.lt_of_lt_of_le (Heap.lt_size e) I.ok.above)
 have neC:∀ b o,X.s₀.heap.get? b=some o->b ∉ X.ex->b ∉ ch:=fun b o e hx hb=>by
  rcases (hch b hb).1 with z|z
  ·exact hx z
  ·exact absurd (Nat.lt_of_lt_of_le (Heap.lt_size e) z) (Nat.lt_irrefl _)
 have cellK:∀ x c,X.env.cells.lookup x=some c->∀ v,s.heap.IsCell c v->h'.IsCell c v:=fun x c e v ⟨o,ho,hd⟩=>by
  have nch:c ∉ ch:=fun z=>(hch c z).2.2.1 x c e rfl
  by_cases hc:c∈X.fs
  ·obtain ⟨sl,q⟩:=slot c o (I.cne x c e) hc nch ho (I.freeC x c e)
   exact ⟨_,q,hd⟩
  ·exact ⟨o,keep c o (I.cne x c e) hc nch ho (I.freeC x c e),hd⟩
 refine ⟨I.ok,I.os,hg,⟨fun b o e n hb hx=>?_,fun b o e n hb hx=>?_,fun b o e n hx=>?_,fun b o e hx=>?_,fun b xs e=>tups b xs (I.base.tups b xs e),fun b o xs e=>frzs b o xs (I.base.frzs b o xs e),fun b ps e=>?_⟩,?_,fun x c e=>?_,?_,fun x c e=>?_,fun p hp=>?_,hok,I.len⟩
 ·exact keep b o (neL b o e) hb (neC b o e hx) (I.base.keep b o e n hb hx) (I.base.free b o e n hx)
 ·obtain ⟨sl,e1⟩:=I.base.slot b o e n hb hx
  obtain ⟨sl',e2⟩:=slot b _ (neL b o e) hb (neC b o e hx) e1 (I.base.free b o e n hx)
  exact ⟨sl',e2⟩
 ·obtain ⟨o',e1⟩:=I.base.there b o e hx
  exact free b o' (neC b o e hx) e1 (I.base.free b o e n hx)
 ·obtain ⟨o',e1⟩:=I.base.there b o e hx
  exact there b o' (neC b o e hx) e1
 ·obtain ⟨m1,e1⟩:=I.base.tbls b ps e
  obtain ⟨m2,e2⟩:=tbls b _ e1
  exact ⟨m1++m2,by rw [e2,Array.append_assoc]⟩
 ·obtain ⟨m,hn,hl⟩:=I.loc
  refine ⟨m,ns m hn,fun i x v e1 e2 e3=>?_⟩
  obtain ⟨u,r,l⟩:=hl i x v e1 e2 e3
  refine ⟨u,r,?_⟩
  rcases l with l | ⟨k,c,e,z⟩
  ·exact .inl l
  ·exact .inr ⟨k,c,e,cellK x c e _ z⟩
 ·obtain ⟨v,z⟩:=I.cell x c e
  exact ⟨v,cellK x c e v z⟩
 ·obtain ⟨m,⟨o,_,_,ho,_⟩,_⟩:=I.loc
  exact free _ o (fun z=>(hch _ z).2.1 rfl) ho I.free
 ·obtain ⟨v,o,ho,hd⟩:=I.cell x c e
  exact free c o (fun z=>(hch c z).2.2.1 x c e rfl) ho (I.freeC x c e)
 ·obtain ⟨e,n,ne,nf,d⟩:=I.pin p hp
  have nch:p.1 ∉ ch:=fun z=>(hch p.1 z).2.2.2 p hp rfl
  exact ⟨keep p.1 p.2 ne nf nch e n,free p.1 p.2 nch e n,ne,nf,d⟩
theorem Inv.un {t':Nat}(I:Inv X pins σ H s)(u:Un X.fs [] H H' s.heap h')(hok:HOk X.prog X.w H' h'):Inv X pins σ H' { s with heap:=h',toks:=t' }:=by
 obtain ⟨m,⟨o,es,ep,ho,r⟩,_⟩:=id I.loc
 obtain ⟨sl,hL⟩:=u.any ho I.free (by simp)
 exact I.step (g':=s.gens) (d':=s.drawn) (ch:=[]) (fun _ z=>nomatch z) (fun b o _ hb _ e n=>u.keep b o e n hb (by simp)) (fun b o _ hb _ e n=>u.slot b o e n hb (by simp)) (fun b o _ e n=>u.free b o e n (by simp)) (fun b o _ e=>u.there b o e (by simp)) u.tups u.frzs u.tbls (fun m' hm=>by
  obtain ⟨o',es',ep',ho',r'⟩:=hm
  rw [ho] at ho';cases ho'
  exact ⟨_,es',ep',hL,r'⟩) hok I.bare
theorem Inv.call {g':Array GenState}{t':Nat}{d':Drawn}{ch:List Addr}(I:Inv X pins σ H s)(u:Un (frs X.stack) ch H H' s.heap h')(hok:HOk X.prog X.w H' h')(hg:AllBare g')
  (hch:∀ b∈ch,(b∈X.ex\/X.s₀.heap.objs.size<=b)/\b≠X.env.locals/\(∀ x c,X.env.cells.lookup x=some c->c≠b)/\∀ p∈X.pn++pins,p.1≠b) :
  Inv X pins σ H' { s with heap:=h',gens:=g',drawn:=d',toks:=t' }:=by
 obtain ⟨m,⟨o,es,ep,ho,r⟩,_⟩:=id I.loc
 obtain ⟨sl,hL⟩:=u.any ho I.free fun z=>(hch _ z).2.1 rfl
 exact I.step (ch:=ch) hch (fun b o hL hb hc e n=>u.keep b o e n (fun z=>(List.mem_cons.mp (I.stkSub b z)).elim hL hb) hc) (fun b o _ _ hc e n=>u.any e n hc) (fun b o hc e n=>u.free b o e n hc) (fun b o hc e=>u.there b o e hc) u.tups u.frzs u.tbls (fun m' hm=>by
  obtain ⟨o',es',ep',ho',r'⟩:=hm
  rw [ho] at ho';cases ho'
  exact ⟨_,es',ep',hL,r'⟩) hok hg
theorem Inv.turned {t':Nat}{it:Addr}(I:Inv X pins σ H s)(k:∀ b o,b≠it->s.heap.get? b=some o->h'.get? b=some o)(hn:H it=none)(hL:it≠X.env.locals)
  (h1:it∈X.ex\/X.s₀.heap.objs.size<=it) (h2:∀ x c,X.env.cells.lookup x=some c->c≠it) (h3:∀ p∈X.pn++pins,p.1≠it):Inv X pins σ H { s with heap:=h',toks:=t' }:=by
 have nit:∀ b u,H b=some u->b≠it:=fun b u e z=>by rw [z,hn] at e;cases e
 refine I.step (g':=s.gens) (d':=s.drawn) (ch:=[it]) (fun b hb=>?_) (fun b o _ _ hc e _=>k b o (fun z=>hc (by simp [z])) e) (fun b o _ _ hc e _=>⟨o.slots,k b o (fun z=>hc (by simp [z])) e⟩) (fun _ _ _ _ n=>n)
  (fun b o hc e=>⟨o,k b o (fun z=>hc (by simp [z])) e⟩) (fun _ _ e=>e) (fun _ _ _ e=>e) (fun b ps e=>⟨#[],by rw [e];simp⟩) (fun m hm=>?_) (fun b u e=>?_) I.bare
 ·have e:b=it:=by simpa using hb
  subst e
  exact ⟨h1,hL,h2,h3⟩
 ·obtain ⟨o,es,ep,ho,r⟩:=hm
  exact ⟨o,es,ep,k _ o (Ne.symm hL) ho,r⟩
 ·refine (I.hok b u e).stay (fun c v hc q=>k c v ?_ q) (fun _ q=>q) fun _ _ q=>q
  rcases hc with z|z
  ·rw [z];exact nit b u e
  ·exact nit c _ z
theorem Inv.tok (I:Inv X pins σ H s)(t:Nat):Inv X pins σ H { s with toks:=t }:=I.un (h':=s.heap) (t':=t) Un.refl I.hok
theorem Inv.kept {t':Nat}(I:Inv X pins σ H s)(k:∀ b u,s.heap.get? b=some u->h'.get? b=some u):Inv X pins σ H { s with heap:=h',toks:=t' }:=I.un (Un.kept k) (I.hok.kept k)
theorem Inv.laid {a:Addr}{o:HO}{t':Nat}(I:Inv X pins σ H s)(k:∀ b u,s.heap.get? b=some u->h'.get? b=some u)(hp:s.heap.objs.size<=a)(new:ObjOk X.prog X.w (upd H a o) h' a o) :
  Inv X pins σ (upd H a o) { s with heap:=h',toks:=t' }:=I.un (Un.laid k hp (I.hok.fresh hp)) (I.hok.laid k hp new)
theorem Inv.write {x e:Addr}{o:HO}{t':Nat}(I:Inv X pins σ H s)(mu:Mut (H x))(he:e=x\/H e=some (.own x))(k:∀ b u,b≠e->s.heap.get? b=some u->h'.get? b=some u)(heo:∃ u,h'.get? e=some u)
  (new:ObjOk X.prog X.w (upd H x o) h' x o):Inv X pins σ (upd H x o) { s with heap:=h',toks:=t' }:=I.un (Un.write mu he k heo) (I.hok.write mu he k heo new)
theorem Inv.weak {σ':List (Option V)}(I:Inv X pins σ H s)(hl:σ'.length=σ.length)(w:∀ (i:Nat) v,σ'[i]? = some (some v)->σ[i]? = some (some v)):Inv X pins σ' H s :=
 ⟨I.ok,I.os,I.bare,I.base,let ⟨m,hn,hl'⟩:=I.loc;⟨m,hn,fun i x v e1 e2 e3=>hl' i x v e1 (w i v e2) e3⟩,I.cell,I.free,I.freeC,I.pin,I.hok,hl.trans I.len⟩
theorem Inv.pins_of {pins':List (Addr × Obj)}(I:Inv X pins σ H s)(h:∀ p∈pins',s.heap.get? p.1=some p.2/\H p.1=none/\p.1≠X.env.locals/\p.1 ∉ X.fs/\∀ v,p.2.data ≠ .cell v):Inv X pins' σ H s :=
 ⟨I.ok,I.os,I.bare,I.base,I.loc,I.cell,I.free,I.freeC,fun p hp=>(List.mem_append.mp hp).elim (fun z=>I.pin p (List.mem_append_left _ z)) (h p),I.hok,I.len⟩
theorem nodup_ix {N:List Str}(hN:N.Nodup){i j:Nat}{x:Str}(a:N[i]? = some x)(b:N[j]? = some x):i=j:=by
 obtain ⟨h1,e1⟩:=List.getElem?_eq_some_iff.mp a
 obtain ⟨h2,e2⟩:=List.getElem?_eq_some_iff.mp b
 exact (List.getElem_inj hN).mp (e1.trans e2.symm)
theorem store_ok2 {M:Model}{A:Around}{E:Value->Shared->Prop}{i:Nat}{x:Str}{v:V}{u:Value}{Q:Unit->Shared->Prop}(I:Inv X pins σ H s)(hN:X.N.Nodup)(hi:X.N[i]? = some x)(hx:Loc X.env.scope x)(r:RelV v u)
  (h:∀ s',Inv X pins (σ.set i (some v)) H s'->(∃ a,Heap.SameBut a s.heap s'.heap/\(a=X.env.locals\/X.env.cells.lookup x=some a))->Q () s') (hf:X.fn x=true\/X.env.scope.names.lookup x=some .local := by first|exact .inl rfl|exact .inr rfl|assumption):wpAny M A (storeName X.env x u) Q E s:=by
 obtain ⟨m,hn,hl⟩:=id I.loc
 have hcls:(X.env.scope.kind == .class || (X.env.scope.kind == .module && X.env.locals != X.env.globals))=false:=by rw [I.ok.kind];rfl
 have hiσ:i<σ.length:=by rw [I.len];exact (List.getElem?_eq_some_iff.mp hi).1
 have cne:=I.cne
 have tracked:∀ {a:Addr}{h':Heap},(∃ o,s.heap.get? a=some o/\H a=none)->Heap.SameBut a s.heap h'->HOk X.prog X.w H h':=fun {a h'} ha hs b ob e=>by
  obtain ⟨_,_,hfree⟩:=ha
  refine (I.hok b ob e).stay (fun c w' hc q=>(hs.2 c ?_).trans q) (fun _ q=>q) fun _ _ q=>q
  rintro rfl
  rcases hc with rfl|hc
  ·rw [hfree] at e;cases e
  ·rw [hfree] at hc;cases hc
 rcases hx with hk|hk
 ·refine wpAny_storeName_local hk hn (fun h' hn' hs=>?_) hcls
  obtain ⟨oL,_,_,hoL,_⟩:=id hn
  refine h _ ⟨I.ok,I.os,I.bare,⟨fun b o e n hb hx=>?_,fun b o e n hb hx=>?_,I.base.free,fun b o e hx=>?_,I.base.tups,I.base.frzs,I.base.tbls⟩,⟨_,hn',fun j y v' e1 e2 e3=>?_⟩,fun y c e=>?_,I.free,I.freeC,fun p hp=>?_,tracked ⟨oL,hoL,I.free⟩ hs,by simpa using I.len⟩ ⟨_,hs,.inl rfl⟩
  ·exact (hs.2 b (Nat.ne_of_lt (Nat.lt_of_lt_of_le (Heap.lt_size e) I.ok.above))).trans (I.base.keep b o e n hb hx)
  ·obtain ⟨sl,e1⟩:=I.base.slot b o e n hb hx
   exact ⟨sl,(hs.2 b (Nat.ne_of_lt (Nat.lt_of_lt_of_le (Heap.lt_size e) I.ok.above))).trans e1⟩
  ·obtain ⟨o',e1⟩:=I.base.there b o e hx
   exact ⟨o',(hs.2 b (Nat.ne_of_lt (Nat.lt_of_lt_of_le (Heap.lt_size e) I.ok.above))).trans e1⟩
  ·by_cases hj:j=i
   ·subst hj
    rw [hi] at e1;cases e1
    rw [List.getElem?_set_self hiσ] at e2
    cases e2
    exact ⟨u,r,.inl ⟨hk,by simp⟩⟩
   ·rw [List.getElem?_set_ne (Ne.symm hj)] at e2
    obtain ⟨u',r',q⟩:=hl j y v' e1 e2 e3
    refine ⟨u',r',?_⟩
    rcases q with ⟨k,e⟩ | ⟨k,c,e,z⟩
    ·refine .inl ⟨k,?_⟩
     have:y≠x:=fun e=>hj (nodup_ix hN e1 (e ▸ hi))
     simp [this,e]
    ·exact .inr ⟨k,c,e,z.sameBut hs (cne y c e)⟩
  ·obtain ⟨w',z⟩:=I.cell y c e
   exact ⟨w',z.sameBut hs (cne y c e)⟩
  ·obtain ⟨e,n,ne,nf,d⟩:=I.pin p hp
   exact ⟨(hs.2 p.1 ne).trans e,n,ne,nf,d⟩
 ·have hfn:X.fn x=true:=by
   rcases hf with z|z
   ·exact z
   ·rw [z] at hk;cases hk
  obtain ⟨c,hc⟩:=I.ok.has x (.inl hk)
  obtain ⟨w',z⟩:=I.cell x c hc
  refine wpAny_storeName_cell I.ok.kind hk hc z (fun h' hc' hs=>?_)
  obtain ⟨oc,hoc,hocd⟩:=id z
  refine h { s with heap:=h' } ⟨I.ok,I.os,I.bare,⟨fun b o e n hb hx=>?_,fun b o e n hb hx=>?_,I.base.free,fun b o e hx=>?_,I.base.tups,I.base.frzs,I.base.tbls⟩,⟨m,hn.sameBut hs (Ne.symm (cne x c hc)),fun j y v' e1 e2 e3=>?_⟩,fun y c' e=>?_,I.free,I.freeC,fun p hp=>?_,tracked ⟨oc,hoc,I.freeC x c hc⟩ hs,by simpa using I.len⟩ ⟨c,hs,.inr hc⟩
  ·exact (hs.2 b (Nat.ne_of_lt (Nat.lt_of_lt_of_le (Heap.lt_size e) (I.ok.cab x c hfn hc)))).trans (I.base.keep b o e n hb hx)
  ·obtain ⟨sl,e1⟩:=I.base.slot b o e n hb hx
   exact ⟨sl,(hs.2 b (Nat.ne_of_lt (Nat.lt_of_lt_of_le (Heap.lt_size e) (I.ok.cab x c hfn hc)))).trans e1⟩
  ·obtain ⟨o',e1⟩:=I.base.there b o e hx
   exact ⟨o',(hs.2 b (Nat.ne_of_lt (Nat.lt_of_lt_of_le (Heap.lt_size e) (I.ok.cab x c hfn hc)))).trans e1⟩
  ·by_cases hj:j=i
   ·subst hj
    rw [hi] at e1;cases e1
    rw [List.getElem?_set_self hiσ] at e2
    cases e2
    exact ⟨u,r,.inr ⟨.inl hk,c,hc,hc'⟩⟩
   ·rw [List.getElem?_set_ne (Ne.symm hj)] at e2
    obtain ⟨u',r',q⟩:=hl j y v' e1 e2 e3
    refine ⟨u',r',?_⟩
    rcases q with q | ⟨k,c',e,z'⟩
    ·exact .inl q
    ·refine .inr ⟨k,c',e,z'.sameBut hs ?_⟩
     rintro rfl
     exact hj (nodup_ix hN e1 (I.ok.inj _ _ _ e hc ▸ hi))
  ·by_cases hcc:c'=c
   ·subst hcc;exact ⟨_,hc'⟩
   ·obtain ⟨w2,z2⟩:=I.cell y c' e
    exact ⟨w2,z2.sameBut hs hcc⟩
  ·obtain ⟨e,n,ne,nf,d⟩:=I.pin p hp
   refine ⟨(hs.2 p.1 ?_).trans e,n,ne,nf,d⟩
   intro q
   rw [q,hoc] at e
   have q':oc=p.2:=Option.some.inj e
   exact d w' (by rw [<- q'];exact hocd)
theorem store_ok {M:Model}{A:Around}{E:Value->Shared->Prop}{i:Nat}{x:Str}{v:V}{u:Value}{Q:Unit->Shared->Prop}(I:Inv X pins σ H s)(hN:X.N.Nodup)(hi:X.N[i]? = some x)(hx:Loc X.env.scope x)(r:RelV v u)
  (h:∀ s',Inv X pins (σ.set i (some v)) H s'->Q () s') (hf:X.fn x=true\/X.env.scope.names.lookup x=some .local := by first|exact .inl rfl|exact .inr rfl|assumption):wpAny M A (storeName X.env x u) Q E s :=
 store_ok2 I hN hi hx r (fun s' I' _=>h s' I') hf
theorem Inv.call' {s':Shared}{ch:List Addr}(I:Inv X pins σ H s)(ho:s'.os=s.os)(u:Un (frs X.stack) ch H H' s.heap s'.heap)(hok:HOk X.prog X.w H' s'.heap)(hg:AllBare s'.gens)
  (hch:∀ b∈ch,(b∈X.ex\/X.s₀.heap.objs.size<=b)/\b≠X.env.locals/\(∀ x c,X.env.cells.lookup x=some c->c≠b)/\∀ p∈X.pn++pins,p.1≠b):Inv X pins σ H' s':=by
 obtain ⟨h',g',d',t',o'⟩:=s'
 have e:o'=s.os:=ho
 subst e
 exact I.call (g':=g') (t':=t') (d':=d') u hok hg hch
end
noncomputable abbrev XK:=Value->Option Addr->Hp->Prop
noncomputable abbrev St:=List (Option V)
noncomputable abbrev VK:=V->Hp->Prop
noncomputable abbrev TE:=St->Hp->VK->Prop
noncomputable abbrev TT:=St->Hp->(Bool->Hp->Prop)->Prop
noncomputable abbrev TA:=St->Hp->(List V->Hp->Prop)->Prop
structure Ends where
 nx:St->Hp->Prop
 rt:VK
 bk:St->Hp->Prop:=fun _ _=>False
 ct:St->Hp->Prop:=fun _ _=>False
noncomputable abbrev TS:=Ends->St->Hp->Prop
noncomputable def EP (X:Cx)(pins:List (Addr × Obj))(σ:St)(Q:VK)(u:Value)(s':Shared):Prop:=∃ v H',Inv X pins σ H' s'/\RelV v u/\Q v H'
noncomputable def TP (X:Cx)(pins:List (Addr × Obj))(σ:St)(Q:Bool->Hp->Prop)(b:Bool)(s':Shared):Prop:=∃ H',Inv X pins σ H' s'/\Q b H'
noncomputable def AP (X:Cx)(pins:List (Addr × Obj))(σ:St)(Q:List V->Hp->Prop)(us:List Value)(s':Shared):Prop:=∃ vs H',Inv X pins σ H' s'/\Vals vs us/\Q vs H'
noncomputable def SP (X:Cx)(pins:List (Addr × Obj))(D:Ends)(f:Flow)(s':Shared):Prop :=
 match f with
 | .next=>∃ σ' H',Inv X pins σ' H' s'/\D.nx σ' H'
 | .brk=>∃ σ' H',Inv X pins σ' H' s'/\D.bk σ' H'
 | .cont=>∃ σ' H',Inv X pins σ' H' s'/\D.ct σ' H'
 | .ret u=>∃ v σ' H',Inv X pins σ' H' s'/\RelV v u/\D.rt v H'
noncomputable def PE (X:Cx)(e:Expr)(t:TE):Prop :=
 ∀ (pins:List (Addr × Obj)) (s:Shared) (σ:St) (H:Hp) (Q:VK),Inv X pins σ H s->t σ H Q->wpAny (model X.prog X.w) X.A (eval e X.env) (EP X pins σ Q) X.xe s
noncomputable def PT (X:Cx)(e:Expr)(t:TT):Prop :=
 ∀ (pins:List (Addr × Obj)) (s:Shared) (σ:St) (H:Hp) (Q:Bool->Hp->Prop),Inv X pins σ H s->t σ H Q->wpAny (model X.prog X.w) X.A (isTrue e X.env (eval e X.env)) (TP X pins σ Q) X.xe s
noncomputable def PW (X:Cx)(e:Expr)(t:TT):Prop :=
 ∀ (whole:Sem Value) (pins:List (Addr × Obj)) (s:Shared) (σ:St) (H:Hp) (Q:Bool->Hp->Prop),Inv X pins σ H s->t σ H Q->wpAny (model X.prog X.w) X.A (isTrue e X.env whole) (TP X pins σ Q) X.xe s
theorem PW.pt {X:Cx}{e:Expr}{t:TT}(h:PW X e t):PT X e t:=h _
noncomputable def PA (X:Cx)(es:List Expr)(t:TA):Prop :=
 ∀ (pos:Pos) (pins:List (Addr × Obj)) (s:Shared) (σ:St) (H:Hp) (Q:List V->Hp->Prop),Inv X pins σ H s->t σ H Q->wpAny (model X.prog X.w) X.A (spliced (backTo pos (starEach es X.env))) (AP X pins σ Q) X.xe s
noncomputable def PS (X:Cx)(st:Stmt)(t:TS):Prop :=
 ∀ (pins:List (Addr × Obj)) (s:Shared) (σ:St) (H:Hp) (D:Ends),Inv X pins σ H s->t D σ H->wpAny (model X.prog X.w) X.A (exec st X.env) (SP X pins D) X.xe s
noncomputable def PSs (X:Cx)(st:List Stmt)(t:TS):Prop :=
 ∀ (pins:List (Addr × Obj)) (s:Shared) (σ:St) (H:Hp) (D:Ends),Inv X pins σ H s->t D σ H->wpAny (model X.prog X.w) X.A (execs st X.env) (SP X pins D) X.xe s
theorem thn {α:Type}{t:Sem α}{Q Q':α->Shared->Prop}{M:Model}{A:Around}{E:Value->Shared->Prop}{s:Shared}(h:wpAny M A t Q E s)(hQ:∀ a s,Q a s->Q' a s):wpAny M A t Q' E s:=wpAny_mono h hQ fun _ _ x=>x
section
variable {X:Cx}
noncomputable abbrev FR (i:Nat):TE:=fun σ H Q=>∃ v,σ[i]? = some (some v)/\Q v H
noncomputable abbrev tC (v:V):TE:=fun _ H Q=>Q v H
theorem pe_var {i:Nat}{x:Str}{pos:Pos}(hN:X.N[i]? = some x)(hv:Vis X.env.scope x)(hd:(x == ("__debug__" : Str))=false:=by decide)(hcd:(x == ("__classdict__" : Str))=false:=by decide):PE X (.Name x pos) (FR i):=by
 intro pins s σ H Q I h
 obtain ⟨v,e,h⟩:=h
 obtain ⟨m,hn,hl⟩:=I.loc
 obtain ⟨u,r,l⟩:=hl i x v hN e hv
 have fin:EP X pins σ Q u s:=⟨v,H,I,r,h⟩
 rcases l with ⟨hk,hm⟩ | ⟨hk,c,hc,hcell⟩
 ·exact wpAny_Name (wpAny_loadName_local I.ok.kind hk hn hm fin) hd
 ·rcases hk with hk|hk
  ·exact wpAny_Name (wpAny_loadName_cell I.ok.kind hk hc hcell fin) hd
  ·exact wpAny_Name (wpAny_loadName_free I.ok.kind hk hc hcell fin hcd) hd
theorem AC {i j pos}:PE X (.Constant (.int i) j pos) (tC (.int i)):=fun _ _ _ H _ I h=>wpAny_Constant_int ⟨.int i,H,I.tok _,⟨_,rfl⟩,h⟩
theorem Dv {b j pos}:PE X (.Constant (.bool b) j pos) (tC (.bl b)):=fun _ _ _ H _ I h=>Constant_bool ⟨.bl b,H,I,rfl,h⟩
theorem Bm {j pos}:PE X (.Constant .none j pos) (tC .non):=fun _ _ _ H _ I h=>Constant_none ⟨.non,H,I,rfl,h⟩
noncomputable def Gl (X:Cx)(x:Str):Prop:=X.env.kindOf x=some .globalImplicit
theorem ld_glob {E:Value->Shared->Prop}{pins:List (Addr × Obj)}{s:Shared}{σ:St}{H:Hp}{x:Str}{u:Value}{pos:Pos}{Q:Value->Shared->Prop}(I:Inv X pins σ H s)(hg:Gl X x)(hm:X.mg x=some u)(h:Q u s)
  (hd:(x == ("__debug__" : Str))=false:=by decide):wpAny (model X.prog X.w) X.A (eval (.Name x pos) X.env) Q E s :=
 Calls.Name_function_global I.ok.kind hg (Calls.loadGlobal_global (by rw [I.ok.glob];exact I.mod.glob.keeps I.bk) hm h) hd
theorem Ex {E:Value->Shared->Prop}{pins:List (Addr × Obj)}{s:Shared}{σ:St}{H:Hp}{x:Str}{u:Value}{pos:Pos}{Q:Value->Shared->Prop}(I:Inv X pins σ H s)(hg:Gl X x)(hm:X.mg x=none)(hv:bootBuiltins x=some u)(h:Q u s)
  (hn:x ≠ "__name__" := by decide) (hd:(x == ("__debug__" : Str))=false:=by decide):wpAny (model X.prog X.w) X.A (eval (.Name x pos) X.env) Q E s:=by
 obtain ⟨mb,h1,h2⟩:=I.mod.blt
 exact Calls.Name_function_global I.ok.kind hg (Calls.loadGlobal_builtin (by rw [I.ok.glob];exact I.mod.glob.keeps I.bk) hm (by rw [I.ok.blt];exact h1.keeps I.bk) ((h2 x hn).trans hv) h) hd
theorem pe_bltn {x:Str}{v:V}{u:Value}{pos:Pos}(hg:Gl X x)(hm:X.mg x=none)(hv:bootBuiltins x=some u)(r:RelV v u)(hn:x ≠ "__name__" := by decide)(hd:(x == ("__debug__" : Str))=false:=by decide):PE X (.Name x pos) (tC v) :=
 fun _ _ _ H _ I h=>Ex I hg hm hv ⟨v,H,I,r,h⟩ hn hd
variable {a b:Expr}{ta tb:TE}{pos:Pos}
noncomputable def PC (X:Cx)(op:CmpOp)(a b:Expr)(t:TE):Prop :=
 ∀ (pins:List (Addr × Obj)) (s:Shared) (σ:St) (H:Hp) (Q:VK),Inv X pins σ H s->t σ H Q ->
  wpAny (model X.prog X.w) X.A (eval a X.env) (fun v s₁=>wpAny (model X.prog X.w) X.A (eval b X.env) (fun u s₂=>wpAny (model X.prog X.w) X.A (compareOp op v u) (EP X pins σ Q) X.xe s₂) X.xe s₁) X.xe s
noncomputable def tB (t:TE):TT:=fun σ H Q=>t σ H fun x H1=>∃ c,x = .bl c/\Q c H1
theorem pt_cmp {op:CmpOp}{t:TE}(h:PC X op a b t)(h1:behindInMarks op b=false:=by first|exact nobehind _ (by decide) (by decide)|rfl):PT X (.Compare a [op] [b] pos) (tB t):=by
 intro pins s σ H Q I hw
 refine wpAny_isTrue_Compare1 (thn (h pins s σ H _ I hw) fun v s1 h1=>thn h1 fun u s2 h2=>thn h2 fun c s3 ⟨x,H1,I1,r1,q1⟩=>?_) h1
 obtain ⟨d,rfl,q⟩:=q1
 cases r1
 exact wpAny_truthy_bool ⟨H1,I1,q⟩
variable {tA tB':TT}{rest:List Expr}
noncomputable abbrev tAnd (t u:TT):TT:=fun σ H Q=>t σ H fun c H1=>if c=true then u σ H1 Q else Q false H1
noncomputable abbrev tOr (t u:TT):TT:=fun σ H Q=>t σ H fun c H1=>if c=true then Q true H1 else u σ H1 Q
noncomputable abbrev tNot (t:TT):TT:=fun σ H Q=>t σ H fun c H1=>Q (!c) H1
theorem pw_and1 (ha:PT X a tA):PW X (.BoolOp .And [a] pos) tA:=by
 intro wh pins s σ H Q I h
 refine isTrue_and (thn (ha pins s σ H Q I h) fun c s1 e=>?_)
 cases c with
 | true=>exact isTrue_and_nil e
 | false=>exact e
theorem Ge (ha:PT X a tA):PW X (.BoolOp .Or [a] pos) tA:=by
 intro wh pins s σ H Q I h
 refine isTrue_or (thn (ha pins s σ H Q I h) fun c s1 e=>?_)
 cases c with
 | false=>exact isTrue_or_nil e
 | true=>exact e
theorem pw_and (ha:PT X a tA)(hb:PW X (.BoolOp .And (b::rest) pos) tB'):PW X (.BoolOp .And (a::b::rest) pos) (tAnd tA tB'):=by
 intro wh pins s σ H Q I h
 refine isTrue_and (thn (ha pins s σ H _ I h) fun c s1 ⟨H1,I1,q1⟩=>?_)
 cases c with
 | true=>exact hb wh pins s1 σ H1 Q I1 q1
 | false=>exact ⟨H1,I1,q1⟩
theorem Gh (ha:PT X a tA)(hb:PW X (.BoolOp .Or (b::rest) pos) tB'):PW X (.BoolOp .Or (a::b::rest) pos) (tOr tA tB'):=by
 intro wh pins s σ H Q I h
 refine isTrue_or (thn (ha pins s σ H _ I h) fun c s1 ⟨H1,I1,q1⟩=>?_)
 cases c with
 | true=>exact ⟨H1,I1,q1⟩
 | false=>exact hb wh pins s1 σ H1 Q I1 q1
theorem Fx (ha:PT X a tA):PT X (.UnaryOp .Not a pos) (tNot tA):=by
 intro pins s σ H Q I h
 exact isTrue_not (ha pins s σ H (fun c H1=>Q (!c) H1) I h)
noncomputable abbrev tAndV (ta tb:TE):TE:=fun σ H Q=>ta σ H fun x H1=>∃ c,x = .bl c/\if c=true then tb σ H1 Q else Q (.bl false) H1
noncomputable abbrev tOrV (ta tb:TE):TE:=fun σ H Q=>ta σ H fun x H1=>∃ c,x = .bl c/\if c=true then Q (.bl true) H1 else tb σ H1 Q
noncomputable abbrev tNotV (ta:TE):TE:=fun σ H Q=>ta σ H fun x H1=>∃ c,x = .bl c/\Q (.bl (!c)) H1
theorem pe_one {op}{t:TE}(h:PE X a t):PE X (.BoolOp op [a] pos) t:=fun pins s σ H Q I hw=>BoolOp_one (h pins s σ H Q I hw)
theorem Gb (ha:PE X a ta)(hb:PE X (.BoolOp .And (b::rest) pos) tb):PE X (.BoolOp .And (a::b::rest) pos) (tAndV ta tb):=by
 intro pins s σ H Q I h
 refine BoolOp_and (thn (ha pins s σ H _ I h) fun v s1 ⟨x,H1,I1,r1,q1⟩=>?_)
 obtain ⟨c,rfl,q1⟩:=q1
 cases r1
 refine wpAny_truthy_bool ?_
 cases c with
 | true=>exact hb pins s1 σ H1 Q I1 q1
 | false=>exact ⟨.bl false,H1,I1,rfl,q1⟩
theorem pe_or (ha:PE X a ta)(hb:PE X (.BoolOp .Or (b::rest) pos) tb):PE X (.BoolOp .Or (a::b::rest) pos) (tOrV ta tb):=by
 intro pins s σ H Q I h
 refine BoolOp_or (thn (ha pins s σ H _ I h) fun v s1 ⟨x,H1,I1,r1,q1⟩=>?_)
 obtain ⟨c,rfl,q1⟩:=q1
 cases r1
 refine wpAny_truthy_bool ?_
 cases c with
 | false=>exact hb pins s1 σ H1 Q I1 q1
 | true=>exact ⟨.bl true,H1,I1,rfl,q1⟩
theorem pe_not (ha:PE X a ta):PE X (.UnaryOp .Not a pos) (tNotV ta):=by
 intro pins s σ H Q I h
 refine UnaryOp_ (thn (ha pins s σ H _ I h) fun v s1 ⟨x,H1,I1,r1,q1⟩=>?_)
 obtain ⟨c,rfl,q1⟩:=q1
 cases r1
 exact not_of (wpAny_truthy_bool ⟨.bl (!c),H1,I1,rfl,q1⟩)
noncomputable def tIf (t:TT)(ta tb:TE):TE:=fun σ H Q=>t σ H fun c H1=>if c=true then ta σ H1 Q else tb σ H1 Q
theorem pe_ifExp {c:Expr}(hc:PT X c tA)(ha:PE X a ta)(hb:PE X b tb):PE X (.IfExp c a b pos) (tIf tA ta tb):=by
 intro pins s σ H Q I h
 refine wpAny_IfExp (thn (hc pins s σ H _ I h) fun d s1 ⟨H1,I1,q1⟩=>?_)
 cases d with
 | true=>exact ha pins s1 σ H1 Q I1 q1
 | false=>exact hb pins s1 σ H1 Q I1 q1
end
noncomputable def SqL (K:FZ9)(H:Hp)(a:Addr)(xs:List V):Prop :=
 Rd H a (.lst xs) \/
  ∃ (o:Obj) (its:Array Value) (n:Nat),K.lookup a=some o/\o.cls = .type "list" /\ o.dict=none/\o.data = .seq its n/\its.size<=sizeLine/\Vals xs its.toList
noncomputable def SqT (K:FZ9)(H:Hp)(a:Addr)(xs:List V):Prop :=
 Rd H a (.tup xs) \/
  ∃ (o:Obj) (its:Array Value) (n:Nat),K.lookup a=some o/\o.cls = .type "tuple" /\ o.data = .seq its n/\its.size<=sizeLine/\Vals xs its.toList
noncomputable def absV:Value->Option V
 | .none=>some .non
 | .bool b=>some (.bl b)
 | .int i _=>some (.int i)
 | .str x _=>some (.str x)
 | .bytes b _=>some (.byt b)
 | .float b _=>some (.flt b)
 | .ref a=>some (.ref a)
 | .type n=>some (.ty n)
 | _=>none
theorem RelV.abs {x:V}{u:Value}(r:RelV x u):absV u=some x:=by
 cases x with
 | non=>cases r;rfl
 | bl _=>cases r;rfl
 | int _=>obtain ⟨t,rfl⟩:=r;rfl
 | str _=>obtain ⟨t,rfl⟩:=r;rfl
 | byt _=>obtain ⟨t,rfl⟩:=r;rfl
 | flt _=>obtain ⟨t,rfl⟩:=r;rfl
 | ref _=>cases r;rfl
 | ty _=>cases r;rfl
theorem RelV.inj {x y:V}{u:Value}(r:RelV x u)(q:RelV y u):x=y:=Option.some.inj (r.abs.symm.trans q.abs)
theorem Vals.inj:∀ {xs ys:List V}{us:List Value},Vals xs us->Vals ys us->xs=ys
 | _,_,_,.nil,.nil=>rfl
 | _,_,_,.cons r t,.cons r' t'=>by rw [r.inj r',Vals.inj t t']
section
variable {X:Cx}{pins:List (Addr × Obj)}{σ:St}{H:Hp}{s:Shared}{a:Addr}{xs ys:List V}
theorem SqL.of {K:FZ9}(h:H a=some (.lst xs)):SqL K H a xs:=.inl (.inl h)
theorem SqT.of {K:FZ9}(h:H a=some (.tup xs)):SqT K H a xs:=.inl (.inl h)
theorem Inv.list (I:Inv X pins σ H s)(h:SqL X.K H a xs):∃ its:List Value,Vals xs its/\PlainL s.heap a its.toArray/\xs.length<=sizeLine:=by
 rcases h with h | ⟨o,its,n,hk,hc,hd,hs,hz,r⟩
 ·obtain ⟨z,its,n,r,e⟩:=h.ok I.hok
  exact ⟨its,r,⟨_,n,e,rfl,rfl,rfl⟩,z⟩
 ·refine ⟨its.toList,r,⟨o,n,I.kIn a o hk,hc,hd,by simpa using hs⟩,?_⟩
  have e:=r.length
  simp only [Array.length_toList] at e
  omega
theorem Inv.tuple (I:Inv X pins σ H s)(h:SqT X.K H a xs):∃ its:List Value,Vals xs its/\IsTup s.heap a its.toArray/\xs.length<=sizeLine:=by
 rcases h with h | ⟨o,its,n,hk,hc,hs,hz,r⟩
 ·obtain ⟨z,its,r,p⟩:=h.ok I.hok
  exact ⟨its,r,p,z⟩
 ·refine ⟨its.toList,r,⟨o,I.kIn a o hk,hc,n,by simpa using hs⟩,?_⟩
  have e:=r.length
  simp only [Array.length_toList] at e
  omega
theorem Inv.list_inj (I:Inv X pins σ H s)(h:SqL X.K H a xs)(h':SqL X.K H a ys):xs=ys:=by
 obtain ⟨its,r,⟨o,n,e,_,_,d⟩,_⟩:=I.list h
 obtain ⟨its',r',⟨o',n',e',_,_,d'⟩,_⟩:=I.list h'
 rw [e] at e';cases e'
 rw [d] at d'
 injection d' with d1 _
 have:its=its':=by simpa using congrArg Array.toList d1
 subst this
 exact r.inj r'
theorem Inv.tuple_inj (I:Inv X pins σ H s)(h:SqT X.K H a xs)(h':SqT X.K H a ys):xs=ys:=by
 obtain ⟨its,r,⟨o,e,_,n,d⟩,_⟩:=I.tuple h
 obtain ⟨its',r',⟨o',e',_,n',d'⟩,_⟩:=I.tuple h'
 rw [e] at e';cases e'
 rw [d] at d'
 injection d' with d1 _
 have:its=its':=by simpa using congrArg Array.toList d1
 subst this
 exact r.inj r'
end
noncomputable abbrev Cx.wish (X:Cx)(E:Value->Shared->Prop):Cx:={ X with xe:=E }
noncomputable abbrev Cx.nox (X:Cx):Cx:=X.wish fun _ _=>False
theorem Cx.Ok.wish {X:Cx}(ok:X.Ok)(E:Value->Shared->Prop):(X.wish E).Ok :=
 ⟨ok.mod,ok.kind,ok.glob,ok.blt,ok.above,ok.inj,ok.has,ok.cab,ok.hd,ok.frames,ok.stk,ok.exf,ok.bs,ok.bsz,ok.noex,ok.exfs,ok.funs,ok.frf⟩
theorem Cx.Ok.unwish {X:Cx}{E:Value->Shared->Prop}(ok:(X.wish E).Ok):X.Ok :=
 ⟨ok.mod,ok.kind,ok.glob,ok.blt,ok.above,ok.inj,ok.has,ok.cab,ok.hd,ok.frames,ok.stk,ok.exf,ok.bs,ok.bsz,ok.noex,ok.exfs,ok.funs,ok.frf⟩
section
variable {X:Cx}{pins:List (Addr × Obj)}{σ:St}{H:Hp}{s:Shared}{E:Value->Shared->Prop}
theorem Inv.wish (I:Inv X pins σ H s)(E:Value->Shared->Prop):Inv (X.wish E) pins σ H s:=⟨I.ok.wish E,I.os,I.bare,I.base,I.loc,I.cell,I.free,I.freeC,I.pin,I.hok,I.len⟩
theorem Inv.unwish (I:Inv (X.wish E) pins σ H s):Inv X pins σ H s:=⟨I.ok.unwish,I.os,I.bare,I.base,I.loc,I.cell,I.free,I.freeC,I.pin,I.hok,I.len⟩
theorem SP.unwish {D:Ends}{f:Flow}{s':Shared}(h:SP (X.wish E) pins D f s'):SP X pins D f s':=by
 cases f with
 | next=>obtain ⟨σ',H',I,q⟩:=h;exact ⟨σ',H',I.unwish,q⟩
 | brk=>obtain ⟨σ',H',I,q⟩:=h;exact ⟨σ',H',I.unwish,q⟩
 | cont=>obtain ⟨σ',H',I,q⟩:=h;exact ⟨σ',H',I.unwish,q⟩
 | ret u=>obtain ⟨v,σ',H',I,r,q⟩:=h;exact ⟨v,σ',H',I.unwish,r,q⟩
theorem PSs.nox {st:List Stmt}{t:TS}(h:PSs X.nox st t):PSs X st t:=fun pins s σ H D I hw =>
 wpAny_mono (h pins s σ H D (I.wish _) hw) (fun _ _ q=>q.unwish) fun _ _ z=>False.elim z
end
section
variable {X:Cx}{st:Stmt}{rest:List Stmt}{t u:TS}{e:Expr}{te:TE}{pos:Pos}
noncomputable abbrev Du:TS:=fun D σ H=>D.nx σ H
noncomputable abbrev DA (t u:TS):TS:=fun D σ H=>t { D with nx:=u D } σ H
theorem AA:PSs X [] Du:=fun _ _ σ H _ I h=>wpAny_execs_nil ⟨σ,H,I,h⟩
theorem A5 (h1:PS X st t)(h2:PSs X rest u):PSs X (st::rest) (DA t u):=by
 intro pins s σ H D I h
 refine wpAny_execs_cons (thn (h1 pins s σ H { D with nx:=u D } I h) fun f s1 q=>?_)
 cases f with
 | next =>
  obtain ⟨σ',H',I',q⟩:=q
  exact h2 pins s1 σ' H' D I' q
 | ret v=>exact q
 | brk=>exact q
 | cont=>exact q
theorem Inv.quiet {pins:List (Addr × Obj)}{σ:St}{H:Hp}{s:Shared}(I:Inv X pins σ H s):interactive X.env=false:=by simp [interactive,I.ok.kind]
noncomputable abbrev Gm (te:TE):TS:=fun D σ H=>te σ H fun _ H1=>D.nx σ H1
theorem Bo (he:PE X e te)(hs:swapsWith e none pos.line X.env=pure false:=by rfl):PS X (.Expr e pos) (Gm te):=by
 intro pins s σ H D I h
 exact wpAny_Expr_any (thn (he pins s σ H _ I h) fun v s1 ⟨x,H1,I1,r1,q1⟩=>⟨σ,H1,I1,q1⟩) I.quiet hs
noncomputable abbrev tRet (te:TE):TS:=fun D σ H=>te σ H D.rt
theorem Ad (he:PE X e te):PS X (.Return (some e) pos) (tRet te):=by
 intro pins s σ H D I h
 exact wpAny_Return_some (thn (he pins s σ H _ I h) fun v s1 ⟨x,H1,I1,r1,q1⟩=>⟨x,σ,H1,I1,r1,q1⟩)
noncomputable abbrev tIfS (c:TT)(t u:TS):TS:=fun D σ H=>c σ H fun b H1=>if b=true then t D σ H1 else u D σ H1
theorem Bc {c:Expr}{a b:List Stmt}{tc:TT}(hc:PT X c tc)(ha:PSs X a t)(hb:PSs X b u):PS X (.If c a b pos) (tIfS tc t u):=by
 intro pins s σ H D I h
 refine wpAny_If (thn (hc pins s σ H _ I h) fun d s1 ⟨H1,I1,q1⟩=>?_)
 cases d with
 | true=>exact ha pins s1 σ H1 D I1 q1
 | false=>exact hb pins s1 σ H1 D I1 q1
end
noncomputable abbrev TG:=V->St->Hp->(St->Hp->Prop)->Prop
noncomputable abbrev TGs:=List V->St->Hp->(St->Hp->Prop)->Prop
noncomputable def PG (X:Cx)(target:Expr)(t:TG):Prop :=
 ∀ (pins:List (Addr × Obj)) (s:Shared) (σ:St) (H:Hp) (v:V) (u:Value) (Q:St->Hp->Prop),Inv X pins σ H s->RelV v u->t v σ H Q ->
  wpAny (model X.prog X.w) X.A (assign target X.env u) (fun _ s'=>∃ σ' H',Inv X pins σ' H' s'/\Q σ' H') X.xe s
noncomputable def PGs (X:Cx)(ts:List Expr)(t:TGs):Prop :=
 ∀ (pins:List (Addr × Obj)) (s:Shared) (σ:St) (H:Hp) (vs:List V) (us:List Value) (Q:St->Hp->Prop),Inv X pins σ H s->Vals vs us->t vs σ H Q ->
  wpAny (model X.prog X.w) X.A (assignInOrder ((assignEach ts X.env).map (·.2)) us) (fun _ s'=>∃ σ' H',Inv X pins σ' H' s'/\Q σ' H') X.xe s
noncomputable abbrev TSet:=V->V->V->Hp->(Hp->Prop)->Prop
noncomputable def PSet (X:Cx)(t:TSet):Prop :=
 ∀ (pins:List (Addr × Obj)) (s:Shared) (σ:St) (H:Hp) (o i v:V) (ov iv u:Value) (Q:Hp->Prop),Inv X pins σ H s->RelV o ov->RelV i iv->RelV v u->t o i v H Q ->
  wpAny (model X.prog X.w) X.A (setItem ov iv u) (fun _ s'=>∃ H',Inv X pins σ H' s'/\Q H') X.xe s
section
variable {X:Cx}{pos:Pos}
noncomputable abbrev C5 (i:Nat):TG:=fun v σ H Q=>Q (σ.set i (some v)) H
theorem Ah {i:Nat}{x:Str}(hN:X.N.Nodup)(hi:X.N[i]? = some x)(hx:Loc X.env.scope x)(hf:X.fn x=true\/X.env.scope.names.lookup x=some .local := by first|exact .inl rfl|exact .inr rfl|assumption):PG X (.Name x pos) (C5 i):=by
 intro pins s σ H v u Q I r h
 exact wpAny_assign_Name (store_ok I hN hi hx r (fun s' I'=>⟨_,H,I',h⟩) hf)
noncomputable def gNil:TGs:=fun vs σ H Q=>vs=[]/\Q σ H
noncomputable def FX (t:TG)(u:TGs):TGs:=fun vs σ H Q=>∃ v r,vs=v::r/\t v σ H fun σ' H'=>u r σ' H' Q
theorem GO:PGs X [] gNil:=by
 intro pins s σ H vs us Q I r h
 obtain ⟨e,h⟩:=h
 subst e
 cases r
 exact assignInOrder_nil ⟨σ,H,I,h⟩
theorem CS {e:Expr}{es:List Expr}{t:TG}{u:TGs}(h1:PG X e t)(h2:PGs X es u)
  (hs:(assignEach (e::es) X.env).map (·.2)=assign e X.env::(assignEach es X.env).map (·.2):=by rfl):PGs X (e::es) (FX t u):=by
 intro pins s σ H vs us Q I r h
 obtain ⟨v,vr,e1,h⟩:=h
 subst e1
 cases r with
 | cons r rr =>
  rw [hs]
  refine assignInOrder_cons (thn (h1 pins s σ H _ _ _ I r h) fun _ s1 ⟨σ1,H1,I1,q1⟩=>?_)
  exact h2 pins s1 σ1 H1 _ _ Q I1 rr q1
noncomputable def gTup (K:FZ9)(n:Nat)(t:TGs):TG:=fun v σ H Q=>∃ a xs,v = .ref a/\SqT K H a xs/\xs.length=n/\t xs σ H Q
theorem pg_tup {es:List Expr}{k:Nat}{t:TGs}{n:Nat}(hc:X.calm=true)(h:PGs X es t)
  (hn:(assignEach es X.env).length=n:=by rfl) (hst:(assignEach es X.env).findIdx? (·.1)=none:=by rfl):PG X (.Tuple es k pos) (gTup X.K n t):=by
 intro pins s σ H v u Q I r hw
 obtain ⟨a,xs,e1,hq,hl,hw⟩:=hw
 subst e1
 cases r
 obtain ⟨its,rv,ht,hz⟩:=I.tuple hq
 refine assign_Tuple_tuple (I.ok.hd hc) ht (by simp [hn,<- hl,rv.length]) hst fun h' hx=>?_
 have I1:Inv X pins σ H { s with heap:=h' }:=I.kept (t':=s.toks) fun b o e=>hx b o (Nat.ne_of_lt (Heap.lt_size e)) e
 exact h pins _ σ H xs _ Q I1 (by simpa using rv) hw
noncomputable def gSub (to ti:TE)(t:TSet):TG:=fun v σ H Q=>to σ H fun o H1=>ti σ H1 fun i H2=>t o i v H2 fun H3=>Q σ H3
theorem Ey {o i:Expr}{to ti:TE}{t:TSet}(ho:PE X o to)(hi:PE X i ti)(hs:PSet X t)
  (ha:∀ v,assign (.Subscript o i pos) X.env v=(do
   let ov <- holding [v] (eval o X.env)
   let iv <- holding [v,ov] (eval i X.env)
   standAt pos
   holding [v,ov,iv] (setItem ov iv v)
   release [v,ov,iv] []):=by intro _;rfl):PG X (.Subscript o i pos) (gSub to ti t):=by
 intro pins s σ H v u Q I r h
 rw [ha]
 refine wpAny_bind (wpAny_holding (thn (ho pins s σ H _ I h) fun ov s1 ⟨x,H1,I1,r1,q1⟩=>?_))
 refine wpAny_bind (wpAny_holding (thn (hi pins s1 σ H1 _ I1 q1) fun iv s2 ⟨y,H2,I2,r2,q2⟩=>?_))
 refine wpAny_bind (wpAny_standAt (wpAny_bind (wpAny_holding (thn (hs pins s2 σ H2 x y v ov iv u _ I2 r1 r2 r q2) fun _ s3 ⟨H3,I3,q3⟩=>?_))))
 exact wpAny_release ⟨σ,H3,I3,q3⟩
noncomputable abbrev Fn (te:TE)(g:TG):TS:=fun D σ H=>te σ H fun x H1=>g x σ H1 D.nx
theorem Et {tg e:Expr}{te:TE}{g:TG}(he:PE X e te)(hg:PG X tg g)(hs:swapsWithSole [tg] e pos.line X.env=pure false:=by rfl)(hw:swappedStores [tg] e X.env=pure none:=by rfl)
  (h1:(assignEach [tg] X.env).map (·.2)=[assign tg X.env]:=by rfl):PS X (.Assign [tg] e pos) (Fn te g):=by
 intro pins s σ H D I h
 refine wpAny_Assign_stores (thn (he pins s σ H _ I h) fun v s1 ⟨x,H1,I1,r1,q1⟩=>?_) hs hw
 rw [h1]
 exact thn (hg pins s1 σ H1 x v _ I1 r1 q1) fun _ s2 q=>q
theorem AN {i:Nat}{x:Str}{e:Expr}{te:TE}{pos':Pos}(hN:X.N.Nodup)(hi:X.N[i]? = some x)(hx:Loc X.env.scope x)(he:PE X e te)(hs:swapsWith e (some (.Name x pos')) pos.line X.env=pure false:=by rfl)(hf:X.fn x=true\/X.env.scope.names.lookup x=some .local := by first|exact .inl rfl|exact .inr rfl|assumption) :
  PS X (.Assign [.Name x pos'] e pos) (Fn te (C5 i)):=by
 intro pins s σ H D I h
 refine wpAny_Assign_Name (thn (he pins s σ H _ I h) fun v s1 ⟨y,H1,I1,r1,q1⟩=>?_) hs
 exact store_ok I1 hN hi hx r1 (fun s2 I2=>⟨_,H1,I2,q1⟩) hf
end
section
variable {X:Cx}{pos:Pos}
noncomputable def tWhile (c:TT)(tb:TS):TS:=fun D σ H=>∃ W:Nat->St->Hp->Prop,(∃ m,W m σ H)/\∀ m σ H,W m σ H ->
 c σ H fun b H1=>if b=true then ∃ N:St->Hp->Prop,(∀ σ' H',N σ' H'->∃ m',m'<m/\W m' σ' H')/\tb { D with nx:=N,ct:=N,bk:=D.nx } σ H1 else D.nx σ H1
theorem FS {c:Expr}{body:List Stmt}{tc:TT}{tb:TS}(hp:PassesOwn (model X.prog X.w) X.A X.env X.xe)(hc:PT X c tc)(hb:PSs X body tb):PS X (.While c body [] pos) (tWhile tc tb):=by
 intro pins s σ H D I h
 obtain ⟨W,⟨m0,w0⟩,turn⟩:=h
 refine wpAny_While (codeAny_whileLoop (fun n s'=>∃ σ' H',Inv X pins σ' H' s'/\W n σ' H') ?_ m0 ⟨σ,H,I,w0⟩)
 rintro n s1 ⟨σ1,H1,I1,w1⟩
 refine wpAny_passesOwn hp (thn (hc pins s1 σ1 H1 _ I1 (turn n σ1 H1 w1)) fun b s2 ⟨H2,I2,q2⟩=>?_)
 cases b with
 | true =>
  obtain ⟨N,hN,q2⟩:=q2
  rw [if_pos rfl]
  refine wpAny_passesOwn hp (thn (hb pins s2 σ1 H2 _ I2 q2) fun f s3 q3=>?_)
  cases f with
  | next =>
   obtain ⟨σ3,H3,I3,n3⟩:=q3
   obtain ⟨m',hm,w3⟩:=hN σ3 H3 n3
   exact ⟨m',hm,σ3,H3,I3,w3⟩
  | cont =>
   obtain ⟨σ3,H3,I3,n3⟩:=q3
   obtain ⟨m',hm,w3⟩:=hN σ3 H3 n3
   exact ⟨m',hm,σ3,H3,I3,w3⟩
  | brk=>exact q3
  | ret v=>exact q3
 | false =>
  rw [if_neg Bool.false_ne_true]
  exact wpAny_execs_nil ⟨σ1,H2,I2,q2⟩
end
structure It where
 go:Nat->Hp->Prop
 yld:Nat->Hp->V->Hp->Prop
 stop:Nat->Hp->Prop
noncomputable def GK (X:Cx)(pins:List (Addr × Obj))(H:Hp)(b:Addr):Prop :=
 H b=none/\b≠X.env.locals/\b ∉ X.fs/\(b∈X.ex\/X.s₀.heap.objs.size<=b)/\(∀ x c,X.env.cells.lookup x=some c->c≠b)/\∀ p∈X.pn++pins,p.1≠b
theorem Inv.fpOk {X:Cx}{pins:List (Addr × Obj)}{σ:St}{H H':Hp}{s:Shared}{b:Addr}(I:Inv X pins σ H s)(hb:s.heap.objs.size<=b)(hn:H' b=none):GK X pins H' b:=by
 refine ⟨hn,Nat.ne_of_gt (Nat.lt_of_lt_of_le I.lt hb),I.nofs hb,.inr (Nat.le_trans I.sz hb),fun x c e z=>?_,fun p hp z=>?_⟩
 ·obtain ⟨v,q⟩:=I.cell x c e
  exact absurd (Nat.lt_of_lt_of_le q.lt (by rw [z];exact hb)) (Nat.lt_irrefl _)
 ·exact absurd (Nat.lt_of_lt_of_le (Heap.lt_size (I.pin p hp).1) (by rw [z];exact hb)) (Nat.lt_irrefl _)
structure Turn (P:Program)(w:World)(K:FZ9)(tg:Expr)(J:It)(fp:List Addr)(it:Addr)(tn:Nat->Heap->Prop):Prop where
 mem:it∈fp
 obj:∀ i h,tn i h->∀ b∈fp,∃ o,h.get? b=some o/\∀ v,o.data ≠ .cell v
 keep:∀ i h h',tn i h->(∀ b∈fp,∀ o,h.get? b=some o->h'.get? b=some o)->tn i h'
 item:∀ (X:Cx),X.prog=P->X.w=w->X.K=K->X.calm=true->∀ (i:Nat) (pins:List (Addr × Obj)) (s:Shared) (σ:St) (H:Hp) (E:Value->Shared->Prop),Inv X pins σ H s->(∀ b∈fp,GK X pins H b)->tn i s.heap->J.go i H ->
  wpAny (model P w) X.A (pyNext (.ref it)) (fun r s1=>∃ u,r=some u /\
   wpAny (model P w) X.A (letOwnedTupleGo tg (.ref it) u) (fun _ s2=>∃ x H',Inv X pins σ H' s2/\RelV x u/\J.yld i H x H'/\tn (i+1) s2.heap/\∀ b∈fp,H' b=none) E s1) E s
 done:∀ (X:Cx),X.prog=P->X.w=w->X.K=K->X.calm=true->∀ (i:Nat) (pins:List (Addr × Obj)) (s:Shared) (σ:St) (H:Hp) (E:Value->Shared->Prop),Inv X pins σ H s->(∀ b∈fp,GK X pins H b)->tn i s.heap->J.stop i H ->
  wpAny (model P w) X.A (pyNext (.ref it)) (fun r s1=>r=none/\Inv X pins σ H s1) E s
 self:∀ (A:Around) (i:Nat) (s:Shared) (Q:Value->Shared->Prop) (E:Value->Shared->Prop),tn i s.heap->Q (.ref it) s->wpAny (model P w) A (pyIter (.ref it)) Q E s
noncomputable abbrev TI:=St->Hp->(It->Hp->Prop)->Prop
noncomputable def PIE (X:Cx)(pins:List (Addr × Obj))(σ:St)(tg:Expr)(R:It->Hp->Prop)(itv:Value)(s2:Shared):Prop :=
 ∃ (it:Addr) (fp:List Addr) (tn:Nat->Heap->Prop) (J:It) (H':Hp),itv = .ref it/\Inv X pins σ H' s2/\Turn X.prog X.w X.K tg J fp it tn/\tn 0 s2.heap/\(∀ b∈fp,GK X pins H' b)/\R J H'
noncomputable def PI (X:Cx)(tg iter:Expr)(wi:TI):Prop :=
 ∀ (pins:List (Addr × Obj)) (s:Shared) (σ:St) (H:Hp) (R:It->Hp->Prop),Inv X pins σ H s->wi σ H R ->
  wpAny (model X.prog X.w) X.A (eval iter X.env) (fun v s1=>wpAny (model X.prog X.w) X.A (pyIter v) (PIE X pins σ tg R) X.xe s1) X.xe s
theorem go_of {M:Model}{A:Around}{E:Value->Shared->Prop}{s:Shared}{tg:Expr}{it:Addr}{u:Value}{o:Obj}{n:String}{vs:Array Value}{Q:Unit->Shared->Prop}(ho:s.heap.get? it=some o)(hc:o.cls = .type n)(hd:o.data = .fields vs)
  (hn:["enumerate","zip","dict_itemiterator","dict_reverseitemiterator","odict_iterator","itertools.zip_longest","itertools.pairwise"].contains n=false) (hQ:Q () s):wpAny M A (letOwnedTupleGo tg (.ref it) u) Q E s:=by
 unfold letOwnedTupleGo
 cases tg<;>first
  | exact wpAny_pure hQ
  | (cases u<;>first
    | exact wpAny_pure hQ
    | (refine wpAny_bind (wpAny_load ho ?_)
       rw [hc,hd]
       show wpAny M A (if (["enumerate","zip","dict_itemiterator","dict_reverseitemiterator","odict_iterator","itertools.zip_longest","itertools.pairwise"].contains n && vs[0]? == some (rawInt _))=true then _ else _) Q E s
       rw [if_neg (by intro h;rw [hn,Bool.false_and] at h;cases h)]
       exact wpAny_pure hQ))
noncomputable def Itl (K:FZ9)(a:Addr):It :=
 ⟨fun i H=>∃ xs x,SqL K H a xs/\xs[i]? = some x,fun i H x H'=>H'=H/\∀ xs,SqL K H a xs->xs[i]? = some x,fun i H=>∃ xs,SqL K H a xs/\xs.length<=i⟩
noncomputable def Itt (K:FZ9)(a:Addr):It :=
 ⟨fun i H=>∃ xs x,SqT K H a xs/\xs[i]? = some x,fun i H x H'=>H'=H/\∀ xs,SqT K H a xs->xs[i]? = some x,fun i H=>∃ xs,SqT K H a xs/\xs.length<=i⟩
noncomputable def Itr (lo:Int)(n:Nat):It:=⟨fun i _=>i<n,fun i H x H'=>H'=H/\x = .int (lo+i),fun i _=>n<=i⟩
theorem turn_list {P:Program}{w:World}{K:FZ9}{tg:Expr}(a it:Addr):Turn P w K tg (Itl K a) [it] it (fun i h=>h.IsListIter it a i) where
 mem:=by simp
 obj:=fun i h st b hb=>by
  have e:b=it:=by simpa using hb
  subst e
  obtain ⟨o,e,c,d⟩:=st
  exact ⟨o,e,fun v z=>by rw [d] at z;cases z⟩
 keep:=fun i h h' st k=>st.at fun o e=>k it (by simp) o e
 item:=by
  intro X hP hw hK hc i pins s σ H E I hf st hg
  subst hP hw hK
  obtain ⟨xs,x,hq,hx⟩:=hg
  obtain ⟨its,rv,p,hz⟩:=I.list hq
  obtain ⟨u,hu,ru⟩:=rv.get hx
  obtain ⟨f0,f1,f2,f3,f4,f5⟩:=hf it (by simp)
  refine wpAny_pyNext_list_item st p.isList (x:=u) (by simpa using hu) fun h' st' sb=>?_
  have I1:Inv X pins σ H { s with heap:=h' }:=I.turned (t':=s.toks) (fun b o hb e=>(sb.2 b hb).trans e) f0 f1 f3 f4 f5
  obtain ⟨o,e,c,d⟩:=id st'
  exact ⟨u,rfl,go_of (s:={ s with heap:=h' }) e c d (by decide) ⟨x,H,I1,ru,⟨rfl,fun ys hy=>by rw [I.list_inj hy hq];exact hx⟩,st',fun b hb=>(hf b hb).1⟩⟩
 done:=by
  intro X hP hw hK hc i pins s σ H E I hf st hg
  subst hP hw hK
  obtain ⟨xs,hq,hx⟩:=hg
  obtain ⟨its,rv,p,hz⟩:=I.list hq
  obtain ⟨f0,f1,f2,f3,f4,f5⟩:=hf it (by simp)
  have hl:=rv.length
  exact wpAny_pyNext_list_end (I.ok.hd hc) st p.isList (by simp;omega) fun h' eb=>⟨rfl,I.turned (t':=s.toks) (fun b o hb e=>eb b o hb e) f0 f1 f3 f4 f5⟩
 self:=fun _ _ _ _ _ st h=>wpAny_pyIter_listiter st h
theorem turn_tuple {P:Program}{w:World}{K:FZ9}{tg:Expr}(a it:Addr):Turn P w K tg (Itt K a) [it] it (fun i h=>h.IsTupleIter it a i) where
 mem:=by simp
 obj:=fun i h st b hb=>by
  have e:b=it:=by simpa using hb
  subst e
  obtain ⟨o,e,c,d⟩:=st
  exact ⟨o,e,fun v z=>by rw [d] at z;cases z⟩
 keep:=fun i h h' st k=>st.at fun o e=>k it (by simp) o e
 item:=by
  intro X hP hw hK hc i pins s σ H E I hf st hg
  subst hP hw hK
  obtain ⟨xs,x,hq,hx⟩:=hg
  obtain ⟨its,rv,p,hz⟩:=I.tuple hq
  obtain ⟨u,hu,ru⟩:=rv.get hx
  obtain ⟨f0,f1,f2,f3,f4,f5⟩:=hf it (by simp)
  refine wpAny_pyNext_tuple_item st (show s.heap.IsTuple a its.toArray from p) (x:=u) (by simpa using hu) fun h' st' sb=>?_
  have I1:Inv X pins σ H { s with heap:=h' }:=I.turned (t':=s.toks) (fun b o hb e=>(sb.2 b hb).trans e) f0 f1 f3 f4 f5
  obtain ⟨o,e,c,d⟩:=id st'
  exact ⟨u,rfl,go_of (s:={ s with heap:=h' }) e c d (by decide) ⟨x,H,I1,ru,⟨rfl,fun ys hy=>by rw [I.tuple_inj hy hq];exact hx⟩,st',fun b hb=>(hf b hb).1⟩⟩
 done:=by
  intro X hP hw hK hc i pins s σ H E I hf st hg
  subst hP hw hK
  obtain ⟨xs,hq,hx⟩:=hg
  obtain ⟨its,rv,p,hz⟩:=I.tuple hq
  obtain ⟨f0,f1,f2,f3,f4,f5⟩:=hf it (by simp)
  have hl:=rv.length
  exact wpAny_pyNext_tuple_end (I.ok.hd hc) st (show s.heap.IsTuple a its.toArray from p) (by simp;omega) fun h' eb=>⟨rfl,I.turned (t':=s.toks) (fun b o hb e=>eb b o hb e) f0 f1 f3 f4 f5⟩
 self:=fun _ _ _ _ _ st h=>wpAny_pyIter_tupleiter st h
theorem turn_range {P:Program}{w:World}{K:FZ9}{tg:Expr}(it:Addr)(lo:Int)(n:Nat):Turn P w K tg (Itr lo n) [it] it (fun i h=>IsRangeIter h it (lo+(i:Nat) * 1) ((n:Int) - (i:Nat)) 1) where
 mem:=by simp
 obj:=fun i h st b hb=>by
  have e:b=it:=by simpa using hb
  subst e
  exact ⟨_,st,fun v z=>by
   have z':Data.fields _=Data.cell v:=z
   cases z'⟩
 keep:=fun i h h' st k=>k it (by simp) _ st
 item:=by
  intro X hP hw hK hc i pins s σ H E I hf st hg
  subst hP hw hK
  obtain ⟨f0,f1,f2,f3,f4,f5⟩:=hf it (by simp)
  have W:=Walks.range (prog:=X.prog) (w:=X.w) (I.ok.hd hc) it lo 1 n
  refine W.item i s _ _ hg st fun v h' tk hv st' kk=>?_
  obtain ⟨t,rfl⟩:=hv
  have I1:Inv X pins σ H { s with heap:=h',toks:=tk }:=I.turned (fun b o hb e=>kk b o (by simpa using hb) e) f0 f1 f3 f4 f5
  refine ⟨_,rfl,go_of (s:={ s with heap:=h',toks:=tk }) (n := "range_iterator") st' rfl rfl (by decide) ⟨.int (lo+i),H,I1,⟨t,?_⟩,⟨rfl,rfl⟩,st',fun b hb=>(hf b hb).1⟩⟩
  rw [Int.mul_one]
 done:=by
  intro X hP hw hK hc i pins s σ H E I hf st hg
  subst hP hw hK
  obtain ⟨f0,f1,f2,f3,f4,f5⟩:=hf it (by simp)
  exact wpAny_pyNext_range_end (I.ok.hd hc) st (by have:n<=i:=hg;omega) fun h' eb=>⟨rfl,I.turned (t':=s.toks) (fun b o hb e=>eb b o hb e) f0 f1 f3 f4 f5⟩
 self:=fun _ _ _ _ _ st h=>wpAny_pyIter_rangeiter st h
section
variable {X:Cx}{tg:Expr}
theorem range_it {pins:List (Addr × Obj)}{σ:St}{H:Hp}{s:Shared}{R:It->Hp->Prop}{E:Value->Shared->Prop}{lo hi:Int}{t u v:Tok}{tk:Nat}(I:Inv X pins σ H s)(h1:-(2 ^ 62)<=lo)(h2:lo<2 ^ 62)(h3:-(2 ^ 62)<=hi)(h4:hi<2 ^ 62)
  (q:R (Itr lo (hi - lo).toNat) H):wpAny (model X.prog X.w) X.A (pyIter (.ref s.heap.objs.size)) (PIE X pins σ tg R) E { s with heap:=s.heap.push { cls:=.type "range",data:=.fields #[.int lo t,.int hi u,.int 1 v] },toks:=tk }:=by
 refine wpAny_pyIter_range (IsRange.new ..) (small_one h1 h2 h3 h4) ?_
 have I1:Inv X pins σ H { s with heap:=s.heap.push { cls:=.type "range",data:=.fields #[.int lo t,.int hi u,.int 1 v] },toks:=tk }:=I.kept fun b o e=>Heap.get?_push_of_some _ e
 refine ⟨(s.heap.push { cls:=.type "range",data:=.fields #[.int lo t,.int hi u,.int 1 v] }).objs.size,[(s.heap.push { cls:=.type "range",data:=.fields #[.int lo t,.int hi u,.int 1 v] }).objs.size],_,_,H,rfl,
  I1.kept (t':=tk) fun b o e=>Heap.get?_push_of_some _ e,turn_range _ lo (hi - lo).toNat,?_,fun b hb=>?_,q⟩
 ·have e1:lo+((0:Nat):Int) * 1=lo:=by simp
  have e2:(((hi - lo).toNat:Nat):Int) - ((0:Nat):Int)=Builtin.Range.rangeSize lo hi 1:=by rw [rangeSize_one];split<;>omega
  show IsRangeIter _ _ (lo+((0:Nat):Int) * 1) ((((hi - lo).toNat:Nat):Int) - ((0:Nat):Int)) 1
  rw [e1,e2]
  exact Heap.get?_push_size _ rfl
 ·have e:b=(s.heap.push { cls:=.type "range",data:=.fields #[.int lo t,.int hi u,.int 1 v] }).objs.size:=by simpa using hb
  subst e
  exact I1.fpOk (Nat.le_refl _) (I1.hok.fresh (Nat.le_refl _))
noncomputable def iRng1 (ta:TA):TI:=fun σ H R=>ta σ H fun vs H1=>∃ j:Int,vs=[.int j]/\-(2 ^ 62)<=j/\j<2 ^ 62/\R (Itr 0 j.toNat) H1
theorem B7 {a:Expr}{ta:TA}{p pos:Pos}(hg:Gl X "range")(hm:X.mg "range" = none)(ha:PA X [a] ta)(hs:starEach [a] X.env=[(false,eval a X.env)]:=by rfl):PI X tg (.Call (.Name "range" p) [a] [] pos) (iRng1 ta):=by
 intro pins s σ H R I h
 refine Call_ (Ex I hg hm boot_range (PyProof.Rows.callWith_type1 (thn (ha pos pins s σ H _ I h) fun us s1 ⟨vs,H1,I1,r1,q1⟩=>?_) hs rfl))
 obtain ⟨j,e,q1,q2,q⟩:=q1
 subst e
 cases r1 with
 | cons r rr =>
  cases rr
  obtain ⟨t,rfl⟩:=r
  exact call_range_1 (range_it I1 (by omega) (by omega) q1 q2 (by simpa using q))
noncomputable def tFor (wi:TI)(g:TG)(tb:TS):TS:=fun D σ H=>wi σ H fun J H1=>∃ W:Nat->Nat->St->Hp->Prop,(∃ m,W 0 m σ H1)/\∀ i m σ H,W i m σ H ->
 (J.stop i H/\D.nx σ H)\/(J.go i H/\∃ N:St->Hp->Prop,(∀ σ' H',N σ' H'->∃ m',m'<m/\W (i+1) m' σ' H')/\∀ x H',J.yld i H x H'->g x σ H' fun σ2 H2=>tb { D with nx:=N,ct:=N,bk:=D.nx } σ2 H2)
noncomputable def pinsAt (fp:List Addr)(h:Heap):List (Addr × Obj):=fp.filterMap fun b=>(h.get? b).map fun o=>(b,o)
theorem FF {fp:List Addr}{h:Heap}{b:Addr}{o:Obj}(hb:b∈fp)(e:h.get? b=some o):(b,o)∈pinsAt fp h:=List.mem_filterMap.mpr ⟨b,hb,by rw [e];rfl⟩
theorem of_pinsAt {fp:List Addr}{h:Heap}{p:Addr × Obj}(hp:p∈pinsAt fp h):p.1∈fp/\h.get? p.1=some p.2:=by
 obtain ⟨b,hb,e⟩:=List.mem_filterMap.mp hp
 cases q:h.get? b with
 | none=>rw [q] at e;cases e
 | some o =>
  rw [q] at e
  have e':(b,o)=p:=Option.some.inj e
  subst e'
  exact ⟨hb,q⟩
theorem Inv.pinned {pins:List (Addr × Obj)}{σ:St}{H:Hp}{s:Shared}{fp:List Addr}(I:Inv X pins σ H s)(hf:∀ b∈fp,GK X pins H b)(ho:∀ b∈fp,∃ o,s.heap.get? b=some o/\∀ v,o.data ≠ .cell v):Inv X (pins++pinsAt fp s.heap) σ H s :=
 I.pins_of fun p hp=>(List.mem_append.mp hp).elim (fun z=>I.pin p (List.mem_append_right _ z)) fun z=>by
  obtain ⟨hb,e⟩:=of_pinsAt z
  obtain ⟨f0,f1,f2,_⟩:=hf p.1 hb
  obtain ⟨o,e',d⟩:=ho p.1 hb
  rw [e] at e';cases e'
  exact ⟨e,f0,f1,f2,d⟩
theorem Inv.unpinned {pins pl:List (Addr × Obj)}{σ:St}{H:Hp}{s:Shared}(I:Inv X (pins++pl) σ H s):Inv X pins σ H s:=I.pins_of fun p hp=>I.pin p (List.mem_append_right _ (List.mem_append_left _ hp))
theorem BW {iter:Expr}{body:List Stmt}{wi:TI}{g:TG}{tb:TS}{pos:Pos}(hp:PassesOwn (model X.prog X.w) X.A X.env X.xe)(hc:X.calm=true)(hi:PI X tg iter wi)(hg:PG X tg g)(hb:PSs X body tb)
  (hs:∀ x,foldedSetIterable iter X.env x=pure x:=by intro _;rfl):PS X (.For tg iter body [] pos) (tFor wi g tb):=by
 intro pins s σ H D I h
 refine wpAny_For (thn (hi pins s σ H _ I h) fun v s1 h1=>thn h1 fun itv s2 h2=>?_) hs
 obtain ⟨it,fp,tn,J,H2,e,I2,T,st2,f2,W,⟨m0,w0⟩,turn⟩:=h2
 subst e
 have stat:∀ {H':Hp},(∀ b∈fp,H' b=none)->∀ b∈fp,GK X pins H' b:=fun hn b hb=>⟨hn b hb,(f2 b hb).2⟩
 refine codeAny_forLoop_any (fun n s'=>∃ i σ' H',Inv X pins σ' H' s'/\tn i s'.heap/\(∀ b∈fp,H' b=none)/\W i n σ' H') ?_ m0 ⟨0,σ,H2,I2,st2,fun b hb=>(f2 b hb).1,w0⟩
 rintro n s3 ⟨i,σ3,H3,I3,st3,fr3,w3⟩
 rcases turn i n σ3 H3 w3 with ⟨stop,qn⟩ | ⟨go,N,hN,step⟩
 ·refine wpAny_passesOwn hp (thn (T.done X rfl rfl rfl hc i pins s3 σ3 H3 X.xe I3 (stat fr3) st3 stop) fun r s4 ⟨hr,I4⟩=>?_)
  subst hr
  exact wpAny_execs_nil ⟨σ3,H3,I4,qn⟩
 ·refine wpAny_passesOwn hp (thn (T.item X rfl rfl rfl hc i pins s3 σ3 H3 X.xe I3 (stat fr3) st3 go) fun r s4 ⟨u,hr,h4⟩=>?_)
  subst hr
  refine wpAny_passesOwn hp (thn h4 fun _ s5 ⟨x,H5,I5,r5,y5,st5,fr5⟩=>?_)
  have I5':=I5.pinned (stat fr5) (T.obj _ _ st5)
  refine wpAny_passesOwn hp (thn (hg _ s5 σ3 H5 x u _ I5' r5 (step x H5 y5)) fun _ s6 ⟨σ6,H6,I6,q6⟩=>?_)
  refine wpAny_passesOwn hp (thn (hb _ s6 σ6 H6 _ I6 q6) fun f s7 q7=>?_)
  have again:∀ {σ7:St}{H7:Hp},Inv X (pins++pinsAt fp s5.heap) σ7 H7 s7->N σ7 H7->∃ m,m<n/\∃ i σ' H',Inv X pins σ' H' s7/\tn i s7.heap/\(∀ b∈fp,H' b=none)/\W i m σ' H':=fun {σ7 H7} I7 n7=>by
   obtain ⟨m',hm,w7⟩:=hN σ7 H7 n7
   refine ⟨m',hm,i+1,σ7,H7,I7.unpinned,T.keep _ _ _ st5 fun b hb o e=>(I7.pin (b,o) (List.mem_append_right _ (List.mem_append_right _ (FF hb e)))).1,fun b hb=>?_,w7⟩
   obtain ⟨o,e,d⟩:=T.obj _ _ st5 b hb
   exact (I7.pin (b,o) (List.mem_append_right _ (List.mem_append_right _ (FF hb e)))).2.1
  cases f with
  | next=>obtain ⟨σ7,H7,I7,n7⟩:=q7;exact again I7 n7
  | cont=>obtain ⟨σ7,H7,I7,n7⟩:=q7;exact again I7 n7
  | brk=>obtain ⟨σ7,H7,I7,q7⟩:=q7;exact ⟨σ7,H7,I7.unpinned,q7⟩
  | ret v=>obtain ⟨x7,σ7,H7,I7,r7,q7⟩:=q7;exact ⟨x7,σ7,H7,I7.unpinned,r7,q7⟩
end
noncomputable abbrev R2:=V->V->Hp->VK->Prop
noncomputable def OpR (X:Cx)(f:Value->Value->Sem Value)(r:R2):Prop :=
 ∀ (pins:List (Addr × Obj)) (s:Shared) (σ:St) (H:Hp) (x y:V) (v u:Value) (Q:VK),Inv X pins σ H s->RelV x v->RelV y u->r x y H Q ->
  wpAny (model X.prog X.w) X.A (f v u) (EP X pins σ Q) X.xe s
noncomputable def UnR (X:Cx)(f:Value->Sem Value)(r:V->Hp->VK->Prop):Prop :=
 ∀ (pins:List (Addr × Obj)) (s:Shared) (σ:St) (H:Hp) (x:V) (v:Value) (Q:VK),Inv X pins σ H s->RelV x v->r x H Q ->
  wpAny (model X.prog X.w) X.A (f v) (EP X pins σ Q) X.xe s
noncomputable def DX (X:Cx)(f:Value)(r:List V->Hp->VK->Prop):Prop :=
 ∀ (pins:List (Addr × Obj)) (s:Shared) (σ:St) (H:Hp) (xs:List V) (us:List Value) (Q:VK),Inv X pins σ H s->Vals xs us->r xs H Q ->
  wpAny (model X.prog X.w) X.A (call f us) (EP X pins σ Q) X.xe s
noncomputable def TruR (X:Cx)(r:V->Hp->(Bool->Hp->Prop)->Prop):Prop :=
 ∀ (pins:List (Addr × Obj)) (s:Shared) (σ:St) (H:Hp) (x:V) (v:Value) (Q:Bool->Hp->Prop),Inv X pins σ H s->RelV x v->r x H Q ->
  wpAny (model X.prog X.w) X.A (truthy v) (TP X pins σ Q) X.xe s
noncomputable abbrev tOp (r:R2)(ta tb:TE):TE:=fun σ H Q=>ta σ H fun x H1=>tb σ H1 fun y H2=>r x y H2 Q
noncomputable abbrev tUn (r:V->Hp->VK->Prop)(ta:TE):TE:=fun σ H Q=>ta σ H fun x H1=>r x H1 Q
noncomputable def rI (C:Int->Int->Prop)(g:Int->Int->V):R2:=fun x y H Q=>∃ i j,x = .int i/\y = .int j/\C i j/\Q (g i j) H
noncomputable def rI0 (g:Int->Int->V):R2:=fun x y H Q=>∃ i j,x = .int i/\y = .int j/\Q (g i j) H
noncomputable def rU (g:Int->V):V->Hp->VK->Prop:=fun x H Q=>∃ i,x = .int i/\Q (g i) H
section
variable {X:Cx}{a b c:Expr}{ta tb tc:TE}{pos:Pos}
theorem binT (ha:PE X a ta)(hb:PE X b tb){pins:List (Addr × Obj)}{s:Shared}{σ:St}{H:Hp}{R:V->V->Hp->Prop}(I:Inv X pins σ H s)
  (h:ta σ H fun x H1=>tb σ H1 fun y H2=>R x y H2) {Q:Value->Shared->Prop}{f:Value->Value->Sem Value}
  (hf:∀ v u s2 x y H2,Inv X pins σ H2 s2->RelV x v->RelV y u->R x y H2->wpAny (model X.prog X.w) X.A (f v u) Q X.xe s2) :
  wpAny (model X.prog X.w) X.A (eval a X.env) (fun v s₁=>wpAny (model X.prog X.w) X.A (eval b X.env) (fun u s₂=>wpAny (model X.prog X.w) X.A (f v u) Q X.xe s₂) X.xe s₁) X.xe s:=by
 refine thn (ha pins s σ H _ I h) fun v s1 ⟨x,H1,I1,r1,q1⟩=>?_
 refine thn (hb pins s1 σ H1 _ I1 q1) fun u s2 ⟨y,H2,I2,r2,q2⟩=>?_
 exact hf v u s2 x y H2 I2 r1 r2 q2
theorem AR {op:Operator}{r:R2}(ho:OpR X (binaryOp op) r)(ha:PE X a ta)(hb:PE X b tb):PE X (.BinOp a op b pos) (tOp r ta tb):=by
 intro pins s σ H Q I h
 exact wpAny_BinOp (binT ha hb I h fun v u s2 x y H2 I2 rx ry q=>ho pins s2 σ H2 x y v u Q I2 rx ry q)
theorem Gk {op:UnaryOp}{r:V->Hp->VK->Prop}(ho:UnR X (unaryOp op) r)(ha:PE X a ta):PE X (.UnaryOp op a pos) (tUn r ta):=by
 intro pins s σ H Q I h
 exact UnaryOp_ (thn (ha pins s σ H _ I h) fun v s1 ⟨x,H1,I1,r1,q1⟩=>ho pins s1 σ H1 x v Q I1 r1 q1)
theorem opI {f:Value->Value->Sem Value}{C:Int->Int->Prop}{g:Int->Int->Int}
  (rule:∀ (i j:Int) (t u:Tok) (s:Shared) (Q:Value->Shared->Prop) (E:Value->Shared->Prop),C i j->Q (.int (g i j) s.toks) { s with toks:=s.toks+1 }->wpAny (model X.prog X.w) X.A (f (.int i t) (.int j u)) Q E s) :
  OpR X f (rI C fun i j=>.int (g i j)):=by
 intro pins s σ H x y v u Q I rx ry h
 obtain ⟨i,j,rfl,rfl,hc,q⟩:=h
 obtain ⟨t,rfl⟩:=rx
 obtain ⟨t',rfl⟩:=ry
 exact rule i j t t' s _ _ hc ⟨.int (g i j),H,I.tok _,⟨_,rfl⟩,q⟩
theorem opI0 {f:Value->Value->Sem Value}{g:Int->Int->Int}
  (rule:∀ (i j:Int) (t u:Tok) (s:Shared) (Q:Value->Shared->Prop) (E:Value->Shared->Prop),Q (.int (g i j) s.toks) { s with toks:=s.toks+1 }->wpAny (model X.prog X.w) X.A (f (.int i t) (.int j u)) Q E s) :
  OpR X f (rI0 fun i j=>.int (g i j)):=by
 intro pins s σ H x y v u Q I rx ry h
 obtain ⟨i,j,rfl,rfl,q⟩:=h
 obtain ⟨t,rfl⟩:=rx
 obtain ⟨t',rfl⟩:=ry
 exact rule i j t t' s _ _ ⟨.int (g i j),H,I.tok _,⟨_,rfl⟩,q⟩
theorem opB0 {f:Value->Value->Sem Value}{g:Int->Int->Bool}
  (rule:∀ (i j:Int) (t u:Tok) (s:Shared) (Q:Value->Shared->Prop) (E:Value->Shared->Prop),Q (.bool (g i j)) s->wpAny (model X.prog X.w) X.A (f (.int i t) (.int j u)) Q E s) :
  OpR X f (rI0 fun i j=>.bl (g i j)):=by
 intro pins s σ H x y v u Q I rx ry h
 obtain ⟨i,j,rfl,rfl,q⟩:=h
 obtain ⟨t,rfl⟩:=rx
 obtain ⟨t',rfl⟩:=ry
 exact rule i j t t' s _ _ ⟨.bl (g i j),H,I,rfl,q⟩
noncomputable def CDiv (i j:Int):Prop:=0<j/\j<1073741824
noncomputable def CMul (i j:Int):Prop:=(-(2 ^ 64)<i/\i<2 ^ 64)\/(-(2 ^ 64)<j/\j<2 ^ 64)
theorem CMul.ok {i j:Int}(h:CMul i j):IntMulOk i j:=by
 rcases h with ⟨h1,h2⟩ | ⟨h1,h2⟩
 ·exact .of_left (intBits_le_64 h1 h2)
 ·exact .of_right (intBits_le_64 h1 h2)
theorem two_pow_nn (k:Nat):(0:Int)<=2 ^ k:=by
 rw [two_pow_cast]
 exact Int.natCast_nonneg _
theorem op_add:OpR X (binaryOp .Add) (rI0 fun i j=>.int (i+j)):=opI0 fun _ _ _ _ _ _ _ q=>add_int q
theorem op_sub:OpR X (binaryOp .Sub) (rI0 fun i j=>.int (i - j)):=opI0 fun _ _ _ _ _ _ _ q=>sub_int q
theorem op_mul:OpR X (binaryOp .Mult) (rI CMul fun i j=>.int (i * j)):=opI fun _ _ _ _ _ _ _ hc q=>mul_int q hc.ok
theorem E6:OpR X (binaryOp .FloorDiv) (rI CDiv fun i j=>.int (i / j)):=opI fun i j _ _ _ _ _ hc q=>by
 have h1:(0:Int)<j:=hc.1
 have h2:j<1073741824:=hc.2
 exact floordiv_int (by omega) (by rw [Int.fdiv_eq_ediv_of_nonneg i (by omega)];exact q) (.inl (PyProof.noPylong_small (by omega)))
theorem BX:OpR X (binaryOp .Mod) (rI (fun _ j=>0<j) fun i j=>.int (i % j)):=opI fun i j _ _ _ _ _ hc q=>by
 have h1:(0:Int)<j:=hc
 exact mod_int' (by omega) (by rw [Int.fmod_eq_emod_of_nonneg i (by omega)];exact q)
theorem op_shr:OpR X (binaryOp .RShift) (rI (fun _ j=>0<=j) fun i j=>.int (i / 2 ^ j.toNat)):=opI fun i j _ _ _ _ _ hc q =>
 rshift_int hc (by rw [Int.fdiv_eq_ediv_of_nonneg i (two_pow_nn _)];exact q)
theorem unI {f:Value->Sem Value}{g:Int->Int}
  (rule:∀ (i:Int) (t:Tok) (s:Shared) (Q:Value->Shared->Prop) (E:Value->Shared->Prop),Q (.int (g i) s.toks) { s with toks:=s.toks+1 }->wpAny (model X.prog X.w) X.A (f (.int i t)) Q E s) :
  UnR X f (rU fun i=>.int (g i)):=by
 intro pins s σ H x v Q I rx h
 obtain ⟨i,rfl,q⟩:=h
 obtain ⟨t,rfl⟩:=rx
 exact rule i t s _ _ ⟨.int (g i),H,I.tok _,⟨_,rfl⟩,q⟩
theorem FU:UnR X (unaryOp .USub) (rU fun i=>.int (-i)):=unI fun _ _ _ _ _ q=>neg_int q
end
noncomputable def scal:V->V->Bool
 | .non,.non=>true | .non,.int _=>true | .int _,.non=>true | .non,.bl _=>true | .bl _,.non=>true | .non,.str _=>true | .str _,.non=>true
 | .int _,.int _=>true | .bl _,.bl _=>true | .str _,.str _=>true | .byt _,.byt _=>true
 | .int _,.str _=>true | .str _,.int _=>true | .bl _,.str _=>true | .str _,.bl _=>true
 | _,_=>false
noncomputable def rEq:R2:=fun x y H Q=>scal x y=true/\Q (.bl (decide (x=y))) H
noncomputable def rNe:R2:=fun x y H Q=>scal x y=true/\Q (.bl (!decide (x=y))) H
theorem dec_int {i j:Int}:decide (V.int i=V.int j)=(i == j):=by
 rw [Bool.eq_iff_iff]
 simp
theorem dec_bl {i j:Bool}:decide (V.bl i=V.bl j)=(i == j):=by
 rw [Bool.eq_iff_iff]
 simp
theorem dec_str {i j:Str}:decide (V.str i=V.str j)=(i == j):=by
 rw [Bool.eq_iff_iff]
 simp
theorem dec_byt {i j:Array UInt8}:decide (V.byt i=V.byt j)=(i.toList == j.toList):=by
 rw [Bool.eq_iff_iff]
 cases i
 cases j
 simp
section
variable {X:Cx}{a b c:Expr}{ta tb tc:TE}{pos:Pos}
theorem B3 {pins:List (Addr × Obj)}{σ:St}{H:Hp}{s:Shared}{Q:VK}{k k':Bool}(I:Inv X pins σ H s)(q:Q (.bl k) H)(e:k=k'):EP X pins σ Q (.bool k') s:=by
 subst e
 exact ⟨.bl k,H,I,rfl,q⟩
theorem DY:OpR X (compareOp .Eq) rEq:=by
 intro pins s σ H x y v u Q I rx ry h
 obtain ⟨hs,q⟩:=h
 cases x with
 | non =>
  cases rx
  cases y with
  | non=>cases ry;exact PySem.EqNone.eq_none_none (B3 I q (by simp))
  | bl j=>cases ry;exact PySem.EqNone.eq_none_bool (B3 I q (by simp))
  | int j=>obtain ⟨t',rfl⟩:=ry;exact PySem.EqNone.eq_none_int (B3 I q (by simp))
  | str j=>obtain ⟨t',rfl⟩:=ry;exact PySem.EqNone.eq_none_str (B3 I q (by simp))
  | _=>exact absurd (show false=true from hs) Bool.false_ne_true
 | bl i =>
  cases rx
  cases y with
  | non=>cases ry;exact PySem.EqNone.eq_bool_none (B3 I q (by simp))
  | bl j=>cases ry;exact eq_bool (B3 I q dec_bl)
  | str j=>obtain ⟨t',rfl⟩:=ry;exact PySem.EqMixed.eq_bool_str (B3 I q (by simp))
  | _=>exact absurd (show false=true from hs) Bool.false_ne_true
 | int i =>
  obtain ⟨t,rfl⟩:=rx
  cases y with
  | non=>cases ry;exact PySem.EqNone.eq_int_none (B3 I q (by simp))
  | int j=>obtain ⟨t',rfl⟩:=ry;exact eq_int (B3 I q dec_int)
  | str j=>obtain ⟨t',rfl⟩:=ry;exact PySem.EqMixed.eq_int_str (B3 I q (by simp))
  | _=>exact absurd (show false=true from hs) Bool.false_ne_true
 | str i =>
  obtain ⟨t,rfl⟩:=rx
  cases y with
  | non=>cases ry;exact PySem.EqNone.eq_str_none (B3 I q (by simp))
  | bl j=>cases ry;exact PySem.EqMixed.eq_str_bool (B3 I q (by simp))
  | int j=>obtain ⟨t',rfl⟩:=ry;exact PySem.EqMixed.eq_str_int (B3 I q (by simp))
  | str j=>obtain ⟨t',rfl⟩:=ry;exact eq_str (B3 I q dec_str)
  | _=>exact absurd (show false=true from hs) Bool.false_ne_true
 | byt i =>
  obtain ⟨t,rfl⟩:=rx
  cases y with
  | byt j=>obtain ⟨t',rfl⟩:=ry;exact PySem.W.eq_bytes (B3 I q dec_byt)
  | _=>exact absurd (show false=true from hs) Bool.false_ne_true
 | _=>cases y<;>exact absurd (show false=true from hs) Bool.false_ne_true
theorem op_ne:OpR X (compareOp .NotEq) rNe:=by
 intro pins s σ H x y v u Q I rx ry h
 obtain ⟨hs,q⟩:=h
 cases x with
 | non =>
  cases rx
  cases y with
  | non=>cases ry;exact PySem.EqNone.ne_none_none (B3 I q (by simp))
  | bl j=>cases ry;exact PySem.EqNone.ne_none_bool (B3 I q (by simp))
  | int j=>obtain ⟨t',rfl⟩:=ry;exact PySem.EqNone.ne_none_int (B3 I q (by simp))
  | str j=>obtain ⟨t',rfl⟩:=ry;exact PySem.EqNone.ne_none_str (B3 I q (by simp))
  | _=>exact absurd (show false=true from hs) Bool.false_ne_true
 | bl i =>
  cases rx
  cases y with
  | non=>cases ry;exact PySem.EqNone.ne_bool_none (B3 I q (by simp))
  | bl j=>cases ry;exact ne_bool (B3 I q (congrArg not dec_bl))
  | str j=>obtain ⟨t',rfl⟩:=ry;exact PySem.EqMixed.ne_bool_str (B3 I q (by simp))
  | _=>exact absurd (show false=true from hs) Bool.false_ne_true
 | int i =>
  obtain ⟨t,rfl⟩:=rx
  cases y with
  | non=>cases ry;exact PySem.EqNone.ne_int_none (B3 I q (by simp))
  | int j=>obtain ⟨t',rfl⟩:=ry;exact ne_int (B3 I q (congrArg not dec_int))
  | str j=>obtain ⟨t',rfl⟩:=ry;exact PySem.EqMixed.ne_int_str (B3 I q (by simp))
  | _=>exact absurd (show false=true from hs) Bool.false_ne_true
 | str i =>
  obtain ⟨t,rfl⟩:=rx
  cases y with
  | non=>cases ry;exact PySem.EqNone.ne_str_none (B3 I q (by simp))
  | bl j=>cases ry;exact PySem.EqMixed.ne_str_bool (B3 I q (by simp))
  | int j=>obtain ⟨t',rfl⟩:=ry;exact PySem.EqMixed.ne_str_int (B3 I q (by simp))
  | str j=>obtain ⟨t',rfl⟩:=ry;exact ne_str (B3 I q (congrArg not dec_str))
  | _=>exact absurd (show false=true from hs) Bool.false_ne_true
 | byt i =>
  obtain ⟨t,rfl⟩:=rx
  cases y with
  | byt j=>obtain ⟨t',rfl⟩:=ry;exact PySem.W.ne_bytes (B3 I q (congrArg not dec_byt))
  | _=>exact absurd (show false=true from hs) Bool.false_ne_true
 | _=>cases y<;>exact absurd (show false=true from hs) Bool.false_ne_true
theorem op_lt:OpR X (compareOp .Lt) (rI0 fun i j=>.bl (decide (i<j))):=opB0 fun _ _ _ _ _ _ _ q=>lt_int q
theorem op_le:OpR X (compareOp .LtE) (rI0 fun i j=>.bl (decide (i<=j))):=opB0 fun _ _ _ _ _ _ _ q=>le_int q
theorem op_gt:OpR X (compareOp .Gt) (rI0 fun i j=>.bl (decide (j<i))):=opB0 fun _ _ _ _ _ _ _ q=>gt_int q
theorem op_ge:OpR X (compareOp .GtE) (rI0 fun i j=>.bl (decide (j<=i))):=opB0 fun _ _ _ _ _ _ _ q=>ge_int q
theorem ET:OpR X (compareOp .Is) (fun x y H Q=>y = .non/\Q (.bl (decide (x = .non))) H):=by
 intro pins s σ H x y v u Q I rx ry h
 obtain ⟨rfl,q⟩:=h
 cases ry
 refine is_none_gen (B3 I q ?_)
 cases x<;>first
  | (cases rx;rfl)
  | (obtain ⟨t,rfl⟩:=rx;rfl)
theorem op_notN:OpR X (compareOp .IsNot) (fun x y H Q=>y = .non/\Q (.bl (!decide (x = .non))) H):=by
 intro pins s σ H x y v u Q I rx ry h
 obtain ⟨rfl,q⟩:=h
 cases ry
 refine isnot_none_gen (B3 I q ?_)
 cases x<;>first
  | (cases rx;rfl)
  | (obtain ⟨t,rfl⟩:=rx;rfl)
theorem Ab (b:Expr){op:CmpOp}(h:op ≠ .In:=by decide)(h2:op ≠ .NotIn:=by decide):behindInMarks op b=false:=by
 have e1:(op == CmpOp.In)=false:=by cases op<;>first|rfl|exact absurd rfl h
 have e2:(op == CmpOp.NotIn)=false:=by cases op<;>first|rfl|exact absurd rfl h2
 cases b<;>simp [behindInMarks,e1,e2]
theorem C7 {op:CmpOp}{r:R2}(ho:OpR X (compareOp op) r)(ha:PE X a ta)(hb:PE X b tb)(hm:behindInMarks op b=false):PE X (.Compare a [op] [b] pos) (tOp r ta tb):=by
 intro pins s σ H Q I h
 exact wpAny_Compare1 (binT ha hb I h fun v u s2 x y H2 I2 rx ry q=>ho pins s2 σ H2 x y v u Q I2 rx ry q) hm
noncomputable abbrev tTest (t:TE):TT:=fun σ H Q=>t σ H fun x H'=>∃ k,x = .bl k/\Q k H'
theorem Ag {op:CmpOp}{r:R2}(ho:OpR X (compareOp op) r)(ha:PE X a ta)(hb:PE X b tb)(hm:behindInMarks op b=false):PT X (.Compare a [op] [b] pos) (tTest (tOp r ta tb)):=by
 intro pins s σ H Q I h
 refine wpAny_isTrue_Compare1 (thn (ha pins s σ H _ I h) fun v s1 ⟨x,H1,I1,r1,q1⟩=>thn (hb pins s1 σ H1 _ I1 q1) fun u s2 ⟨y,H2,I2,r2,q2⟩ =>
  thn (ho pins s2 σ H2 x y v u _ I2 r1 r2 q2) fun c s3 ⟨z,H3,I3,r3,k,e,q3⟩=>?_) hm
 subst e
 cases r3
 exact wpAny_truthy_bool ⟨H3,I3,q3⟩
noncomputable def TruV (K:FZ9)(x:V)(H:Hp)(k:Bool):Prop :=
 match x with
 | .non=>k=false
 | .bl b=>k=b
 | .int i=>k=(i != 0)
 | .str y=>y.length<=sizeLine/\k=((y.length:Int) != 0)
 | .byt y=>y.size<=sizeLine/\k=((y.size:Int) != 0)
 | .ref p=>(∃ xs,SqL K H p xs/\k = !xs.isEmpty)\/(∃ xs,SqT K H p xs/\k = !xs.isEmpty)\/∃ kvs,H p=some (.dK kvs)/\k = !kvs.isEmpty
 | _=>False
theorem isEmpty_kv {κ:Type}{kvs:List (κ × V)}{vs:List (κ × Value)}(r:KV kvs vs):(!vs.isEmpty) = !kvs.isEmpty:=by
 cases r<;>rfl
theorem isEmpty_of {xs:List V}{its:List Value}(r:Vals xs its):(!its.toArray.isEmpty) = !xs.isEmpty:=by
 cases r<;>simp
theorem Fy:(sizeLine:Nat)<2 ^ 63:=by rw [sizeLine_eq];decide
theorem tru_ok:TruR X (fun x H Q=>∃ k,TruV X.K x H k/\Q k H):=by
 intro pins s σ H x v Q I rx h
 obtain ⟨k,e,q⟩:=h
 have hl:=Fy
 have hs:sizeLine=16777216:=sizeLine_eq
 cases x with
 | non =>
  cases rx
  have e':k=false:=e
  subst e'
  exact truthy_none ⟨H,I,q⟩
 | bl b =>
  cases rx
  have e':k=b:=e
  subst e'
  exact wpAny_truthy_bool ⟨H,I,q⟩
 | int i =>
  obtain ⟨t,rfl⟩:=rx
  have e':k=(i != 0):=e
  subst e'
  exact PySem.P.truthy_int ⟨H,I,q⟩
 | str y =>
  obtain ⟨t,rfl⟩:=rx
  obtain ⟨hy,e'⟩:y.length<=sizeLine/\k=((y.length:Int) != 0):=e
  subst e'
  exact PySem.P.truthy_str (by omega) ⟨H,I.tok _,q⟩
 | byt y =>
  obtain ⟨t,rfl⟩:=rx
  obtain ⟨hy,e'⟩:y.size<=sizeLine/\k=((y.size:Int) != 0):=e
  subst e'
  exact PySem.W.truthy_bytes (by omega) ⟨H,I.tok _,q⟩
 | ref p =>
  cases rx
  have e':(∃ xs,SqL X.K H p xs/\k = !xs.isEmpty)\/(∃ xs,SqT X.K H p xs/\k = !xs.isEmpty)\/∃ kvs,H p=some (.dK kvs)/\k = !kvs.isEmpty:=e
  rcases e' with ⟨xs,hx,e'⟩ | ⟨xs,hx,e'⟩ | ⟨kvs,hx,e'⟩
  ·subst e'
   obtain ⟨its,r,pl,hz⟩:=I.list hx
   have hlen:=r.length
   exact wpAny_truthy_list pl.isList (by simp only [List.size_toArray];omega) ⟨H,I.tok _,by rw [isEmpty_of r];exact q⟩
  ·subst e'
   obtain ⟨its,r,pl,hz⟩:=I.tuple hx
   have hlen:=r.length
   exact truthy_tuple pl (by simp only [List.size_toArray];omega) ⟨H,I.tok _,by rw [isEmpty_of r];exact q⟩
  ·subst e'
   obtain ⟨hz,hS,vs,r,m⟩:kvs.length<=sizeLine/\(p == sysModules)=false/\∃ vs,KV kvs vs/\s.heap.DictOf (BB X.prog X.w) p vs:=I.hok p _ hx
   have hlen:kvs.length=vs.length:=Paired.length r
   exact wpAny_truthy_dict hS m (by omega) ⟨H,I.tok _,by rw [isEmpty_kv r];exact q⟩
 | _=>exact (show False from e).elim
theorem pt_truth (ha:PE X a ta)(he:∀ whole,isTrue a X.env whole=(do let v <- whole;standAt a.pos;holding [v] (truthy v))) :
  PT X a (fun σ H Q=>ta σ H fun x H'=>∃ k,TruV X.K x H' k/\Q k H'):=by
 intro pins s σ H Q I h
 exact isTrue_plain (thn (ha pins s σ H _ I h) fun v s1 ⟨x,H1,I1,r1,q1⟩=>tru_ok pins s1 σ H1 x v Q I1 r1 q1) (he _)
theorem op_add_str:OpR X (binaryOp .Add) (fun x y H Q=>∃ i j,x = .str i/\y = .str j/\i.length+j.length<=sizeLine/\Q (.str (i++j)) H):=by
 intro pins s σ H x y v u Q I rx ry h
 obtain ⟨i,j,rfl,rfl,hz,q⟩:=h
 obtain ⟨t,rfl⟩:=rx
 obtain ⟨t',rfl⟩:=ry
 exact add_str (fun t' tk=>⟨.str (i++j),H,I.tok _,⟨_,rfl⟩,q⟩) hz
theorem FJ {x:V}{us:List Value}(r:Vals [x] us):∃ u,us=[u]/\RelV x u:=by
 cases r with
 | cons r1 r2=>cases r2;exact ⟨_,rfl,r1⟩
theorem vals2 {x y:V}{us:List Value}(r:Vals [x,y] us):∃ u w',us=[u,w']/\RelV x u/\RelV y w':=by
 cases r with
 | cons r1 r2 =>
  cases r2 with
  | cons r3 r4=>cases r4;exact ⟨_,_,rfl,r1,r3⟩
end
section
variable {prog:Program}{w:World}{A:Around}{E:Value->Shared->Prop}{s:Shared}{K:FZ9}{x dx C f:Addr}{mA:Str->Option Value}{name:Str}{v:Value}
end
theorem RelO.some_of {v:V}{o:Option Value}(r:RelO (some v) o):∃ u,o=some u/\RelV v u:=by
 cases o with
 | none=>exact (show False from r).elim
 | some u=>exact ⟨u,rfl,r⟩
section
variable {P:Program}{w:World}{H H':Hp}{h h':Heap}{a C dx:Addr}{fs fs':List (Str × V)}
end
section
variable {X:Cx}{pins:List (Addr × Obj)}{σ:St}{H:Hp}{s:Shared}{a C dx:Addr}{fs:List (Str × V)}{f:Str}{v:V}{A:Around}{E:Value->Shared->Prop}
end
section
variable {X:Cx}{o e value:Expr}{f:Str}{pos pos' tpos:Pos}{ta tv:TE}
end
section
variable {X:Cx}{pins:List (Addr × Obj)}{σ:St}{H:Hp}{s:Shared}{A:Around}{E:Value->Shared->Prop}{Q:Value->Shared->Prop}{c:Value}{b:Bool}
end
structure Room (k:Nat)(A:Around):Prop where
 hd:A.handled=none
 dp:A.depth+3 * k+5<recursionLimit
 un:A.units+16 * k+200<cLine
theorem Room.mono {j k:Nat}{A:Around}(r:Room k A)(h:j<=k):Room j A:=⟨r.hd,by have:=r.dp;omega,by have:=r.un;omega⟩
theorem Room.deeper {k:Nat}{A:Around}(r:Room (k+1) A)(env:Env):Room k (A.deeper env) :=
 ⟨r.hd,by have:=r.dp;show A.depth+1+3 * k+5<_;omega,by have:=r.un;show A.units+3+16 * k+200<_;omega⟩
theorem Room.depth {k:Nat}{A:Around}(r:Room k A):A.depth<recursionLimit:=by have:=r.dp;omega
noncomputable abbrev D0:TA:=fun _ H Q=>Q [] H
noncomputable abbrev B0 (ta:TE)(tr:TA):TA:=fun σ H Q=>ta σ H fun x H1=>tr σ H1 fun xs H2=>Q (x::xs) H2
section
variable {X:Cx}{e:Expr}{es:List Expr}{te:TE}{t:TA}{pos:Pos}
theorem AB:PA X [] D0:=fun _ _ _ _ H Q I h=>Calls.spliced_nil ⟨[],H,I,.nil,h⟩
theorem A6 (ha:PE X e te)(hr:PA X es t)(hs:starEach (e::es) X.env=(false,eval e X.env)::starEach es X.env:=by rfl):PA X (e::es) (B0 te t):=by
 intro pos pins s σ H Q I h
 rw [hs]
 show wpAny _ _ (spliced ((false,eval e X.env)::backTo pos (starEach es X.env))) _ _ s
 refine Calls.spliced_cons (thn (ha pins s σ H _ I h) fun u s1 ⟨x,H1,I1,r1,q1⟩=>?_)
 exact thn (hr pos pins s1 σ H1 _ I1 q1) fun us s2 ⟨xs,H2,I2,r2,q2⟩=>⟨x::xs,H2,I2,.cons r1 r2,q2⟩
noncomputable abbrev tTup (t:TA):TE:=fun σ H Q=>t σ H fun xs H1=>xs.length<=sizeLine/\∀ p,H1 p=none->Q (.ref p) (upd H1 p (.tup xs))
noncomputable abbrev tLst (t:TA):TE:=fun σ H Q=>t σ H fun xs H1=>xs.length<=sizeLine/\∀ p,H1 p=none->Q (.ref p) (upd H1 p (.lst xs))
theorem Fb {x1}(h:PA X es t):PE X (.Tuple es x1 pos) (tTup t):=by
 intro pins s σ H Q I hq
 refine wpAny_Tuple_spliced (thn (h pos pins s σ H _ I hq) fun us s1 ⟨xs,H1,I1,r,z,q⟩=>⟨by rw [<- r.length];exact z,?_⟩)
 have hf:H1 s1.heap.objs.size=none:=I1.hok.fresh (Nat.le_refl _)
 refine ⟨.ref s1.heap.objs.size,upd H1 s1.heap.objs.size (.tup xs),I1.laid (t':=s1.toks) (fun b u e=>Heap.get?_push_of_some _ e) (Nat.le_refl _) ?_,rfl,q _ hf⟩
 exact ⟨z,us,r,⟨_,Heap.get?_push_size _ rfl,rfl,_,rfl⟩⟩
theorem CH (h:PA X es t):PE X (.List es pos) (tLst t):=by
 intro pins s σ H Q I hq
 refine wpAny_List_spliced (thn (h pos pins s σ H _ I hq) fun us s1 ⟨xs,H1,I1,r,z,q⟩=>⟨by rw [<- r.length];exact z,?_⟩)
 have hf:H1 s1.heap.objs.size=none:=I1.hok.fresh (Nat.le_refl _)
 refine ⟨.ref s1.heap.objs.size,upd H1 s1.heap.objs.size (.lst xs),I1.laid (t':=s1.toks) (fun b u e=>Heap.get?_push_of_some _ e) (Nat.le_refl _) ?_,rfl,q _ hf⟩
 exact ⟨z,us,0,r,Heap.get?_push_size _ rfl⟩
end
noncomputable abbrev Sp:=List V->Hp->VK->XK->Prop
noncomputable abbrev CXT:=List Env->Hp->Shared->XK->Value->Shared->Prop
structure Env0 (P:Program)(w:World)(K:FZ9)(mg:Str->Option Value)(base:Heap)(A:Around)(outer:List Env)(s:Shared)(H:Hp):Prop where
 frames:A.frames=some outer
 mod:Mod K mg base
 bs:∀ b o,base.get? b=some o->s.heap.get? b=some o/\H b=none
 bsz:base.objs.size<=s.heap.objs.size
 funs:s.heap.FunFrames base outer
 frf:∀ b∈frs outer,H b=none
 hok:HOk P w H s.heap
 bare:AllBare s.gens
noncomputable def CE (outer:List Env)(P:Program)(w:World)(H:Hp)(s:Shared)(Q:VK)(u:Value)(s':Shared):Prop :=
 ∃ v H',s'.os=s.os/\AllBare s'.gens/\Un (frs outer) [] H H' s.heap s'.heap/\HOk P w H' s'.heap/\RelV v u/\Q v H'
noncomputable def CR (CX:CXT)(outer:List Env)(P:Program)(w:World)(H:Hp)(s:Shared)(Q:VK)(E:XK)(r:Result)(s':Shared):Prop :=
 match r with
 | .ok (.ret u)=>CE outer P w H s Q u s'
 | .ok _=>False
 | .error e=>CX outer H s E e s'
structure FnOk (P:Program)(w:World)(K:FZ9)(mg:Str->Option Value)(base:Heap)(CX:CXT)(k:Nat)(f:Addr)(fd:FuncData)(ps:List Str)(sp:Sp):Prop where
 len:∀ vs H Q E,sp vs H Q E->vs.length=ps.length
 run:∀ (A:Around) (outer:List Env) (s:Shared) (H:Hp) (args:Args) (us:List Value) (vs:List V) (Q:VK) (E:XK),Room k A->Env0 P w K mg base A outer s H->BindsTo s fd args (ps.zip us)->Vals vs us->sp vs H Q E ->
  codeAny (model P w) A (.call (.ref f) args) (CR CX outer P w H s Q E) s
theorem FnOk.imp {P:Program}{w:World}{K:FZ9}{mg:Str->Option Value}{base:Heap}{CX:CXT}{k:Nat}{f:Addr}{fd:FuncData}{ps:List Str}{sp sp':Sp}(F:FnOk P w K mg base CX k f fd ps sp)
  (h:∀ vs H Q E,sp' vs H Q E->sp vs H Q E):FnOk P w K mg base CX k f fd ps sp' :=
 ⟨fun vs H Q E q=>F.len vs H Q E (h _ _ _ _ q),fun A outer s H args us vs Q E hr he hb hv hs=>F.run A outer s H args us vs Q E hr he hb hv (h _ _ _ _ hs)⟩
section
variable {X:Cx}{pins:List (Addr × Obj)}{σ:St}{H:Hp}{s s':Shared}
theorem Inv.env0 (I:Inv X pins σ H s):Env0 X.prog X.w X.K X.mg X.base X.A X.stack s H :=
 ⟨I.ok.frames,I.ok.mod,I.bs,Nat.le_trans I.ok.bsz I.sz,I.stack,I.stkFree,I.hok,I.bare⟩
theorem Inv.after {Q:VK}{u:Value}(I:Inv X pins σ H s)(h:CE X.stack X.prog X.w H s Q u s'):EP X pins σ Q u s':=by
 obtain ⟨v,H',os,bare,un,hok,r,q⟩:=h
 obtain ⟨hh,g,d,t,os'⟩:=s'
 obtain rfl:os'=s.os:=os
 exact ⟨v,H',I.call (h':=hh) (g':=g) (d':=d) (t':=t) (ch:=[]) un hok bare (fun b z=>absurd z (by simp)),r,q⟩
end
noncomputable abbrev tCall (sp:Sp)(dvs:List V)(E:XK)(t:TA):TE:=fun σ H Q=>t σ H fun vs H1=>sp (vs++dvs) H1 Q E
noncomputable def Binds (K:FZ9)(fd:FuncData)(ps:List Str)(ds:List Value):Prop :=
 ∀ (s:Shared) (us:List Value),K.In s.heap->(us++ds).length=ps.length->BindsTo s fd ⟨us,[]⟩ (ps.zip (us++ds))
theorem Binds.all {K:FZ9}{fd:FuncData}{ps:List Str}(h:∀ us:List Value,us.length=ps.length->bindArgs fd ⟨us,[]⟩=pure (ps.zip us)):Binds K fd ps []:=fun s us _ hl=>by
 rw [List.append_nil] at hl ⊢
 exact .of_eq (h us hl)
noncomputable def Passes (CX:CXT)(X:Cx)(E:XK):Prop:=∀ (pins:List (Addr × Obj)) (σ:St) (H:Hp) (s:Shared) (e:Value) (s':Shared),Inv X pins σ H s->CX X.stack H s E e s'->X.xe e s'
section
variable {X:Cx}{CX:CXT}{k:Nat}{f C:Addr}{fd:FuncData}{ps:List Str}{sp:Sp}{dvs:List V}{ds:List Value}{E:XK}{x m:Str}{p pos apos:Pos}{e o:Expr}{es:List Expr}{ta:TE}{t:TA}
theorem run_fn {pins:List (Addr × Obj)}{σ:St}{H:Hp}{s:Shared}{Q:VK}{us:List Value}{vs:List V}(F:FnOk X.prog X.w X.K X.mg X.base CX k f fd ps sp)(hr:Room k X.A)(hb:Binds X.K fd ps ds)(hd:Vals dvs ds)(hx:Passes CX X E)
  (I:Inv X pins σ H s) (r:Vals vs us) (h:sp (vs++dvs) H Q E):wpAny (model X.prog X.w) X.A (call (.ref f) us) (EP X pins σ Q) X.xe s:=by
 have r2:Vals (vs++dvs) (us++ds):=r.append hd
 have hl:(us++ds).length=ps.length:=by rw [<- r2.length];exact F.len _ _ _ _ h
 refine wpAny_call (codeAny_mono (F.run X.A X.stack s H ⟨us,[]⟩ (us++ds) (vs++dvs) Q E hr I.env0 (hb s us I.kIn hl) r2 h) fun r s' hq=>?_)
 cases r with
 | error e=>exact hx pins σ H s e s' I hq
 | ok fl =>
  cases fl with
  | ret u=>exact I.after hq
  | next=>exact False.elim hq
  | brk=>exact False.elim hq
  | cont=>exact False.elim hq
theorem pe_call (F:FnOk X.prog X.w X.K X.mg X.base CX k f fd ps sp)(hr:Room k X.A)(hg:Gl X x)(hm:X.mg x=some (.ref f))(hk:PySem.W.keepIn X.K (.ref f)=true)(hb:Binds X.K fd ps ds)(hd:Vals dvs ds)(hx:Passes CX X E)
  (ha:PA X (e::es) t) (hdb:(x == ("__debug__" : Str))=false:=by decide) (he:starEach (e::es) X.env=(false,eval e X.env)::starEach es X.env:=by rfl) (hpl:(backTo pos (starEach es X.env)).any (·.1)=false:=by rfl) :
  PE X (.Call (.Name x p) (e::es) [] pos) (tCall sp dvs E t):=by
 intro pins s σ H Q I h
 refine wpAny_Call_Name_kw (ld_glob I hg hm ?_ hdb)
 refine PySem.W.callWith_K (h₀:=X.base) I.ok.mod.kin hk (thn (ha pos pins s σ H _ I h) fun us s1 ⟨vs,H1,I1,r,q⟩=>⟨I1.kIn,?_⟩) he hpl
 exact run_fn F hr hb hd hx I1 r q
end
section
variable {X:Cx}{CX:CXT}{k:Nat}{f C:Addr}{fd:FuncData}{ps ks:List Str}{sp:Sp}{E:XK}{x m:Str}{p pos apos kpos:Pos}{e o:Expr}{es:List Expr}{kws:List Keyword}{te ta:TE}{t tk:TA}{nm:Option Str}
variable {g:List Value->List Value->List Value}{gV:List V->List V->List V}
end
structure FnScope (N P:List Str)(sc:Scope):Prop where
 kind:sc.kind = .function
 co:sc.isCoroutine=false
 gen:sc.isGenerator=false
 nd:N.Nodup
 pre:N.take P.length=P
 par:∀ x∈P,sc.names.lookup x=some .local \/ sc.names.lookup x=some .cell
 nofree:∀ y∈sc.names,y.2 ≠ .free
theorem bindL_out {kindOf:Str->Option NameKind}{x:Str}:∀ {binds:List (Str × Value)}{m:Str->Option Value},(∀ v,(x,v) ∉ binds)->bindL kindOf binds m x=m x
 | [],_,_=>rfl
 | (n,v)::r,m,h=>by
  unfold bindL
  rw [bindL_out fun w hw=>h w (List.mem_cons_of_mem _ hw)]
  split
  ·have:x≠n:=by rintro rfl;exact h v List.mem_cons_self
   simp [this]
  ·rfl
theorem bindC_out {kindOf:Str->Option NameKind}{x:Str}:∀ {binds:List (Str × Value)}{m:Str->Option Value},(∀ v,(x,v) ∉ binds)->bindC kindOf binds m x=m x
 | [],_,_=>rfl
 | (n,v)::r,m,h=>by
  unfold bindC
  rw [bindC_out fun w hw=>h w (List.mem_cons_of_mem _ hw)]
  split
  ·rfl
  ·have:x≠n:=by rintro rfl;exact h v List.mem_cons_self
   simp [this]
theorem bindL_get {kindOf:Str->Option NameKind}{x:Str}{v:Value}:∀ {P:List Str}{vs:List Value}{i:Nat}{m:Str->Option Value},P.Nodup->P[i]? = some x->vs[i]? = some v->kindOf x=some .local ->
  bindL kindOf (P.zip vs) m x=some v
 | [],_,_,_,_,h,_,_=>by simp at h
 | _::_,[],_,_,_,_,h,_=>by simp at h
 | p::P,w::vs,0,m,nd,h1,h2,hk=>by
  simp at h1 h2;subst h1;subst h2
  show bindL kindOf ((p,w)::P.zip vs) m p=_
  unfold bindL
  rw [bindL_out fun v hv=>(List.nodup_cons.mp nd).1 (List.of_mem_zip hv).1,if_pos hk]
  simp
 | p::P,w::vs,i+1,m,nd,h1,h2,hk=>by
  show bindL kindOf ((p,w)::P.zip vs) m x=_
  unfold bindL
  exact bindL_get (i:=i) (List.nodup_cons.mp nd).2 (by simpa using h1) (by simpa using h2) hk
theorem bindC_get {kindOf:Str->Option NameKind}{x:Str}{v:Value}:∀ {P:List Str}{vs:List Value}{i:Nat}{m:Str->Option Value},P.Nodup->P[i]? = some x->vs[i]? = some v->kindOf x≠some .local ->
  bindC kindOf (P.zip vs) m x=some v
 | [],_,_,_,_,h,_,_=>by simp at h
 | _::_,[],_,_,_,_,h,_=>by simp at h
 | p::P,w::vs,0,m,nd,h1,h2,hk=>by
  simp at h1 h2;subst h1;subst h2
  show bindC kindOf ((p,w)::P.zip vs) m p=_
  unfold bindC
  rw [bindC_out fun v hv=>(List.nodup_cons.mp nd).1 (List.of_mem_zip hv).1,if_neg hk]
  simp
 | p::P,w::vs,i+1,m,nd,h1,h2,hk=>by
  show bindC kindOf ((p,w)::P.zip vs) m x=_
  unfold bindC
  exact bindC_get (i:=i) (List.nodup_cons.mp nd).2 (by simpa using h1) (by simpa using h2) hk
noncomputable def start (N:List Str)(vs:List V):St:=vs.map some++List.replicate (N.length - vs.length) none
noncomputable def cxOf (CX:CXT)(P:Program)(w:World)(K:FZ9)(mg:Str->Option Value)(base:Heap)(N:List Str)(qual:Str)(scope:Scope)(f:Addr)(cd:Value)(A:Around)(outer:List Env)(s:Shared)(H:Hp)(E:XK):Cx where
 prog:=P
 w:=w
 K:=K
 mg:=mg
 base:=base
 A:=A.deeper (envOfC qual scope s.heap.objs.size f cd)
 N:=N
 s₀:=s
 H₀:=H
 env:=envOfC qual scope s.heap.objs.size f cd
 outer:=outer
 stack:=envOfC qual scope s.heap.objs.size f cd::outer
 ex:=[]
 calm:=true
 fn:=fun _=>true
 pn:=[]
 xe:=fun e s'=>wpAny (model P w) (A.deeper (envOfC qual scope s.heap.objs.size f cd)) (leaving (envOfC qual scope s.heap.objs.size f cd) e) (fun _ s''=>CX outer H s E e s'') (fun e' s''=>CX outer H s E e' s'') s'
theorem cell_has {sc:Scope}{n:Nat}{x:Str}(h:sc.names.lookup x=some .cell):∃ c,(cellsFrom n sc.names []).lookup x=some c:=by
 have q:=PySem.W.cellsFrom_some sc.names n [] (.inl h)
 exact Option.isSome_iff_exists.mp q
theorem inv_start {CX:CXT}{P:Program}{w:World}{K:FZ9}{mg:Str->Option Value}{base:Heap}{N ps:List Str}{qual:Str}{scope:Scope}{f:Addr}{cd:Value}{A:Around}{outer:List Env}{s s1:Shared}{H:Hp}{E:XK}{us:List Value}{vs:List V}
  (S:FnScope N ps scope) (hd:A.handled=none) (e0:Env0 P w K mg base A outer s H) (hl:vs.length=ps.length) (r:Vals vs us)
  (x:InCallC s s.heap.objs.size (bindL (envOfC qual scope s.heap.objs.size f cd).kindOf (ps.zip us) fun _=>none) (cellsFrom (s.heap.objs.size+1) scope.names []) (bindC (envOfC qual scope s.heap.objs.size f cd).kindOf (ps.zip us) fun _=>none) s1) :
  Inv (cxOf CX P w K mg base N qual scope f cd A outer s H E) [] (start N vs) H s1:=by
 have hpl:ps.length<=N.length:=by have:=congrArg List.length S.pre;rw [List.length_take] at this;omega
 obtain ⟨h1,tk,rfl,hk⟩:=x.done
 have noA:∀ b:Addr,b ∉ (cxOf CX P w K mg base N qual scope f cd A outer s H E).ex:=fun b z=>absurd (show b∈([]:List Addr) from z) (by simp)
 refine ⟨⟨e0.mod,S.kind,rfl,rfl,Nat.le_refl _,fun y z c h1 h2=>?_,fun y hy=>?_,fun y c _ h=>?_,fun _=>hd,Around.frames_deeper e0.frames,.inr ⟨rfl,rfl⟩,fun b z=>absurd z (noA b),e0.bs,e0.bsz,fun b _ _=>noA b,fun b z=>absurd z (noA b),e0.funs,e0.frf⟩,
  rfl,e0.bare,Un.kept hk,⟨_,x.toInCall.ns,fun i y v h1 h2 h3=>?_⟩,fun y c h=>⟨_,x.cell y c h⟩,e0.hok.fresh (Nat.le_refl _),fun y c h=>?_,fun p hp=>absurd (show p∈([]:List (Addr × Obj)) from hp) (by simp),e0.hok.kept hk,?_⟩
 ·exact name_of_addr x.apart (PySem.mem_of_lookup h1) (PySem.mem_of_lookup h2)
 ·have hy:scope.names.lookup y=some .cell\/scope.names.lookup y=some .free:=hy
  rcases hy with hy|hy
  ·exact cell_has hy
  ·exact absurd rfl (S.nofree _ (PySem.mem_of_lookup hy))
 ·exact Nat.le_of_lt (x.above y c (PySem.mem_of_lookup h))
 ·have hi:i<vs.length:=by
   unfold start at h2
   by_cases hi:i<vs.length
   ·exact hi
   ·rw [List.getElem?_append_right (by simpa using hi)] at h2
    rw [List.getElem?_replicate] at h2
    split at h2<;>cases h2
  have ha:vs[i]? = some v:=by
   unfold start at h2
   rw [List.getElem?_append_left (by simpa using hi),List.getElem?_map] at h2
   cases e:vs[i]? with
   | none=>rw [e] at h2;cases h2
   | some a=>rw [e] at h2;cases h2;rfl
  obtain ⟨u,hu,rv⟩:=r.get ha
  have hp:ps[i]? = some y:=by
   rw [<- S.pre,List.getElem?_take_of_lt (by omega)];exact h1
  have ndP:ps.Nodup:=by rw [<- S.pre];exact S.nd.sublist (List.take_sublist _ _)
  refine ⟨u,rv,?_⟩
  rcases S.par y (List.mem_of_getElem? hp) with k|k
  ·exact .inl ⟨k,bindL_get ndP hp hu k⟩
  ·obtain ⟨c,e⟩:=cell_has (n:=s.heap.objs.size+1) k
   refine .inr ⟨.inl k,c,e,?_⟩
   have q:=x.cell y c e
   rw [bindC_get ndP hp hu (by show scope.names.lookup y≠_;rw [k];decide)] at q
   exact q
 ·exact e0.hok.fresh (Nat.le_of_lt (x.above y c (PySem.mem_of_lookup h)))
 ·unfold start
  show _=N.length
  rw [List.length_append,List.length_map,List.length_replicate]
  omega
theorem fn_of {CX:CXT}{P:Program}{w:World}{K:FZ9}{mg:Str->Option Value}{base:Heap}{k:Nat}{f:Addr}{name qual:Str}{params:Arguments}{body:List Stmt}{scope:Scope}{dV kV doc pm cdv ct oc:Value}{an od:Option Addr}
  {osl:Array (Option Value)}{N ps:List Str}{sp:Sp}(lk:K.lookup f=some ⟨oc,od,.func (PySem.W.fnOf name qual params body scope dV kV doc pm an cdv ct),osl⟩) (hcd:PySem.W.codeIn K cdv qual=true) (S:FnScope N ps scope)
  (len:∀ vs H Q E,sp vs H Q E->vs.length=ps.length)
  (hbody:∀ (A:Around) (outer:List Env) (s:Shared) (H:Hp) (vs:List V) (Q:VK) (E:XK),Room k (A.deeper (envOfC qual scope s.heap.objs.size f cdv))->sp vs H Q E ->
   ∃ t,PSs (cxOf CX P w K mg base N qual scope f cdv A outer s H E) body t/\t { nx:=fun _ H'=>Q .non H',rt:=Q } (start N vs) H) :
  FnOk P w K mg base CX (k+1) f (PySem.W.fnOf name qual params body scope dV kV doc pm an cdv ct) ps sp:=by
 refine ⟨len,fun A outer s H args us vs Q E hr e0 hb r hsp=>?_⟩
 have hl:=len _ _ _ _ hsp
 have KX:K.In s.heap:=e0.mod.kin.keeps fun b o e=>(e0.bs b o e).1
 have lim:s.heap.NoLimit:=e0.mod.nolimit.keeps fun b o e=>(e0.bs b o e).1
 have hkind:∀ y∈ps.zip us,scope.names.lookup y.1=some .local \/ (scope.names.lookup y.1=some .cell/\((cellsFrom (s.heap.objs.size+1) scope.names []).lookup y.1).isSome=true):=fun ⟨n,v⟩ hy=>by
  rcases S.par n (List.of_mem_zip hy).1 with q|q
  ·exact .inl q
  ·exact .inr ⟨q,PySem.W.cellsFrom_some _ _ _ (.inl q)⟩
 refine codeAny_call_function hr.depth (KX _ _ lk) rfl S.co S.gen rfl (PySem.W.codeRec_of KX hcd) (hb _ _ _ _ ?_)
 refine wpAny_newFunctionEnv_cells S.kind hkind fun env he s1 x=>?_
 subst he
 refine ⟨lim.keeps x.toInCall.keep,codeAny_func ?_⟩
 obtain ⟨t,ht,hq⟩:=hbody A outer s H vs Q E (hr.deeper _) hsp
 have I:Inv (cxOf CX P w K mg base N qual scope f cdv A outer s H E) [] (start N vs) H s1:=inv_start S hr.hd e0 hl r x
 refine wpAny_mono (ht [] s1 (start N vs) H _ I hq) (fun fl s' hs=>?_) fun e s' hs=>hs
 have fin:∀ {σ':St}{H':Hp}{v:V}{u:Value},Inv (cxOf CX P w K mg base N qual scope f cdv A outer s H E) [] σ' H' s'->RelV v u->Q v H'->CE outer P w H s Q u s' :=
  fun {σ' H' v u} J rv q=>⟨v,H',J.os,J.bare,J.base,J.hok,rv,q⟩
 cases fl with
 | ret u =>
  obtain ⟨v,σ',H',J,rv,q⟩:=hs
  exact fin J rv q
 | next =>
  obtain ⟨σ',H',J,q⟩:=hs
  exact fin (v:=V.non) (u:=Value.none) J rfl q
 | brk =>
  obtain ⟨_,_,_,q⟩:=hs
  exact False.elim q
 | cont =>
  obtain ⟨_,_,_,q⟩:=hs
  exact False.elim q
section
variable {X:Cx}{x:Str}{p pos:Pos}{e:Expr}{es:List Expr}{t:TA}{id T:String}{r:List V->Hp->VK->Prop}
noncomputable abbrev tCB (r:List V->Hp->VK->Prop)(t:TA):TE:=fun σ H Q=>t σ H fun vs H1=>r vs H1 Q
theorem Ap (hc:DX X (.builtin id) r)(hg:Gl X x)(hm:X.mg x=none)(hv:bootBuiltins x=some (.builtin id))(ha:PA X (e::es) t)(hn:x ≠ "__name__" := by decide)(hdb:(x == ("__debug__" : Str))=false:=by decide)
  (he:starEach (e::es) X.env=(false,eval e X.env)::starEach es X.env:=by rfl) (hpl:(backTo pos (starEach es X.env)).any (·.1)=false:=by rfl):PE X (.Call (.Name x p) (e::es) [] pos) (tCB r t):=by
 intro pins s σ H Q I h
 refine wpAny_Call_Name_kw (Ex I hg hm hv ?_ hn hdb)
 exact PyProof.Rows.callWith_builtin1 (thn (ha pos pins s σ H _ I h) fun us s1 ⟨vs,H1,I1,r1,q1⟩=>hc pins s1 σ H1 vs us Q I1 r1 q1) he hpl
theorem Dd (hc:DX X (.type T) r)(hg:Gl X x)(hm:X.mg x=none)(hv:bootBuiltins x=some (.type T))(ha:PA X (e::es) t)(hn:x ≠ "__name__" := by decide)(hdb:(x == ("__debug__" : Str))=false:=by decide)
  (he:starEach (e::es) X.env=(false,eval e X.env)::starEach es X.env:=by rfl) (hpl:(backTo pos (starEach es X.env)).any (·.1)=false:=by rfl):PE X (.Call (.Name x p) (e::es) [] pos) (tCB r t):=by
 intro pins s σ H Q I h
 refine wpAny_Call_Name_kw (Ex I hg hm hv ?_ hn hdb)
 exact PyProof.Rows.callWith_type1 (thn (ha pos pins s σ H _ I h) fun us s1 ⟨vs,H1,I1,r1,q1⟩=>hc pins s1 σ H1 vs us Q I1 r1 q1) he hpl
end
end L2
namespace HT
open PySem PyProof.Rows
section
open PySem.SeqAt
open PySem.AutoSeq1 (wpAny_loadPart')
open PySem.MeetsSeq PySem.MeetsSeq2 PySem.MeetsSeq3
end
section
variable {prog:Program}{w:World}{A:Around}{E:Value->Shared->Prop}{s:Shared}
noncomputable def sIx (n d:Nat):Option Int->Nat
 | none=>d
 | some v=>if v<0 then (v+(n:Int)).toNat else min v.toNat n
theorem sIx_none (n d:Nat):sIx n d none=d:=rfl
theorem sIx_nat (n d k:Nat):sIx n d (some (k:Int))=min k n:=by
 show (if (k:Int)<0 then ((k:Int)+(n:Int)).toNat else min (k:Int).toNat n)=min k n
 rw [if_neg (by omega),Int.toNat_natCast]
end
end HT
namespace L2
open PySem PySem.Spec PyProof.Rows
noncomputable abbrev TO:=St->Hp->(Option Int->Hp->Prop)->Prop
noncomputable def PO (X:Cx)(e:Option Expr)(t:TO):Prop :=
 ∀ (pins:List (Addr × Obj)) (s:Shared) (σ:St) (H:Hp) (Q:Option Int->Hp->Prop),Inv X pins σ H s->t σ H Q ->
  wpAny (model X.prog X.w) X.A (evalPart e X.env) (fun u s'=>∃ o H',Inv X pins σ H' s'/\IsPart u o/\Q o H') X.xe s
noncomputable abbrev tNoPart:TO:=fun _ H Q=>Q none H
noncomputable abbrev tPart (t:TE):TO:=fun σ H Q=>t σ H fun x H1=>∃ i,x = .int i/\Q (some i) H1
section
variable {X:Cx}{e:Expr}{te:TE}{lo hi:Option Expr}{tl th:TO}{pos p2:Pos}
theorem po_none:PO X none tNoPart:=by
 intro pins s σ H Q I h
 rw [evalPart_none]
 exact wpAny_pure ⟨none,H,I,.none,h⟩
theorem po_some (h:PE X e te):PO X (some e) (tPart te):=by
 intro pins s σ H Q I hw
 rw [evalPart_some]
 refine thn (h pins s σ H _ I hw) fun u s1 ⟨x,H1,I1,r1,q1⟩=>?_
 obtain ⟨i,rfl,q⟩:=q1
 obtain ⟨t,rfl⟩:=r1
 exact ⟨some i,H1,I1,.int i t,q⟩
noncomputable def SlR (X:Cx)(r:V->Option Int->Option Int->Hp->VK->Prop):Prop :=
 ∀ (pins:List (Addr × Obj)) (s:Shared) (σ:St) (H:Hp) (x:V) (v vl vu:Value) (lo hi:Option Int) (sl:Addr) (Q:VK),Inv X pins σ H s->RelV x v->s.heap.IsSliceOf sl vl vu .none->IsPart vl lo->IsPart vu hi->r x lo hi H Q ->
  ∃ T id,typeLookup (.type T) "__getitem__" = pure (some (.builtin id))/\s.TypeIs v T/\wpAny (model X.prog X.w) X.A (getItem v (.ref sl)) (EP X pins σ Q) X.xe s
noncomputable abbrev tSl (r:V->Option Int->Option Int->Hp->VK->Prop)(te:TE)(tl th:TO):TE:=fun σ H Q=>te σ H fun x H1=>tl σ H1 fun l H2=>th σ H2 fun u H3=>r x l u H3 Q
theorem pe_slice {r:V->Option Int->Option Int->Hp->VK->Prop}(hr:SlR X r)(he:PE X e te)(hl:PO X lo tl)(hu:PO X hi th):PE X (.Subscript e (.Slice lo hi none p2) pos) (tSl r te tl th):=by
 intro pins s σ H Q I h
 refine Subscript_ (thn (he pins s σ H _ I h) fun v s1 ⟨x,H1,I1,r1,q1⟩=>?_)
 refine wpAny_Slice (thn (hl pins s1 σ H1 _ I1 q1) fun vl s2 ⟨l,H2,I2,pl,q2⟩=>thn (hu pins s2 σ H2 _ I2 q2) fun vu s3 ⟨u,H3,I3,pu,q3⟩=>?_)
 rw [evalPart_none]
 refine wpAny_pure ?_
 have I4:Inv X pins σ H3 { s3 with heap:=s3.heap.push { cls:=.type "slice",data:=.fields #[vl,vu,.none] } }:=I3.kept (t':=s3.toks) fun b ob q=>Heap.get?_push_of_some _ q
 obtain ⟨T,id,hT,ht,hg⟩:=hr pins { s3 with heap:=s3.heap.push { cls:=.type "slice",data:=.fields #[vl,vu,.none] } } σ H3 x v vl vu l u s3.heap.objs.size Q I4 r1 (Heap.IsSliceOf.new ..) pl pu q3
 show wpAny (model X.prog X.w) X.A (subscriptTail e (.Slice lo hi none p2) v (.ref s3.heap.objs.size)) (EP X pins σ Q) X.xe { s3 with heap:=s3.heap.push { cls:=.type "slice",data:=.fields #[vl,vu,.none] } }
 exact tail_any (ops:=[.ref s3.heap.objs.size,v]) ht hT hg (by with_unfolding_all rfl)
noncomputable def cutV (xs:List V)(lo hi:Option Int):List V:=(xs.drop (HT.sIx xs.length 0 lo)).take (HT.sIx xs.length xs.length hi - HT.sIx xs.length 0 lo)
theorem cutV_length (xs:List V)(lo hi:Option Int):(cutV xs lo hi).length<=xs.length:=by
 unfold cutV
 rw [List.length_take,List.length_drop]
 omega
end
noncomputable def ixN (n:Nat)(i:Int):Option Nat:=if 0<=i then (if i<n then some i.toNat else none) else if -(n:Int)<=i then some (i+n).toNat else none
noncomputable def atI {α:Type}(xs:List α)(i:Int):Option α:=(ixN xs.length i).bind fun j=>xs[j]?
theorem ixN_seq {n:Nat}{i:Int}{j:Nat}(h:ixN n i=some j):seqIndex? i n=some j/\j<n/\-(n:Int)<=i/\i<n:=by
 unfold ixN at h
 by_cases h0:0<=i
 ·rw [if_pos h0] at h
  by_cases h1:i<n
  ·rw [if_pos h1] at h
   have e:i.toNat=j:=Option.some.inj h
   exact ⟨by rw [seqIndex_of h0 h1,e],by omega,by omega,h1⟩
  ·rw [if_neg h1] at h;cases h
 ·rw [if_neg h0] at h
  by_cases h1:-(n:Int)<=i
  ·rw [if_pos h1] at h
   have e:(i+n).toNat=j:=Option.some.inj h
   exact ⟨by rw [seqIndex_neg (by omega) h1,e],by omega,h1,by omega⟩
  ·rw [if_neg h1] at h;cases h
theorem atI_get {α:Type}{xs:List α}{i:Int}{v:α}(h:atI xs i=some v):∃ j,seqIndex? i xs.length=some j/\xs[j]? = some v/\j<xs.length/\-(xs.length:Int)<=i/\i<xs.length:=by
 unfold atI at h
 cases e:ixN xs.length i with
 | none=>rw [e] at h;cases h
 | some j =>
  rw [e] at h
  obtain ⟨h1,h2,h3,h4⟩:=ixN_seq e
  exact ⟨j,h1,h,h2,h3,h4⟩
theorem CK {α:Type}{xs:List α}{j:Nat}{v:α}(h:xs[j]? = some v):atI xs (j:Int)=some v:=by
 have hj:j<xs.length:=(List.getElem?_eq_some_iff.mp h).1
 have e:ixN xs.length (j:Int)=some j:=by
  unfold ixN
  rw [if_pos (by omega),if_pos (by omega)];simp
 unfold atI;rw [e];exact h
theorem atI_last {α:Type}(xs:List α)(v:α):atI (xs++[v]) (-1)=some v:=by
 have hl:(xs++[v]).length=xs.length+1:=by simp
 have e:ixN (xs++[v]).length (-1)=some xs.length:=by
  unfold ixN
  rw [hl,if_neg (by decide),if_pos (by omega)]
  congr 1
  omega
 unfold atI
 rw [e]
 show (xs++[v])[xs.length]? = some v
 simp
noncomputable def PlainIx (b:Expr):Prop:=∀ o i,subscripted b false o i=operate [o,i] (getItem o i)
noncomputable def IxR (X:Cx)(r:R2):Prop :=
 ∀ (value slice:Expr) (pins:List (Addr × Obj)) (s:Shared) (σ:St) (H:Hp) (x y:V) (v u:Value) (Q:VK),Inv X pins σ H s->RelV x v->RelV y u->r x y H Q ->
  subscripted slice false v u=operate [v,u] (getItem v u)->wpAny (model X.prog X.w) X.A (subscriptTail value slice v u) (EP X pins σ Q) X.xe s
noncomputable def MtR (X:Cx)(id:String)(r:V->List V->Hp->VK->Prop):Prop :=
 ∀ (pins:List (Addr × Obj)) (s:Shared) (σ:St) (H:Hp) (x:V) (xs:List V) (v:Value) (us:List Value) (Q:VK),Inv X pins σ H s->RelV x v->Vals xs us->r x xs H Q ->
  wpAny (model X.prog X.w) X.A (call (.builtin id) (v::us)) (EP X pins σ Q) X.xe s
section
variable {X:Cx}{a b:Expr}{ta tb:TE}{pos:Pos}
theorem AI {r:R2}(hr:IxR X r)(ha:PE X a ta)(hb:PE X b tb)(hs:PlainIx b):PE X (.Subscript a b pos) (tOp r ta tb):=by
 intro pins s σ H Q I h
 exact Subscript_ (binT ha hb I h fun v u s2 x y H2 I2 rx ry q=>hr a b pins s2 σ H2 x y v u Q I2 rx ry q (hs _ _))
noncomputable def rIxL (K:FZ9):R2:=fun x y H Q=>∃ p xs i v,x = .ref p/\y = .int i/\SqL K H p xs/\atI xs i=some v/\Q v H
noncomputable def rIxT (K:FZ9):R2:=fun x y H Q=>∃ p xs i v,x = .ref p/\y = .int i/\SqT K H p xs/\atI xs i=some v/\Q v H
noncomputable def rIxS:R2:=fun x y H Q=>∃ z i c,x = .str z/\y = .int i/\z.length<=sizeLine/\atI z.cps.toList i=some c/\Q (.str ⟨#[c]⟩) H
theorem ix_list:IxR X (rIxL X.K):=by
 intro value slice pins s σ H x y v u Q I rx ry h hs
 obtain ⟨p,xs,i,z,rfl,rfl,hq,he,q⟩:=h
 cases rx
 obtain ⟨t,rfl⟩:=ry
 obtain ⟨its,r,pl,hz⟩:=I.list hq
 obtain ⟨j,h1,h2,h3,h4,h5⟩:=atI_get he
 obtain ⟨w,ew,rw'⟩:=r.get h2
 have hl:=r.length
 have hn:=Fy
 have fin:EP X pins σ Q w s:=⟨z,H,I,rw',q⟩
 by_cases h0:0<=i
 ·have hj:i.toNat=j:=by
   rw [seqIndex_of h0 h5] at h1
   exact Option.some.inj h1
  exact item_listR pl.isList h0 (by omega) (by rw [hj];simpa using ew) fin hs
 ·have hj:(i+(its.toArray.size:Int)).toNat=j:=by
   rw [seqIndex_neg (by omega) h4] at h1
   rw [List.size_toArray,<- hl]
   exact Option.some.inj h1
  exact subscriptTail_builtinR (x:=w) pl.isList.typeIs slot_list_getitem.lookup
   (wpAny_getItem_list_neg (Q:=fun r s'=>r=w/\EP X pins σ Q r s') pl.isList (by omega) (by rw [List.size_toArray]<;>omega) (by omega) (by rw [hj];simpa using ew) ⟨rfl,fin⟩) hs
theorem ix_tup:IxR X (rIxT X.K):=by
 intro value slice pins s σ H x y v u Q I rx ry h hs
 obtain ⟨p,xs,i,z,rfl,rfl,hq,he,q⟩:=h
 cases rx
 obtain ⟨t,rfl⟩:=ry
 obtain ⟨its,r,pl,hz⟩:=I.tuple hq
 obtain ⟨j,h1,h2,h3,h4,h5⟩:=atI_get he
 obtain ⟨w,ew,rw'⟩:=r.get h2
 have hl:=r.length
 have hn:=Fy
 have fin:EP X pins σ Q w s:=⟨z,H,I,rw',q⟩
 exact subscriptTail_builtinR (x:=w) pl.typeIs slot_tuple_getitem.lookup
  (getItem_tuple (j:=j) (Q:=fun r s'=>r=w/\EP X pins σ Q r s') pl (by omega) (by omega) (by rw [List.size_toArray,<- hl];exact h1) (by simpa using ew) ⟨rfl,fin⟩) hs
theorem ix_str:IxR X rIxS:=by
 intro value slice pins s σ H x y v u Q I rx ry h hs
 obtain ⟨z,i,c,rfl,rfl,hz,he,q⟩:=h
 obtain ⟨t,rfl⟩:=rx
 obtain ⟨t',rfl⟩:=ry
 obtain ⟨j,h1,h2,h3,h4,h5⟩:=atI_get he
 have hl:z.cps.toList.length=z.length:=by simp [Str.length]
 rw [hl] at h1 h4 h5
 have hn:=Fy
 exact tail_any (typeIs_str s z t) slot_str_getitem.lookup (getItem_str (c:=c) (by
  have e1:decide (i < -(2 ^ 63:Int))=false:=decide_eq_false (by omega)
  have e2:decide (i>=2 ^ 63)=false:=decide_eq_false (by omega)
  rw [e1,e2,Bool.or_false]) (by rw [h1];simpa using h2) ⟨.str ⟨#[c]⟩,H,I.tok _,⟨_,rfl⟩,q⟩) hs
theorem mapSeq_set (its:List Value)(n j:Nat)(u:Value):Obj.mapSeq (·.setIfInBounds j u) { cls:=.type "list",data:=.seq its.toArray n } = { cls:=.type "list",data:=.seq (its.set j u).toArray n }:=by
 simp [Obj.mapSeq]
theorem Inv.lst {pins:List (Addr × Obj)}{σ:St}{H:Hp}{s:Shared}{p:Addr}{xs:List V}(I:Inv X pins σ H s)(h:H p=some (.lst xs)) :
  ∃ (its:List Value) (n:Nat),Vals xs its/\s.heap.get? p=some { cls:=.type "list",data:=.seq its.toArray n }/\xs.length<=sizeLine:=by
 obtain ⟨z,its,n,r,e⟩:=I.hok p _ h
 exact ⟨its,n,r,e,z⟩
theorem Inv.lstUpd {pins:List (Addr × Obj)}{σ:St}{H:Hp}{s:Shared}{p:Addr}{xs ys:List V}{its its':List Value}{n n':Nat}{f:Obj->Obj}(I:Inv X pins σ H s)(h:H p=some (.lst xs))
  (ho:s.heap.get? p=some { cls:=.type "list",data:=.seq its.toArray n }) (hf:f { cls:=.type "list",data:=.seq its.toArray n } = { cls:=.type "list",data:=.seq its'.toArray n' }) (r:Vals ys its') (hz:ys.length<=sizeLine) (t:Nat) :
  Inv X pins σ (upd H p (.lst ys)) { s with heap:=s.heap.update p f,toks:=t }:=by
 have e:(s.heap.update p f).get? p=some { cls:=.type "list",data:=.seq its'.toArray n' }:=by
  rw [Heap.get?_update_self f ho (by rw [hf]<;>rfl),hf]
 refine I.write (x:=p) (e:=p) (by rw [h];trivial) (.inl rfl) (fun b u hb q=>(Heap.get?_update_other _ _ (Ne.symm hb)).trans q) ⟨_,e⟩ ?_
 exact ⟨hz,its',n',r,e⟩
noncomputable def rSetL:V->V->V->Hp->(Hp->Prop)->Prop:=fun o i v H Q=>∃ p xs k j,o = .ref p/\i = .int k/\H p=some (.lst xs)/\ixN xs.length k=some j/\Q (upd H p (.lst (xs.set j v)))
theorem DR:PSet X rSetL:=by
 intro pins s σ H o i v ov iv u Q I ro ri rv h
 obtain ⟨p,xs,k,j,rfl,rfl,hp,hj,q⟩:=h
 cases ro
 obtain ⟨t,rfl⟩:=ri
 obtain ⟨its,n,r,ho,hz⟩:=I.lst hp
 obtain ⟨h1,h2,h3,h4⟩:=ixN_seq hj
 have hl:=r.length
 have hn:=Fy
 have I':Inv X pins σ (upd H p (.lst (xs.set j v))) { s with heap:=s.heap.update p (Obj.mapSeq (·.setIfInBounds j u)) } :=
  I.lstUpd hp ho (mapSeq_set its n j u) (r.set rv j) (by rw [List.length_set];exact hz) s.toks
 by_cases h0:0<=k
 ·have hk:k.toNat=j:=by
   rw [seqIndex_of h0 h4] at h1
   exact Option.some.inj h1
  exact PySem.W.ki_setAt ho h0 (by omega) (by rw [List.size_toArray,<- hl];exact h4) (by rw [hk];exact ⟨_,I',q⟩)
 ·have hk:(k+(its.toArray.size:Int)).toNat=j:=by
   rw [seqIndex_neg (by omega) h3] at h1
   rw [List.size_toArray,<- hl]
   exact Option.some.inj h1
  exact PySem.W.ki_setBack ho (by omega) (by rw [List.size_toArray,<- hl];exact h3) (by omega) (by rw [hk];exact ⟨_,I',q⟩)
theorem slice_bounds (lo hi:Option Int)(n:Nat):(sliceBounds lo hi none n).1=((HT.sIx n 0 lo:Nat):Int)/\(sliceBounds lo hi none n).2.1=((HT.sIx n n hi:Nat):Int)/\(sliceBounds lo hi none n).2.2=1:=by
 refine ⟨?_,?_,rfl⟩
 ·cases lo with
  | none=>simp [sliceBounds,HT.sIx]
  | some i =>
   simp only [sliceBounds,HT.sIx,Option.getD_none,show (1:Int) > 0 by decide,if_true]
   by_cases h:i<0
   ·simp only [h,if_true]<;>omega
   ·simp only [h,if_false]<;>omega
 ·cases hi with
  | none=>simp [sliceBounds,HT.sIx]
  | some i =>
   simp only [sliceBounds,HT.sIx,Option.getD_none,show (1:Int) > 0 by decide,if_true]
   by_cases h:i<0
   ·simp only [h,if_true]<;>omega
   ·simp only [h,if_false]<;>omega
theorem slicePick_cut (its:List Value)(lo hi:Option Int):slicePick its.toArray lo hi none=((its.drop (HT.sIx its.length 0 lo)).take (HT.sIx its.length its.length hi - HT.sIx its.length 0 lo)).toArray:=by
 obtain ⟨h1,h2,h3⟩:=slice_bounds lo hi its.toArray.size
 unfold slicePick
 rw [h1,h2,h3]
 simp only [sliceRange_one,pick_run,List.size_toArray]<;>rfl
noncomputable def rSlL (K:FZ9):V->Option Int->Option Int->Hp->VK->Prop:=fun x lo hi H Q=>∃ a xs,x = .ref a/\SqL K H a xs/\∀ p,H p=none->Q (.ref p) (upd H p (.lst (cutV xs lo hi)))
theorem sl_list:SlR X (rSlL X.K):=by
 intro pins s σ H x v vl vu lo hi sl Q I rx hs pl pu h
 obtain ⟨a,xs,rfl,hx,q⟩:=h
 cases rx
 obtain ⟨its,r,ht,hz⟩:=I.list hx
 have hlen:=r.length
 refine ⟨"list",_,slot_list_getitem.lookup,ht.isList.typeIs,?_⟩
 refine wpAny_getItem_list_slice ht.isList hs pl pu .none (by simp) ?_ (by rw [List.size_toArray]<;>omega)
 rw [slicePick_cut,<- hlen]
 refine ⟨.ref s.heap.objs.size,_,I.laid (t':=s.toks) (o:=.lst (cutV xs lo hi)) (fun b ob q=>Heap.get?_push_of_some _ q) (Nat.le_refl _) ?_,rfl,q _ (I.hok.fresh (Nat.le_refl _))⟩
 exact ⟨Nat.le_trans (cutV_length xs lo hi) hz,_,0,(r.drop (HT.sIx xs.length 0 lo)).take (HT.sIx xs.length xs.length hi - HT.sIx xs.length 0 lo),Heap.get?_push_size _ rfl⟩
noncomputable def Ft:V->Bool
 | .non=>true
 | .bl _=>true
 | .int _=>true
 | .str _=>true
 | _=>false
noncomputable def eqV:V->V->Bool
 | .non,.non=>true
 | .bl a,.bl b=>a == b
 | .bl a,.int b=>(if a then 1 else 0) == b
 | .int a,.bl b=>a == (if b then 1 else 0)
 | .int a,.int b=>a == b
 | .str a,.str b=>a == b
 | _,_=>false
theorem eqAt_V {A:Around}{s:Shared}{y x:V}{u v:Value}(ry:RelV y u)(rx:RelV x v)(fy:Ft y=true)(fx:Ft x=true):SeqAt.EqAt A s u v (eqV y x):=by
 cases y with
 | non =>
  cases ry
  cases x with
  | non=>cases rx;exact SeqAt.EqAt.same _
  | bl b=>cases rx;exact SeqAt.EqAt.none_bool b
  | int b=>obtain ⟨t,rfl⟩:=rx;exact SeqAt.EqAt.none_int b t
  | str b=>obtain ⟨t,rfl⟩:=rx;exact SeqAt.EqAt.none_str b t
  | _=>exact absurd (show false=true from fx) Bool.false_ne_true
 | bl a =>
  cases ry
  cases x with
  | non=>cases rx;exact SeqAt.EqAt.bool_none a
  | bl b=>cases rx;exact SeqAt.EqAt.bool_bool a b
  | int b=>obtain ⟨t,rfl⟩:=rx;exact SeqAt.EqAt.bool_int a b t
  | str b=>obtain ⟨t,rfl⟩:=rx;exact SeqAt.EqAt.bool_str a b t
  | _=>exact absurd (show false=true from fx) Bool.false_ne_true
 | int a =>
  obtain ⟨t',rfl⟩:=ry
  cases x with
  | non=>cases rx;exact SeqAt.EqAt.int_none a t'
  | bl b=>cases rx;exact SeqAt.EqAt.int_bool a t' b
  | int b=>obtain ⟨t,rfl⟩:=rx;exact SeqAt.EqAt.int_int a t' b t
  | str b=>obtain ⟨t,rfl⟩:=rx;exact SeqAt.EqAt.int_str a t' b t
  | _=>exact absurd (show false=true from fx) Bool.false_ne_true
 | str a =>
  obtain ⟨t',rfl⟩:=ry
  cases x with
  | non=>cases rx;exact SeqAt.EqAt.str_none a t'
  | bl b=>cases rx;exact SeqAt.EqAt.str_bool a t' b
  | int b=>obtain ⟨t,rfl⟩:=rx;exact SeqAt.EqAt.str_int a t' b t
  | str b=>obtain ⟨t,rfl⟩:=rx;exact SeqAt.EqAt.str_str a t' b t
  | _=>exact absurd (show false=true from fx) Bool.false_ne_true
 | _=>exact absurd (show false=true from fy) Bool.false_ne_true
noncomputable def eqU (x:V)(u:Value):Bool:=match u with
 | .none=>eqV .non x
 | .bool b=>eqV (.bl b) x
 | .int i _=>eqV (.int i) x
 | .str z _=>eqV (.str z) x
 | _=>false
theorem eqU_of {x y:V}{u:Value}(r:RelV y u)(f:Ft y=true):eqU x u=eqV y x:=by
 cases y with
 | non=>cases r;rfl
 | bl b=>cases r;rfl
 | int i=>obtain ⟨t,rfl⟩:=r;rfl
 | str z=>obtain ⟨t,rfl⟩:=r;rfl
 | _=>exact absurd (show false=true from f) Bool.false_ne_true
theorem GM {x:V}:∀ {xs:List V}{us:List Value},Vals xs us->xs.all Ft=true->us.any (eqU x)=xs.any fun y=>eqV y x
 | _,_,.nil,_=>rfl
 | y::xs,u::us,.cons r t,f=>by
  rw [List.all_cons,Bool.and_eq_true] at f
  rw [List.any_cons,List.any_cons,eqU_of r f.1,GM t f.2]
theorem FP {A:Around}{s:Shared}{x:V}{v:Value}(rx:RelV x v)(fx:Ft x=true):∀ {xs:List V}{us:List Value},Vals xs us->xs.all Ft=true->∀ u∈us,SeqAt.EqAt A s u v (eqU x u)
 | _,_,.nil,_=>fun u hu=>by cases hu
 | y::xs,u::us,.cons r t,f=>fun u' hu=>by
  rw [List.all_cons,Bool.and_eq_true] at f
  rcases List.mem_cons.mp hu with rfl|hu
  ·rw [eqU_of r f.1];exact eqAt_V r rx f.1 fx
  ·exact FP rx fx t f.2 u' hu
noncomputable def inV (x:V)(xs:List V):Bool:=xs.any fun y=>eqV y x
noncomputable def rIn (K:FZ9)(neg:Bool):R2:=fun x y H Q=>∃ p xs,y = .ref p/\(SqL K H p xs\/SqT K H p xs)/\Ft x=true/\xs.all Ft=true/\Q (.bl (if neg then !inV x xs else inV x xs)) H
theorem op_in_seq:OpR X (compareOp .In) (rIn X.K false):=by
 intro pins s σ H x y v u Q I rx ry h
 obtain ⟨p,xs,rfl,hq,fx,fs,q⟩:=h
 cases ry
 rcases hq with hq|hq
 ·obtain ⟨its,r,pl,hz⟩:=I.list hq
  refine SeqAt.in_listAt (eqU x) pl.isList (fun w hw=>FP rx fx r fs w (by simpa using hw)) ⟨.bl _,H,I,rfl,?_⟩
  rw [show its.toArray.any (eqU x)=its.any (eqU x) by simp,GM r fs]
  exact q
 ·obtain ⟨its,r,pl,hz⟩:=I.tuple hq
  refine SeqAt.in_tupleAt (eqU x) pl (fun w hw=>FP rx fx r fs w (by simpa using hw)) ⟨.bl _,H,I,rfl,?_⟩
  rw [show its.toArray.any (eqU x)=its.any (eqU x) by simp,GM r fs]
  exact q
theorem op_notIn_seq:OpR X (compareOp .NotIn) (rIn X.K true):=by
 intro pins s σ H x y v u Q I rx ry h
 obtain ⟨p,xs,rfl,hq,fx,fs,q⟩:=h
 cases ry
 rcases hq with hq|hq
 ·obtain ⟨its,r,pl,hz⟩:=I.list hq
  refine SeqAt.notIn_listAt (eqU x) pl.isList (fun w hw=>FP rx fx r fs w (by simpa using hw)) ⟨.bl _,H,I,rfl,?_⟩
  rw [show its.toArray.any (eqU x)=its.any (eqU x) by simp,GM r fs]
  exact q
 ·obtain ⟨its,r,pl,hz⟩:=I.tuple hq
  refine SeqAt.notIn_tupleAt (eqU x) pl (fun w hw=>FP rx fx r fs w (by simpa using hw)) ⟨.bl _,H,I,rfl,?_⟩
  rw [show its.toArray.any (eqU x)=its.any (eqU x) by simp,GM r fs]
  exact q
theorem call_len_seq:DX X (.builtin "len") (fun xs H Q=>∃ p ys,xs=[.ref p]/\(SqL X.K H p ys\/SqT X.K H p ys)/\Q (.int ys.length) H):=by
 intro pins s σ H xs us Q I r h
 obtain ⟨p,ys,rfl,hq,q⟩:=h
 obtain ⟨u,rfl,rx⟩:=FJ r
 cases rx
 have hn:=Fy
 rcases hq with hq|hq
 ·obtain ⟨its,r',pl,hz⟩:=I.list hq
  have hlen:=r'.length
  exact Calls.call_len_list pl.isList (by simp only [List.size_toArray]<;>omega) ⟨.int ys.length,H,I.tok _,⟨s.toks+1,by rw [List.size_toArray,hlen]⟩,q⟩
 ·obtain ⟨its,r',pl,hz⟩:=I.tuple hq
  have hlen:=r'.length
  exact len_tuple pl (by simp only [List.size_toArray]<;>omega) ⟨.int ys.length,H,I.tok _,⟨s.toks+1,by rw [List.size_toArray,hlen]⟩,q⟩
theorem call_len_str:DX X (.builtin "len") (fun xs H Q=>∃ z,xs=[.str z]/\z.length<=sizeLine/\Q (.int z.length) H):=by
 intro pins s σ H xs us Q I r h
 obtain ⟨z,rfl,hz,q⟩:=h
 obtain ⟨u,rfl,t,rfl⟩:=FJ r
 have hn:=Fy
 exact len_str (by omega) ⟨.int z.length,H,I.tok _,⟨_,rfl⟩,q⟩
theorem call_list_of:DX X (.type "list") (fun xs H Q=>∃ p ys,xs=[.ref p]/\(SqL X.K H p ys\/SqT X.K H p ys)/\∀ l,H l=none->Q (.ref l) (upd H l (.lst ys))):=by
 intro pins s σ H xs us Q I r h
 obtain ⟨p,ys,rfl,hq,q⟩:=h
 obtain ⟨u,rfl,rx⟩:=FJ r
 cases rx
 have fin:∀ (its:List Value),Vals ys its->ys.length<=sizeLine->∀ (h':Heap) (c':Nat),(∀ b o',s.heap.get? b=some o'->h'.get? b=some o') ->
   h'.get? s.heap.objs.size=some { cls:=.type "list",dict:=none,data:=.seq its.toArray c',slots:=#[] }->EP X pins σ Q (.ref s.heap.objs.size) { s with heap:=h' }:=fun its r' hz h' c' kp e =>
  ⟨.ref s.heap.objs.size,_,I.laid (t':=s.toks) kp (Nat.le_refl _) (show ObjOk X.prog X.w _ h' _ (.lst ys) from ⟨hz,its,c',r',e⟩),rfl,q _ (I.hok.fresh (Nat.le_refl _))⟩
 rcases hq with hq|hq
 ·obtain ⟨its,r',pl,hz⟩:=I.list hq
  have hlen:=r'.length
  obtain ⟨o,ho,hc,n,hd⟩:=pl.isList
  exact call_list_seq p (.inl rfl) ho hc hd (fun h' c' kp e=>fin its r' hz h' c' kp e) (by simp only [List.size_toArray]<;>omega)
 ·obtain ⟨its,r',pl,hz⟩:=I.tuple hq
  have hlen:=r'.length
  obtain ⟨o,ho,hc,n,hd⟩:=pl
  exact call_list_seq p (.inr rfl) ho hc hd (fun h' c' kp e=>fin its r' hz h' c' kp e) (by simp only [List.size_toArray]<;>omega)
theorem call_tuple_of:DX X (.type "tuple") (fun xs H Q=>∃ p ys,xs=[.ref p]/\((SqL X.K H p ys/\∀ l,H l=none->Q (.ref l) (upd H l (.tup ys)))\/(SqT X.K H p ys/\Q (.ref p) H))):=by
 intro pins s σ H xs us Q I r h
 obtain ⟨p,ys,rfl,h⟩:=h
 obtain ⟨u,rfl,rx⟩:=FJ r
 cases rx
 rcases h with ⟨hq,q⟩ | ⟨hq,q⟩
 ·obtain ⟨its,r',pl,hz⟩:=I.list hq
  have hlen:=r'.length
  refine call_tuple_list pl.isList (fun h' kp=>?_) (by simp only [List.size_toArray]<;>omega)
  have I1:Inv X pins σ H { s with heap:=h' }:=I.kept (t':=s.toks) kp
  have I2:Inv X pins σ (upd H h'.objs.size (.tup ys)) { s with heap:=h'.push { cls:=.type "tuple",data:=.seq its.toArray } } :=
   I1.laid (t':=s.toks) (fun b o e=>Heap.get?_push_of_some _ e) (Nat.le_refl _) (show ObjOk X.prog X.w _ _ _ (.tup ys) from ⟨hz,its,r',IsTup.new _ _⟩)
  exact ⟨.ref h'.objs.size,_,I2,rfl,q _ (I1.hok.fresh (Nat.le_refl _))⟩
 ·obtain ⟨its,r',pl,hz⟩:=I.tuple hq
  exact call_tuple_same pl ⟨.ref p,H,I,rfl,q⟩
noncomputable def tyV (K:FZ9)(T:String)(x:V)(H:Hp):Prop:=match x with
 | .str _=>T = "str"
 | .int _=>T = "int"
 | .ref p=>(T = "list" /\ ∃ xs,SqL K H p xs)\/(T = "tuple" /\ ∃ o,K.lookup p=some o/\o.cls = .type "tuple" /\ o.dict=none) \/
   (T = "dict" /\ ((∃ kvs,H p=some (.dK kvs))\/∃ kvs,H p=some (.dT kvs)))\/(T = "set" /\ ∃ S n,H p=some (.set S n))
 | _=>False
theorem tyV_is {pins:List (Addr × Obj)}{σ:St}{H:Hp}{s:Shared}{T:String}{x:V}{v:Value}(I:Inv X pins σ H s)(r:RelV x v)(ty:tyV X.K T x H) :
  s.TypeIs v T/\∀ a,v = .ref a->∃ ob,s.heap.get? a=some ob/\ob.dict=none:=by
 cases x with
 | str z =>
  obtain ⟨t,rfl⟩:=r
  cases (show T = "str" from ty)
  exact ⟨typeIs_str s z t,fun _ e=>nomatch e⟩
 | int i =>
  obtain ⟨t,rfl⟩:=r
  cases (show T = "int" from ty)
  exact ⟨typeIs_int s i t,fun _ e=>nomatch e⟩
 | ref p =>
  cases r
  rcases ty with ⟨rfl,xs,hq⟩ | ⟨rfl,o,hk,hc,hd⟩ | ⟨rfl,hk⟩ | ⟨rfl,S,n,hk⟩
  ·obtain ⟨its,_,pl,_⟩:=I.list hq
   refine ⟨pl.isList.typeIs,fun a e=>?_⟩
   cases e
   obtain ⟨o,n,e,c,hd,_⟩:=pl
   exact ⟨o,e,hd⟩
  ·refine ⟨⟨o,I.kIn p o hk,hc⟩,fun a e=>?_⟩
   cases e
   exact ⟨o,I.kIn _ o hk,hd⟩
  ·have z:∃ o,s.heap.get? p=some o/\o.ExactDict:=by
    rcases hk with ⟨kvs,hk⟩ | ⟨kvs,hk⟩
    ·obtain ⟨_,_,_,_,o,_,_,e,ex,_⟩:=I.hok p _ hk
     exact ⟨o,e,ex⟩
    ·obtain ⟨_,_,_,_,o,_,_,e,ex,_⟩:=I.hok p _ hk
     exact ⟨o,e,ex⟩
   obtain ⟨o,e,ex⟩:=z
   refine ⟨⟨o,e,ex.1⟩,fun a e2=>?_⟩
   cases e2
   exact ⟨o,e,ex.2.1⟩
  ·obtain ⟨o,_,_,_,e,ex,_⟩:=I.hok p _ hk
   refine ⟨⟨o,e,ex.1⟩,fun a e2=>?_⟩
   cases e2
   exact ⟨o,e,ex.2.1⟩
 | _=>exact False.elim ty
noncomputable abbrev tBM0 (K:FZ9)(T:String)(r:V->List V->Hp->VK->Prop)(to:TE):TE:=fun σ H Q=>to σ H fun x H1=>tyV K T x H1/\r x [] H1 Q
noncomputable abbrev tBM (K:FZ9)(T:String)(r:V->List V->Hp->VK->Prop)(to:TE)(t:TA):TE:=fun σ H Q=>to σ H fun x H1=>tyV K T x H1/\t σ H1 fun xs H2=>r x xs H2 Q
variable {o e:Expr}{es:List Expr}{to:TE}{t:TA}{name:Str}{apos cpos:Pos}{T id:String}{r:V->List V->Hp->VK->Prop}
theorem pe_bm0 (pa:PlainAttrs T)(slot:Slot T name id)(hty:typeOf (.builtin id)=pure (.type "method_descriptor"))(hm:MtR X id r)(ho:PE X o to)
  (hbase:attributeBase o name X.env (eval o X.env)=eval o X.env:=by rfl) (hline:(apos.endLine == cpos.line)=true:=by rfl):PE X (.Call (.Attribute o name apos) [] [] cpos) (tBM0 X.K T r to):=by
 intro pins s σ H Q I h
 refine wpAny_Call_method0_late hbase hline (thn (ho pins s σ H _ I h) fun v s1 ⟨x,H1,I1,r1,ty,q1⟩=>?_)
 obtain ⟨h1,h2⟩:=tyV_is I1 r1 ty
 exact ⟨T,id,pa,slot,hty,h1,h2,Calls.callWith_builtin rfl (PySem.evalArgs_none (hm pins s1 σ H1 x [] v [] Q I1 r1 .nil q1))⟩
theorem pe_bm (pa:PlainAttrs T)(slot:Slot T name id)(hty:typeOf (.builtin id)=pure (.type "method_descriptor"))(hm:MtR X id r)(ho:PE X o to)(ha:PA X (e::es) t)
  (hbase:attributeBase o name X.env (eval o X.env)=eval o X.env:=by rfl)
  (hfew:((backTo cpos (starEach (e::es) X.env)).all (fun x=>!x.1) && (backToKw cpos (keywordEach [] X.env)).all (fun x=>x.1.isSome)
   && decide ((e::es).length+([]:List Keyword).length+(if ([]:List Keyword).isEmpty then 0 else 1)<30))=true:=by rfl)
  (hline:(apos.endLine == cpos.line)=true:=by rfl) (hs:starEach (e::es) X.env=(false,eval e X.env)::starEach es X.env:=by rfl) (hplain:(backTo cpos (starEach es X.env)).any (·.1)=false:=by rfl) :
  PE X (.Call (.Attribute o name apos) (e::es) [] cpos) (tBM X.K T r to t):=by
 intro pins s σ H Q I h
 refine wpAny_Call_method_late hbase hfew hline rfl (thn (ho pins s σ H _ I h) fun v s1 ⟨x,H1,I1,r1,ty,q1⟩=>?_)
 obtain ⟨h1,h2⟩:=tyV_is I1 r1 ty
 refine ⟨T,id,pa,slot,hty,h1,h2,?_⟩
 have hA:=ha cpos pins s1 σ H1 _ I1 q1
 rw [hs] at hA ⊢
 refine Calls.callWith_builtin (by show (false || (backTo cpos (starEach es X.env)).any (·.1))=false;rw [hplain]<;>rfl) (Calls.evalArgs_plain ?_)
 exact thn hA fun us s2 ⟨vs,H2,I2,r2,q2⟩=>hm pins s2 σ H2 x vs v us Q I2 r1 r2 q2
end
noncomputable def MtM (X:Cx)(id:String)(r:V->List V->Hp->VK->Prop):Prop :=
 ∀ (pins:List (Addr × Obj)) (s:Shared) (σ:St) (H:Hp) (x:V) (xs:List V) (v:Value) (us:List Value) (Q:VK),Inv X pins σ H s->RelV x v->Vals xs us->r x xs H Q ->
  wpAny (model X.prog X.w) X.A (call (.builtin id) (v::us)) (EP X pins σ Q) X.xe s
theorem Vals.one:∀ {x:V}{us:List Value},Vals [x] us->∃ u,us=[u]/\RelV x u
 | _,_,.cons r .nil=>⟨_,rfl,r⟩
theorem Vals.zero:∀ {us:List Value},Vals [] us->us=[]
 | _,.nil=>rfl
theorem Vals.dropLast {xs:List V}{us:List Value}(h:Vals xs us):Vals xs.dropLast us.dropLast:=by
 induction h with
 | nil=>exact .nil
 | cons r t ih =>
  cases t with
  | nil=>exact .nil
  | cons q t'=>exact .cons r ih
theorem Vals.reverse {xs:List V}{us:List Value}(h:Vals xs us):Vals xs.reverse us.reverse:=by
 induction h with
 | nil=>exact .nil
 | cons r t ih=>rw [List.reverse_cons,List.reverse_cons];exact Vals.append ih (.cons r .nil)
theorem Vals.rep {xs:List V}{us:List Value}(h:Vals xs us):∀ k:Nat,Vals (List.replicate k xs).flatten (List.replicate k us).flatten
 | 0=>.nil
 | k+1=>by
  rw [List.replicate_succ,List.replicate_succ,List.flatten_cons,List.flatten_cons]
  exact Vals.append h (Vals.rep h k)
theorem erase_last {α:Type}(l:List α):l.eraseIdx (l.length - 1)=l.dropLast:=by
 induction l with
 | nil=>rfl
 | cons a r ih =>
  cases r with
  | nil=>rfl
  | cons b r =>
   have e:(a::b::r).length - 1=((b::r).length - 1)+1:=by
    have h1:(a::b::r).length=r.length+2:=rfl
    have h2:(b::r).length=r.length+1:=rfl
    omega
   rw [e,List.eraseIdx_cons_succ,ih]
   all_goals rfl
theorem foldl_rep (its:List Value):∀ (k:Nat) (acc:List Value),
  List.foldl (fun x1 x2=>x1++x2) acc.toArray (List.replicate k its.toArray)=(acc++(List.replicate k its).flatten).toArray
 | 0,acc=>by simp
 | k+1,acc=>by
  have e:acc.toArray++its.toArray=(acc++its).toArray:=by simp
  have e2:(acc++its)++(List.replicate k its).flatten=acc++(List.replicate (k+1) its).flatten:=by
   rw [List.replicate_succ,List.flatten_cons,List.append_assoc]
  rw [<- e2,<- foldl_rep its k (acc++its),<- e,List.replicate_succ,List.foldl_cons]
section
variable {X:Cx}{pins:List (Addr × Obj)}{σ:St}{H:Hp}{s:Shared}{l b:Addr}{xs ys zs:List V}
theorem Inv.lset {its its':List Value}{n:Nat}{f:Array Value->Array Value}{t':Nat}(I:Inv X pins σ H s)(hH:H l=some (.lst xs))
  (e:s.heap.get? l=some { cls:=.type "list",data:=.seq its.toArray n }) (hf:f its.toArray=its'.toArray) (hv:Vals ys its') (hz:ys.length<=sizeLine) :
  Inv X pins σ (upd H l (.lst ys)) { s with heap:=s.heap.update l (Obj.mapSeq f),toks:=t' }:=by
 have q:=PySem.IsL.update e f
 rw [hf] at q
 refine I.write (x:=l) (e:=l) (by rw [hH];exact trivial) (.inl rfl) (fun b' u hb hu=>(Heap.get?_update_other s.heap (Obj.mapSeq f) (Ne.symm hb)).trans hu) ⟨_,q⟩ ?_
 exact ⟨hz,its',_,hv,q⟩
theorem Inv.lnew {its:List Value}{t':Nat}(I:Inv X pins σ H s)(hv:Vals ys its)(hz:ys.length<=sizeLine) :
  Inv X pins σ (upd H s.heap.objs.size (.lst ys)) { s with heap:=s.heap.push { cls:=.type "list",data:=.seq its.toArray },toks:=t' } :=
 I.laid (fun _ _ q=>Heap.get?_push_of_some _ q) (Nat.le_refl _) ⟨hz,its,0,hv,Heap.get?_push_size _ rfl⟩
theorem Inv.fresh (I:Inv X pins σ H s):H s.heap.objs.size=none:=I.hok.fresh (Nat.le_refl _)
theorem Inv.lstM (I:Inv X pins σ H s)(hH:H l=some (.lst xs)):xs.length<=sizeLine/\∃ (its:List Value) (n:Nat),Vals xs its/\xs.length=its.length/\s.heap.get? l=some { cls:=.type "list",data:=.seq its.toArray n }:=by
 obtain ⟨z,its,n,r,e⟩:=I.hok l _ hH
 exact ⟨z,its,n,r,r.length,e⟩
theorem notLongL {n:Nat}(h:n<=sizeLine):Builtin.List.listTooLong n=false:=by
 unfold Builtin.List.listTooLong
 exact decide_eq_false (by omega)
end
section
variable {X:Cx}
noncomputable def GT:V->List V->Hp->VK->Prop:=fun x vs H Q=>∃ l xs y,x = .ref l/\vs=[y]/\H l=some (.lst xs)/\xs.length<sizeLine/\Q .non (upd H l (.lst (xs++[y])))
theorem BK:MtM X "list.append" GT:=by
 intro pins s σ H x vs v us Q I rx rv h
 obtain ⟨l,xs,y,rfl,rfl,hH,hz,q⟩:=h
 cases rx
 obtain ⟨u,rfl,ru⟩:=rv.one
 obtain ⟨z,its,n,r,hl,e⟩:=I.lstM hH
 refine call_meets F.slot_list_append ⟨_,e,rfl⟩ F.entry_list_append (F.args_list_append_2 _ _) (PySem.list_append l its.toArray n u (by rw [List.size_toArray];omega)) ⟨e,?_⟩
 refine ⟨.non,_,I.lset (its':=its++[u]) hH e (by simp) (r.append (.cons ru .nil)) ?_,rfl,q⟩
 rw [List.length_append,List.length_singleton]
 omega
noncomputable def rPop:V->List V->Hp->VK->Prop:=fun x vs H Q=>∃ l xs y,x = .ref l/\vs=[]/\H l=some (.lst xs)/\xs[xs.length - 1]? = some y/\Q y (upd H l (.lst xs.dropLast))
theorem mt_pop:MtM X "list.pop" rPop:=by
 intro pins s σ H x vs v us Q I rx rv h
 obtain ⟨l,xs,y,rfl,rfl,hH,hy,q⟩:=h
 cases rx
 have hus:=rv.zero
 subst hus
 obtain ⟨z,its,n,r,hl,e⟩:=I.lstM hH
 obtain ⟨u,hu,ru⟩:=r.get hy
 have hy':its.toArray[its.toArray.size - 1]? = some u:=by
  show its.toArray[its.length - 1]? = some u
  rw [<- Array.getElem?_toList,<- hl]
  exact hu
 refine call_meets F.slot_list_pop ⟨_,e,rfl⟩ F.entry_list_pop (F.args_list_pop_1 _) (MeetsSeq.list_pop_last l its.toArray n u hy' (by rw [List.size_toArray];omega)) ⟨e,?_⟩
 refine ⟨y,_,I.lset (its':=its.dropLast) hH e ?_ r.dropLast ?_,ru,q⟩
 ·show its.toArray.eraseIdxIfInBounds (its.toArray.size - 1)=its.dropLast.toArray
  rw [List.size_toArray,List.eraseIdxIfInBounds_toArray,erase_last]
 ·rw [List.length_dropLast]
  omega
noncomputable def rRep:R2:=fun x y H Q=>∃ l k xs,x = .ref l/\y = .int k/\H l=some (.lst xs)/\-(2 ^ 63)<=k/\k<2 ^ 63/\xs.length * k.toNat<=sizeLine /\
 ∀ p,H p=none->Q (.ref p) (upd H p (.lst (List.replicate k.toNat xs).flatten))
theorem len_rep {α:Type}(xs:List α)(k:Nat):(List.replicate k xs).flatten.length=k * xs.length:=by
 induction k with
 | zero=>simp
 | succ k ih=>rw [List.replicate_succ,List.flatten_cons,List.length_append,ih,Nat.succ_mul,Nat.add_comm]
theorem op_rep:OpR X (binaryOp .Mult) rRep:=by
 intro pins s σ H x y v u Q I rx ry h
 obtain ⟨l,k,xs,rfl,rfl,hH,h1,h2,hz,q⟩:=h
 cases rx
 obtain ⟨t,rfl⟩:=ry
 obtain ⟨z,its,n,r,hl,e⟩:=I.lstM hH
 have hlen:its.toArray.size * k.toNat<=sizeLine:=by rw [List.size_toArray,<- hl];exact hz
 have hcap:¬ its.toArray.size * k.toNat > (2 ^ 63 - 1) / 8:=by
  have:(sizeLine:Nat)<=(2 ^ 63 - 1) / 8:=by decide
  omega
 have hfit:¬ (!Builtin.List.listFitsIndex k)=true:=by
  rw [fitsIndex_both h1 h2]
  exact Bool.false_ne_true
 have hlong:¬ Builtin.List.listTooLong (its.toArray.size * k.toNat)=true:=by
  rw [notLongL hlen]
  exact Bool.false_ne_true
 have hnew:List.foldl (fun x1 x2=>x1++x2) #[] (List.replicate (if its.toArray.isEmpty=true then 0 else k.toNat) its.toArray)=(List.replicate k.toNat its).flatten.toArray:=by
  have f0:∀ m:Nat,List.foldl (fun x1 x2=>x1++x2) #[] (List.replicate m its.toArray)=(List.replicate m its).flatten.toArray:=fun m=>by
   have:=foldl_rep its m []
   rw [List.nil_append] at this
   exact this
  rw [f0]
  cases its with
  | nil=>simp
  | cons a r'=>rw [if_neg (by simp)]
 refine wpAny_binaryOp_repeat_ref (T := "list") (U := "int") (by decide) ⟨_,e,rfl⟩ (fun s'=>typeIs_int s' k t) noFill_list_mul F.fills_int_mul F.slot_int_rmul repeat_list F.slot_int_index.lookup
  (call_meets F.slot_int_rmul (typeIs_int s k t) F.entry_int_rmul (F.args_int_rmul_2 _ _) (int___rmul___int_list k t l its.toArray n)
   ⟨e,rfl,⟨_,e,rfl⟩,call_meets F.slot_list_mul ⟨_,e,rfl⟩ F.entry_list_mul (F.args_list_mul_2 _ _) (AutoListH.list___mul___list_int_3 l its.toArray n k t hfit hcap hlong) ⟨e,?_⟩⟩)
 rw [hnew]
 exact ⟨.ref _,_,I.lnew (t':=s.toks) (r.rep k.toNat) (by rw [len_rep,Nat.mul_comm];exact hz),rfl,q _ I.fresh⟩
end
section
variable {prog:Program}{w:World}{A:Around}{E:Value->Shared->Prop}{s:Shared}
end
section
variable {X:Cx}
end
end L2
namespace Att
open PySem PySem.W PySem.Calls PyProof.Rows
theorem ints_of_wellAll {P:Params}{h:Heap}:∀ (ns:List Int) (vs:List Value),WellAll P h vs (ns.map WData.int)->IntsAre vs ns:=by
 intro ns
 induction ns with
 | nil =>
  intro vs w
  rw [List.map_nil] at w
  cases w
  exact .nil
 | cons n ns ih =>
  intro vs w
  rw [List.map_cons] at w
  cases w with
  | cons a b =>
   cases a
   exact .cons _ _ (ih _ b)
theorem script_of {l:OpenLaw}{n:Nat}(hn:l.most=some n){P:Params}{h:Heap}{args:List WData}{vals:List Value}
  (hpre:l.row.toRowW.claim.pre args=true) (hwl:WellAll P h vals args) :
  ∃ a vs ns,vals=[Value.ref a]/\args=[WData.list (ns.map WData.int)]/\h.get? a=some { cls:=.type "list",data:=.seq vs.toArray }/\IntsAre vs ns/\ns.length<=n:=by
 have hsh:WShape.hasAll [] args [.list .int]=true:=(pre_splitW hpre).1
 have hc:l.pre.holds [] { args:=args }=true:=(pre_splitW hpre).2
 obtain ⟨d,r,rfl,h1,h2⟩:=hasAllW_cons hsh
 obtain rfl:=hasAllW_nil h2
 obtain ⟨xs,rfl,h3⟩:=hasW_list h1
 obtain ⟨ns,rfl⟩:=items_int h3
 have hlen:ns.length<=n:=by
  unfold OpenLaw.pre at hc
  have h4:(WTm.not (.lt (.lit (.int (n:Int))) (.len (.arg 0)))).holds [] { args:=[.list (ns.map .int)] }=true:=by
   have h4:=(holds_andW hc).1
   rw [hn] at h4
   exact h4
  have h5:=condW_of h4 (w_not (w_lt w_lit (w_len_list (w_arg rfl))))
  rw [List.length_map] at h5
  refine Nat.le_of_not_lt fun q=>?_
  have q':(n:Int)<((ns.length:Nat):Int):=by omega
  first
   | (rw [decide_eq_true q'] at h5;exact absurd h5 (by decide))
   | (simp at h5;omega)
 cases hwl with
 | cons w1 w2 =>
  cases w2
  cases w1 with
  | list ho hall=>exact ⟨_,_,ns,rfl,rfl,ho,ints_of_wellAll ns _ hall,hlen⟩
theorem post_true (l:OpenLaw)(args:List WData):l.row.toRowW.claim.post args (.bool true) args=true :=
 postW_of (r:=l.row.toRowW) (X:=(true == true))
  (show WShape.has [] (.bool true) .bool=true by first|rfl|decide|simp [WShape.has,WShape.arms,WShape.armsAll])
  (show (WTm.eq .res (.lit (.bool true))).value [] { args:=args,res:=some (.bool true),after:=args }=some (.bool (true == true)) from w_eq_bool (w_res rfl) w_lit) rfl
theorem attach_call {l:OpenLaw}{n:Nat}{q:Program}{loose:List Str}{XP:(Str->Option Value)->Heap->Prop}{YP:World->Heap->Prop}{d:DefRec}
  (hn:l.most=some n) (hdf:d.params.defaults=[])
  (call:∀ (w:World) (s₀ s₁:Shared) (mg mb:Str->Option Value) (fa:Addr) (o:Obj) (pm cd doc:Value) (a:Addr) (vs:List Value) (ns:List Int),
   Ground q loose [] XP w s₀ mg mb s₁.heap->YP w s₁.heap ->
   s₁.heap.get? fa=some o->o.data = .func (docDef d.name d.params d.body d.scope pm cd doc)->s₁.heap.CodeRec cd d.name->mg d.name=some (.ref fa) ->
   s₁.heap.get? a=some { cls:=.type "list",data:=.seq vs.toArray }->IntsAre vs ns->ns.length<=n->s₁.gens = #[] ->
   codeAny (model l.prog w) callerA (.call (.ref fa) ⟨[.ref a],[]⟩) (fun r s'=>r = .ok (.ret (.bool true))/\OldK s₁.heap s'.heap/\s'.os=s₁.os/\AllBare s'.gens) s₁) :
  WalkO q loose XP YP l.row.toRowW d [] (fun f vs=>PySem.call f vs):=by
 intro w s₀ s₁ mg mb G Y fa o pm cd doc dV kV ho hd hcd hD hmg hg args vals as hpre hlay hrd hwl hlo
 obtain rfl:dV = .none:=Dflts.none hD hdf
 obtain rfl:kV = .none:=Dflts.noKw hD
 obtain ⟨a,vs,ns,rfl,rfl,hobj,hints,hlen⟩:=script_of hn hpre hwl
 refine enter_call (codeAny_mono (call w s₀ s₁ mg mb fa o pm cd doc a vs ns G Y ho (fd_plain hd) hcd hmg hobj hints hlen hg) fun r s' hq=>?_)
 obtain ⟨rfl,h2,h3,h4⟩:=hq
 exact ⟨.inl ⟨.bool true,.bool true,[],rfl,fun _=>rfl,.bool true,post_true l _,fun _=>⟨List.Pairwise.nil,fun _ hm=>(nomatch hm)⟩⟩,h2,h3,h4⟩
section
variable {prog:Program}{w:World}{A:Around}{E:Value->Shared->Prop}{s:Shared}{K:Frag}
end
end Att
namespace L2
open PySem PySem.Spec PyProof.Rows
theorem vals_ints:∀ {vs:List Value}{ns:List Int},IntsAre vs ns->Vals (ns.map V.int) vs
 | _,_,.nil=>.nil
 | _,_,.cons n t h=>.cons ⟨t,rfl⟩ (vals_ints h)
noncomputable def Only (H:Hp):Prop:=∀ b,H b=none\/∃ o xs,H b=some (.frz o (.lst xs))
theorem law_call {P:Program}{w:World}{K:FZ9}{mg mb:Str->Option Value}{CX:CXT}{k:Nat}{fa a:Addr}{fd:FuncData}{x:Str}{sp:Sp}{s₁:Shared}{vs:List Value}{ns:List Int}
  (KX:K.In s₁.heap) (hns:s₁.heap.Ns mainGlobals mg) (hb:s₁.heap.Ns builtinsNs mb) (hbb:∀ x:Str,x ≠ "__name__" -> mb x=bootBuiltins x) (hlim:s₁.heap.NoLimit) (hg:s₁.gens = #[])
  (ha:s₁.heap.get? a=some { cls:=.type "list",data:=.seq vs.toArray }) (hi:IntsAre vs ns) (hl:ns.length<=sizeLine) (hr:Room k callerA)
  (F:∀ base:Heap,K.In base->base.Ns mainGlobals mg->FnOk P w K mg base CX k fa fd [x] sp) (hbind:∀ (s:Shared) (u:Value),BindsTo s fd ⟨[u],[]⟩ [(x,u)])
  (hsp:∀ H:Hp,Only H->SqL K H a (ns.map V.int)->sp [.ref a] H (fun v _=>v = .bl true) fun _ _ _=>False)
  (hCX:∀ H e s',CX [] H s₁ (fun _ _ _=>False) e s'->False) :
  codeAny (model P w) callerA (.call (.ref fa) ⟨[.ref a],[]⟩) (fun r s'=>r = .ok (.ret (.bool true))/\OldK s₁.heap s'.heap/\s'.os=s₁.os/\AllBare s'.gens) s₁:=by
 have rv:=vals_ints hi
 have lenV:=hi.length
 have core:∀ H:Hp,Only H->SqL K H a (ns.map V.int)->HOk P w H s₁.heap->(∀ b,H b≠none->b=a)->(H a≠none->K.lookup a=none) ->
   codeAny (model P w) callerA (.call (.ref fa) ⟨[.ref a],[]⟩) (fun r s'=>r = .ok (.ret (.bool true))/\OldK s₁.heap s'.heap/\s'.os=s₁.os/\AllBare s'.gens) s₁:=by
  intro H hO hS hok hA hK
  have base_of:∀ {b:Addr}{o:Obj},s₁.heap.get? b=some o->H b=none->(hidT s₁.heap H).get? b=some o:=fun e n=>hidT_get e n
  have noA:∀ {b:Addr}{o:Obj}{es:Array DictEntry}{ep:Nat},s₁.heap.get? b=some o->o.data = .dict es ep->H b=none:=fun {b o es ep} e d=>by
   cases q:H b with
   | none=>rfl
   | some u =>
    have e':b=a:=hA b (by rw [q];simp)
    subst e'
    rw [ha] at e;cases e
    have d':Data.seq vs.toArray _=Data.dict es ep:=d
    cases d'
  have nsK:∀ {b:Addr}{m:Str->Option Value},s₁.heap.Ns b m->(hidT s₁.heap H).Ns b m:=fun {b m} ⟨o,es,ep,e,d,r⟩=>⟨o,es,ep,base_of e (noA e d),d,r⟩
  have hKb:K.In (hidT s₁.heap H):=fun b o e=>base_of (KX b o e) (by
   cases q:H b with
   | none=>rfl
   | some u =>
    have e':b=a:=hA b (by rw [q];simp)
    subst e'
    rw [hK (by rw [q];simp)] at e;cases e)
  have hM:Mod K mg (hidT s₁.heap H):=⟨hKb,nsK hns,⟨mb,nsK hb,hbb⟩,let ⟨mc,h1,h2⟩:=hlim;⟨mc,nsK h1,h2⟩⟩
  have e0:Env0 P w K mg (hidT s₁.heap H) callerA [] s₁ H:=⟨rfl,hM,fun b o e=>of_hidT e,Nat.le_of_eq (hidT_size _ _),trivial,fun b hb=>absurd (show b∈([]:List Addr) from hb) (by simp),hok,.of_eq hg⟩
  refine codeAny_mono ((F _ hKb (nsK hns)).run callerA [] s₁ H ⟨[.ref a],[]⟩ [.ref a] [.ref a] _ _ hr e0 (hbind s₁ (.ref a)) (.cons rfl .nil) (hsp H hO hS)) fun r s' h=>?_
  cases r with
  | error e=>exact (hCX H e s' h).elim
  | ok fl =>
   cases fl with
   | next=>exact False.elim h
   | brk=>exact False.elim h
   | cont=>exact False.elim h
   | ret u =>
    obtain ⟨v,H',os,bare,un,hok',r',q⟩:=h
    have q':v = .bl true:=q
    subst q'
    obtain rfl:u=Value.bool true:=r'
    refine ⟨rfl,OldK.of_keep fun b o e=>?_,os,bare⟩
    cases q:H b with
    | none=>exact un.keep b o e q (by intro z;exact absurd (show b∈([]:List Addr) from z) (by simp)) (by simp)
    | some u =>
     rcases hO b with z | ⟨ob,xs,z⟩
     ·rw [q] at z;cases z
     ·have z2:=un.frzs b ob _ z
      obtain ⟨e1,_⟩:=hok b _ z
      obtain ⟨e2,_⟩:=hok' b _ z2
      rw [e] at e1;cases e1
      exact e2
 cases hk:K.lookup a with
 | some o =>
  have e:=KX a o hk
  rw [ha] at e
  cases e
  refine core (fun _=>none) (fun _=>.inl rfl) (.inr ⟨_,vs.toArray,_,hk,rfl,rfl,rfl,by rw [List.size_toArray,lenV];exact hl,by simpa using rv⟩) (fun b u z=>by have z':(none:Option HO)=some u:=z;cases z') (fun b z=>absurd rfl z) fun z=>absurd rfl z
 | none =>
  refine core (fun b=>if b=a then some (.frz { cls:=.type "list",data:=.seq vs.toArray } (.lst (ns.map V.int))) else none) (fun b=>?_) (.inl (.inr ⟨{ cls:=.type "list",data:=.seq vs.toArray },if_pos rfl⟩)) (fun b u z=>?_) (fun b z=>?_) fun _=>hk
  ·by_cases hb:b=a
   ·exact .inr ⟨_,_,if_pos hb⟩
   ·exact .inl (if_neg hb)
  ·by_cases hb:b=a
   ·have z':=(if_pos hb).symm.trans z
    cases z'
    subst hb
    exact ⟨ha,by rw [List.length_map];exact hl,vs,_,rv,ha⟩
   ·have z':=(if_neg hb).symm.trans z
    cases z'
  ·by_cases hb:b=a
   ·exact hb
   ·exact absurd (if_neg hb) z
theorem walk_of {l:PySem.W.OpenLaw}{n k:Nat}{q:Program}{loose:List Str}{XP:(Str->Option Value)->Heap->Prop}{YP:World->Heap->Prop}{d:DefRec}{K:Params->FZ9}{CX:World->CXT}{sp:World->Sp}{x:Str}
  (hn:l.most=some n) (hn2:n<=sizeLine) (hdf:d.params.defaults=[]) (hr:Room k callerA)
  (hY:∀ (w:World) (h:Heap),YP w h->(K w.params).In h)
  (F:∀ (w:World) (mg:Str->Option Value) (fa:Addr) (h:Heap),(K w.params).In h->h.Ns mainGlobals mg->mg d.name=some (.ref fa) ->
   ∃ fd:FuncData,(∀ (s:Shared) (u:Value),BindsTo s fd ⟨[u],[]⟩ [(x,u)]) /\
    ∀ base:Heap,(K w.params).In base->base.Ns mainGlobals mg->FnOk l.prog w (K w.params) mg base (CX w) k fa fd [x] (sp w))
  (hsp:∀ (w:World) (H:Hp) (a:Addr) (ns:List Int),ns.length<=n->Only H->SqL (K w.params) H a (ns.map V.int)->sp w [.ref a] H (fun v _=>v = .bl true) fun _ _ _=>False)
  (hCX:∀ (w:World) (H:Hp) (s:Shared) (e:Value) (s':Shared),CX w [] H s (fun _ _ _=>False) e s'->False) :
  PySem.W.WalkO q loose XP YP l.row.toRowW d [] (fun f vs=>PySem.call f vs):=by
 refine Att.attach_call hn hdf fun w s₀ s₁ mg mb fa o pm cd doc a vs ns G Y ho hd hcd hmg hobj hints hlen hg=>?_
 have KX:=hY w _ Y
 obtain ⟨fd,hb,hF⟩:=F w mg fa _ KX G.T.g hmg
 exact law_call KX G.T.g G.T.b G.T.builtins G.T.nolimit hg hobj hints (Nat.le_trans hlen hn2) hr hF hb (fun H hO hS=>hsp w H a ns hlen hO hS) fun H e s'=>hCX w H s₁ e s'
noncomputable def AY (s:Stmt):Arguments:=match s with
 | .FunctionDef _ a _ _ _ _ _ _ _ _=>a
 | _=>{ posonlyargs:=[],args:=[],vararg:=none,kwonlyargs:=[],kw_defaults:=[],kwarg:=none,defaults:=[] }
noncomputable def AW (s:Stmt):List Stmt:=match s with
 | .FunctionDef _ _ b _ _ _ _ _ _ _=>b
 | _=>[]
noncomputable def AF (s:Stmt):Scope:=match s with
 | .FunctionDef _ _ _ _ _ _ sc _ _ _=>sc
 | _=>{ kind:=.function,names:=[],isGenerator:=false,isCoroutine:=false }
noncomputable abbrev CX0:CXT:=fun _ _ _ _ _ _=>False
noncomputable abbrev E0:XK:=fun _ _ _=>False
theorem pass0 {X:Cx}:Passes CX0 X E0:=fun _ _ _ _ _ _ _ h=>h.elim
structure Fun (K:FZ9)(x qual:Str)(st:Stmt)(f:Addr)(fd:FuncData):Prop where
 ex:∃ (oc:Value) (od:Option Addr) (kV doc pm:Value) (an:Option Addr) (cdv ct:Value) (osl:Array (Option Value)),
  fd=PySem.W.fnOf x qual (AY st) (AW st) (AF st) .none kV doc pm an cdv ct/\K.lookup f=some ⟨oc,od,.func fd,osl⟩/\PySem.W.codeIn K cdv qual=true
 kp:PySem.W.keepIn K (.ref f)=true
section
variable {P:Program}{w:World}{K:FZ9}{mg:Str->Option Value}{base:Heap}
theorem Fun.ok {x qual:Str}{st:Stmt}{f:Addr}{fd:FuncData}{N ps:List Str}{k:Nat}{sp:Sp}(F:Fun K x qual st f fd)(S:FnScope N ps (AF st))(len:∀ vs H Q E,sp vs H Q E->vs.length=ps.length)
  (hbody:∀ (cdv:Value) (A:Around) (outer:List Env) (s:Shared) (H:Hp) (vs:List V) (Q:VK) (E:XK),Room k (A.deeper (envOfC qual (AF st) s.heap.objs.size f cdv))->sp vs H Q E ->
   ∃ t,PSs (cxOf CX0 P w K mg base N qual (AF st) f cdv A outer s H E).nox (AW st) t/\t { nx:=fun _ H'=>Q .non H',rt:=Q } (start N vs) H):FnOk P w K mg base CX0 (k+1) f fd ps sp:=by
 obtain ⟨oc,od,kV,doc,pm,an,cdv,ct,osl,rfl,lk,hcd⟩:=F.ex
 refine fn_of lk hcd S len fun A outer s H vs Q E hr hsp=>?_
 obtain ⟨t,h,q⟩:=hbody cdv A outer s H vs Q E hr hsp
 exact ⟨t,h.nox,q⟩
theorem Fun.binds {x qual:Str}{st:Stmt}{f:Addr}{fd:FuncData}{ps:List Str}(F:Fun K x qual st f fd)
  (h:∀ (kV doc pm:Value) (an:Option Addr) (cdv ct:Value) (us:List Value),us.length=ps.length->bindArgs (PySem.W.fnOf x qual (AY st) (AW st) (AF st) .none kV doc pm an cdv ct) ⟨us,[]⟩=pure (ps.zip us)):Binds K fd ps []:=by
 obtain ⟨oc,od,kV,doc,pm,an,cdv,ct,osl,rfl,lk,hcd⟩:=F.ex
 exact .all (h kV doc pm an cdv ct)
theorem B6 {x qual:Str}{st:Stmt}{f:Addr}{oc:Value}{od an:Option Addr}{osl:Array (Option Value)}{kV doc pm cdv ct:Value}(l:K.lookup f=some ⟨oc,od,.func (PySem.W.fnOf x qual (AY st) (AW st) (AF st) .none kV doc pm an cdv ct),osl⟩)
  (c:PySem.W.codeIn K cdv qual=true) (k:PySem.W.keepIn K (.ref f)=true):Fun K x qual st f (PySem.W.fnOf x qual (AY st) (AW st) (AF st) .none kV doc pm an cdv ct):=⟨⟨oc,od,kV,doc,pm,an,cdv,ct,osl,rfl,l,c⟩,k⟩
end
section
variable {X:Cx}
theorem pv (i:Nat){x:Str}{pos:Pos}(hN:X.N[i]? = some x:=by rfl)(hv:Vis X.env.scope x:=by first|exact Or.inl rfl|exact Or.inr (Or.inl rfl)|exact Or.inr (Or.inr rfl))(hd:(x == ("__debug__" : Str))=false:=by decide)
  (hcd:(x == ("__classdict__" : Str))=false:=by decide):PE X (.Name x pos) (FR i):=pe_var hN hv hd hcd
end
theorem CG {A B:Prop}(h:B):if false=true then A else B:=by
 rw [if_neg Bool.false_ne_true]
 exact h
theorem CN {A B:Prop}(h:A):if true=true then A else B:=by
 rw [if_pos rfl]
 exact h
noncomputable def Same (H H':Hp):Prop:=∀ b o,H b=some o->H' b=some o
theorem Same.refl (H:Hp):Same H H:=fun _ _ h=>h
theorem Same.trans {H H1 H2:Hp}(a:Same H H1)(b:Same H1 H2):Same H H2:=fun c o h=>b c o (a c o h)
theorem Same.free {H H':Hp}(e:Same H H'){l:Addr}(h:H' l=Option.none):H l=Option.none:=by
 cases q:H l with
 | none=>rfl
 | some o =>
  rw [e l o q] at h
  cases h
theorem Same.seq {K:FZ9}{H H':Hp}{a:Addr}{xs:List V}(e:Same H H')(h:SqL K H a xs):SqL K H' a xs:=by
 rcases h with (h | ⟨o,h⟩)|h
 ·exact .inl (.inl (e _ _ h))
 ·exact .inl (.inr ⟨o,e _ _ h⟩)
 ·exact .inr h
section
variable {κ:Type}[DecidableEq κ]
noncomputable def GQ (kvs:List (κ × V))(k:κ):Option V:=(kvs.find? fun kv=>decide (kv.1=k)).map (·.2)
noncomputable def EX (kvs:List (κ × V))(k:κ)(v:V):List (κ × V) :=
 if (kvs.any fun kv=>decide (kv.1=k))=true then kvs.map (fun kv=>if kv.1=k then (kv.1,v) else kv) else kvs++[(k,v)]
theorem valV_pos {p:κ × V}{r:List (κ × V)}{k:κ}(e:p.1=k):GQ (p::r) k=some p.2:=by simp [GQ,List.find?_cons,e]
theorem valV_neg {p:κ × V}{r:List (κ × V)}{k:κ}(e:¬ p.1=k):GQ (p::r) k=GQ r k:=by simp [GQ,List.find?_cons,e]
theorem valV_any (k:κ):∀ kvs:List (κ × V),(kvs.any fun kv=>decide (kv.1=k))=(GQ kvs k).isSome
 | []=>rfl
 | p::r=>by
  rw [List.any_cons]
  by_cases e:p.1=k
  ·simp only [valV_pos e,decide_eq_true e,Bool.true_or,Option.isSome_some]
  ·rw [valV_neg e,decide_eq_false e,Bool.false_or];exact valV_any k r
theorem FN (kvs:List (κ × V))(k:κ)(v:V):(EX kvs k v).length<=kvs.length+1:=by
 unfold EX
 split
 ·rw [List.length_map];omega
 ·rw [List.length_append,List.length_cons,List.length_nil];omega
theorem RelO.isSome_eq {o:Option V}{u:Option Value}(r:RelO o u):o.isSome=u.isSome:=by
 cases o with
 | none=>cases u with
  | none=>rfl
  | some _=>exact (show False from r).elim
 | some _=>cases u with
  | none=>exact (show False from r).elim
  | some _=>rfl
theorem KV.val {kvs:List (κ × V)}{vs:List (κ × Value)}(r:KV kvs vs)(k:κ):RelO (GQ kvs k) (valueAt vs k):=by
 unfold KV at r
 induction r with
 | nil=>exact True.intro
 | @cons p q ps qs h t ih =>
  obtain ⟨h1,h2⟩:=h
  by_cases e:p.1=k
  ·have e':q.1=k:=h1.symm.trans e
   have b:valueAt (q::qs) k=some q.2:=by simp [valueAt,List.find?_cons,e']
   rw [valV_pos e,b];exact h2
  ·have e':¬ q.1=k:=fun z=>e (h1.trans z)
   have b:valueAt (q::qs) k=valueAt qs k:=by simp [valueAt,List.find?_cons,e']
   rw [valV_neg e,b];exact ih
theorem KV.any {kvs:List (κ × V)}{vs:List (κ × Value)}(r:KV kvs vs)(k:κ):(kvs.any fun kv=>decide (kv.1=k))=vs.any fun kv=>decide (kv.1=k):=by
 unfold KV at r
 induction r with
 | nil=>rfl
 | cons h t ih=>rw [List.any_cons,List.any_cons,ih,h.1]
theorem KV.repl {kvs:List (κ × V)}{vs:List (κ × Value)}(r:KV kvs vs)(k:κ){y:V}{u:Value}(ry:RelV y u) :
  KV (kvs.map fun kv=>if kv.1=k then (kv.1,y) else kv) (vs.map fun kv=>if kv.1=k then (kv.1,u) else kv):=by
 unfold KV at r ⊢
 induction r with
 | nil=>exact .nil
 | @cons p q ps qs h t ih =>
  rw [List.map_cons,List.map_cons]
  refine .cons ?_ ih
  obtain ⟨h1,h2⟩:=h
  by_cases e:p.1=k
  ·rw [if_pos e,if_pos (h1.symm.trans e)];exact ⟨h1,ry⟩
  ·rw [if_neg e,if_neg (fun z=>e (h1.trans z))];exact ⟨h1,h2⟩
theorem KV.put {kvs:List (κ × V)}{vs:List (κ × Value)}(r:KV kvs vs)(k:κ){y:V}{u:Value}(ry:RelV y u):KV (EX kvs k y) (stored vs k u):=by
 unfold EX stored
 rw [r.any k]
 by_cases e:(vs.any fun kv=>decide (kv.1=k))=true
 ·rw [if_pos e,if_pos e];exact r.repl k ry
 ·rw [if_neg e,if_neg e];exact Paired.snoc r ⟨rfl,ry⟩
theorem KV.length {kvs:List (κ × V)}{vs:List (κ × Value)}(r:KV kvs vs):kvs.length=vs.length:=Paired.length r
end
theorem kV_is {P:Program}{w:World}{k:Key}{u:Value}(r:RelV (kV k) u):(BB P w).is k u=true:=by
 cases k with
 | inl i=>obtain ⟨t,e⟩:=(show ∃ t,u=Value.int i t from r);subst e;exact mixKind_int P w i t
 | inr x=>obtain ⟨t,e⟩:=(show ∃ t,u=Value.str x t from r);subst e;exact mixKind_str P w x t
theorem items_are {P:Program}{w:World}:∀ {ks:List Key}{us:List Value},Vals (ks.map kV) us->ItemsAre (BB P w) ks us
 | [],_,r=>by rw [List.map_nil] at r;cases r;exact .nil
 | k::ks,_,r=>by
  rw [List.map_cons] at r
  cases r with
  | cons h t=>exact .cons (kV_is h) (items_are t)
noncomputable abbrev KT (H:Hp):List (List Key × V)->List (List Key × Addr × Value)->Prop:=Paired fun p q=>p.1=q.1/\H q.2.1=some (.tup (p.1.map kV))/\RelV p.2 q.2.2
theorem KT.val {H:Hp}{kvs:List (List Key × V)}{xs:List (List Key × Addr × Value)}(r:KT H kvs xs)(k:List Key):RelO (GQ kvs k) ((atKey xs k).map (·.2)):=by
 induction r with
 | nil=>exact True.intro
 | @cons p q ps qs h t ih =>
  obtain ⟨h1,_,h2⟩:=h
  by_cases e:p.1=k
  ·have e':q.1=k:=h1.symm.trans e
   have b:atKey (q::qs) k=some q.2:=by simp [atKey,List.find?_cons,e']
   rw [valV_pos e,b];exact h2
  ·have e':¬ q.1=k:=fun z=>e (h1.trans z)
   have b:atKey (q::qs) k=atKey qs k:=by simp [atKey,List.find?_cons,e']
   rw [valV_neg e,b];exact ih
theorem KT.repl {H:Hp}{kvs:List (List Key × V)}{xs:List (List Key × Addr × Value)}(r:KT H kvs xs)(k:List Key){y:V}{u:Value}(ry:RelV y u) :
  KT H (kvs.map fun kv=>if kv.1=k then (kv.1,y) else kv) (xs.map (putAt k u)):=by
 induction r with
 | nil=>exact .nil
 | @cons p q ps qs h t ih =>
  rw [List.map_cons,List.map_cons]
  refine .cons ?_ ih
  obtain ⟨h1,h2,h3⟩:=h
  unfold putAt
  by_cases e:p.1=k
  ·rw [if_pos e,if_pos (h1.symm.trans e)];exact ⟨h1,h2,ry⟩
  ·rw [if_neg e,if_neg (fun z=>e (h1.trans z))];exact ⟨h1,h2,h3⟩
theorem KT.put {H:Hp}{kvs:List (List Key × V)}{xs:List (List Key × Addr × Value)}(r:KT H kvs xs)(k:List Key){b:Addr}{y:V}{u:Value}(hb:H b=some (.tup (k.map kV)))(ry:RelV y u) :
  KT H (EX kvs k y) (storedH xs k b u):=by
 have e:(kvs.any fun kv=>decide (kv.1=k))=(atKey xs k).isSome:=by
  rw [valV_any,(r.val k).isSome_eq,Option.isSome_map]
 unfold EX storedH
 rw [e]
 by_cases q:(atKey xs k).isSome=true
 ·rw [if_pos q,if_pos q];exact r.repl k ry
 ·rw [if_neg q,if_neg q];exact Paired.snoc r ⟨rfl,hb,ry⟩
theorem KT.keeps {H H':Hp}{kvs:List (List Key × V)}{xs:List (List Key × Addr × Value)}(r:KT H kvs xs)(ht:∀ b ys,H b=some (.tup ys)->H' b=some (.tup ys)):KT H' kvs xs :=
 Paired.mapP r fun _ _ z=>⟨z.1,ht _ _ z.2.1,z.2.2⟩
section
variable {P:Program}{w:World}{H:Hp}{h:Heap}{a:Addr}
theorem rd_of {u:HO}(ok:HOk P w H h)(e:Rd H a u):ObjOk P w H h a u:=e.ok ok
theorem dk_rd {kvs:List (Key × V)}(ok:HOk P w H h)(e:Rd H a (.dK kvs)):kvs.length<=sizeLine/\(a == sysModules)=false/\∃ vs,KV kvs vs/\h.DictOf (BB P w) a vs :=
 show ObjOk P w H h a (.dK kvs) from rd_of ok e
theorem dk_of {kvs:List (Key × V)}(ok:HOk P w H h)(e:H a=some (.dK kvs)):kvs.length<=sizeLine/\(a == sysModules)=false/\∃ vs,KV kvs vs/\h.DictOf (BB P w) a vs:=dk_rd ok (.inl e)
theorem key_of {ks:List Key}(ok:HOk P w H h)(e:H a=some (.tup (ks.map kV))):(tupleKind (BB P w)).is h ks a:=by
 obtain ⟨_,its,r,o,h1,h2,n,h3⟩:=(show ObjOk P w H h a (.tup (ks.map kV)) from ok a _ e)
 exact ⟨o,its.toArray,n,h1,h2,h3,by simpa using items_are r⟩
theorem dt_rd {kvs:List (List Key × V)}(ok:HOk P w H h)(e:Rd H a (.dT kvs)):kvs.length<=sizeLine/\(a == sysModules)=false /\
  ∃ xs,KT H kvs xs/\h.DictOfH (tupleKind (BB P w)) a xs:=by
 obtain ⟨z,y,xs,r,o,es,ep,h1,h2,h3,h4,h5⟩:=(show ObjOk P w H h a (.dT kvs) from rd_of ok e)
 refine ⟨z,y,xs,r,o,es,ep,h1,h2,h3,h4,fun x hx=>?_,h5⟩
 have all:∀ {l:List (List Key × V)}{m:List (List Key × Addr × Value)},KT H l m->∀ x∈m,(tupleKind (BB P w)).is h x.1 x.2.1:=by
  intro l m q
  induction q with
  | nil=>intro x hx;exact nomatch hx
  | @cons p q ps qs hq t ih =>
   intro x hx
   rcases List.mem_cons.mp hx with e|hx
   ·subst e
    exact key_of ok (by rw [<- hq.1];exact hq.2.1)
   ·exact ih x hx
 exact all r x hx
theorem dt_of {kvs:List (List Key × V)}(ok:HOk P w H h)(e:H a=some (.dT kvs)):kvs.length<=sizeLine/\(a == sysModules)=false /\
  ∃ xs,KT H kvs xs/\h.DictOfH (tupleKind (BB P w)) a xs:=dt_rd ok (.inl e)
end
noncomputable def DGet (H:Hp)(a:Addr)(y:V)(r:Option V):Prop :=
 (∃ kvs k,Rd H a (.dK kvs)/\y=kV k/\r=GQ kvs k)\/∃ kvs k b,Rd H a (.dT kvs)/\y = .ref b/\H b=some (.tup (k.map kV))/\r=GQ kvs k
noncomputable def DPut (H:Hp)(a:Addr)(y v:V)(H':Hp):Prop :=
 (∃ kvs k,H a=some (.dK kvs)/\y=kV k/\kvs.length<sizeLine/\H'=upd H a (.dK (EX kvs k v))) \/
 ∃ kvs k b,H a=some (.dT kvs)/\y = .ref b/\H b=some (.tup (k.map kV))/\kvs.length<sizeLine/\H'=upd H a (.dT (EX kvs k v))
section
variable {X:Cx}{pins:List (Addr × Obj)}{σ:St}{H:Hp}{s:Shared}{a:Addr}{y v:V}{u r:Value}{o:Option V}{A:Around}{E:Value->Shared->Prop}
theorem Inv.big (I:Inv X pins σ H s):sysModules<s.heap.objs.size:=by
 have h:mainGlobals<s.heap.objs.size:=(I.mod.glob.keeps I.bk).lt
 exact Nat.lt_trans (by decide) h
theorem d_getItem {Q:Value->Shared->Prop}(hu:A.units+1<cLine)(I:Inv X pins σ H s)(g:DGet H a y (some v))(ry:RelV y u)(h:∀ w' s',Inv X pins σ H s'->RelV v w'->Q w' s') :
  wpAny (model X.prog X.w) A (getItem (.ref a) u) Q E s:=by
 rcases g with ⟨kvs,k,e,ey,l⟩ | ⟨kvs,k,b,e,ey,eb,l⟩
 ·subst ey
  obtain ⟨z,hd,vs,rel,dd⟩:=dk_rd I.hok e
  obtain ⟨w',hw,rw'⟩:=RelO.some_of (v:=v) (o:=valueAt vs k) (by rw [l];exact rel.val k)
  exact wpAny_getItem_of (kV_is ry) dd.mapOf hw (h w' _ (I.tok _) rw')
 ·subst ey
  cases (show u=Value.ref b from ry)
  obtain ⟨z,hd,xs,rel,dd⟩:=dt_rd I.hok e
  obtain ⟨w',hw,rw'⟩:=RelO.some_of (v:=v) (o:=(atKey xs k).map (·.2)) (by rw [l];exact rel.val k)
  obtain ⟨p,hp,hp2⟩:=Option.map_eq_some_iff.mp hw
  refine wpAny_getItem_heap (tupleKind_room_in1 hu) (key_of I.hok eb) dd hp ?_
  rw [hp2]
  exact h w' _ (I.tok _) rw'
theorem d_notIn {Q:Value->Shared->Prop}(hu:A.units+1<cLine)(I:Inv X pins σ H s)(g:DGet H a y o)(ry:RelV y u)(h:∀ s',Inv X pins σ H s'->Q (.bool (!o.isSome)) s') :
  wpAny (model X.prog X.w) A (compareOp .NotIn u (.ref a)) Q E s:=by
 rcases g with ⟨kvs,k,e,ey,l⟩ | ⟨kvs,k,b,e,ey,eb,l⟩
 ·subst ey
  obtain ⟨z,hd,vs,rel,dd⟩:=dk_rd I.hok e
  refine wpAny_notIn_of (kV_is ry) hd dd.mapOf ?_
  rw [<- (rel.val k).isSome_eq,<- l]
  exact h _ (I.tok _)
 ·subst ey
  cases (show u=Value.ref b from ry)
  obtain ⟨z,hd,xs,rel,dd⟩:=dt_rd I.hok e
  refine wpAny_notIn_heap (tupleKind_room_in1 hu) (key_of I.hok eb) hd dd ?_
  have q:=(rel.val k).isSome_eq
  rw [Option.isSome_map] at q
  rw [<- q,<- l]
  exact h _ (I.tok _)
theorem d_write {h':Heap}{t':Nat}{ob:HO}(I:Inv X pins σ H s)(mu:Mut (H a))(hs:Heap.SameBut a s.heap h')(he:∃ q,h'.get? a=some q)(new:ObjOk X.prog X.w (upd H a ob) h' a ob) :
  Inv X pins σ (upd H a ob) { s with heap:=h',toks:=t' } :=
 I.write (x:=a) (e:=a) mu (.inl rfl) (fun b q hb z=>(hs.2 b hb).trans z) he new
theorem dk_new {P:Program}{w:World}{H':Hp}{h':Heap}{kvs:List (Key × V)}{vs:List (Key × Value)}(z:kvs.length<=sizeLine)(hd:(a == sysModules)=false)(rel:KV kvs vs)(dd:h'.DictOf (BB P w) a vs) :
  ObjOk P w H' h' a (.dK kvs):=⟨z,hd,vs,rel,dd⟩
theorem d_setItem {H':Hp}{Q:Unit->Shared->Prop}(hu:A.units+1<cLine)(I:Inv X pins σ H s)(g:DPut H a y v H')(ry:RelV y u)(rv:RelV v r)(h:∀ s',Inv X pins σ H' s'->Q () s') :
  wpAny (model X.prog X.w) A (setItem (.ref a) u r) Q E s:=by
 rcases g with ⟨kvs,k,e,ey,l,eH⟩ | ⟨kvs,k,b,e,ey,eb,l,eH⟩
 ·subst ey eH
  obtain ⟨z,hd,vs,rel,dd⟩:=dk_of I.hok e
  have hz:vs.length<=sizeLine:=by rw [<- rel.length];exact z
  have hl:(EX kvs k v).length<=sizeLine:=by have:=FN kvs k v;omega
  refine wpAny_setItem_pairs (hsz:=hz) (kV_is ry) dd fun h' dd' hs=>h _ ?_
  have he:∃ q,h'.get? a=some q:=let ⟨q,_,_,hq,_⟩:=dd';⟨q,hq⟩
  exact d_write I (by rw [e];exact True.intro) hs he (dk_new hl hd (rel.put k rv) dd')
 ·subst ey eH
  cases (show u=Value.ref b from ry)
  obtain ⟨z,hd,xs,rel,dd⟩:=dt_of I.hok e
  have hz:xs.length<=sizeLine:=by rw [<- Paired.length rel];exact z
  have hl:(EX kvs k v).length<=sizeLine:=by have:=FN kvs k v;omega
  refine wpAny_setItem_heap (hsz:=hz) (tupleKind_room_in1 hu) (key_of I.hok eb) dd fun h' dd' hs=>h _ ?_
  obtain ⟨q,es,ep,hq,h2,h3,h4,_,h5⟩:=dd'
  refine d_write I (by rw [e];exact True.intro) hs ⟨q,hq⟩ ⟨hl,hd,_,(rel.put k eb rv).keeps fun c ys ec=>?_,q,es,ep,hq,h2,h3,h4,h5⟩
  rw [Aq (ne_of ec e (fun z=>nomatch z))]
  exact ec
end
section
variable {X:Cx}{pins:List (Addr × Obj)}{σ:St}{H:Hp}{s:Shared}{a:Addr}{kvs:List (Key × V)}{k:Key}{u:Value}{A:Around}{E:Value->Shared->Prop}
end
noncomputable def NoSl (i:Expr):Prop:=∀ ov iv,subscripted i false ov iv=operate [ov,iv] (getItem ov iv)
theorem subD_of {prog:Program}{w:World}{A:Around}{E:Value->Shared->Prop}{s:Shared}{env:Env}{value slice:Expr}{pos:Pos}{T id:String}{Q:Value->Shared->Prop}
  (hl:typeLookup (.type T) "__getitem__" = pure (some (.builtin id))) (hs:NoSl slice)
  (h:wpAny (model prog w) A (eval value env) (fun o s₁=>wpAny (model prog w) A (eval slice env) (fun i s₂=>s₂.TypeIs o T/\wpAny (model prog w) A (getItem o i) Q E s₂) E s₁) E s) :
  wpAny (model prog w) A (eval (.Subscript value slice pos) env) Q E s:=by
 refine Subscript_ (wpAny_mono h (fun o s₁ h₁=>wpAny_mono h₁ (fun i s₂ h₂=>?_) fun _ _ x=>x) fun _ _ x=>x)
 obtain ⟨hT,h₂⟩:=h₂
 unfold subscriptTail
 refine wpAny_bind ?_
 rw [getitemInPython_of_ne hT.not_modules]
 refine wpAny_bind (wpAny_specialOf hT hl ?_)
 have fin:wpAny (model prog w) A (subscripted slice false o i) (fun r s₃=>wpAny (model prog w) A (letTemporaryGo value o r >>= fun _=>pure r) Q E s₃) E s₂:=by
  rw [hs o i]
  exact wpAny_operating (wpAny_mono h₂ (fun r s₃ h₃=>wpAny_bind (wpAny_letTemporaryGo (wpAny_pure h₃))) fun _ _ x=>x)
 first
  | exact wpAny_pure (wpAny_bind fin)
  | exact wpAny_bind (wpAny_pure (wpAny_bind fin))
  | exact wpAny_bind fin
theorem dict_typeIs {X:Cx}{pins:List (Addr × Obj)}{σ:St}{H:Hp}{s:Shared}{a:Addr}{y:V}{o:Option V}(I:Inv X pins σ H s)(g:DGet H a y o):s.TypeIs (.ref a) "dict" := by
 rcases g with ⟨kvs,k,e,_,_⟩ | ⟨kvs,k,b,e,_,_,_⟩
 ·obtain ⟨_,_,vs,_,dd⟩:=dk_rd I.hok e
  exact dd.typeIs
 ·obtain ⟨_,_,xs,_,dd⟩:=dt_rd I.hok e
  exact dd.typeIs
noncomputable def tDGet (td ty:TE):TE:=fun σ H Q=>td σ H fun x H1=>ty σ H1 fun y H2=>∃ a v,x = .ref a/\DGet H2 a y (some v)/\Q v H2
noncomputable def tDNotIn (ty td:TE):TE:=fun σ H Q=>ty σ H fun y H1=>td σ H1 fun x H2=>∃ a o,x = .ref a/\DGet H2 a y o/\Q (.bl (!o.isSome)) H2
noncomputable def sDPut (td ty tv:TE):TS:=fun D σ H=>tv σ H fun v H1=>td σ H1 fun x H2=>ty σ H2 fun y H3=>∃ a H4,x = .ref a/\DPut H3 a y v H4/\D.nx σ H4
section
variable {X:Cx}{o i e value:Expr}{pos pos' tpos:Pos}{td ty tv:TE}
theorem pe_dget (hu:X.A.units+1<cLine)(ho:PE X o td)(hi:PE X i ty)(hs:NoSl i):PE X (.Subscript o i pos) (tDGet td ty):=by
 intro pins s σ H Q I h
 refine subD_of PySem.F.slot_dict_getitem.lookup hs (thn (ho pins s σ H _ I h) fun u s1 ⟨x,H1,I1,rx,q1⟩=>thn (hi pins s1 σ H1 _ I1 q1) fun iv s2 ⟨y,H2,I2,ry,a,v,ex,g,q2⟩=>?_)
 subst ex
 obtain rfl:u=Value.ref a:=rx
 exact ⟨dict_typeIs I2 g,d_getItem hu I2 g ry fun w' s3 I3 rw'=>⟨v,H2,I3,rw',q2⟩⟩
theorem pc_dnotin (hu:X.A.units+1<cLine)(hi:PE X i ty)(ho:PE X o td):PC X .NotIn i o (tDNotIn ty td):=by
 intro pins s σ H Q I h
 refine thn (hi pins s σ H _ I h) fun iv s1 ⟨y,H1,I1,ry,q1⟩=>thn (ho pins s1 σ H1 _ I1 q1) fun u s2 ⟨x,H2,I2,rx,a,ov,ex,g,q2⟩=>?_
 subst ex
 obtain rfl:u=Value.ref a:=rx
 exact d_notIn hu I2 g ry fun s3 I3=>⟨.bl (!ov.isSome),H2,I3,rfl,q2⟩
theorem ps_dput (hu:X.A.units+1<cLine)(ho:PE X o td)(hi:PE X i ty)(hv:PE X value tv)(hs:swapsWith value (some (.Subscript o i pos')) pos.line X.env=pure false) :
  PS X (.Assign [.Subscript o i pos'] value pos) (sDPut td ty tv):=by
 intro pins s σ H D I h
 refine wpAny_Assign_Subscript (thn (hv pins s σ H _ I h) fun r s1 ⟨v,H1,I1,rv,q1⟩=>thn (ho pins s1 σ H1 _ I1 q1) fun u s2 ⟨x,H2,I2,rx,q2⟩=>thn (hi pins s2 σ H2 _ I2 q2) fun iv s3 ⟨y,H3,I3,ry,a,H4,ex,g,q3⟩=>?_) hs
 subst ex
 obtain rfl:u=Value.ref a:=rx
 exact d_setItem hu I3 g ry rv fun s4 I4=>⟨σ,H4,I4,q3⟩
end
theorem dk_empty {P:Program}{w:World}{H:Hp}(h:Heap)(hb:sysModules<h.objs.size):ObjOk P w H (h.push { cls:=.type "dict",data:=.dict #[] }) h.objs.size (.dK []) :=
 ⟨Nat.zero_le _,beq_eq_false_iff_ne.mpr (Ne.symm (Nat.ne_of_lt hb)),[],.nil,Heap.DictOf.new h⟩
noncomputable def tDNewK:TE:=fun _ H Q=>∀ p,H p=none->Q (.ref p) (upd H p (.dK []))
section
variable {X:Cx}{pos:Pos}
theorem pe_dnewK:PE X (.Dict [] [] pos) tDNewK:=fun pins s σ H Q I h =>
 wpAny_Dict_empty ⟨.ref s.heap.objs.size,_,I.laid (a:=s.heap.objs.size) (o:=.dK []) (t':=s.toks) (fun _ _ q=>Heap.get?_push_of_some _ q) (Nat.le_refl _) (dk_empty s.heap I.big),rfl,h _ (I.hok.fresh (Nat.le_refl _))⟩
end
noncomputable def tPairs:List (TE × TE)->St->Hp->(List (V × V)->Hp->Prop)->Prop
 | [],_,H,Q=>Q [] H
 | (tk,tv)::r,σ,H,Q=>tk σ H fun x H1=>tv σ H1 fun y H2=>tPairs r σ H2 fun ps H3=>Q ((x,y)::ps) H3
noncomputable abbrev VV:List (V × V)->List (Value × Value)->Prop:=Paired fun p q=>RelV p.1 q.1/\RelV p.2 q.2
noncomputable def PPs (X:Cx)(pos:Pos)(keys:List (Option Expr))(values:List Expr)(trs:List (TE × TE)):Prop :=
 ∀ (pins:List (Addr × Obj)) (s:Shared) (σ:St) (H:Hp) (Q:List (V × V)->Hp->Prop),Inv X pins σ H s->tPairs trs σ H Q ->
  wpAny (model X.prog X.w) X.A (evalPairs (pairTrees keys values X.env pos)) (fun vs s'=>∃ ps H',Inv X pins σ H' s'/\VV ps vs/\Q ps H') X.xe s
theorem pps_nil {X:Cx}{pos:Pos}:PPs X pos [] [] []:=fun pins s σ H Q I h=>pairTrees_nil_walk ⟨[],H,I,.nil,h⟩
theorem pps_cons {X:Cx}{pos:Pos}{k v:Expr}{ks:List (Option Expr)}{vs:List Expr}{tk tv:TE}{trs:List (TE × TE)}(hk:PE X k tk)(hv:PE X v tv)(hr:PPs X pos ks vs trs) :
  PPs X pos (some k::ks) (v::vs) ((tk,tv)::trs):=fun pins s σ H Q I h =>
 pairTrees_cons_walk (thn (hk pins s σ H _ I h) fun u s1 ⟨x,H1,I1,rx,q1⟩=>thn (hv pins s1 σ H1 _ I1 q1) fun w2 s2 ⟨y,H2,I2,ry,q2⟩ =>
  thn (hr pins s2 σ H2 _ I2 q2) fun ws s3 ⟨ps,H3,I3,rel,q3⟩=>⟨(x,y)::ps,H3,I3,.cons ⟨rx,ry⟩ rel,q3⟩)
noncomputable def mergeK (kvs more:List (Key × V)):List (Key × V):=more.foldl (fun acc kv=>EX acc kv.1 kv.2) kvs
theorem KV.merge:∀ {more:List (Key × V)}{rs:List (Key × Value)}{kvs:List (Key × V)}{vs:List (Key × Value)},KV more rs->KV kvs vs->KV (mergeK kvs more) (merged vs rs):=by
 intro more rs kvs vs r
 unfold KV at r
 induction r generalizing kvs vs with
 | nil=>intro q;exact q
 | @cons p q ps qs h t ih =>
  intro r0
  have e:KV (EX kvs p.1 p.2) (stored vs q.1 q.2):=by
   have:=r0.put p.1 h.2
   rw [<- h.1];exact this
  exact ih e
theorem length_mergeK:∀ (more kvs:List (Key × V)),(mergeK kvs more).length<=kvs.length+more.length
 | [],kvs=>by show kvs.length<=kvs.length+0;omega
 | p::r,kvs=>by
  have h1:=length_mergeK r (EX kvs p.1 p.2)
  have h2:=FN kvs p.1 p.2
  show (mergeK (EX kvs p.1 p.2) r).length<=_
  rw [List.length_cons];omega
theorem carries_of {P:Program}{w:World}:∀ {kvs:List (Key × V)}{ws:List (Value × Value)},VV (kvs.map fun kv=>(kV kv.1,kv.2)) ws->∃ rs,Carries (BB P w) ws rs/\KV kvs rs
 | [],_,r=>by rw [List.map_nil] at r;cases r;exact ⟨[],True.intro,.nil⟩
 | p::kvs,_,r=>by
  rw [List.map_cons] at r
  cases r with
  | @cons a b as bs h t =>
   obtain ⟨rs,c,q⟩:=carries_of (P:=P) (w:=w) t
   obtain ⟨b1,b2⟩:=b
   exact ⟨(p.1,b2)::rs,⟨kV_is h.1,rfl,c⟩,.cons ⟨rfl,h.2⟩ q⟩
noncomputable def tDisp (trs:List (TE × TE)):TE:=fun σ H Q=>∀ p,H p=none->tPairs trs σ (upd H p (.dK [])) fun ps H2=>H2 p=some (.dK [])/\∃ kvs:List (Key × V),ps=kvs.map (fun kv=>(kV kv.1,kv.2))/\kvs.length<=15/\Q (.ref p) (upd H2 p (.dK (mergeK [] kvs)))
theorem pe_disp {X:Cx}{pos:Pos}{keys:List (Option Expr)}{values:List Expr}{trs:List (TE × TE)}(h:PPs X pos keys values trs)(hall:keys.all (·.isSome)=true)(hl:keys.length=values.length)(h0:keys ≠ [])
  (h15:keys.length<=15):PE X (.Dict keys values pos) (tDisp trs):=by
 intro pins s σ H Q I q
 have hn:=I.hok.fresh (Nat.le_refl s.heap.objs.size)
 have I1:=I.laid (a:=s.heap.objs.size) (o:=.dK []) (h':=s.heap.push { cls:=.type "dict",data:=.dict #[] }) (t':=s.toks) (fun _ _ q=>Heap.get?_push_of_some _ q) (Nat.le_refl _) (dk_empty s.heap I.big)
 refine wpAny_Dict_walk (knd:=BB X.prog X.w) hall hl h0 h15 (thn (h pins _ σ _ _ I1 (q _ hn)) fun ws s2 ⟨ps,H2,I2,rel,e,kvs,ep,lk,q2⟩=>?_)
 subst ep
 obtain ⟨rs,c,rk⟩:=carries_of (P:=X.prog) (w:=X.w) rel
 obtain ⟨z,hd,vs0,r0,dd⟩:=dk_of I2.hok e
 cases r0
 refine ⟨rs,c,dd,fun h' dd' hs=>⟨.ref s.heap.objs.size,_,?_,rfl,q2⟩⟩
 have hz:(mergeK [] kvs).length<=sizeLine:=by
  have h1:=length_mergeK kvs []
  rw [List.length_nil] at h1
  rw [sizeLine_eq];omega
 have he:∃ q,h'.get? s.heap.objs.size=some q:=let ⟨q,_,_,hq,_⟩:=dd';⟨q,hq⟩
 exact d_write I2 (by rw [e];exact True.intro) hs he (dk_new hz hd (rk.merge .nil) dd')
structure M1 (X:Cx)(o:Expr)(m:Str)(apos:Pos)(e:Expr)(cpos:Pos):Prop where
 base:attributeBase o m X.env (eval o X.env)=eval o X.env
 few:((backTo cpos (starEach [e] X.env)).all (fun x=>!x.1) && (backToKw cpos (keywordEach [] X.env)).all (fun x=>x.1.isSome)
  && decide (([e]:List Expr).length+([]:List Keyword).length+(if ([]:List Keyword).isEmpty then 0 else 1)<30))=true
 line:(apos.endLine == cpos.line)=true
 trees:backTo cpos (starEach [e] X.env)=[(false,eval e X.env)]
section
variable {X:Cx}{pins:List (Addr × Obj)}{σ:St}{H:Hp}{s:Shared}{a:Addr}{y d:V}{u r:Value}{o:Option V}{A:Around}{E:Value->Shared->Prop}
end
section
variable {X:Cx}{o e f:Expr}{apos cpos:Pos}{td ty tx:TE}
end
section
variable {X:Cx}{pins:List (Addr × Obj)}{σ:St}{H:Hp}{s:Shared}{a:Addr}{kvs:List (Key × V)}{A:Around}{E:Value->Shared->Prop}
end
section
variable {X:Cx}{pins:List (Addr × Obj)}{σ:St}{H:Hp}{s:Shared}{a:Addr}{y:V}{u:Value}{A:Around}{E:Value->Shared->Prop}
end
noncomputable def Gr (scope:Scope)(env:Env):List (Str × Addr) :=
 (scope.names.filterMap fun p=>if p.2 == NameKind.free then (env.cells.lookup p.1).map fun c=>(p.1,c) else none).reverse
theorem FA {env:Env}:∀ (names:List (Str × NameKind)) (acc:List (Str × Addr)),(∀ y∈names,y.2 = .free->∃ c,env.cells.lookup y.1=some c) ->
  (forIn names acc fun (x:Str × NameKind) (cs:List (Str × Addr))=>(match x with
   | (name,kind)=>if (kind == NameKind.free)=true then do
     let c <- cellOf env name
     pure (ForInStep.yield ((name,c)::cs))
    else pure (ForInStep.yield cs):Sem (ForInStep (List (Str × Addr))))) =
   pure ((names.filterMap fun p=>if p.2 == NameKind.free then (env.cells.lookup p.1).map fun c=>(p.1,c) else none).reverse++acc)
 | [],acc,_=>rfl
 | (n,k)::r,acc,h=>by
  rw [List.forIn_cons]
  by_cases hk:k = .free
  ·subst hk
   obtain ⟨c,hc⟩:=h (n,.free) List.mem_cons_self rfl
   have e1:cellOf env n=pure c:=by unfold cellOf;rw [hc]
   have ih:=FA r ((n,c)::acc) fun y hy=>h y (List.mem_cons_of_mem _ hy)
   simp only [beq_self_eq_true,if_true,e1,pure_bind,List.filterMap_cons,hc,Option.map_some,List.reverse_cons,List.append_assoc,List.singleton_append]
   exact ih
  ·have hb:(k == NameKind.free)=false:=by simpa using hk
   have ih:=FA r acc fun y hy=>h y (List.mem_cons_of_mem _ hy)
   simp only [hb,Bool.false_eq_true,if_false,pure_bind,List.filterMap_cons]
   exact ih
theorem closureFor_eq {scope:Scope}{env:Env}(h:∀ y∈scope.names,y.2 = .free->∃ c,env.cells.lookup y.1=some c):closureFor scope env=pure (Gr scope env):=by
 have e:=FA (env:=env) scope.names [] h
 unfold closureFor
 rw [List.append_nil] at e
 exact (congrArg (· >>= pure) e).trans (by rfl)
theorem clOf_mem {scope:Scope}{env:Env}{y:Str}{c:Addr}(h:(y,c)∈Gr scope env):(y,NameKind.free)∈scope.names/\env.cells.lookup y=some c:=by
 unfold Gr at h
 obtain ⟨⟨n,k⟩,hp,e⟩:=List.mem_filterMap.mp (List.mem_reverse.mp h)
 by_cases hk:k = .free
 ·subst hk
  simp only [beq_self_eq_true,if_true] at e
  cases hc:env.cells.lookup n with
  | none=>rw [hc] at e;cases e
  | some c' =>
   rw [hc] at e
   have e':(n,c')=(y,c):=Option.some.inj e
   cases e'
   exact ⟨hp,hc⟩
 ·have hb:(k == NameKind.free)=false:=by simpa using hk
  simp only [hb,Bool.false_eq_true,if_false] at e
  cases e
theorem Ep {scope:Scope}{env:Env}{y:Str}{c:Addr}(h:(Gr scope env).lookup y=some c):env.cells.lookup y=some c:=(clOf_mem (PySem.mem_of_lookup h)).2
theorem lookup_of_mem {α:Type}{y:Str}:∀ {l:List (Str × α)}{c:α},(y,c)∈l->∃ c',l.lookup y=some c'
 | (n,a)::r,c,h=>by
  by_cases e:y=n
  ·subst e;exact ⟨a,by simp [List.lookup_cons]⟩
  ·have hb:(y == n)=false:=by simpa using e
   rcases List.mem_cons.mp h with h|h
   ·cases h;exact absurd rfl e
   ·obtain ⟨c',h'⟩:=lookup_of_mem h
    exact ⟨c',by simp [List.lookup_cons,hb,h']⟩
theorem clOf_has {scope:Scope}{env:Env}{y:Str}{c:Addr}(h1:(y,NameKind.free)∈scope.names)(h2:env.cells.lookup y=some c):(Gr scope env).lookup y=some c:=by
 have m:(y,c)∈Gr scope env:=by
  unfold Gr
  exact List.mem_reverse.mpr (List.mem_filterMap.mpr ⟨(y,.free),h1,by simp [h2]⟩)
 obtain ⟨c',h'⟩:=lookup_of_mem m
 have:=Ep h'
 rw [h2] at this
 cases this
 exact h'
theorem relabel_free {scope:Scope}{env:Env}(hcell:∀ y∈scope.names,y.2 ≠ .cell){y:Str}(h:(relabel scope env).names.lookup y=some .cell\/(relabel scope env).names.lookup y=some .free):(y,NameKind.free)∈scope.names:=by
 have m:∃ k,(k = .cell\/k = .free)/\(y,k)∈(relabel scope env).names:=by
  rcases h with h|h
  ·exact ⟨_,.inl rfl,PySem.mem_of_lookup h⟩
  ·exact ⟨_,.inr rfl,PySem.mem_of_lookup h⟩
 obtain ⟨k,hk,hm⟩:=m
 unfold relabel at hm
 obtain ⟨⟨n,k'⟩,hp,e⟩:=List.mem_map.mp hm
 dsimp only at e
 by_cases hf:k' = .free
 ·subst hf
  split at e<;>(cases e;exact hp)
 ·have hb:(k' == NameKind.free)=false:=by simpa using hf
  rw [hb,Bool.false_and,Bool.false_and,if_neg (by decide)] at e
  cases e
  rcases hk with hk|hk
  ·exact absurd hk (hcell _ hp)
  ·exact absurd hk hf
noncomputable def BQ (X:Cx)(N:List Str)(scope:Scope)(C:Addr)(s:Shared)(H:Hp)(fp:List Addr):Cx where
 prog:=X.prog
 w:=X.w
 K:=X.K
 mg:=X.mg
 base:=X.base
 A:=X.A
 N:=N
 s₀:=s
 H₀:=H
 env:=compEnvC scope (Gr scope X.env) C X.env
 outer:=X.stack
 stack:=X.stack
 ex:=fp
 fn:=fun _=>false
 calm:=true
 pn:=[]
 xe:=fun _ _=>False
noncomputable def Caps (X:Cx)(scope:Scope):List Str->List Nat->Prop
 | [],[]=>True
 | x::xs,i::is=>(X.N[i]? = some x/\(X.env.scope.names.lookup x=some .cell\/X.env.scope.names.lookup x=some .free)/\scope.names.lookup x=some .free)/\Caps X scope xs is
 | _,_=>False
theorem Caps.len {X:Cx}{scope:Scope}:∀ {xs:List Str}{is:List Nat},Caps X scope xs is->is.length=xs.length
 | [],[],_=>rfl
 | _::_,_::_,h=>congrArg (· + 1) (Caps.len h.2)
 | [],_::_,h=>h.elim
 | _::_,[],h=>h.elim
theorem Caps.at {X:Cx}{scope:Scope}:∀ {xs:List Str}{is:List Nat}{j:Nat}{x:Str},Caps X scope xs is->xs[j]? = some x->∃ i,is[j]? = some i/\X.N[i]? = some x/\(X.env.scope.names.lookup x=some .cell\/X.env.scope.names.lookup x=some .free)/\scope.names.lookup x=some .free
 | [],[],_,_,_,e=>by simp at e
 | y::_,i::_,0,x,h,e=>by
  simp at e;subst e
  exact ⟨i,rfl,h.1⟩
 | _::xs,_::is,j+1,x,h,e=>by
  obtain ⟨i,h1,h2⟩:=Caps.at (j:=j) h.2 (by simpa using e)
  exact ⟨i,by simpa using h1,h2⟩
 | [],_::_,_,_,h,_=>h.elim
 | _::_,[],_,_,h,_=>h.elim
noncomputable def inner (cap:List Nat)(σ:St):St:=none::cap.map fun i=>(σ[i]?).join
noncomputable def PTs (X:Cx)(ifs:List Expr)(t:TT):Prop :=
 ∀ (pins:List (Addr × Obj)) (s:Shared) (σ:St) (H:Hp) (Q:Bool->Hp->Prop),Inv X pins σ H s->t σ H Q ->
  wpAny (model X.prog X.w) X.A (forIn ifs true fun c r=>if r=true then do let ok <- isTrue c X.env (eval c X.env);pure (ForInStep.yield ok) else pure (ForInStep.yield r)) (TP X pins σ Q) X.xe s
noncomputable def Gw:TT:=fun _ H Q=>Q true H
theorem BP {X:Cx}:PTs X [] Gw:=fun _ _ _ H _ I h=>wpAny_tests_nil ⟨H,I,h⟩
theorem Fj {X:Cx}{c:Expr}{t:TT}(h:PT X c t):PTs X [c] t:=fun pins s σ H Q I q=>wpAny_tests_one (h pins s σ H Q I q)
theorem compLoop_any {prog:Program}{w:World}{A:Around}{R:Result->Shared->Prop}{s:Shared}{elt target iter:Expr}{ifs:List Expr}{scope:Scope}{pos:Pos}{it acc:Value}{env:Env}(I:Nat->Shared->Prop)
  (turn:∀ n s,I n s->wpAny (model prog w) A (pyNext it) (fun r s₁=>match r with
   | none=>R (.ok .next) s₁
   | some v=>wpAny (model prog w) A (letOwnedTupleGo target it v) (fun _ s₁'=>wpAny (model prog w) A (assign target env v) (fun _ s₂ =>
     wpAny (model prog w) A (forIn ifs true fun c r=>if r=true then do let ok <- isTrue c env (eval c env);pure (ForInStep.yield ok) else pure (ForInStep.yield r)) (fun ok s₃ =>
      if ok=true then wpAny (model prog w) A (eval elt env) (fun x s₄ =>
       wpAny (model prog w) A (call (.builtin "list.append") [acc,x]) (fun _ s₅=>∃ m,m<n/\I m s₅) (fun _ _=>False) s₄) (fun _ _=>False) s₃
      else ∃ m,m<n/\I m s₃) (fun _ _=>False) s₂) (fun _ _=>False) s₁') (fun _ _=>False) s₁) (fun _ _=>False) s)
  (n:Nat) (h:I n s) :
  codeAny (model prog w) A (.compLoop (.ListComp elt [⟨target,iter,ifs,0⟩] scope pos) 0 it acc env) R s:=by
 refine codeAny_loop rfl I (fun n s hI=>?_) n h
 show wpAny _ A ((compTurn (.ListComp elt [⟨target,iter,ifs,0⟩] scope pos) 0 it acc env).onRaise (fun x=>do noteFrame x env;theTreesLotGoes x)) _ _ s
 refine wpAny_noted ?_
 rw [compTurn_list]
 refine wpAny_bind (wpAny_standAt (wpAny_bind (wpAny_mono (turn n s hI) (fun r s₁ h₁=>?_) fun _ _ h'=>h'.elim)))
 cases r with
 | none=>exact wpAny_pure h₁
 | some v =>
  refine wpAny_bind (wpAny_mono h₁ (fun _ s₁' h₁'=>?_) fun _ _ h'=>h'.elim)
  refine wpAny_bind (wpAny_mono h₁' (fun _ s₂ h₂=>wpAny_bind (wpAny_mono h₂ (fun ok s₃ h₃=>?_) fun _ _ h'=>h'.elim)) fun _ _ h'=>h'.elim)
  cases ok with
  | false=>exact wpAny_pure ⟨rfl,h₃⟩
  | true =>
   exact wpAny_bind (wpAny_bind (wpAny_mono h₃ (fun x s₄ h₄=>wpAny_bind (wpAny_mono h₄ (fun _ s₅ h₅=>wpAny_pure (wpAny_pure ⟨rfl,h₅⟩)) fun _ _ h'=>h'.elim)) fun _ _ h'=>h'.elim))
noncomputable def tComp (cap:List Nat)(wi:TI)(tc:TT)(te:TE):TE:=fun σ H Q=>wi σ H fun J H1=>∀ p,H1 p=none ->
 ∃ W:Nat->Nat->List V->Hp->Prop,(∃ m,W 0 m [] (upd H1 p (.lst [])))/\∀ i m xs H2,W i m xs H2 ->
  (J.stop i H2/\Q (.ref p) H2)\/(J.go i H2/\∃ N:List V->Hp->Prop,(∀ xs' H',N xs' H'->∃ m',m'<m/\W (i+1) m' xs' H') /\
   ∀ x H3,J.yld i H2 x H3->tc ((inner cap σ).set 0 (some x)) H3 fun b H5=>if b=true then te ((inner cap σ).set 0 (some x)) H5 fun v H6=>H6 p=some (.lst xs)/\xs.length<sizeLine/\N (xs++[v]) (upd H6 p (.lst (xs++[v]))) else N xs H5)
section
variable {X:Cx}{pins:List (Addr × Obj)}{σ:St}
structure CompScope (X:Cx)(scope:Scope):Prop where
 cell:∀ y∈scope.names,y.2 ≠ .cell
 kind:scope.kind = .function
 names:∀ y∈scope.names,y.2 = .local -> scope.names.lookup y.1=some .local
 free:∀ y∈scope.names,y.2 = .free->X.env.scope.names.lookup y.1=some .cell\/X.env.scope.names.lookup y.1=some .free
theorem CompScope.clos {scope:Scope}{H:Hp}{s:Shared}(S:CompScope X scope)(I:Inv X pins σ H s):closureFor scope X.env=pure (Gr scope X.env) :=
 closureFor_eq fun y hy hf=>I.ok.has y.1 (S.free y hy hf)
theorem comp_out {scope:Scope}{N:List Str}{C:Addr}{s3 s':Shared}{H2 H3 Hf:Hp}{fp:List Addr}{pins':List (Addr × Obj)}{σ':St}(I:Inv X pins σ H3 s3)(J:Inv (BQ X N scope C s3 H3 fp) pins' σ' Hf s')(f2:∀ b∈fp,GK X pins H2 b):Inv X pins σ Hf s' :=
 I.call' (ch:=fp) J.os J.base J.hok J.bare fun b hb=>⟨(f2 b hb).2.2.2.1,(f2 b hb).2.1,(f2 b hb).2.2.2.2.1,(f2 b hb).2.2.2.2.2⟩
end
noncomputable def Cb (n:Nat)(cap:List Nat)(σ:St):St:=List.replicate n none++cap.map fun i=>(σ[i]?).join
noncomputable def GAt (n:Nat)(g:TG):Prop:=∀ v σ H Q,g v σ H Q->g v σ H fun σ2 H2=>(σ2.length=σ.length/\∀ j,n<=j->σ2[j]? = σ[j]?)/\Q σ2 H2
noncomputable def tCompN (g:TG)(n:Nat)(cap:List Nat)(wi:TI)(tc:TT)(te:TE):TE:=fun σ H Q=>wi σ H fun J H1=>∀ p,H1 p=none ->
 ∃ W:Nat->Nat->List V->Hp->Prop,(∃ m,W 0 m [] (upd H1 p (.lst [])))/\∀ i m xs H2,W i m xs H2 ->
  (J.stop i H2/\Q (.ref p) H2)\/(J.go i H2/\∃ N:List V->Hp->Prop,(∀ xs' H',N xs' H'->∃ m',m'<m/\W (i+1) m' xs' H') /\
   ∀ x H3,J.yld i H2 x H3->g x (Cb n cap σ) H3 fun σ2 H4=>tc σ2 H4 fun b H5=>if b=true then te σ2 H5 fun v H6=>H6 p=some (.lst xs)/\xs.length<sizeLine/\N (xs++[v]) (upd H6 p (.lst (xs++[v]))) else N xs H5)
section
variable {X:Cx}{pins:List (Addr × Obj)}{σ:St}
theorem comp_startN {scope:Scope}{xn:List Str}{cn:List Str}{cap:List Nat}{s3:Shared}{H3:Hp}{fp:List Addr}{h₁:Heap}{tk:Nat}{H2:Hp}(S:CompScope X scope)(I:Inv X pins σ H3 s3)(hc:X.calm=true)(hcap:Caps X scope cn cap)
  (f2:∀ b∈fp,GK X pins H2 b) (lt:∀ b∈fp,b<s3.heap.objs.size) (keep:∀ b o,s3.heap.get? b=some o->h₁.get? b=some o) (hns:h₁.Ns s3.heap.objs.size fun _=>none) :
  Inv (BQ X (xn++cn) scope s3.heap.objs.size s3 H3 fp) [] (Cb xn.length cap σ) H3 { s3 with heap:=h₁,toks:=tk }:=by
 have noS:∀ b o,X.base.get? b=some o->b<X.s₀.heap.objs.size:=fun b o e=>Nat.lt_of_lt_of_le (Heap.lt_size e) I.ok.bsz
 refine ⟨⟨I.ok.mod,S.kind,I.ok.glob,I.ok.blt,Nat.le_refl _,fun y z c h1 h2=>I.ok.inj y z c (Ep h1) (Ep h2),fun y hy=>?_,fun y c h=>?_,fun _=>I.ok.hd hc,I.ok.frames,.inl rfl,fun b hb=>⟨Nat.ne_of_lt (lt b hb),fun y c h=>(f2 b hb).2.2.2.2.1 y c (Ep h)⟩,
  I.bs,Nat.le_trans I.ok.bsz I.sz,fun b o e hb=>?_,fun b hb z=>?_,I.stack,I.stkFree⟩,rfl,I.bare,Un.kept keep,⟨_,hns,fun i y v e1 e2 e3=>?_⟩,fun y c e=>?_,I.hok.fresh (Nat.le_refl _),fun y c e=>I.freeC y c (Ep e),fun p hp=>absurd (show p∈([]:List (Addr × Obj)) from hp) (by simp),I.hok.kept keep,?_⟩
 ·have m:=relabel_free S.cell hy
  obtain ⟨c,hc'⟩:=I.ok.has y (S.free _ m rfl)
  exact ⟨c,clOf_has m hc'⟩
 ·cases h
 ·rcases (f2 b hb).2.2.2.1 with z|z
  ·exact I.ok.noex b o e z
  ·exact absurd (Nat.lt_of_lt_of_le (noS b o e) z) (Nat.lt_irrefl _)
 ·rcases List.mem_cons.mp (I.stkSub b z) with e|e
  ·exact (f2 b hb).2.1 e
  ·exact (f2 b hb).2.2.1 e
 ·by_cases hi:i<xn.length
  ·exfalso
   unfold Cb at e2
   rw [List.getElem?_append_left (by rw [List.length_replicate];exact hi),List.getElem?_replicate,if_pos hi] at e2
   cases e2
  ·obtain ⟨j,rfl⟩:∃ j,i=xn.length+j:=⟨i - xn.length,by omega⟩
   have e1:(xn++cn)[xn.length+j]? = some y:=e1
   rw [List.getElem?_append_right (by omega),Nat.add_sub_cancel_left] at e1
   have e2:(Cb xn.length cap σ)[xn.length+j]? = some (some v):=e2
   unfold Cb at e2
   rw [List.getElem?_append_right (by rw [List.length_replicate];omega),List.length_replicate,Nat.add_sub_cancel_left] at e2
   have e1:cn[j]? = some y:=e1
   obtain ⟨k,hk,hN,hkind,hfr⟩:=hcap.at e1
   have e2:(cap.map fun i=>(σ[i]?).join)[j]? = some (some v):=e2
   rw [List.getElem?_map,hk] at e2
   have e2:(σ[k]?).join=some v:=Option.some.inj e2
   have e2:σ[k]? = some (some v):=by
    cases q:σ[k]? with
    | none=>rw [q] at e2;cases e2
    | some o=>rw [q] at e2;cases o with
     | none=>cases e2
     | some v'=>have e2:some v'=some v:=e2;rw [e2]
   obtain ⟨m,hn,hl⟩:=I.loc
   obtain ⟨u,r,l⟩:=hl k y v hN e2 (.inr hkind)
   refine ⟨u,r,?_⟩
   rcases l with ⟨kl,_⟩ | ⟨_,c,hc',o,ho,hd⟩
   ·have kl:X.env.scope.names.lookup y=some .local := kl
    rw [kl] at hkind
    rcases hkind with z|z<;>cases z
   ·refine .inr ⟨?_,c,clOf_has (PySem.mem_of_lookup hfr) hc',o,keep c o ho,hd⟩
    rcases e3 with z|z
    ·
     exfalso
     have z:(relabel scope X.env).names.lookup y=some .local := z
     have hm:=PySem.mem_of_lookup z
     unfold relabel at hm
     obtain ⟨⟨n,k'⟩,hp,e⟩:=List.mem_map.mp hm
     dsimp only at e
     have hl2:(y,NameKind.local)∈scope.names:=by
      split at e
      ·cases e
      ·cases e;exact hp
     have:=S.names _ hl2 rfl
     rw [hfr] at this
     cases this
    ·exact z
 ·obtain ⟨v,o,ho,hd⟩:=I.cell y c (Ep e)
  exact ⟨v,o,keep c o ho,hd⟩
 ·show (Cb xn.length cap σ).length=(xn++cn).length
  unfold Cb
  rw [List.length_append,List.length_append,List.length_replicate,List.length_map,hcap.len]
theorem comp_coreN {scope:Scope}{xn:List Str}{pos:Pos}{tg:Expr}{g:TG}{elt iter:Expr}{ifs:List Expr}{cn:List Str}{cap:List Nat}{s2:Shared}{H2:Hp}{it:Addr}{fp:List Addr}{tn:Nat->Heap->Prop}{J:It}{tc:TT}{te:TE}{Q:VK}{RR:Value->Addr->Result->Shared->Prop}{E:Value->Shared->Prop}
  (S:CompScope X scope) (I2:Inv X pins σ H2 s2) (hc:X.calm=true) (hcap:Caps X scope cn cap) (gat:GAt xn.length g) (hg:∀ (C:Addr) (s:Shared) (H:Hp) (fp:List Addr),PG (BQ X (xn++cn) scope C s H fp) tg g) (hnd:(xn++cn).Nodup)
  (T:Turn X.prog X.w X.K tg J fp it tn) (st2:tn 0 s2.heap) (f2:∀ b∈fp,GK X pins H2 b)
  (body:∀ (C:Addr) (s:Shared) (H:Hp) (fp:List Addr),PTs (BQ X (xn++cn) scope C s H fp) ifs tc/\PE (BQ X (xn++cn) scope C s H fp) elt te)
  (q:∀ p,H2 p=none->∃ W:Nat->Nat->List V->Hp->Prop,(∃ m,W 0 m [] (upd H2 p (.lst [])))/\∀ i m xs H3,W i m xs H3 ->
   (J.stop i H3/\Q (.ref p) H3)\/(J.go i H3/\∃ N:List V->Hp->Prop,(∀ xs' H',N xs' H'->∃ m',m'<m/\W (i+1) m' xs' H') /\
    ∀ v H4,J.yld i H3 v H4->g v (Cb xn.length cap σ) H4 fun σ2 H4=>tc σ2 H4 fun b H5=>if b=true then te σ2 H5 fun v H6=>H6 p=some (.lst xs)/\xs.length<sizeLine/\N (xs++[v]) (upd H6 p (.lst (xs++[v]))) else N xs H5))
  (hRR:∀ (p C:Addr) (s3 s':Shared) (H3 Hf:Hp) (σ':St),Inv X pins σ H3 s3->s3.heap.objs.size=C->Inv (BQ X (xn++cn) scope C s3 H3 fp) [] σ' Hf s'->Q (.ref p) Hf->RR (.ref p) C (.ok .next) s') :
  wpAny (model X.prog X.w) X.A (newList []) (fun acc s₃=>wpAny (model X.prog X.w) X.A (newFunctionEnv scope X.env.globals (Gr scope X.env) [] X.env.qual none .none (some X.env)) (fun cenv s₄ =>
   codeAny (model X.prog X.w) X.A (.compStart (.ListComp elt [⟨tg,iter,ifs,0⟩] scope pos) 0 (.ref it) acc { cenv with scope:=relabel scope X.env }) (RR acc cenv.locals) s₄) E s₃) E s2:=by
 refine wpAny_newObj_type (wpAny_newFunctionEnv S.cell (by intro y hy;simp at hy) (fun h₁ hns₁ hsb₁=>?_) S.kind)
 dsimp only at hns₁ hsb₁ ⊢
 have hfr:H2 s2.heap.objs.size=none:=I2.hok.fresh (Nat.le_refl _)
 obtain ⟨W,⟨m0,w0⟩,turn⟩:=q _ hfr
 have I3:Inv X pins σ (upd H2 s2.heap.objs.size (.lst [])) { s2 with heap:=s2.heap.push { cls:=.type "list",data:=.seq ([]:List Value).toArray } } :=
  I2.lnew (its:=[]) (t':=s2.toks) .nil (Nat.zero_le _)
 generalize hs3:({ s2 with heap:=s2.heap.push { cls:=.type "list",data:=.seq ([]:List Value).toArray } }:Shared)=s3 at I3
 have hs3h:s3.heap=s2.heap.push { cls:=.type "list",data:=.seq ([]:List Value).toArray }:=by rw [<- hs3]
 have hst3:tn 0 s3.heap:=T.keep _ _ _ st2 fun b hb o e=>by rw [hs3h];exact Heap.get?_push_of_some _ e
 have ltf:∀ b∈fp,b<s3.heap.objs.size:=fun b hb=>by
  obtain ⟨o,e,_⟩:=T.obj _ _ hst3 b hb
  exact Heap.lt_size e
 have hC:(s2.heap.push { cls:=.type "list",dict:=none,data:=.seq ([]:List Value).toArray }).objs.size=s3.heap.objs.size:=by rw [hs3h]
 rw [hC] at hns₁ hsb₁ ⊢
 have keep:∀ b o,s3.heap.get? b=some o->h₁.get? b=some o:=fun b o e=>by
  refine hsb₁.extBut b o (Nat.ne_of_lt (Heap.lt_size e)) (Heap.get?_push_of_some _ ?_)
  rw [hs3h] at e
  exact e
 have J4:Inv (BQ X (xn++cn) scope s3.heap.objs.size s3 (upd H2 s2.heap.objs.size (.lst [])) fp) [] (Cb xn.length cap σ) (upd H2 s2.heap.objs.size (.lst [])) { s3 with heap:=h₁,toks:=s2.toks+([]:List (Str × Value)).length } :=
  comp_startN S I3 hc hcap f2 ltf keep hns₁
 have st4:tn 0 h₁:=T.keep _ _ _ hst3 fun b hb o e=>keep b o e
 have fr4:∀ b∈fp,(upd H2 s2.heap.objs.size (.lst [])) b=none:=fun b hb=>by
  obtain ⟨o,e,_⟩:=T.obj _ _ st2 b hb
  rw [Aq (Nat.ne_of_lt (Heap.lt_size e))]
  exact (f2 b hb).1
 have hst:({ s2 with heap:=h₁,toks:=s2.toks+([]:List (Str × Value)).length }:Shared) = { s3 with heap:=h₁,toks:=s2.toks+([]:List (Str × Value)).length }:=by rw [<- hs3]
 have loop:codeAny (model X.prog X.w) X.A (.compLoop (.ListComp elt [⟨tg,iter,ifs,0⟩] scope pos) 0 (.ref it) (.ref s2.heap.objs.size) (compEnvC scope (Gr scope X.env) s3.heap.objs.size X.env))
   (RR (.ref s2.heap.objs.size) s3.heap.objs.size) { s2 with heap:=h₁,toks:=s2.toks+([]:List (Str × Value)).length }:=by
  rw [hst]
  generalize hX':BQ X (xn++cn) scope s3.heap.objs.size s3 (upd H2 s2.heap.objs.size (.lst [])) fp=X' at J4
  have hfpk:∀ {Hc:Hp},(∀ b∈fp,Hc b=none)->∀ b∈fp,GK X' [] Hc b:=fun {Hc} hn b hb=>by
   subst hX'
   refine ⟨hn b hb,(J4.ok.exf b hb).1,J4.ok.exfs b hb,.inl hb,(J4.ok.exf b hb).2,fun p hp=>absurd (show p∈([]:List (Addr × Obj)) from hp) (by simp)⟩
  refine compLoop_any (fun n s'=>∃ i xs Hc,Inv X' [] (Cb xn.length cap σ) Hc s'/\tn i s'.heap/\(∀ b∈fp,Hc b=none)/\W i n xs Hc) ?_ m0 ⟨0,[],_,J4,st4,fr4,w0⟩
  rintro n s5 ⟨i,xs,Hc,I5,st5,fr5,w5⟩
  have B:=body s3.heap.objs.size s3 (upd H2 s2.heap.objs.size (.lst [])) fp
  rcases turn i n xs Hc w5 with ⟨stop,qn⟩ | ⟨go,N,hN,step⟩
  ·subst hX'
   refine thn (T.done (BQ X (xn++cn) scope s3.heap.objs.size s3 (upd H2 s2.heap.objs.size (.lst [])) fp) rfl rfl rfl rfl i [] s5 (Cb xn.length cap σ) Hc (fun _ _=>False) I5 (hfpk fr5) st5 stop) fun r s6 ⟨hr,I6⟩=>?_
   subst hr
   exact hRR _ _ s3 s6 _ Hc _ I3 rfl I6 qn
  ·subst hX'
   refine thn (T.item (BQ X (xn++cn) scope s3.heap.objs.size s3 (upd H2 s2.heap.objs.size (.lst [])) fp) rfl rfl rfl rfl i [] s5 (Cb xn.length cap σ) Hc (fun _ _=>False) I5 (hfpk fr5) st5 go) fun r s6 ⟨u,hr,h6⟩=>?_
   subst hr
   refine thn h6 fun _ s7 ⟨v,H7,I7,r7,y7,st7,fr7⟩=>?_
   have I7':=I7.pinned (hfpk fr7) (T.obj _ _ st7)
   have hg:=hg s3.heap.objs.size s3 (upd H2 s2.heap.objs.size (.lst [])) fp
   refine thn (hg _ s7 _ H7 v u _ I7' r7 (gat v (Cb xn.length cap σ) H7 _ (step v H7 y7))) fun _ s8 ⟨σ8,H8,I8,e8,q8⟩=>?_
   have again:∀ {s9:Shared}{H9:Hp}{ys:List V},Inv (BQ X (xn++cn) scope s3.heap.objs.size s3 (upd H2 s2.heap.objs.size (.lst [])) fp) ([]++pinsAt fp s7.heap) σ8 H9 s9->N ys H9 ->
     ∃ m,m<n/\∃ i xs Hc,Inv (BQ X (xn++cn) scope s3.heap.objs.size s3 (upd H2 s2.heap.objs.size (.lst [])) fp) [] (Cb xn.length cap σ) Hc s9/\tn i s9.heap/\(∀ b∈fp,Hc b=none)/\W i m xs Hc:=fun {s9 H9 ys} I9 n9=>by
    obtain ⟨m',hm,w9⟩:=hN ys H9 n9
    refine ⟨m',hm,i+1,ys,H9,(I9.unpinned (pins:=[])).weak e8.1.symm (fun j w e=>?_),T.keep _ _ _ st7 fun b hb o e=>(I9.pin (b,o) (List.mem_append_right _ (List.mem_append_right _ (FF hb e)))).1,fun b hb=>?_,w9⟩
    ·by_cases hj:j<xn.length
     ·exfalso
      unfold Cb at e
      rw [List.getElem?_append_left (by rw [List.length_replicate];exact hj),List.getElem?_replicate,if_pos hj] at e
      cases e
     ·rw [e8.2 j (by omega)]
      exact e
    ·obtain ⟨o,e,_⟩:=T.obj _ _ st7 b hb
     exact (I9.pin (b,o) (List.mem_append_right _ (List.mem_append_right _ (FF hb e)))).2.1
   refine thn (B.1 _ s8 _ H8 _ I8 q8) fun ok s9 ⟨H9,I9,q9⟩=>?_
   cases ok with
   | false =>
    rw [if_neg Bool.false_ne_true] at q9 ⊢
    exact again I9 q9
   | true =>
    rw [if_pos rfl] at q9 ⊢
    refine thn (B.2 _ s9 _ H9 _ I9 q9) fun uy s10 ⟨y,H10,I10,r10,hp,hl,n10⟩=>?_
    refine thn (BK _ s10 _ H10 (.ref s2.heap.objs.size) [y] (.ref s2.heap.objs.size) [uy] (fun _ H11=>N (xs++[y]) H11) I10 rfl (.cons r10 .nil) ⟨_,xs,y,rfl,rfl,hp,hl,n10⟩) fun _ s11 ⟨_,H11,I11,_,n11⟩=>?_
    exact again I11 n11
 exact codeAny_compStart_list loop (T.self _ _ _ _ _ st4 loop)
theorem pe_compN {scope:Scope}{xn:List Str}{pos:Pos}{tg:Expr}{g:TG}{elt iter:Expr}{ifs:List Expr}{cn:List Str}{cap:List Nat}{wi:TI}{tc:TT}{te:TE}
  (hc:X.calm=true) (S:CompScope X scope) (gat:GAt xn.length g) (hg:∀ (C:Addr) (s:Shared) (H:Hp) (fp:List Addr),PG (BQ X (xn++cn) scope C s H fp) tg g) (hnd:(xn++cn).Nodup) (hcap:Caps X scope cn cap) (hi:PI X tg iter wi)
  (body:∀ (C:Addr) (s:Shared) (H:Hp) (fp:List Addr),PTs (BQ X (xn++cn) scope C s H fp) ifs tc/\PE (BQ X (xn++cn) scope C s H fp) elt te)
  (hs:∀ x,foldedSetIterable iter X.env x=pure x:=by intro _;rfl):PE X (.ListComp elt [⟨tg,iter,ifs,0⟩] scope pos) (tCompN g xn.length cap wi tc te):=by
 intro pins s σ H Q I h
 rw [eval_ListComp]
 refine wpAny_comprehension_free (use:=none) rfl hs (S.clos I) S.kind S.names (thn (hi pins s σ H _ I h) fun xv s1 h1=>thn h1 fun itv s2 h2=>?_)
 obtain ⟨it,fp,tn,J,H2,e,I2,T,st2,f2,q⟩:=h2
 subst e
 refine comp_coreN (RR:=fun acc C=>compPost (model X.prog X.w) X.A X.xe none (EP X pins σ Q) acc C) S I2 hc hcap gat hg hnd T st2 f2 body q ?_
 intro p C s3 s' H3 Hf σ' I3 hC J' qf
 subst hC
 have I4:=comp_out I3 J' f2
 obtain ⟨m,hn,_⟩:=J'.loc
 refine ⟨m,hn,fun h' hs'=>?_⟩
 refine ⟨.ref p,Hf,?_,rfl,qf⟩
 have f:=I3.fpOk (H':=Hf) (Nat.le_refl _) J'.free
 exact I4.turned (t':=s'.toks) (it:=s3.heap.objs.size) (fun b o hb e=>(hs'.2 b hb).trans e) f.1 f.2.1 f.2.2.2.1 f.2.2.2.2.1 f.2.2.2.2.2
theorem ps_setcompN {scope:Scope}{xn:List Str}{y:Str}{py pos spos:Pos}{tg:Expr}{g:TG}{elt iter:Expr}{ifs:List Expr}{cn:List Str}{cap:List Nat}{wi:TI}{tc:TT}{te:TE}{i:Nat}
  (hN:X.N.Nodup) (hi:X.N[i]? = some y) (hy:Loc X.env.scope y) (hc:X.calm=true) (S:CompScope X scope) (gat:GAt xn.length g) (hg:∀ (C:Addr) (s:Shared) (H:Hp) (fp:List Addr),PG (BQ X (xn++cn) scope C s H fp) tg g) (hnd:(xn++cn).Nodup) (hcap:Caps X scope cn cap) (hit:PI X tg iter wi)
  (body:∀ (C:Addr) (s:Shared) (H:Hp) (fp:List Addr),PTs (BQ X (xn++cn) scope C s H fp) ifs tc/\PE (BQ X (xn++cn) scope C s H fp) elt te)
  (hsw:swapsWith (.ListComp elt [⟨tg,iter,ifs,0⟩] scope pos) (some (.Name y py)) spos.line X.env=pure true:=by rfl)
  (hf:X.fn y=true\/X.env.scope.names.lookup y=some .local := by first|exact .inl rfl|exact .inr rfl|assumption)
  (hs:∀ x,foldedSetIterable iter X.env x=pure x:=by intro _;rfl):PS X (.Assign [.Name y py] (.ListComp elt [⟨tg,iter,ifs,0⟩] scope pos) spos) (Fn (tCompN g xn.length cap wi tc te) (C5 i)):=by
 intro pins s σ H D I h
 rw [exec_Assign_Name_used _ _ _ _ hsw]
 refine wpAny_bind (wpAny_standAt (wpAny_bind ?_))
 show wpAny _ X.A (do let _ <- comprehension (.ListComp elt [⟨tg,iter,ifs,0⟩] scope pos) scope X.env _ (newList []) false (eval iter X.env) (some (assign (.Name y py) X.env))) _ _ s
 refine wpAny_bind (wpAny_mono (wpAny_comprehension_free (use:=some (assign (.Name y py) X.env)) (Q:=fun _ s'=>SP X pins D .next s') rfl hs (S.clos I) S.kind S.names
  (thn (hit pins s σ H _ I h) fun xv s1 h1=>thn h1 fun itv s2 h2=>?_)) (fun _ s' hq=>wpAny_pure (wpAny_pure hq)) fun _ _ e=>e)
 obtain ⟨it,fp,tn,J,H2,e,I2,T,st2,f2,q⟩:=h2
 subst e
 refine comp_coreN (Q:=fun v H1=>C5 i v σ H1 D.nx) (RR:=fun acc C=>compPost (model X.prog X.w) X.A X.xe (some (assign (.Name y py) X.env)) (fun _ s'=>SP X pins D .next s') acc C) S I2 hc hcap gat hg hnd T st2 f2 body q ?_
 intro p C s3 s' H3 Hf σ' I3 hC J' qf
 subst hC
 have I4:=comp_out I3 J' f2
 obtain ⟨m,hn,_⟩:=J'.loc
 have f:=I3.fpOk (H':=Hf) (Nat.le_refl _) J'.free
 show wpAny _ X.A (assign (.Name y py) X.env (.ref p)) _ _ _
 refine wpAny_assign_Name (store_ok2 (v:=V.ref p) I4 hN hi hy rfl (fun s'' I5 ch=>?_) hf)
 obtain ⟨a,hsb,ha⟩:=ch
 have hCa:s3.heap.objs.size≠a:=by
  rcases ha with rfl|ha
  ·exact f.2.1
  ·exact fun z=>f.2.2.2.2.1 y a ha z.symm
 refine ⟨m,hn.sameBut hsb hCa,fun h' hs'=>?_⟩
 exact ⟨_,Hf,I5.turned (t':=s''.toks) (it:=s3.heap.objs.size) (fun b o hb e=>(hs'.2 b hb).trans e) f.1 f.2.1 f.2.2.2.1 f.2.2.2.2.1 f.2.2.2.2.2,qf⟩
end
section
variable {X:Cx}{pins:List (Addr × Obj)}{σ:St}
theorem gat1:GAt 1 (C5 0):=fun v σ H Q h=>⟨⟨List.length_set,fun j hj=>List.getElem?_set_ne (by omega)⟩,h⟩
theorem Co {scope:Scope}{x:Str}{px pos:Pos}{elt iter:Expr}{ifs:List Expr}{cn:List Str}{cap:List Nat}{wi:TI}{tc:TT}{te:TE}
  (hc:X.calm=true) (S:CompScope X scope) (hx:scope.names.lookup x=some .local) (hnd:(x::cn).Nodup) (hcap:Caps X scope cn cap) (hi:PI X (.Name x px) iter wi)
  (body:∀ (C:Addr) (s:Shared) (H:Hp) (fp:List Addr),PTs (BQ X (x::cn) scope C s H fp) ifs tc/\PE (BQ X (x::cn) scope C s H fp) elt te)
  (hs:∀ x,foldedSetIterable iter X.env x=pure x:=by intro _;rfl):PE X (.ListComp elt [⟨.Name x px,iter,ifs,0⟩] scope pos) (tComp cap wi tc te):=by
 have h:=pe_compN (xn:=[x]) (tg:=.Name x px) (g:=C5 0) (pos:=pos) (elt:=elt) hc S gat1 (fun C s H fp=>Ah (i:=0) hnd rfl (.inl (lookup_relabel_local hx)) (.inr (lookup_relabel_local hx))) hnd hcap hi body hs
 exact h
theorem Bg {scope:Scope}{x y:Str}{px py pos spos:Pos}{elt iter:Expr}{ifs:List Expr}{cn:List Str}{cap:List Nat}{wi:TI}{tc:TT}{te:TE}{i:Nat}
  (hN:X.N.Nodup) (hi:X.N[i]? = some y) (hy:Loc X.env.scope y) (hc:X.calm=true) (S:CompScope X scope) (hx:scope.names.lookup x=some .local) (hnd:(x::cn).Nodup) (hcap:Caps X scope cn cap) (hit:PI X (.Name x px) iter wi)
  (body:∀ (C:Addr) (s:Shared) (H:Hp) (fp:List Addr),PTs (BQ X (x::cn) scope C s H fp) ifs tc/\PE (BQ X (x::cn) scope C s H fp) elt te)
  (hsw:swapsWith (.ListComp elt [⟨.Name x px,iter,ifs,0⟩] scope pos) (some (.Name y py)) spos.line X.env=pure true:=by rfl)
  (hf:X.fn y=true\/X.env.scope.names.lookup y=some .local := by first|exact .inl rfl|exact .inr rfl|assumption)
  (hs:∀ x,foldedSetIterable iter X.env x=pure x:=by intro _;rfl):PS X (.Assign [.Name y py] (.ListComp elt [⟨.Name x px,iter,ifs,0⟩] scope pos) spos) (Fn (tComp cap wi tc te) (C5 i)):=by
 have h:=ps_setcompN (xn:=[x]) (tg:=.Name x px) (g:=C5 0) (pos:=pos) (spos:=spos) (py:=py) (elt:=elt) hN hi hy hc S gat1 (fun C s H fp=>Ah (i:=0) hnd rfl (.inl (lookup_relabel_local hx)) (.inr (lookup_relabel_local hx))) hnd hcap hit body hsw hf hs
 exact h
end
theorem Bk:bootBuiltins "len" = some (.builtin "len"):=by decide +kernel
theorem bt_isinstance:bootBuiltins "isinstance" = some (.builtin "isinstance"):=by decide +kernel
theorem bt_list:bootBuiltins "list" = some (.type "list"):=by decide +kernel
theorem bt_tuple:bootBuiltins "tuple" = some (.type "tuple"):=by decide +kernel
theorem bt_int:bootBuiltins "int" = some (.type "int"):=by decide +kernel
theorem bt_bool:bootBuiltins "bool" = some (.type "bool"):=by decide +kernel
theorem EM:bootBuiltins "set" = some (.type "set"):=by decide +kernel
noncomputable def kitC (T c:String):Option Bool:=if (T == c)=true then some true else if PySem.W.kitMeta c=true then (fastBuiltinMro T).map (·.contains (.type c)) else none
theorem kit_of {K:FZ9}{T c:String}{b:Bool}(h:kitC T c=some b):PySem.W.kitOne K (.type T) (.type c)=some b:=by
 unfold kitC at h
 unfold PySem.W.kitOne
 by_cases e:T=c
 ·subst e
  rw [if_pos (by simp)] at h
  rw [if_pos (by simp)]
  exact h
 ·rw [if_neg (by simpa using e)] at h
  rw [if_neg (by intro z;exact e (by simpa using z))]
  exact h
structure DefOk (P:Program)(w:World)(K:FZ9)(mg:Str->Option Value)(base:Heap)(x:Str)(k:Nat)(ps:List Str)(sp:Sp):Prop where
 ex:∃ f fd,FnOk P w K mg base CX0 k f fd ps sp/\mg x=some (.ref f)/\PySem.W.keepIn K (.ref f)=true/\Binds K fd ps []
section
variable {X:Cx}{x:Str}{k j:Nat}{ps:List Str}{sp:Sp}{e:Expr}{es:List Expr}{t:TA}{p pos:Pos}
theorem Aa (F:DefOk X.prog X.w X.K X.mg X.base x k ps sp)(hr:Room j X.A)(hj:k<=j)(hg:Gl X x)(ha:PA X (e::es) t)(hdb:(x == ("__debug__" : Str))=false:=by decide)
  (he:starEach (e::es) X.env=(false,eval e X.env)::starEach es X.env:=by rfl) (hpl:(backTo pos (starEach es X.env)).any (·.1)=false:=by rfl) :
  PE X (.Call (.Name x p) (e::es) [] pos) (tCall sp [] E0 t):=by
 obtain ⟨f,fd,G,m,kp,b⟩:=F.ex
 exact pe_call G (hr.mono hj) hg m kp b .nil pass0 ha hdb he hpl
end
theorem B9 {P:Program}{w:World}{K:FZ9}{mg:Str->Option Value}{base:Heap}{x:Str}{st:Stmt}{f:Addr}{fd:FuncData}{k:Nat}{ps:List Str}{sp:Sp}(F:Fun K x x st f fd)(m:mg x=some (.ref f))(b:Binds K fd ps [])(G:FnOk P w K mg base CX0 k f fd ps sp):DefOk P w K mg base x k ps sp :=
 ⟨f,fd,G,m,F.kp,b⟩
theorem Ay {X:Cx}{scope:Scope}(h:(scope.names.all fun p=>p.2 != .free || X.env.scope.names.lookup p.1 == some .cell || X.env.scope.names.lookup p.1 == some .free)=true) :
  ∀ y∈scope.names,y.2 = .free->X.env.scope.names.lookup y.1=some .cell\/X.env.scope.names.lookup y.1=some .free:=fun y hy hf=>by
 have:=List.all_eq_true.mp h y hy
 rw [hf] at this
 simpa using this
theorem Same.new {H:Hp}{p:Addr}{o:HO}(h:H p=none):Same H (upd H p o):=fun b u e=>by rw [Aq (Ax e h)];exact e
theorem Same.put {H H':Hp}{p:Addr}{o:HO}(s:Same H H')(h:H p=none):Same H (upd H' p o):=fun b u e=>by rw [Aq (Ax e h)];exact s b u e
noncomputable def Its (x:Str):It:=⟨fun i _=>i<x.cps.size,fun i H v H'=>H'=H/\∃ c,x.cps[i]? = some c/\v = .str ⟨#[c]⟩,fun i _=>i=x.cps.size⟩
noncomputable def StrIt (it:Addr)(x:Str)(t:Tok)(i:Nat)(h:Heap):Prop:=h.IsStrIter it "str_ascii_iterator" x t i\/h.IsStrIter it "str_iterator" x t i
theorem turn_str {P:Program}{w:World}{K:FZ9}{tg:Expr}(x:Str)(t:Tok)(it:Addr):Turn P w K tg (Its x) [it] it (StrIt it x t) where
 mem:=by simp
 obj:=fun i h st b hb=>by
  have e:b=it:=by simpa using hb
  subst e
  rcases st with ⟨o,e,c,d⟩ | ⟨o,e,c,d⟩<;>exact ⟨o,e,fun v z=>by rw [d] at z;cases z⟩
 keep:=fun i h h' st k=>by
  rcases st with ⟨o,e,r⟩ | ⟨o,e,r⟩
  ·exact .inl ⟨o,k it (by simp) o e,r⟩
  ·exact .inr ⟨o,k it (by simp) o e,r⟩
 item:=by
  intro X hP hw hK hc i pins s σ H E I hf st hg
  subst hP hw hK
  obtain ⟨f0,f1,f2,f3,f4,f5⟩:=hf it (by simp)
  rcases st with st|st
  ·refine (Walks.strAscii (prog:=X.prog) (w:=X.w) (I.ok.hd hc) it x t).item i s _ _ hg st fun v h' tk hv st' kk=>?_
   obtain ⟨c,u,hcx,rfl⟩:=hv
   have I1:=I.turned (h':=h') (t':=tk) (fun b o hb e=>kk b o (by simpa using hb) e) f0 f1 f3 f4 f5
   obtain ⟨o,e,hc',d⟩:=id st'
   exact ⟨_,rfl,go_of (s:={ s with heap:=h',toks:=tk }) e hc' d (by decide) ⟨.str ⟨#[c]⟩,H,I1,⟨u,rfl⟩,⟨rfl,c,hcx,rfl⟩,.inl st',fun b hb=>(hf b hb).1⟩⟩
  ·refine (Walks.strWide (prog:=X.prog) (w:=X.w) (I.ok.hd hc) it x t).item i s _ _ hg st fun v h' tk hv st' kk=>?_
   obtain ⟨c,u,hcx,rfl⟩:=hv
   have I1:=I.turned (h':=h') (t':=tk) (fun b o hb e=>kk b o (by simpa using hb) e) f0 f1 f3 f4 f5
   obtain ⟨o,e,hc',d⟩:=id st'
   exact ⟨_,rfl,go_of (s:={ s with heap:=h',toks:=tk }) e hc' d (by decide) ⟨.str ⟨#[c]⟩,H,I1,⟨u,rfl⟩,⟨rfl,c,hcx,rfl⟩,.inr st',fun b hb=>(hf b hb).1⟩⟩
 done:=by
  intro X hP hw hK hc i pins s σ H E I hf st hg
  subst hP hw hK
  obtain ⟨f0,f1,f2,f3,f4,f5⟩:=hf it (by simp)
  have hg:i=x.cps.size:=hg
  subst hg
  rcases st with st|st
  ·exact (Walks.strAscii (prog:=X.prog) (w:=X.w) (I.ok.hd hc) it x t).done s _ _ st fun h' tk kk=>⟨rfl,I.turned (fun b o hb e=>kk b o (by simpa using hb) e) f0 f1 f3 f4 f5⟩
  ·exact (Walks.strWide (prog:=X.prog) (w:=X.w) (I.ok.hd hc) it x t).done s _ _ st fun h' tk kk=>⟨rfl,I.turned (fun b o hb e=>kk b o (by simpa using hb) e) f0 f1 f3 f4 f5⟩
 self:=fun _ _ _ _ _ st h=>by
  rcases st with st|st
  ·exact wpAny_pyIter_striter_ascii st h
  ·exact wpAny_pyIter_striter_wide st h
section
variable {X:Cx}{tg:Expr}
noncomputable def iAny (K:FZ9)(tl:TE):TI:=fun σ H R=>tl σ H fun v H1=>match v with
 | .str x=>R (Its x) H1
 | .ref a=>((∃ xs,SqL K H1 a xs)/\R (Itl K a) H1)\/((∃ xs,SqT K H1 a xs)/\R (Itt K a) H1)
 | _=>False
theorem pi_any {l:Expr}{tl:TE}(hl:PE X l tl):PI X tg l (iAny X.K tl):=by
 intro pins s σ H R I h
 refine thn (hl pins s σ H _ I h) fun v s1 ⟨x,H1,I1,r1,q1⟩=>?_
 have one:∀ b∈[s1.heap.objs.size],GK X pins H1 b:=fun b hb=>by
  have e:b=s1.heap.objs.size:=by simpa using hb
  subst e
  exact I1.fpOk (Nat.le_refl _) (I1.hok.fresh (Nat.le_refl _))
 cases x with
 | str z =>
  obtain ⟨t,rfl⟩:=r1
  have q1:R (Its z) H1:=q1
  cases ha:z.cps.all (· < 128)
  ·exact wpAny_pyIter_wide ha ⟨s1.heap.objs.size,[s1.heap.objs.size],_,_,H1,rfl,I1.kept (t':=s1.toks) fun b o e=>Heap.get?_push_of_some _ e,turn_str z t _,.inr ⟨_,Heap.get?_push_size _ rfl,rfl,rfl⟩,one,q1⟩
  ·exact wpAny_pyIter_ascii ha ⟨s1.heap.objs.size,[s1.heap.objs.size],_,_,H1,rfl,I1.kept (t':=s1.toks) fun b o e=>Heap.get?_push_of_some _ e,turn_str z t _,.inl ⟨_,Heap.get?_push_size _ rfl,rfl,rfl⟩,one,q1⟩
 | ref a =>
  cases r1
  have q1:((∃ xs,SqL X.K H1 a xs)/\R (Itl X.K a) H1)\/((∃ xs,SqT X.K H1 a xs)/\R (Itt X.K a) H1):=q1
  rcases q1 with ⟨⟨xs,hq⟩,q⟩ | ⟨⟨xs,hq⟩,q⟩
  ·obtain ⟨its,rv,p,hz⟩:=I1.list hq
   exact wpAny_pyIter_list p.isList ⟨s1.heap.objs.size,[s1.heap.objs.size],_,_,H1,rfl,I1.kept (t':=s1.toks) fun b o e=>Heap.get?_push_of_some _ e,turn_list a _,⟨_,Heap.get?_push_size _ rfl,rfl,rfl⟩,one,q⟩
  ·obtain ⟨its,rv,p,hz⟩:=I1.tuple hq
   exact wpAny_pyIter_tuple (show s1.heap.IsTuple a its.toArray from p) ⟨s1.heap.objs.size,[s1.heap.objs.size],_,_,H1,rfl,I1.kept (t':=s1.toks) fun b o e=>Heap.get?_push_of_some _ e,turn_tuple a _,⟨_,Heap.get?_push_size _ rfl,rfl,rfl⟩,one,q⟩
 | _=>exact (show False from q1).elim
end
structure Yields (J:It)(H:Hp)(xs:List V):Prop where
 go:∀ i H',Same H H'->i<xs.length->J.go i H'
 stop:∀ H',Same H H'->J.stop xs.length H'
 yld:∀ i H' x H'',Same H H'->i<xs.length->J.yld i H' x H''->H''=H'/\xs[i]? = some x
theorem yields_range (lo:Int)(n:Nat)(H:Hp):Yields (Itr lo n) H ((List.range n).map fun (i:Nat)=>V.int (lo+(i:Int))) where
 go:=fun i H' _ hi=>by
  show i<n
  simpa using hi
 stop:=fun H' _=>by
  show n<=((List.range n).map fun (i:Nat)=>V.int (lo+(i:Int))).length
  simp
 yld:=fun i H' v H'' _ hi y=>by
  obtain ⟨rfl,rfl⟩:=y
  rw [List.length_map,List.length_range] at hi
  refine ⟨rfl,?_⟩
  simp [hi]
theorem yields_list {K:FZ9}{a:Addr}{xs:List V}{H:Hp}(h:SqL K H a xs):Yields (Itl K a) H xs where
 go:=fun i H' s hi=>⟨xs,xs[i],s.seq h,by simp [hi]⟩
 stop:=fun H' s=>⟨xs,s.seq h,Nat.le_refl _⟩
 yld:=fun i H' v H'' s _ y=>⟨y.1,y.2 xs (s.seq h)⟩
section
variable {X:Cx}
noncomputable def rPlus (K:FZ9):R2:=fun x y H Q=>match x,y with
 | .int i,.int j=>Q (.int (i+j)) H
 | .str a,.str b=>a.length+b.length<=sizeLine/\Q (.str (a++b)) H
 | .ref a,.ref b=>∃ xs ys,Rd H a (.lst xs)/\Rd H b (.lst ys)/\xs.length+ys.length<=sizeLine/\∀ p,H p=none->Q (.ref p) (upd H p (.lst (xs++ys)))
 | _,_=>False
theorem op_catS:OpR X (binaryOp .Add) (fun x y H Q=>∃ a b xs ys,x = .ref a/\y = .ref b/\Rd H a (.lst xs)/\Rd H b (.lst ys)/\xs.length+ys.length<=sizeLine/\∀ p,H p=none->Q (.ref p) (upd H p (.lst (xs++ys)))):=by
 intro pins s σ H x y v u Q I rx ry h
 obtain ⟨l,b,xs,zs,rfl,rfl,hH,hB,hz,q⟩:=h
 cases rx
 cases ry
 obtain ⟨z,its,n,r,e⟩:=hH.ok I.hok
 obtain ⟨z2,its2,n2,r2,e2⟩:=hB.ok I.hok
 have hl:=r.length
 have hl2:=r2.length
 refine PySem.P.add_list e e2 ?_ (by rw [List.size_toArray,List.size_toArray];omega)
 have ea:its.toArray++its2.toArray=(its++its2).toArray:=by simp
 rw [ea]
 exact ⟨.ref _,_,I.lnew (t':=s.toks) (r.append r2) (by rw [List.length_append];omega),rfl,q _ I.fresh⟩
theorem op_plus:OpR X (binaryOp .Add) (rPlus X.K):=by
 intro pins s σ H x y v u Q I rx ry h
 cases x with
 | int i=>cases y with
  | int j=>exact op_add pins s σ H _ _ v u Q I rx ry ⟨i,j,rfl,rfl,h⟩
  | _=>exact (show False from h).elim
 | str a=>cases y with
  | str b=>exact op_add_str pins s σ H _ _ v u Q I rx ry ⟨a,b,rfl,rfl,h.1,h.2⟩
  | _=>exact (show False from h).elim
 | ref a=>cases y with
  | ref b =>
   obtain ⟨xs,ys,h1,h2,h3,h4⟩:=h
   exact op_catS pins s σ H _ _ v u Q I rx ry ⟨a,b,xs,ys,rfl,rfl,h1,h2,h3,h4⟩
  | _=>exact (show False from h).elim
 | _=>exact (show False from h).elim
noncomputable def rOrd (fi:Int->Int->Bool)(fs:List Nat->List Nat->Bool):R2:=fun x y H Q=>match x,y with
 | .int i,.int j=>Q (.bl (fi i j)) H
 | .str a,.str b=>Q (.bl (fs a.cps.toList b.cps.toList)) H
 | _,_=>False
theorem ord_of {f:Value->Value->Sem Value}{fi:Int->Int->Bool}{fs:List Nat->List Nat->Bool}(hi:OpR X f (rI0 fun i j=>.bl (fi i j)))
  (hs:∀ (s:Shared) (a b:Str) (t u:Tok) (Q:Value->Shared->Prop),Q (.bool (fs a.cps.toList b.cps.toList)) s->wpAny (model X.prog X.w) X.A (f (.str a t) (.str b u)) Q X.xe s):OpR X f (rOrd fi fs):=by
 intro pins s σ H x y v u Q I rx ry h
 cases x with
 | int i=>cases y with
  | int j=>exact hi pins s σ H _ _ v u Q I rx ry ⟨i,j,rfl,rfl,h⟩
  | _=>exact (show False from h).elim
 | str a=>cases y with
  | str b =>
   obtain ⟨t,rfl⟩:=rx
   obtain ⟨t',rfl⟩:=ry
   exact hs s a b t t' _ ⟨.bl _,H,I,rfl,h⟩
  | _=>exact (show False from h).elim
 | _=>exact (show False from h).elim
theorem op_ltU:OpR X (compareOp .Lt) (rOrd (fun i j=>decide (i<j)) fun a b=>decide (a<b)):=ord_of op_lt fun _ _ _ _ _ _ h=>lt_str h
theorem op_leU:OpR X (compareOp .LtE) (rOrd (fun i j=>decide (i<=j)) fun a b=>!decide (b<a)):=ord_of op_le fun _ _ _ _ _ _ h=>PySem.P.le_str h
theorem op_gtU:OpR X (compareOp .Gt) (rOrd (fun i j=>decide (j<i)) fun a b=>decide (b<a)):=ord_of op_gt fun _ _ _ _ _ _ h=>PySem.P.gt_str h
theorem op_geU:OpR X (compareOp .GtE) (rOrd (fun i j=>decide (j<=i)) fun a b=>!decide (a<b)):=ord_of op_ge fun _ _ _ _ _ _ h=>PySem.P.ge_str h
noncomputable def rMul (K:FZ9):R2:=fun x y H Q=>match x,y with
 | .int i,.int j=>CMul i j/\Q (.int (i * j)) H
 | .ref l,.int k=>∃ xs,H l=some (.lst xs)/\-(2 ^ 63)<=k/\k<2 ^ 63/\xs.length * k.toNat<=sizeLine/\∀ p,H p=none->Q (.ref p) (upd H p (.lst (List.replicate k.toNat xs).flatten))
 | _,_=>False
theorem op_mulU:OpR X (binaryOp .Mult) (rMul X.K):=by
 intro pins s σ H x y v u Q I rx ry h
 cases x with
 | int i=>cases y with
  | int j=>exact op_mul pins s σ H _ _ v u Q I rx ry ⟨i,j,rfl,rfl,h.1,h.2⟩
  | _=>exact (show False from h).elim
 | ref l=>cases y with
  | int k =>
   obtain ⟨xs,h1,h2,h3,h4,h5⟩:=h
   exact op_rep pins s σ H _ _ v u Q I rx ry ⟨l,k,xs,rfl,rfl,h1,h2,h3,h4,h5⟩
  | _=>exact (show False from h).elim
 | _=>exact (show False from h).elim
noncomputable def rSl (K:FZ9):V->Option Int->Option Int->Hp->VK->Prop:=fun x lo hi H Q=>match x with
 | .str z=>z.length<=sizeLine/\Q (.str (Txt.slice z lo hi)) H
 | .ref a=>(∃ xs,SqL K H a xs/\∀ p,H p=none->Q (.ref p) (upd H p (.lst (cutV xs lo hi))))
 | _=>False
theorem sl_str:SlR X (fun x lo hi H Q=>∃ z,x = .str z/\z.length<=sizeLine/\Q (.str (Txt.slice z lo hi)) H):=by
 intro pins s σ H x v vl vu lo hi sl Q I rx hs pl pu h
 obtain ⟨z,rfl,hz,q⟩:=h
 obtain ⟨t,rfl⟩:=rx
 refine ⟨"str",_,F.slot_str_getitem.lookup,typeIs_str _ _ _,?_⟩
 have fin:∀ (t':Tok) (k:Nat),EP X pins σ Q (.str (Txt.slice z lo hi) t') { s with toks:=k }:=fun t' k=>⟨.str _,H,I.tok k,⟨t',rfl⟩,q⟩
 cases pl with
 | none=>cases pu with
  | none=>exact wpAny_getItem_str_slice (l:=none) (u:=none) (st:=none) hs rfl (post_val_or_str ⟨Nat.le_trans (Txt.slice_le z _ _) hz,fin⟩)
  | int j uj=>exact wpAny_getItem_str_slice (l:=none) (u:=some (j,uj)) (st:=none) hs rfl (post_val_or_str ⟨Nat.le_trans (Txt.slice_le z _ _) hz,fin⟩)
 | int i ui=>cases pu with
  | none=>exact wpAny_getItem_str_slice (l:=some (i,ui)) (u:=none) (st:=none) hs rfl (post_val_or_str ⟨Nat.le_trans (Txt.slice_le z _ _) hz,fin⟩)
  | int j uj=>exact wpAny_getItem_str_slice (l:=some (i,ui)) (u:=some (j,uj)) (st:=none) hs rfl (post_val_or_str ⟨Nat.le_trans (Txt.slice_le z _ _) hz,fin⟩)
theorem sl_any:SlR X (rSl X.K):=by
 intro pins s σ H x v vl vu lo hi sl Q I rx hs pl pu h
 cases x with
 | str z=>exact sl_str pins s σ H _ v vl vu lo hi sl Q I rx hs pl pu ⟨z,rfl,h.1,h.2⟩
 | ref a =>
  obtain ⟨xs,h1,h2⟩:=h
  exact sl_list pins s σ H _ v vl vu lo hi sl Q I rx hs pl pu ⟨a,xs,rfl,h1,h2⟩
 | _=>exact (show False from h).elim
noncomputable def rAt (K:FZ9):R2:=fun x y H Q=>match x,y with
 | .str z,.int i=>z.length<=sizeLine/\∃ c,atI z.cps.toList i=some c/\Q (.str ⟨#[c]⟩) H
 | .ref p,.int i=>(∃ xs v,SqL K H p xs/\atI xs i=some v/\Q v H)\/(∃ xs v,SqT K H p xs/\atI xs i=some v/\Q v H)
 | _,_=>False
theorem ix_any:IxR X (rAt X.K):=by
 intro value slice pins s σ H x y v u Q I rx ry q hs
 cases x with
 | str z=>cases y with
  | int i =>
   obtain ⟨hz,c,hc,q⟩:=q
   exact ix_str value slice pins s σ H _ _ v u Q I rx ry ⟨z,i,c,rfl,rfl,hz,hc,q⟩ hs
  | _=>exact (show False from q).elim
 | ref p=>cases y with
  | int i =>
   rcases q with ⟨xs,w',h1,h2,h3⟩ | ⟨xs,w',h1,h2,h3⟩
   ·exact ix_list value slice pins s σ H _ _ v u Q I rx ry ⟨p,xs,i,w',rfl,rfl,h1,h2,h3⟩ hs
   ·exact ix_tup value slice pins s σ H _ _ v u Q I rx ry ⟨p,xs,i,w',rfl,rfl,h1,h2,h3⟩ hs
  | _=>exact (show False from q).elim
 | _=>exact (show False from q).elim
noncomputable def rLen (K:FZ9):List V->Hp->VK->Prop:=fun vs H Q=>match vs with
 | [.str z]=>z.length<=sizeLine/\Q (.int z.length) H
 | [.ref p]=>∃ ys,(SqL K H p ys\/SqT K H p ys)/\Q (.int ys.length) H
 | _=>False
theorem call_lenU:DX X (.builtin "len") (rLen X.K):=by
 intro pins s σ H vs us Q I r h
 match vs,h with
 | [.str z],h=>exact call_len_str pins s σ H _ us Q I r ⟨z,rfl,h.1,h.2⟩
 | [.ref p],h =>
  obtain ⟨ys,h1,h2⟩:=h
  exact call_len_seq pins s σ H _ us Q I r ⟨p,ys,rfl,h1,h2⟩
end
structure EqTy (K:FZ9)(k:Nat){α:Type}[DecidableEq α](R:Hp->V->α->Prop):Prop where
 fn:∀ {X:Cx}{pins:List (Addr × Obj)}{σ:St}{H:Hp}{s:Shared}{x:V}{a b:α},X.K=K->Inv X pins σ H s->R H x a->R H x b->a=b
 eq:∀ {X:Cx}{pins:List (Addr × Obj)}{σ:St}{H:Hp}{s:Shared}{x y:V}{u v:Value}{a b:α}(A:Around),X.K=K->Inv X pins σ H s->A.units+k<cLine->RelV x u->RelV y v->R H x a->R H y b->SeqAt.EqAt A s u v (decide (a=b))
 rc:∀ {X:Cx}{pins:List (Addr × Obj)}{σ:St}{H:Hp}{s:Shared}{x y:V}{u v:Value}{a b:α}(A:Around),X.K=K->Inv X pins σ H s->A.units+k<cLine->RelV x u->RelV y v->R H x a->R H y b->SeqAt.RcAt A s u v (decide (a=b))/\SeqAt.RcNeAt A s u v (!decide (a=b))
theorem dec_beq {α:Type}[DecidableEq α][BEq α][LawfulBEq α](a b:α):(a == b)=decide (a=b):=by
 by_cases h:a=b
 ·subst h;simp
 ·rw [decide_eq_false h];simpa using h
theorem Paired.at' {α β:Type}{F:α->β->Prop}:∀ {l₁:List α}{l₂:List β}{i:Nat}{a:α}{b:β},Paired F l₁ l₂->l₁[i]? = some a->l₂[i]? = some b->F a b
 | _,_,_,_,_,.nil,e,_=>by simp at e
 | _,_,0,_,_,.cons h _,e1,e2=>by simp at e1 e2;subst e1;subst e2;exact h
 | _,_,i+1,_,_,.cons _ t,e1,e2=>Paired.at' (i:=i) t (by simpa using e1) (by simpa using e2)
section
variable {X:Cx}
end
class Rp (α:Type) where
 rel:FZ9->Hp->V->α->Prop
 mono:∀ {K:FZ9}{H H':Hp}{v:V}{a:α},Same H H'->rel K H v a->rel K H' v a
theorem Same.rd {H H':Hp}{a:Addr}{u:HO}(s:Same H H')(h:Rd H a u):Rd H' a u:=by
 rcases h with h | ⟨o,h⟩
 ·exact .inl (s _ _ h)
 ·exact .inr ⟨o,s _ _ h⟩
theorem Same.tup {K:FZ9}{H H':Hp}{a:Addr}{xs:List V}(e:Same H H')(h:SqT K H a xs):SqT K H' a xs:=by
 rcases h with h|h
 ·exact .inl (e.rd h)
 ·exact .inr h
noncomputable instance rpInt:Rp Int:=⟨fun _ _ v a=>v = .int a,fun _ h=>h⟩
noncomputable instance rpBool:Rp Bool:=⟨fun _ _ v a=>v = .bl a,fun _ h=>h⟩
noncomputable instance rpList {α:Type}[Rp α]:Rp (List α) :=
 ⟨fun K H v as=>∃ l xs,v = .ref l/\Rd H l (.lst xs)/\xs.length<=sizeLine/\Paired (Rp.rel K H) xs as,
  fun s ⟨l,xs,e,h,z,p⟩=>⟨l,xs,e,s.rd h,z,Paired.imp' (fun _ _ r=>Rp.mono s r) p⟩⟩
noncomputable instance rpPair {α β:Type}[Rp α][Rp β]:Rp (α × β) :=
 ⟨fun K H v p=>∃ t a b,v = .ref t/\SqT K H t [a,b]/\Rp.rel K H a p.1/\Rp.rel K H b p.2,
  fun s ⟨t,a,b,e,h,r1,r2⟩=>⟨t,a,b,e,s.tup h,Rp.mono s r1,Rp.mono s r2⟩⟩
structure T3 (α β γ:Type) where
 a:α
 b:β
 c:γ
 deriving DecidableEq
structure Tp (α:Type) where
 l:List α
 deriving DecidableEq
noncomputable instance rpT3 {α β γ:Type}[Rp α][Rp β][Rp γ]:Rp (T3 α β γ) :=
 ⟨fun K H v p=>∃ t a b c,v = .ref t/\SqT K H t [a,b,c]/\Rp.rel K H a p.a/\Rp.rel K H b p.b/\Rp.rel K H c p.c,
  fun s ⟨t,a,b,c,e,h,r1,r2,r3⟩=>⟨t,a,b,c,e,s.tup h,Rp.mono s r1,Rp.mono s r2,Rp.mono s r3⟩⟩
noncomputable instance rpTp {α:Type}[Rp α]:Rp (Tp α) :=
 ⟨fun K H v as=>∃ t xs,v = .ref t/\SqT K H t xs/\xs.length<=sizeLine/\Paired (Rp.rel K H) xs as.l,
  fun s ⟨l,xs,e,h,z,p⟩=>⟨l,xs,e,s.tup h,z,Paired.imp' (fun _ _ r=>Rp.mono s r) p⟩⟩
noncomputable instance rpOpt {α:Type}[Rp α]:Rp (Option α) :=
 ⟨fun K H v o=>match o with|none=>v = .non|some a=>Rp.rel K H v a,
  fun {K H H' v o} s h=>by cases o with|none=>exact h|some a=>exact Rp.mono (α:=α) s h⟩
class RpA (α:Type) where
 n:Nat
 rel:FZ9->Hp->List V->α->Prop
 mono:∀ {K:FZ9}{H H':Hp}{v:List V}{a:α},Same H H'->rel K H v a->rel K H' v a
 len:∀ {K:FZ9}{H:Hp}{v:List V}{a:α},rel K H v a->v.length=n
noncomputable instance raNil:RpA Unit:=⟨0,fun _ _ vs _=>vs=[],fun _ h=>h,fun h=>by rw [h];rfl⟩
noncomputable instance raCons {α β:Type}[Rp α][RpA β]:RpA (α × β) :=
 ⟨RpA.n β+1,fun K H vs p=>∃ v r,vs=v::r/\Rp.rel K H v p.1/\RpA.rel K H r p.2,
  fun s ⟨v,r,e,h1,h2⟩=>⟨v,r,e,Rp.mono s h1,RpA.mono s h2⟩,fun ⟨v,r,e,h1,h2⟩=>by rw [e,List.length_cons,RpA.len h2]⟩
structure Ext (G H G' H':Hp):Prop where
 gg:Same G G'
 gh:Same G' H'
 hh:Same H H'
 no:∀ b,G b=none->H b≠none->G' b=none
section
variable {G H G1 H1 G2 H2 G0 H0:Hp}{p:Addr}{o:HO}
theorem Ext.refl (s:Same G H):Ext G H G H:=⟨.refl _,s,.refl _,fun _ h _=>h⟩
theorem Ext.trans (x:Ext G H G1 H1)(y:Ext G1 H1 G2 H2):Ext G H G2 H2 :=
 ⟨x.gg.trans y.gg,y.gh,x.hh.trans y.hh,fun b h1 h2=>y.no b (x.no b h1 h2) fun z=>h2 (x.hh.free z)⟩
theorem Same.both (s:Same G H):Same (upd G p o) (upd H p o):=fun b u e=>by
 by_cases hb:b=p
 ·subst hb
  rw [AM] at e ⊢
  exact e
 ·rw [Aq hb] at e ⊢
  exact s b u e
theorem Ext.new (s:Same G H)(h:H p=none):Ext G H (upd G p o) (upd H p o) :=
 ⟨Same.new (s.free h),s.both,Same.new h,fun b h1 h2=>by
  have hb:b≠p:=fun z=>h2 (by rw [z];exact h)
  rw [Aq hb]
  exact h1⟩
theorem Ext.own (s:Same G H)(h:H p=none):Ext G H G (upd H p o):=⟨.refl _,s.trans (Same.new h),Same.new h,fun _ h _=>h⟩
theorem Ext.put (x:Ext G0 H0 G H)(h0:H0 p=none)(hg:G p=none):Ext G0 H0 G (upd H p o):=⟨x.gg,x.gh.put hg,x.hh.put h0,x.no⟩
theorem Ext.frz (x:Ext G0 H0 G H)(h0:H0 p=none)(hg:G p=none)(hh:H p=some o):Ext G0 H0 (upd G p o) H :=
 ⟨x.gg.trans (Same.new hg),fun b u e=>by
  by_cases hb:b=p
  ·subst hb
   rw [AM] at e
   rw [hh]
   exact e
  ·rw [Aq hb] at e
   exact x.gh b u e,x.hh,fun b h1 h2=>by
  have hb:b≠p:=fun z=>h2 (by rw [z];exact h0)
  rw [Aq hb]
  exact x.no b h1 h2⟩
end
section
variable {K:FZ9}{σ:St}{G:Hp}
noncomputable def EV (K:FZ9){α:Type}[Rp α](te:TE)(σ:St)(G:Hp)(m:Option α):Prop :=
 ∀ G1,Same G G1->∀ a,m=some a->∀ H,Same G1 H->∀ Q:VK,(∀ v G2 H2,Ext G1 H G2 H2->Rp.rel K G2 v a->Q v H2)->te σ H Q
noncomputable def TV (t:TT)(σ:St)(G:Hp)(m:Option Bool):Prop :=
 ∀ G1,Same G G1->∀ a,m=some a->∀ H,Same G1 H->∀ Q:Bool->Hp->Prop,(∀ G2 H2,Ext G1 H G2 H2->Q a H2)->t σ H Q
noncomputable def AV (K:FZ9){α:Type}[RpA α](t:TA)(σ:St)(G:Hp)(m:Option α):Prop :=
 ∀ G1,Same G G1->∀ a,m=some a->∀ H,Same G1 H->∀ Q:List V->Hp->Prop,(∀ vs G2 H2,Ext G1 H G2 H2->RpA.rel K G2 vs a->Q vs H2)->t σ H Q
noncomputable def LV (K:FZ9){α:Type}[Rp α](t:TA)(σ:St)(G:Hp)(n:Nat)(m:Option (List α)):Prop :=
 ∀ G1,Same G G1->∀ a,m=some a->∀ H,Same G1 H->∀ Q:List V->Hp->Prop,(∀ vs G2 H2,Ext G1 H G2 H2->vs.length=n->Paired (Rp.rel K G2) vs a->Q vs H2)->t σ H Q
noncomputable def OV (t:TO)(σ:St)(G:Hp)(m:Option (Option Int)):Prop :=
 ∀ G1,Same G G1->∀ a,m=some a->∀ H,Same G1 H->∀ Q:Option Int->Hp->Prop,(∀ G2 H2,Ext G1 H G2 H2->Q a H2)->t σ H Q
noncomputable def FV (K:FZ9){α:Type}[Rp α](te:TE)(σ:St)(G:Hp)(m:Option (List α)):Prop :=
 ∀ G1,Same G G1->∀ a,m=some a->∀ H,Same G1 H->∀ Q:VK,(∀ p vs G2 H2,Ext G1 H G2 H2->H p=none->G2 p=none->H2 p=some (.lst vs)->vs.length<=sizeLine->Paired (Rp.rel K G2) vs a->Q (.ref p) H2)->te σ H Q
section
variable {α β γ δ:Type}[Rp α][Rp β][Rp γ][Rp δ]{ta tb tc td:TE}{ma:Option α}{mb:Option β}{mc:Option γ}
theorem EV.run {te:TE}{H:Hp}{a:α}{Q:VK}{m:Option α}(e:EV K te σ G m)(hm:m=some a)(s:Same G H)(k:∀ v G2 H2,Ext G H G2 H2->Rp.rel K G2 v a->Q v H2):te σ H Q:=e G (.refl G) a hm H s Q k
theorem TV.run {t:TT}{H:Hp}{a:Bool}{Q:Bool->Hp->Prop}{m:Option Bool}(e:TV t σ G m)(hm:m=some a)(s:Same G H)(k:∀ G2 H2,Ext G H G2 H2->Q a H2):t σ H Q:=e G (.refl G) a hm H s Q k
theorem EV.of {te:TE}{m m':Option α}(e:EV K te σ G m)(h:m=m'):EV K te σ G m':=h ▸ e
theorem FV.ev {te:TE}{m:Option (List α)}(e:FV K te σ G m):EV K te σ G m:=by
 intro G1 s1 a ha H sH Q k
 refine e G1 s1 a ha H sH Q fun p vs G2 H2 x h0 hg hh hz hp=>?_
 exact k _ _ _ (x.frz h0 hg hh) ⟨p,vs,rfl,.inl AM,hz,Paired.imp' (fun _ _ r=>Rp.mono (Same.new hg) r) hp⟩
theorem A4 {i:Nat}{v:V}{a:α}(h:σ[i]? = some (some v))(r:Rp.rel K G v a):EV K (FR i) σ G (some a):=fun G1 s a' e H sH Q k=>by
 cases e
 exact ⟨v,h,k v G1 H (.refl sH) (Rp.mono s r)⟩
theorem ev_c {v:V}{a:α}(h:∀ G,Rp.rel K G v a):EV K (tC v) σ G (some a):=fun G1 s a' e H sH Q k=>by
 cases e
 exact k v G1 H (.refl sH) (h _)
theorem BI {i:Int}:EV K (tC (.int i)) σ G (some i):=ev_c fun _=>rfl
theorem Fp {b:Bool}:EV K (tC (.bl b)) σ G (some b):=ev_c fun _=>rfl
theorem Dw:EV K (tC .non) σ G (some (none:Option α)):=ev_c fun _=>rfl
theorem Dz {te:TE}{m:Option α}(e:EV K te σ G m):EV K te σ G (m.bind fun a=>some (some a)):=by
 intro G1 s1 c hc H sH Q k
 obtain ⟨a,ha,hc⟩:=Option.bind_eq_some_iff.mp hc
 cases hc
 exact e G1 s1 a ha H sH Q k
theorem Cz {r:R2}{f:α->β->Option γ}
  (h:∀ {G H:Hp}{v u:V}{a:α}{b:β}{c:γ},Same G H->Rp.rel K G v a->Rp.rel K G u b->f a b=some c->∀ {Q:VK},(∀ w G2 H2,Ext G H G2 H2->Rp.rel K G2 w c->Q w H2)->r v u H Q)
  (ea:EV K ta σ G ma) (eb:EV K tb σ G mb):EV K (tOp r ta tb) σ G (ma.bind fun a=>mb.bind fun b=>f a b):=by
 intro G1 s1 c hc H sH Q k
 obtain ⟨a,ha,hc⟩:=Option.bind_eq_some_iff.mp hc
 obtain ⟨b,hb,hc⟩:=Option.bind_eq_some_iff.mp hc
 refine ea G1 s1 a ha H sH _ fun v G2 H2 x2 r2=>?_
 refine eb G2 (s1.trans x2.gg) b hb H2 x2.gh _ fun u G3 H3 x3 r3=>?_
 exact h x3.gh (Rp.mono x3.gg r2) r3 hc fun w G4 H4 x4 r4=>k w G4 H4 ((x2.trans x3).trans x4) r4
theorem ev_un {r:V->Hp->VK->Prop}{f:α->Option γ}
  (h:∀ {G H:Hp}{v:V}{a:α}{c:γ},Same G H->Rp.rel K G v a->f a=some c->∀ {Q:VK},(∀ w G2 H2,Ext G H G2 H2->Rp.rel K G2 w c->Q w H2)->r v H Q)
  (ea:EV K ta σ G ma):EV K (tUn r ta) σ G (ma.bind fun a=>f a):=by
 intro G1 s1 c hc H sH Q k
 obtain ⟨a,ha,hc⟩:=Option.bind_eq_some_iff.mp hc
 refine ea G1 s1 a ha H sH _ fun v G2 H2 x2 r2=>?_
 exact h x2.gh r2 hc fun w G4 H4 x4 r4=>k w G4 H4 (x2.trans x4) r4
noncomputable instance decMul (i j:Int):Decidable (CMul i j):=by unfold CMul;infer_instance
noncomputable instance decDiv (i j:Int):Decidable (CDiv i j):=by unfold CDiv;infer_instance
noncomputable def Gc (a b:Int):Option Int:=if CMul a b then some (a * b) else none
noncomputable def divO (a b:Int):Option Int:=if CDiv a b then some (a / b) else none
noncomputable def Dm (a b:Int):Option Int:=if 0<b then some (a % b) else none
theorem BC {p:Prop}[Decidable p]{α:Type}{a c:α}(h:(if p then some a else none)=some c):p/\a=c:=by
 by_cases hp:p
 ·rw [if_pos hp] at h
  exact ⟨hp,Option.some.inj h⟩
 ·rw [if_neg hp] at h
  cases h
section
variable {ia ib:Option Int}
theorem BO (ea:EV K ta σ G ia)(eb:EV K tb σ G ib):EV K (tOp (rPlus K) ta tb) σ G (ia.bind fun a=>ib.bind fun b=>some (a+b)) :=
 Cz (fun s ra rb e Q k=>by cases ra;cases rb;cases e;exact k _ _ _ (.refl s) rfl) ea eb
theorem ev_sub (ea:EV K ta σ G ia)(eb:EV K tb σ G ib):EV K (tOp (rI0 fun i j=>.int (i - j)) ta tb) σ G (ia.bind fun a=>ib.bind fun b=>some (a - b)) :=
 Cz (fun s ra rb e Q k=>by cases ra;cases rb;cases e;exact ⟨_,_,rfl,rfl,k _ _ _ (.refl s) rfl⟩) ea eb
theorem ev_mul (ea:EV K ta σ G ia)(eb:EV K tb σ G ib):EV K (tOp (rMul K) ta tb) σ G (ia.bind fun a=>ib.bind fun b=>Gc a b) :=
 Cz (fun s ra rb e Q k=>by cases ra;cases rb;obtain ⟨h,rfl⟩:=BC e;exact ⟨h,k _ _ _ (.refl s) rfl⟩) ea eb
theorem Dl (ea:EV K ta σ G ia)(eb:EV K tb σ G ib):EV K (tOp (rI (fun _ j=>0<j) fun i j=>.int (i % j)) ta tb) σ G (ia.bind fun a=>ib.bind fun b=>Dm a b) :=
 Cz (fun s ra rb e Q k=>by cases ra;cases rb;obtain ⟨h,rfl⟩:=BC e;exact ⟨_,_,rfl,rfl,h,k _ _ _ (.refl s) rfl⟩) ea eb
theorem ev_div (ea:EV K ta σ G ia)(eb:EV K tb σ G ib):EV K (tOp (rI CDiv fun i j=>.int (i / j)) ta tb) σ G (ia.bind fun a=>ib.bind fun b=>divO a b) :=
 Cz (fun s ra rb e Q k=>by cases ra;cases rb;obtain ⟨h,rfl⟩:=BC e;exact ⟨_,_,rfl,rfl,h,k _ _ _ (.refl s) rfl⟩) ea eb
theorem Fz (ea:EV K ta σ G ia):EV K (tUn (rU fun i=>.int (-i)) ta) σ G (ia.bind fun a=>some (-a)) :=
 ev_un (fun s ra e Q k=>by cases ra;cases e;exact ⟨_,rfl,k _ _ _ (.refl s) rfl⟩) ea
theorem Dt {p:Int->Int->Bool}{q:List Nat->List Nat->Bool}(ea:EV K ta σ G ia)(eb:EV K tb σ G ib):EV K (tOp (rOrd p q) ta tb) σ G (ia.bind fun a=>ib.bind fun b=>some (p a b)) :=
 Cz (fun s ra rb e Q k=>by cases ra;cases rb;cases e;exact k _ _ _ (.refl s) rfl) ea eb
theorem DB (ea:EV K ta σ G ia)(eb:EV K tb σ G ib):EV K (tOp rEq ta tb) σ G (ia.bind fun a=>ib.bind fun b=>some (decide (a=b))) :=
 Cz (fun s ra rb e Q k=>by cases ra;cases rb;cases e;exact ⟨rfl,k _ _ _ (.refl s) (by show V.bl _=V.bl _;congr 1;simp)⟩) ea eb
theorem ev_neI (ea:EV K ta σ G ia)(eb:EV K tb σ G ib):EV K (tOp rNe ta tb) σ G (ia.bind fun a=>ib.bind fun b=>some (!decide (a=b))) :=
 Cz (fun s ra rb e Q k=>by cases ra;cases rb;cases e;exact ⟨rfl,k _ _ _ (.refl s) (by show V.bl _=V.bl _;congr 1;simp)⟩) ea eb
end
section
variable {ba bb:Option Bool}
theorem ev_neB (ea:EV K ta σ G ba)(eb:EV K tb σ G bb):EV K (tOp rNe ta tb) σ G (ba.bind fun a=>bb.bind fun b=>some (!decide (a=b))) :=
 Cz (fun s ra rb e Q k=>by cases ra;cases rb;cases e;exact ⟨rfl,k _ _ _ (.refl s) (by show V.bl _=V.bl _;congr 1;simp)⟩) ea eb
theorem ev_not (ea:EV K ta σ G ba):EV K (tNotV ta) σ G (ba.bind fun a=>some (!a)):=by
 intro G1 s1 c hc H sH Q k
 obtain ⟨a,ha,hc⟩:=Option.bind_eq_some_iff.mp hc
 cases hc
 refine ea G1 s1 a ha H sH _ fun v G2 H2 x2 r2=>?_
 cases r2
 exact ⟨_,rfl,k _ _ _ x2 rfl⟩
theorem GV (ea:EV K ta σ G ba)(eb:EV K tb σ G bb):EV K (tAndV ta tb) σ G (ba.bind fun a=>cond a bb (some false)):=by
 intro G1 s1 c hc H sH Q k
 obtain ⟨a,ha,hc⟩:=Option.bind_eq_some_iff.mp hc
 refine ea G1 s1 a ha H sH _ fun v G2 H2 x2 r2=>?_
 cases r2
 refine ⟨_,rfl,?_⟩
 cases a with
 | false=>cases hc;exact CG (k _ _ _ x2 rfl)
 | true=>exact CN (eb G2 (s1.trans x2.gg) c hc H2 x2.gh _ fun u G3 H3 x3 r3=>k _ _ _ (x2.trans x3) r3)
theorem ev_or (ea:EV K ta σ G ba)(eb:EV K tb σ G bb):EV K (tOrV ta tb) σ G (ba.bind fun a=>cond a (some true) bb):=by
 intro G1 s1 c hc H sH Q k
 obtain ⟨a,ha,hc⟩:=Option.bind_eq_some_iff.mp hc
 refine ea G1 s1 a ha H sH _ fun v G2 H2 x2 r2=>?_
 cases r2
 refine ⟨_,rfl,?_⟩
 cases a with
 | true=>cases hc;exact CN (k _ _ _ x2 rfl)
 | false=>exact CG (eb G2 (s1.trans x2.gg) c hc H2 x2.gh _ fun u G3 H3 x3 r3=>k _ _ _ (x2.trans x3) r3)
theorem ev_ifx {tt:TT}{m1 m2:Option α}(et:TV tt σ G ba)(ea:EV K ta σ G m1)(eb:EV K tb σ G m2):EV K (tIf tt ta tb) σ G (ba.bind fun a=>cond a m1 m2):=by
 intro G1 s1 c hc H sH Q k
 obtain ⟨a,ha,hc⟩:=Option.bind_eq_some_iff.mp hc
 refine et G1 s1 a ha H sH _ fun G2 H2 x2=>?_
 cases a with
 | true=>exact CN (ea G2 (s1.trans x2.gg) c hc H2 x2.gh _ fun u G3 H3 x3 r3=>k _ _ _ (x2.trans x3) r3)
 | false=>exact CG (eb G2 (s1.trans x2.gg) c hc H2 x2.gh _ fun u G3 H3 x3 r3=>k _ _ _ (x2.trans x3) r3)
theorem Ac (ea:EV K ta σ G ba):TV (tTest ta) σ G ba:=by
 intro G1 s1 c hc H sH Q k
 refine ea G1 s1 c hc H sH _ fun v G2 H2 x2 r2=>?_
 cases r2
 exact ⟨_,rfl,k _ _ x2⟩
theorem GC {t:TT}(ea:TV t σ G ba):TV (tNot t) σ G (ba.bind fun a=>some (!a)):=by
 intro G1 s1 c hc H sH Q k
 obtain ⟨a,ha,hc⟩:=Option.bind_eq_some_iff.mp hc
 cases hc
 exact ea G1 s1 a ha H sH _ fun G2 H2 x2=>k _ _ x2
theorem tv_and {t u:TT}(ea:TV t σ G ba)(eb:TV u σ G bb):TV (tAnd t u) σ G (ba.bind fun a=>cond a bb (some false)):=by
 intro G1 s1 c hc H sH Q k
 obtain ⟨a,ha,hc⟩:=Option.bind_eq_some_iff.mp hc
 refine ea G1 s1 a ha H sH _ fun G2 H2 x2=>?_
 cases a with
 | false=>cases hc;exact CG (k _ _ x2)
 | true=>exact CN (eb G2 (s1.trans x2.gg) c hc H2 x2.gh _ fun G3 H3 x3=>k _ _ (x2.trans x3))
theorem tv_or {t u:TT}(ea:TV t σ G ba)(eb:TV u σ G bb):TV (tOr t u) σ G (ba.bind fun a=>cond a (some true) bb):=by
 intro G1 s1 c hc H sH Q k
 obtain ⟨a,ha,hc⟩:=Option.bind_eq_some_iff.mp hc
 refine ea G1 s1 a ha H sH _ fun G2 H2 x2=>?_
 cases a with
 | true=>cases hc;exact CN (k _ _ x2)
 | false=>exact CG (eb G2 (s1.trans x2.gg) c hc H2 x2.gh _ fun G3 H3 x3=>k _ _ (x2.trans x3))
theorem tv_tru {f:α->Bool}(h:∀ {G:Hp}{v:V}{a:α},Rp.rel K G v a->TruV K v G (f a))(mn:∀ {G H:Hp}{v:V}{k:Bool},Same G H->TruV K v G k->TruV K v H k)(ea:EV K ta σ G ma) :
  TV (fun σ H Q=>ta σ H fun x H'=>∃ k,TruV K x H' k/\Q k H') σ G (ma.bind fun a=>some (f a)):=by
 intro G1 s1 c hc H sH Q k
 obtain ⟨a,ha,hc⟩:=Option.bind_eq_some_iff.mp hc
 cases hc
 refine ea G1 s1 a ha H sH _ fun v G2 H2 x2 r2=>?_
 exact ⟨_,mn x2.gh (h r2),k _ _ x2⟩
end
end
end
section
variable {K:FZ9}{σ:St}{G:Hp}{α β γ δ:Type}[Rp α][Rp β][Rp γ][Rp δ]{ta tb tc td:TE}{ma:Option α}{mb:Option β}{mc:Option γ}{md:Option δ}
section
variable {sa sb:Option Str}{ia ib:Option Int}
end
theorem paired_atI {R:V->α->Prop}{xs:List V}{as:List α}{i:Int}{a:α}(p:Paired R xs as)(h:atI as i=some a):∃ v,atI xs i=some v/\R v a:=by
 have hl:=Paired.length p
 unfold atI at h ⊢
 obtain ⟨j,hj,h⟩:=Option.bind_eq_some_iff.mp h
 rw [hl,hj]
 have hlt:j<xs.length:=by
  have:=(List.getElem?_eq_some_iff.mp h).1
  omega
 exact ⟨xs[j],List.getElem?_eq_getElem hlt,Paired.at' p (List.getElem?_eq_getElem hlt) h⟩
theorem Paired.app {α β:Type}{F:α->β->Prop}:∀ {l1 l2:List α}{m1 m2:List β},Paired F l1 m1->Paired F l2 m2->Paired F (l1++l2) (m1++m2)
 | _,_,_,_,.nil,h=>h
 | _,_,_,_,.cons r t,h=>.cons r (Paired.app t h)
theorem Paired.tk {α β:Type}{F:α->β->Prop}:∀ (n:Nat) {l:List α}{m:List β},Paired F l m->Paired F (l.take n) (m.take n)
 | 0,_,_,_=>by simpa using .nil
 | n+1,_,_,.nil=>by simpa using .nil
 | n+1,_,_,.cons r t=>.cons r (Paired.tk n t)
theorem Paired.dp {α β:Type}{F:α->β->Prop}:∀ (n:Nat) {l:List α}{m:List β},Paired F l m->Paired F (l.drop n) (m.drop n)
 | 0,_,_,h=>h
 | n+1,_,_,.nil=>by simpa using .nil
 | n+1,_,_,.cons r t=>Paired.dp n t
theorem Paired.rep {α β:Type}{F:α->β->Prop}{l:List α}{m:List β}(h:Paired F l m):∀ n:Nat,Paired F (List.replicate n l).flatten (List.replicate n m).flatten
 | 0=>.nil
 | n+1=>by
  rw [List.replicate_succ,List.replicate_succ,List.flatten_cons,List.flatten_cons]
  exact Paired.app h (Paired.rep h n)
theorem Paired.st {α β:Type}{F:α->β->Prop}{a:α}{b:β}(r:F a b):∀ {l:List α}{m:List β}(j:Nat),Paired F l m->Paired F (l.set j a) (m.set j b)
 | _,_,_,.nil=>.nil
 | _,_,0,.cons _ t=>.cons r t
 | _,_,j+1,.cons q t=>.cons q (Paired.st r j t)
section
variable {la lb:Option (List α)}{ia ib:Option Int}
theorem Al (ea:EV K ta σ G la)(eb:EV K tb σ G ib):EV K (tOp (rAt K) ta tb) σ G (la.bind fun a=>ib.bind fun i=>atI a i) :=
 Cz (fun s ra rb e Q k=>by
  obtain ⟨l,xs,rfl,h,z,p⟩:=ra;cases rb
  obtain ⟨v,hv,r⟩:=paired_atI p e
  exact .inl ⟨xs,v,.inl (s.rd h),hv,k _ _ _ (.refl s) r⟩) ea eb
theorem GS {τ:Type}[Rp τ]{mt:Option τ}{i:Int}{f:τ->α}(h:∀ {G:Hp}{v:V}{p:τ},Rp.rel K G v p->∃ t xs w,v = .ref t/\SqT K G t xs/\atI xs i=some w/\Rp.rel K G w (f p))(ea:EV K ta σ G mt) :
  EV K (tOp (rAt K) ta (tC (.int i))) σ G (mt.bind fun p=>some (f p)):=by
 intro G1 s1 c hc H sH Q k
 obtain ⟨a,ha,hc⟩:=Option.bind_eq_some_iff.mp hc
 cases hc
 refine ea G1 s1 a ha H sH _ fun v G2 H2 x2 r2=>?_
 obtain ⟨t,xs,w,rfl,ht,hw,r⟩:=h r2
 exact .inr ⟨xs,w,x2.gh.tup ht,hw,k _ _ _ x2 r⟩
theorem GU {mt:Option (α × β)}(ea:EV K ta σ G mt):EV K (tOp (rAt K) ta (tC (.int 0))) σ G (mt.bind fun p=>some p.1) :=
 GS (τ:=α × β) (fun ⟨t,a,b,e,h,r1,r2⟩=>⟨t,_,a,e,h,rfl,r1⟩) ea
theorem Fc {mt:Option (α × β)}(ea:EV K ta σ G mt):EV K (tOp (rAt K) ta (tC (.int 1))) σ G (mt.bind fun p=>some p.2) :=
 GS (τ:=α × β) (fun ⟨t,a,b,e,h,r1,r2⟩=>⟨t,_,b,e,h,rfl,r2⟩) ea
theorem Cy {mt:Option (T3 α β γ)}(ea:EV K ta σ G mt):EV K (tOp (rAt K) ta (tC (.int 0))) σ G (mt.bind fun p=>some p.a) :=
 GS (τ:=T3 α β γ) (fun ⟨t,a,b,c,e,h,r1,r2,r3⟩=>⟨t,_,a,e,h,rfl,r1⟩) ea
theorem Bq {mt:Option (T3 α β γ)}(ea:EV K ta σ G mt):EV K (tOp (rAt K) ta (tC (.int 1))) σ G (mt.bind fun p=>some p.b) :=
 GS (τ:=T3 α β γ) (fun ⟨t,a,b,c,e,h,r1,r2,r3⟩=>⟨t,_,b,e,h,rfl,r2⟩) ea
theorem Ek {mt:Option (T3 α β γ)}(ea:EV K ta σ G mt):EV K (tOp (rAt K) ta (tC (.int 2))) σ G (mt.bind fun p=>some p.c) :=
 GS (τ:=T3 α β γ) (fun ⟨t,a,b,c,e,h,r1,r2,r3⟩=>⟨t,_,c,e,h,rfl,r3⟩) ea
theorem fv_of {H:Hp}{Q:VK}{as:List α}{G1:Hp}(s:Same G1 H){vs:List V}(hz:vs.length<=sizeLine)(hp:Paired (Rp.rel K G1) vs as)
  (k:∀ p vs G2 H2,Ext G1 H G2 H2->H p=none->G2 p=none->H2 p=some (.lst vs)->vs.length<=sizeLine->Paired (Rp.rel K G2) vs as->Q (.ref p) H2):∀ p,H p=none->Q (.ref p) (upd H p (.lst vs)) :=
 fun p h=>k p vs G1 _ (.own s h) h (s.free h) AM hz hp
theorem FV.mono {H H' G1 G2:Hp}{as:List α}{Q:VK}(x:Ext G1 H G2 H')
  (k:∀ p vs G3 H3,Ext G1 H G3 H3->H p=none->G3 p=none->H3 p=some (.lst vs)->vs.length<=sizeLine->Paired (Rp.rel K G3) vs as->Q (.ref p) H3) :
  ∀ p vs G3 H3,Ext G2 H' G3 H3->H' p=none->G3 p=none->H3 p=some (.lst vs)->vs.length<=sizeLine->Paired (Rp.rel K G3) vs as->Q (.ref p) H3 :=
 fun p vs G3 H3 y h0=>k p vs G3 H3 (x.trans y) (x.hh.free h0)
noncomputable def catL {α:Type}(a b:List α):Option (List α):=if a.length+b.length<=sizeLine then some (a++b) else none
theorem fv_cat (ea:EV K ta σ G la)(eb:EV K tb σ G lb):FV K (tOp (rPlus K) ta tb) σ G (la.bind fun a=>lb.bind fun b=>catL a b):=by
 intro G1 s1 c hc H sH Q k
 obtain ⟨a,ha,hc⟩:=Option.bind_eq_some_iff.mp hc
 obtain ⟨b,hb,hc⟩:=Option.bind_eq_some_iff.mp hc
 obtain ⟨hl,rfl⟩:=BC hc
 refine ea G1 s1 a ha H sH _ fun v G2 H2 x2 r2=>?_
 refine eb G2 (s1.trans x2.gg) b hb H2 x2.gh _ fun u G3 H3 x3 r3=>?_
 obtain ⟨l1,xs,rfl,h1,z1,p1⟩:=Rp.mono x3.gg r2
 obtain ⟨l2,ys,rfl,h2,z2,p2⟩:=r3
 have e1:=Paired.length p1
 have e2:=Paired.length p2
 have hz:(xs++ys).length<=sizeLine:=by rw [List.length_append];omega
 exact ⟨xs,ys,x3.gh.rd h1,x3.gh.rd h2,by rw [List.length_append] at hz;exact hz,fv_of x3.gh hz (Paired.app p1 p2) (FV.mono (x2.trans x3) k)⟩
noncomputable def cutA {α:Type}(xs:List α)(lo hi:Option Int):List α:=(xs.drop (HT.sIx xs.length 0 lo)).take (HT.sIx xs.length xs.length hi - HT.sIx xs.length 0 lo)
theorem Paired.cut {α:Type}{R:V->α->Prop}{xs:List V}{as:List α}(p:Paired R xs as)(lo hi:Option Int):Paired R (cutV xs lo hi) (cutA as lo hi):=by
 unfold cutV cutA
 rw [Paired.length p]
 exact Paired.tk _ (Paired.dp _ p)
section
variable {t1 t2:TO}{m1 m2:Option (Option Int)}
theorem ov_none:OV tNoPart σ G (some none):=fun G1 s1 a ha H sH Q k=>by
 cases ha
 exact k _ _ (.refl sH)
theorem ov_some (ea:EV K ta σ G ia):OV (tPart ta) σ G (ia.bind fun i=>some (some i)):=by
 intro G1 s1 c hc H sH Q k
 obtain ⟨a,ha,hc⟩:=Option.bind_eq_some_iff.mp hc
 cases hc
 refine ea G1 s1 a ha H sH _ fun v G2 H2 x2 r2=>?_
 cases r2
 exact ⟨_,rfl,k _ _ x2⟩
theorem fv_slice (ea:EV K ta σ G la)(e1:OV t1 σ G m1)(e2:OV t2 σ G m2):FV K (tSl (rSl K) ta t1 t2) σ G (la.bind fun a=>m1.bind fun lo=>m2.bind fun hi=>some (cutA a lo hi)):=by
 intro G1 s1 c hc H sH Q k
 obtain ⟨a,ha,hc⟩:=Option.bind_eq_some_iff.mp hc
 obtain ⟨lo,hlo,hc⟩:=Option.bind_eq_some_iff.mp hc
 obtain ⟨hi,hhi,hc⟩:=Option.bind_eq_some_iff.mp hc
 cases hc
 refine ea G1 s1 a ha H sH _ fun v G2 H2 x2 r2=>?_
 refine e1 G2 (s1.trans x2.gg) lo hlo H2 x2.gh _ fun G3 H3 x3=>?_
 refine e2 G3 (s1.trans (x2.trans x3).gg) hi hhi H3 x3.gh _ fun G4 H4 x4=>?_
 obtain ⟨l,xs,rfl,h,z,p⟩:=Rp.mono (x3.trans x4).gg r2
 exact ⟨xs,.inl (x4.gh.rd h),fv_of x4.gh (Nat.le_trans (cutV_length _ _ _) z) (Paired.cut p lo hi) (FV.mono ((x2.trans x3).trans x4) k)⟩
end
end
section
variable {t:TA}{n:Nat}{ml:Option (List α)}
theorem D3:LV K D0 σ G 0 (some ([]:List α)):=fun G1 s1 a ha H sH Q k=>by
 cases ha
 exact k _ _ _ (.refl sH) rfl .nil
theorem GI (ea:EV K ta σ G ma)(er:LV K t σ G n ml):LV K (B0 ta t) σ G (n+1) (ma.bind fun a=>ml.bind fun r=>some (a::r)):=by
 intro G1 s1 c hc H sH Q k
 obtain ⟨a,ha,hc⟩:=Option.bind_eq_some_iff.mp hc
 obtain ⟨r,hr,hc⟩:=Option.bind_eq_some_iff.mp hc
 cases hc
 refine ea G1 s1 a ha H sH _ fun v G2 H2 x2 r2=>?_
 refine er G2 (s1.trans x2.gg) r hr H2 x2.gh _ fun vs G3 H3 x3 hl hp=>?_
 exact k _ _ _ (x2.trans x3) (by rw [List.length_cons,hl]) (.cons (Rp.mono x3.gg r2) hp)
theorem Cw (e:LV K t σ G n ml)(hn:n<=sizeLine:=by decide):FV K (tLst t) σ G ml:=by
 intro G1 s1 c hc H sH Q k
 refine e G1 s1 c hc H sH _ fun vs G2 H2 x2 hl hp=>?_
 exact ⟨by omega,fv_of x2.gh (by omega) hp (FV.mono x2 k)⟩
theorem ev_tup2 (ea:EV K ta σ G ma)(eb:EV K tb σ G mb):EV K (tTup (B0 ta (B0 tb D0))) σ G (ma.bind fun a=>mb.bind fun b=>some (a,b)):=by
 intro G1 s1 c hc H sH Q k
 obtain ⟨a,ha,hc⟩:=Option.bind_eq_some_iff.mp hc
 obtain ⟨b,hb,hc⟩:=Option.bind_eq_some_iff.mp hc
 cases hc
 refine ea G1 s1 a ha H sH _ fun v G2 H2 x2 r2=>?_
 refine eb G2 (s1.trans x2.gg) b hb H2 x2.gh _ fun u G3 H3 x3 r3=>⟨by show 2<=sizeLine;decide,fun p h=>?_⟩
 have s:=Same.new (o:=.tup [v,u]) (x3.gh.free h)
 exact k _ _ _ ((x2.trans x3).trans (.new x3.gh h)) ⟨p,v,u,rfl,SqT.of AM,Rp.mono (x3.gg.trans s) r2,Rp.mono s r3⟩
theorem GE (ea:EV K ta σ G ma)(eb:EV K tb σ G mb)(ec:EV K tc σ G mc):EV K (tTup (B0 ta (B0 tb (B0 tc D0)))) σ G (ma.bind fun a=>mb.bind fun b=>mc.bind fun c=>some (T3.mk a b c)):=by
 intro G1 s1 c hc H sH Q k
 obtain ⟨a,ha,hc⟩:=Option.bind_eq_some_iff.mp hc
 obtain ⟨b,hb,hc⟩:=Option.bind_eq_some_iff.mp hc
 obtain ⟨c',hc',hc⟩:=Option.bind_eq_some_iff.mp hc
 cases hc
 refine ea G1 s1 a ha H sH _ fun v G2 H2 x2 r2=>?_
 refine eb G2 (s1.trans x2.gg) b hb H2 x2.gh _ fun u G3 H3 x3 r3=>?_
 refine ec G3 (s1.trans (x2.trans x3).gg) c' hc' H3 x3.gh _ fun w G4 H4 x4 r4=>⟨by show 3<=sizeLine;decide,fun p h=>?_⟩
 have s:=Same.new (o:=.tup [v,u,w]) (x4.gh.free h)
 exact k _ _ _ (((x2.trans x3).trans x4).trans (.new x4.gh h)) ⟨p,v,u,w,rfl,SqT.of AM,Rp.mono ((x3.trans x4).gg.trans s) r2,Rp.mono (x4.gg.trans s) r3,Rp.mono s r4⟩
end
section
variable {t:TA}{A B:Type}[RpA A][RpA B]{mA:Option A}
theorem av_nil:AV K D0 σ G (some ()):=fun G1 s1 a ha H sH Q k=>by
 cases ha
 exact k _ _ _ (.refl sH) rfl
theorem av_cons (ea:EV K ta σ G ma)(er:AV K t σ G mA):AV K (B0 ta t) σ G (ma.bind fun a=>mA.bind fun r=>some (a,r)):=by
 intro G1 s1 c hc H sH Q k
 obtain ⟨a,ha,hc⟩:=Option.bind_eq_some_iff.mp hc
 obtain ⟨r,hr,hc⟩:=Option.bind_eq_some_iff.mp hc
 cases hc
 refine ea G1 s1 a ha H sH _ fun v G2 H2 x2 r2=>?_
 refine er G2 (s1.trans x2.gg) r hr H2 x2.gh _ fun vs G3 H3 x3 hp=>?_
 exact k _ _ _ (x2.trans x3) ⟨v,vs,rfl,Rp.mono x3.gg r2,hp⟩
noncomputable def spM (K:FZ9){A:Type}{ρ:Type}[RpA A][Rp ρ](m:A->Option ρ):Sp:=fun vs H Q _ =>
 ∃ G a r,Same G H/\RpA.rel K G vs a/\m a=some r/\∀ v G2 H2,Ext G H G2 H2->Rp.rel K G2 v r->Q v H2
theorem Au {A:Type}{ρ:Type}[RpA A][Rp ρ]{m:A->Option ρ}{vs:List V}{H:Hp}{Q:VK}{E:XK}(h:spM K m vs H Q E):vs.length=RpA.n A:=by
 obtain ⟨G,a,r,_,h,_⟩:=h
 exact RpA.len h
theorem C4 {la:Option (List α)}(ea:EV K ta σ G la):EV K (tCB (rLen K) (B0 ta D0)) σ G (la.bind fun a=>some (a.length:Int)):=by
 intro G1 s1 c hc H sH Q k
 obtain ⟨a,ha,hc⟩:=Option.bind_eq_some_iff.mp hc
 cases hc
 refine ea G1 s1 a ha H sH _ fun v G2 H2 x2 r2=>?_
 obtain ⟨l,xs,rfl,h,z,p⟩:=r2
 exact ⟨xs,.inl (.inl (x2.gh.rd h)),by rw [Paired.length p];exact k _ _ _ x2 rfl⟩
theorem fv_list {la:Option (List α)}(ea:EV K ta σ G la):FV K (tCB (fun xs H Q=>∃ p ys,xs=[.ref p]/\(SqL K H p ys\/SqT K H p ys)/\∀ l,H l=none->Q (.ref l) (upd H l (.lst ys))) (B0 ta D0)) σ G la:=by
 intro G1 s1 a ha H sH Q k
 refine ea G1 s1 a ha H sH _ fun v G2 H2 x2 r2=>?_
 obtain ⟨l,xs,rfl,h,z,p⟩:=r2
 exact ⟨l,xs,rfl,.inl (.inl (x2.gh.rd h)),fv_of x2.gh z p (FV.mono x2 k)⟩
end
inductive TyS (K:FZ9)(H:Hp):V->String->Prop where
 | non:TyS K H .non "NoneType"
 | bl (x:Bool):TyS K H (.bl x) "bool"
 | int (i:Int):TyS K H (.int i) "int"
 | str (x:Str):TyS K H (.str x) "str"
 | lst {a:Addr}{xs:List V}(e:SqL K H a xs):TyS K H (.ref a) "list"
 | tup {a:Addr}{xs:List V}(e:SqT K H a xs):TyS K H (.ref a) "tuple"
 | dK {a:Addr}{kvs:List (Key × V)}(e:Rd H a (.dK kvs)):TyS K H (.ref a) "dict"
 | dT {a:Addr}{kvs:List (List Key × V)}(e:Rd H a (.dT kvs)):TyS K H (.ref a) "dict"
noncomputable def rInst (K:FZ9):List V->Hp->VK->Prop:=fun vs H Q=>∃ x t T b,vs=[x,.ty T]/\TyS K H x t/\kitC t T=some b/\Q (.bl b) H
theorem call_inst {X:Cx}:DX X (.builtin "isinstance") (rInst X.K):=by
 intro pins s σ H vs us Q I r h
 obtain ⟨x,t,T,b,rfl,ty,e,q⟩:=h
 obtain ⟨u,w',rfl,rx,r2⟩:=vals2 r
 obtain rfl:w'=Value.type T:=r2
 have e:=kit_of (K:=X.K) e
 have fin:∀ tk,EP X pins σ Q (.bool b) { s with toks:=tk }:=fun tk=>⟨.bl b,H,I.tok tk,rfl,q⟩
 cases ty with
 | non=>cases (show u=Value.none from rx);exact PySem.W.kia_one PySem.W.kitx_none I.kIn True.intro e (fun z=>nomatch z) fin
 | bl y=>cases (show u=Value.bool y from rx);exact PySem.W.kia_one PySem.W.kitx_bool I.kIn True.intro e (fun z=>nomatch z) fin
 | int i=>obtain ⟨t,q'⟩:=(show ∃ t,u=Value.int i t from rx);cases q';exact PySem.W.kia_one PySem.W.kitx_int I.kIn True.intro e (fun z=>nomatch z) fin
 | str y=>obtain ⟨t,q'⟩:=(show ∃ t,u=Value.str y t from rx);cases q';exact PySem.W.kia_one PySem.W.kitx_str I.kIn True.intro e (fun z=>nomatch z) fin
 | @lst a xs ea =>
  cases (show u=Value.ref a from rx)
  obtain ⟨its,_,pl,_⟩:=I.list ea
  obtain ⟨o,n,h1,h2,_⟩:=pl
  exact PySem.W.kia_one PySem.W.kitx_list I.kIn ⟨o,h1,h2⟩ e (fun z=>nomatch z) fin
 | @tup a xs ea =>
  cases (show u=Value.ref a from rx)
  obtain ⟨its,_,pl,_⟩:=I.tuple ea
  obtain ⟨o,h1,h2,_⟩:=pl
  exact PySem.W.kia_one PySem.W.kitx_tuple I.kIn ⟨o,h1,h2⟩ e (fun z=>nomatch z) fin
 | @dK a kvs ea =>
  cases (show u=Value.ref a from rx)
  obtain ⟨_,_,vs,_,p⟩:=ea.ok I.hok
  obtain ⟨o,es,ep,h1,h2,_⟩:=p
  exact PySem.W.kia_one PySem.W.kitx_dict I.kIn ⟨o,h1,h2.1⟩ e (fun z=>nomatch z) fin
 | @dT a kvs ea =>
  cases (show u=Value.ref a from rx)
  obtain ⟨_,_,xs,_,o,es,ep,h1,h2,_⟩:=ea.ok I.hok
  exact PySem.W.kia_one PySem.W.kitx_dict I.kIn ⟨o,h1,h2.1⟩ e (fun z=>nomatch z) fin
class RpT (α:Type) [Rp α] where
 tn:String
 ty:∀ {K:FZ9}{H:Hp}{v:V}{a:α},Rp.rel K H v a->TyS K H v tn
noncomputable instance rtInt:RpT Int:=⟨"int",fun h=>by cases h;exact .int _⟩
theorem TyS.mono {H H':Hp}{v:V}{t:String}(s:Same H H')(h:TyS K H v t):TyS K H' v t:=by
 cases h with
 | non=>exact .non
 | bl=>exact .bl _
 | int=>exact .int _
 | str=>exact .str _
 | lst e=>exact .lst (s.seq e)
 | tup e=>exact .tup (s.tup e)
 | dK e=>exact .dK (s.rd e)
 | dT e=>exact .dT (s.rd e)
theorem ev_inst [RpT α]{T:String}{b:Bool}(h:kitC (RpT.tn α) T=some b)(ea:EV K ta σ G ma):EV K (tCB (rInst K) (B0 ta (B0 (tC (.ty T)) D0))) σ G (ma.bind fun _=>some b):=by
 intro G1 s1 c hc H sH Q k
 obtain ⟨a,ha,hc⟩:=Option.bind_eq_some_iff.mp hc
 cases hc
 refine ea G1 s1 a ha H sH _ fun v G2 H2 x2 r2=>?_
 exact ⟨_,_,_,_,rfl,(RpT.ty r2).mono x2.gh,h,k _ _ _ x2 rfl⟩
class RpE (α:Type) [Rp α] [DecidableEq α] where
 k:Nat
 ty:∀ K:FZ9,EqTy K k (Rp.rel (α:=α) K)
section
variable {α:Type}[Rp α][DecidableEq α]{m1 m2:Option α}
end
end
inductive Fl (S ρ:Type) where
 | nx (s:S)
 | bk (s:S)
 | rt (r:ρ)
noncomputable def Cc {α S ρ:Type}(f:α->S->Option (Fl S ρ)):List α->S->Option (Fl S ρ)
 | [],s=>some (.nx s)
 | a::as,s=>(f a s).bind fun fl=>match fl with
  | .nx s'=>Cc f as s'
  | .bk s'=>some (.nx s')
  | .rt r=>some (.rt r)
noncomputable def ER {S ρ:Type}(c:S->Option Bool)(f:S->Option (Fl S ρ)):Nat->S->Option (Fl S ρ)
 | 0,_=>none
 | n+1,s=>(c s).bind fun b=>cond b ((f s).bind fun fl=>match fl with
  | .nx s'=>ER c f n s'
  | .bk s'=>some (.nx s')
  | .rt r=>some (.rt r)) (some (.nx s))
noncomputable def Gn:Nat:=16777216
noncomputable def CT {α β:Type}(fc:α->Option Bool)(fe:α->Option β):List α->Option (List β)
 | []=>some []
 | a::r=>(fc a).bind fun b=>cond b ((fe a).bind fun y=>(CT fc fe r).bind fun ys=>some (y::ys)) (CT fc fe r)
noncomputable def D1 {α β:Type}(fe:α->Option β):List α->Option (List β)
 | []=>some []
 | a::r=>(fe a).bind fun y=>(D1 fe r).bind fun ys=>some (y::ys)
theorem compO_true {α β:Type}(fe:α->Option β):∀ as,CT (fun _=>some true) fe as=D1 fe as
 | []=>rfl
 | a::r=>by
  show ((fe a).bind fun y=>(CT (fun _=>some true) fe r).bind fun ys=>some (y::ys))=_
  rw [compO_true fe r]
  rfl
noncomputable def EH (lo hi:Int):Option (List Int):=if (-(2 ^ 62)<=lo/\lo<2 ^ 62/\-(2 ^ 62)<=hi/\hi<2 ^ 62)/\(hi - lo).toNat<=sizeLine then some ((List.range (hi - lo).toNat).map fun (i:Nat)=>lo+(i:Int)) else none
section
variable {K:FZ9}{σ:St}{G:Hp}{α β γ δ:Type}[Rp α][Rp β][Rp γ][Rp δ]{ta tb tc td:TE}{ma:Option α}{mb:Option β}{mc:Option γ}{md:Option δ}
noncomputable def IW (K:FZ9){α:Type}[Rp α](wi:TI)(σ:St)(G:Hp)(m:Option (List α)):Prop :=
 ∀ G1,Same G G1->∀ a,m=some a->∀ H,Same G1 H->∀ R:It->Hp->Prop,(∀ J vs G2 H2,Ext G1 H G2 H2->Yields J G2 vs->vs.length<=sizeLine->Paired (Rp.rel K G2) vs a->R J H2)->wi σ H R
theorem yields_tup {a:Addr}{xs:List V}{H:Hp}(h:SqT K H a xs):Yields (Itt K a) H xs where
 go:=fun i H' s hi=>⟨xs,xs[i],s.tup h,by simp [hi]⟩
 stop:=fun H' s=>⟨xs,s.tup h,Nat.le_refl _⟩
 yld:=fun i H' v H'' s _ y=>⟨y.1,y.2 xs (s.tup h)⟩
theorem Aw {la:Option (List α)}(ea:EV K ta σ G la):IW K (iAny K ta) σ G la:=by
 intro G1 s1 a ha H sH R k
 refine ea G1 s1 a ha H sH _ fun v G2 H2 x2 r2=>?_
 obtain ⟨l,xs,rfl,h,z,p⟩:=r2
 exact .inl ⟨⟨xs,.inl (x2.gh.rd h)⟩,k _ xs G2 H2 x2 (yields_list (.inl h)) z p⟩
theorem iw_tup {la:Option (Tp α)}(ea:EV K ta σ G la):IW K (iAny K ta) σ G (la.bind fun a=>some a.l):=by
 intro G1 s1 a ha H sH R k
 obtain ⟨b,hb,ha⟩:=Option.bind_eq_some_iff.mp ha
 cases ha
 refine ea G1 s1 b hb H sH _ fun v G2 H2 x2 r2=>?_
 obtain ⟨l,xs,rfl,h,z,p⟩:=r2
 exact .inr ⟨⟨xs,x2.gh.tup h⟩,k _ xs G2 H2 x2 (yields_tup h) z p⟩
theorem Ec (H:Hp)(f:Nat->Int):∀ l:List Nat,Paired (Rp.rel K H) (l.map fun i=>V.int (f i)) (l.map fun i=>f i)
 | []=>.nil
 | a::r=>.cons rfl (Ec H f r)
theorem By {ia:Option Int}(ea:EV K ta σ G ia):IW K (iRng1 (B0 ta D0)) σ G (ia.bind fun j=>EH 0 j):=by
 intro G1 s1 a ha H sH R k
 obtain ⟨j,hj,ha⟩:=Option.bind_eq_some_iff.mp ha
 obtain ⟨⟨hb,hz⟩,rfl⟩:=BC ha
 refine ea G1 s1 j hj H sH _ fun v G2 H2 x2 r2=>?_
 cases r2
 refine ⟨j,rfl,hb.2.2.1,hb.2.2.2,?_⟩
 have e:(j - 0).toNat=j.toNat:=by omega
 rw [e] at hz k
 exact k (Itr 0 j.toNat) _ G2 H2 x2 (yields_range 0 j.toNat G2) (by rw [List.length_map,List.length_range];exact hz) (Ec G2 (fun i=>(0:Int)+(i:Int)) _)
theorem tv_yes:TV Gw σ G (some true):=fun G1 s1 a ha H sH Q k=>by
 cases ha
 exact k _ _ (.refl sH)
theorem Paired.getR {F:V->α->Prop}:∀ {xs:List V}{as:List α}{i:Nat}{v:V},Paired F xs as->xs[i]? = some v->∃ a,as[i]? = some a/\F v a
 | _,_,_,_,.nil,e=>by simp at e
 | _,_,0,_,.cons r _,e=>by simp at e;subst e;exact ⟨_,rfl,r⟩
 | _,_,i+1,_,.cons _ t,e=>Paired.getR (i:=i) t (by simpa using e)
theorem Ff {cap:List Nat}{wi:TI}{tt:TT}{te:TE}{mi:Option (List α)}{fc:α->Option Bool}{fe:α->Option β}(ei:IW K wi σ G mi)
  (hb:∀ (x:V) (a:α) (G1:Hp),Same G G1->Rp.rel K G1 x a->TV tt ((inner cap σ).set 0 (some x)) G1 (fc a)/\EV K te ((inner cap σ).set 0 (some x)) G1 (fe a)) :
  FV K (tComp cap wi tt te) σ G (mi.bind fun as=>CT fc fe as):=by
 intro G1 s1 c hc H sH Q k
 obtain ⟨as,has,hc⟩:=Option.bind_eq_some_iff.mp hc
 refine ei G1 s1 as has H sH _ fun J vs Ga Ha xa Y hz pr p hp=>?_
 have hla:=Paired.length pr
 refine ⟨fun i m ys H2=>m=vs.length - i/\i<=vs.length/\∃ G2 bs cs,Ext Ga Ha G2 H2/\G2 p=none/\H2 p=some (.lst ys)/\ys.length<=i/\Paired (Rp.rel K G2) ys bs/\CT fc fe (as.drop i)=some cs/\c=bs++cs,
  ⟨vs.length,by simp,Nat.zero_le _,Ga,[],c,.own xa.gh hp,xa.gh.free hp,AM,Nat.le_refl _,.nil,hc,rfl⟩,?_⟩
 rintro i m ys H2 ⟨rfl,hi,G2,bs,cs,x2,hg,hh,hy,hpr,hcs,rfl⟩
 by_cases hlt:i<vs.length
 ·refine .inr ⟨Y.go i _ (x2.gg.trans x2.gh) hlt,fun ys' H'=>∃ G2 bs' cs',Ext Ga Ha G2 H'/\G2 p=none/\H' p=some (.lst ys')/\ys'.length<=i+1/\Paired (Rp.rel K G2) ys' bs'/\CT fc fe (as.drop (i+1))=some cs'/\bs++cs=bs'++cs',
   fun ys' H' ⟨G3,bs',cs',h⟩=>⟨vs.length - (i+1),by omega,rfl,hlt,G3,bs',cs',h⟩,fun x H3 y=>?_⟩
  obtain ⟨rfl,hx⟩:=Y.yld i _ x H3 (x2.gg.trans x2.gh) hlt y
  obtain ⟨a,hai,ra⟩:=Paired.getR pr hx
  have hd:as.drop i=a::as.drop (i+1):=by
   obtain ⟨h1,h2⟩:=List.getElem?_eq_some_iff.mp hai
   rw [List.drop_eq_getElem_cons h1,h2]
  rw [hd] at hcs
  obtain ⟨b,hbb,hcs⟩:=Option.bind_eq_some_iff.mp hcs
  have B:=hb x a G2 (s1.trans (xa.gg.trans x2.gg)) (Rp.mono x2.gg ra)
  refine B.1 G2 (.refl _) b hbb _ x2.gh _ fun G5 H5 x5=>?_
  have hp5:H5 p=some (.lst ys):=x5.hh _ _ hh
  have hg5:G5 p=none:=x5.no p hg (by rw [hh];exact fun z=>nomatch z)
  cases b with
  | false =>
   rw [if_neg Bool.false_ne_true]
   exact ⟨G5,bs,cs,x2.trans x5,hg5,hp5,by omega,Paired.imp' (fun _ _ r=>Rp.mono x5.gg r) hpr,hcs,rfl⟩
  | true =>
   rw [if_pos rfl]
   obtain ⟨z,hze,hcs⟩:=Option.bind_eq_some_iff.mp hcs
   obtain ⟨cs',hcs',hcs⟩:=Option.bind_eq_some_iff.mp hcs
   cases hcs
   refine B.2 G5 x5.gg z hze H5 x5.gh _ fun v G6 H6 x6 r6=>?_
   have hp6:H6 p=some (.lst ys):=x6.hh _ _ hp5
   have hg6:G6 p=none:=x6.no p hg5 (by rw [hp5];exact fun z=>nomatch z)
   refine ⟨hp6,by omega,G6,bs++[z],cs',((x2.trans x5).trans x6).put hp hg6,hg6,AM,?_,Paired.app (Paired.imp' (fun _ _ r=>Rp.mono (x5.trans x6).gg r) hpr) (.cons r6 .nil),hcs',by simp⟩
   rw [List.length_append,List.length_singleton]
   omega
 ·have e:i=vs.length:=by omega
  subst e
  have hd:as.drop vs.length=[]:=List.drop_eq_nil_of_le (by omega)
  rw [hd] at hcs
  cases hcs
  refine .inl ⟨Y.stop _ (x2.gg.trans x2.gh),?_⟩
  rw [List.append_nil] at k
  exact k p ys G2 H2 (xa.trans x2) (xa.hh.free hp) hg hh (by omega) hpr
theorem D2 {cap:List Nat}{wi:TI}{te:TE}{mi:Option (List α)}{fe:α->Option β}(ei:IW K wi σ G mi)
  (hb:∀ (x:V) (a:α) (G1:Hp),Same G G1->Rp.rel K G1 x a->EV K te ((inner cap σ).set 0 (some x)) G1 (fe a)) :
  FV K (tComp cap wi Gw te) σ G (mi.bind fun as=>D1 fe as):=by
 have h:=Ff (tt:=Gw) (fc:=fun _=>some true) ei fun x a G1 s r=>⟨tv_yes,hb x a G1 s r⟩
 have e:(fun as=>CT (fun _=>some true) fe as)=fun as=>D1 fe as:=funext (compO_true fe)
 rw [e] at h
 exact h
noncomputable def repL {α:Type}(a:List α)(k:Int):Option (List α):=if (-(2 ^ 63)<=k/\k<2 ^ 63)/\a.length * k.toNat<=sizeLine then some (List.replicate k.toNat a).flatten else none
theorem EQ {mo:Option (Option α)}(hn:∀ {G:Hp}{v:V}{a:α},Rp.rel K G v a->v ≠ .non)(ea:EV K ta σ G mo) :
  EV K (tOp (fun x y H Q=>y = .non/\Q (.bl (decide (x = .non))) H) ta (tC .non)) σ G (mo.bind fun o=>some o.isNone):=by
 intro G1 s1 c hc H sH Q k
 obtain ⟨a,ha,hc⟩:=Option.bind_eq_some_iff.mp hc
 cases hc
 refine ea G1 s1 a ha H sH _ fun v G2 H2 x2 r2=>⟨rfl,?_⟩
 refine k _ _ _ x2 ?_
 show V.bl _=V.bl _
 congr 1
 cases a with
 | none=>exact decide_eq_true r2
 | some a=>exact decide_eq_false (hn r2)
theorem ev_notN {mo:Option (Option α)}(hn:∀ {G:Hp}{v:V}{a:α},Rp.rel K G v a->v ≠ .non)(ea:EV K ta σ G mo) :
  EV K (tOp (fun x y H Q=>y = .non/\Q (.bl (!decide (x = .non))) H) ta (tC .non)) σ G (mo.bind fun o=>some o.isSome):=by
 intro G1 s1 c hc H sH Q k
 obtain ⟨a,ha,hc⟩:=Option.bind_eq_some_iff.mp hc
 cases hc
 refine ea G1 s1 a ha H sH _ fun v G2 H2 x2 r2=>⟨rfl,?_⟩
 refine k _ _ _ x2 ?_
 show V.bl _=V.bl _
 congr 1
 cases a with
 | none=>rw [decide_eq_true (show v=V.non from r2)];rfl
 | some a=>rw [decide_eq_false (hn (show Rp.rel K G2 v a from r2))];rfl
theorem nn_int {G:Hp}{v:V}{a:Int}(h:Rp.rel K G v a):v ≠ .non:=by cases h;exact fun z=>nomatch z
theorem nn_list {G:Hp}{v:V}{a:List α}(h:Rp.rel K G v a):v ≠ .non:=by obtain ⟨_,_,rfl,_⟩:=h;exact fun z=>nomatch z
theorem GR {G:Hp}{v:V}{a:α × β}(h:Rp.rel K G v a):v ≠ .non:=by obtain ⟨_,_,_,rfl,_⟩:=h;exact fun z=>nomatch z
end
section
variable {K:FZ9}{σ:St}{G H:Hp}{α β:Type}[Rp α][Rp β]{te:TE}{tt:TT}{t u rest:TS}{D:Ends}{i:Nat}{a:α}{m:Option α}
theorem AU (e:EV K te σ G m)(hm:m=some a)(s:Same G H)(k:∀ v G2 H2,Ext G H G2 H2->Rp.rel K G2 v a->rest D (σ.set i (some v)) H2):DA (Fn te (C5 i)) rest D σ H:=e.run hm s k
theorem Ae (e:EV K te σ G m)(hm:m=some a)(s:Same G H)(k:∀ v G2 H2,Ext G H G2 H2->Rp.rel K G2 v a->D.rt v H2):DA (tRet te) rest D σ H:=e.run hm s k
theorem Cv {b:Bool}{m:Option Bool}(e:TV tt σ G m)(hm:m=some b)(s:Same G H)(k:∀ G2 H2,Ext G H G2 H2->if b=true then t { D with nx:=rest D } σ H2 else u { D with nx:=rest D } σ H2) :
  DA (tIfS tt t u) rest D σ H:=e.run hm s k
theorem sv_join (Pv:St->Hp->Prop)(h:∀ nx:St->Hp->Prop,(∀ σ' H',Pv σ' H'->nx σ' H')->DA t Du { D with nx:=nx } σ H)(key:∀ σ' H',Pv σ' H'->rest D σ' H'):DA t rest D σ H:=h (rest D) key
structure LoopOb (K:FZ9){α S ρ:Type}[Rp α](RR:ρ->V->Hp->Hp->Prop)(f:α->S->Option (Fl S ρ))(g:TG)(tb:TS)(D:Ends)(σ:St)(G2 H2:Hp)(as:List α)(s0:S)(res:Fl S ρ)(RS:S->St->Hp->Hp->Prop):Prop where
 start:RS s0 σ G2 H2
 keep:∀ s σ' G' H',RS s σ' G' H'->Same G2 G'/\Same G' H'
 step:∀ (x:V) (a:α) (s:S) (σ1:St) (G1 H1:Hp) (fl:Fl S ρ),a∈as->RS s σ1 G1 H1->Rp.rel K G1 x a->f a s=some fl->∀ D':Ends,(∀ s' σ' G' H',fl = .nx s'->RS s' σ' G' H'->D'.nx σ' H')->(∀ s' σ' G' H',fl = .nx s'->RS s' σ' G' H'->D'.ct σ' H') ->
  (∀ s' σ' G' H',fl = .bk s'->RS s' σ' G' H'->D'.bk σ' H')->(∀ r v G' H',fl = .rt r->RR r v G' H'->D'.rt v H')->g x σ1 H1 fun σ2 H2=>tb D' σ2 H2
 nxt:∀ s σ' G' H',res = .nx s->RS s σ' G' H'->D.nx σ' H'
 rtn:∀ r v G' H',res = .rt r->RR r v G' H'->D.rt v H'
theorem Bi {S ρ:Type}{RR:ρ->V->Hp->Hp->Prop}{f:α->S->Option (Fl S ρ)}{wi:TI}{g:TG}{tb:TS}{mi:Option (List α)}{as:List α}{s0:S}{res:Fl S ρ}(ei:IW K wi σ G mi)(hm:mi=some as)(hf:Cc f as s0=some res)(sg:Same G H)
  (k:∀ G2 H2,Ext G H G2 H2->∃ RS,LoopOb K RR f g tb { D with nx:=rest D } σ G2 H2 as s0 res RS):DA (tFor wi g tb) rest D σ H:=by
 refine ei G (.refl G) as hm H sg _ fun J vs G2 H2 x2 Y hz pr=>?_
 obtain ⟨RS,L⟩:=k G2 H2 x2
 have hla:=Paired.length pr
 refine ⟨fun i m σ' H'=>m=vs.length - i/\i<=vs.length/\∃ s G',RS s σ' G' H'/\Cc f (as.drop i) s=some res,⟨vs.length,by simp,Nat.zero_le _,s0,G2,L.start,hf⟩,?_⟩
 rintro i m σ' H' ⟨rfl,hi,s,G',rs,hfo⟩
 obtain ⟨k1,k2⟩:=L.keep _ _ _ _ rs
 by_cases hlt:i<vs.length
 ·refine .inr ⟨Y.go i _ (k1.trans k2) hlt,fun σ'' H''=>∃ s' G'',RS s' σ'' G'' H''/\Cc f (as.drop (i+1)) s'=some res,fun σ'' H'' ⟨s',G'',h⟩=>⟨vs.length - (i+1),by omega,rfl,hlt,s',G'',h⟩,fun x H3 y=>?_⟩
  obtain ⟨rfl,hx⟩:=Y.yld i _ x H3 (k1.trans k2) hlt y
  obtain ⟨a,hai,ra⟩:=Paired.getR pr hx
  have hd:as.drop i=a::as.drop (i+1):=by
   obtain ⟨h1,h2⟩:=List.getElem?_eq_some_iff.mp hai
   rw [List.drop_eq_getElem_cons h1,h2]
  rw [hd] at hfo
  obtain ⟨fl,hfl,hfo⟩:=Option.bind_eq_some_iff.mp hfo
  refine L.step x a s σ' G' _ fl (List.mem_of_getElem? hai) rs (Rp.mono k1 ra) hfl _ ?_ ?_ ?_ ?_
  ·intro s' σ'' G'' H'' e r
   subst e
   exact ⟨s',G'',r,hfo⟩
  ·intro s' σ'' G'' H'' e r
   subst e
   exact ⟨s',G'',r,hfo⟩
  ·intro s' σ'' G'' H'' e r
   subst e
   exact L.nxt s' σ'' G'' H'' (Option.some.inj hfo).symm r
  ·intro r v G'' H'' e rl
   subst e
   exact L.rtn r v G'' H'' (Option.some.inj hfo).symm rl
 ·have e:i=vs.length:=by omega
  subst e
  have hd:as.drop vs.length=[]:=List.drop_eq_nil_of_le (by omega)
  rw [hd] at hfo
  exact .inl ⟨Y.stop _ (k1.trans k2),L.nxt s σ' G' H' (Option.some.inj hfo).symm rs⟩
structure WhileOb (K:FZ9){S ρ:Type}(RR:ρ->V->Hp->Hp->Prop)(c:S->Option Bool)(f:S->Option (Fl S ρ))(tt:TT)(tb:TS)(D:Ends)(σ:St)(G2 H2:Hp)(s0:S)(res:Fl S ρ)(RS:S->St->Hp->Hp->Prop):Prop where
 start:RS s0 σ G2 H2
 keep:∀ s σ' G' H',RS s σ' G' H'->Same G' H'
 test:∀ s σ' G' H' b,RS s σ' G' H'->c s=some b->∀ Q:Bool->Hp->Prop,(∀ G'' H'',RS s σ' G'' H''->Q b H'')->tt σ' H' Q
 step:∀ (s:S) (σ1:St) (G1 H1:Hp) (fl:Fl S ρ),RS s σ1 G1 H1->f s=some fl->c s=some true->∀ D':Ends,(∀ s' σ' G' H',fl = .nx s'->RS s' σ' G' H'->D'.nx σ' H')->(∀ s' σ' G' H',fl = .nx s'->RS s' σ' G' H'->D'.ct σ' H') ->
  (∀ s' σ' G' H',fl = .bk s'->RS s' σ' G' H'->D'.bk σ' H')->(∀ r v G' H',fl = .rt r->RR r v G' H'->D'.rt v H')->tb D' σ1 H1
 nxt:∀ s σ' G' H',res = .nx s->RS s σ' G' H'->D.nx σ' H'
 rtn:∀ r v G' H',res = .rt r->RR r v G' H'->D.rt v H'
theorem FY {S ρ:Type}{RR:ρ->V->Hp->Hp->Prop}{c:S->Option Bool}{f:S->Option (Fl S ρ)}{tb:TS}{n:Nat}{s0:S}{res:Fl S ρ}(hf:ER c f n s0=some res)(RS:S->St->Hp->Hp->Prop)
  (L:WhileOb K RR c f tt tb { D with nx:=rest D } σ G H s0 res RS):DA (tWhile tt tb) rest D σ H:=by
 refine ⟨fun m σ' H'=>∃ s G',RS s σ' G' H'/\ER c f m s=some res,⟨n,s0,G,L.start,hf⟩,?_⟩
 rintro m σ' H' ⟨s,G',rs,hw⟩
 cases m with
 | zero=>cases hw
 | succ m =>
  obtain ⟨b,hb,hw⟩:=Option.bind_eq_some_iff.mp hw
  refine L.test s σ' G' H' b rs hb _ fun G'' H'' rs'=>?_
  cases b with
  | false=>exact CG (L.nxt s σ' G'' H'' (Option.some.inj hw).symm rs')
  | true =>
   obtain ⟨fl,hfl,hw⟩:=Option.bind_eq_some_iff.mp hw
   refine CN ⟨fun σ2 H2=>∃ s' G2,RS s' σ2 G2 H2/\ER c f m s'=some res,fun σ2 H2 h=>⟨m,Nat.lt_succ_self m,h⟩,?_⟩
   refine L.step s σ' G'' H'' fl rs' hfl hb _ ?_ ?_ ?_ ?_
   ·intro s' σ2 G2 H2 e r
    subst e
    exact ⟨s',G2,r,hw⟩
   ·intro s' σ2 G2 H2 e r
    subst e
    exact ⟨s',G2,r,hw⟩
   ·intro s' σ2 G2 H2 e r
    subst e
    exact L.nxt s' σ2 G2 H2 (Option.some.inj hw).symm r
   ·intro r v G2 H2 e rl
    subst e
    exact L.rtn r v G2 H2 (Option.some.inj hw).symm rl
end
structure Own (K:FZ9){α:Type}[Rp α](G H:Hp)(v:V)(p:Addr)(vs:List V)(as:List α):Prop where
 v:v = .ref p
 g:G p=none
 h:H p=some (.lst vs)
 z:vs.length<=sizeLine
 p:Paired (Rp.rel K G) vs as
section
variable {K:FZ9}{σ:St}{G H G1 H1 G0 H0:Hp}{α β:Type}[Rp α][Rp β]{te ti:TE}{tt:TT}{t u rest:TS}{D:Ends}{i:Nat}{a:α}{m:Option α}{as:List α}{v:V}{p q:Addr}{vs:List V}
theorem Own.ext (o:Own K G H v p vs as)(x:Ext G H G1 H1):Own K G1 H1 v p vs as :=
 ⟨o.v,x.no p o.g (by rw [o.h];exact fun z=>nomatch z),x.hh _ _ o.h,o.z,Paired.imp' (fun _ _ r=>Rp.mono x.gg r) o.p⟩
theorem Own.put {ho:HO}(o:Own K G H v p vs as)(h:p≠q):Own K G (upd H q ho) v p vs as:=⟨o.v,o.g,by rw [Aq h];exact o.h,o.z,o.p⟩
theorem Own.tell (o:Own K G H v p vs as):Rp.rel K (upd G p (.lst vs)) v as:=⟨p,vs,o.v,.inl AM,o.z,Paired.imp' (fun _ _ r=>Rp.mono (Same.new o.g) r) o.p⟩
theorem Own.same (o:Own K G H v p vs as)(s:Same G H):Same (upd G p (.lst vs)) H:=fun b x e=>by
 by_cases hb:b=p
 ·subst hb
  rw [AM] at e
  rw [o.h]
  exact e
 ·rw [Aq hb] at e
  exact s b x e
theorem Cd {m:Option (List α)}{as:List α}(e:FV K te σ G m)(hm:m=some as)(s:Same G H)(k:∀ p vs G2 H2,Ext G H G2 H2->H p=none->Own K G2 H2 (.ref p) p vs as->rest D (σ.set i (some (.ref p))) H2):DA (Fn te (C5 i)) rest D σ H :=
 e G (.refl G) as hm H s _ fun p vs G2 H2 x h0 hg hh hz hp=>k p vs G2 H2 x h0 ⟨rfl,hg,hh,hz,hp⟩
noncomputable def Ds {α:Type}(as:List α)(a:α):Option (List α):=if as.length<sizeLine then some (as++[a]) else none
theorem Cu {as':List α}(hσ:σ[i]? = some (some v))(o:Own K G H v p vs as)(e:EV K te σ G m)(hm:m=some a)(hp:Ds as a=some as')(s:Same G H)
  (k:∀ G2 H2 w,Ext G H G2 H2->Own K G2 (upd H2 p (.lst (vs++[w]))) v p (vs++[w]) as'->rest D σ (upd H2 p (.lst (vs++[w])))):DA (Gm (tBM K "list" GT (FR i) (B0 te D0))) rest D σ H:=by
 obtain ⟨hl,rfl⟩:=BC hp
 have hlen:=Paired.length o.p
 obtain ⟨rfl,og,oh,oz,op⟩:=o
 refine ⟨_,hσ,.inl ⟨rfl,_,SqL.of oh⟩,?_⟩
 refine e.run hm s fun w G2 H2 x r=>?_
 refine ⟨p,vs,w,rfl,rfl,x.hh _ _ oh,by omega,?_⟩
 refine k G2 H2 w x ⟨rfl,x.no p og (by rw [oh];exact fun z=>nomatch z),AM,?_,Paired.app (Paired.imp' (fun _ _ r=>Rp.mono x.gg r) op) (.cons r .nil)⟩
 rw [List.length_append,List.length_singleton]
 omega
structure TupK (H H':Hp):Prop where
 rd:∀ b xs,Rd H b (.tup xs)->Rd H' b (.tup xs)
 eq:∀ b xs,H b=some (.tup xs)->H' b=some (.tup xs)
class Imm (α:Type) [Rp α]:Prop where
 im:∀ {K:FZ9}{H H':Hp}{v:V}{a:α},TupK H H'->Rp.rel K H v a->Rp.rel K H' v a
noncomputable instance imInt:Imm Int:=⟨fun _ h=>h⟩
noncomputable def del (G:Hp)(p:Addr):Hp:=fun b=>if b=p then none else G b
theorem GX {G:Hp}{p b:Addr}(h:b≠p):del G p b=G b:=by unfold del;rw [if_neg h]
theorem del_same {G:Hp}{p:Addr}:del G p p=none:=by unfold del;rw [if_pos rfl]
theorem Ext.del {ho:HO}{G2 H2:Hp}(hg:G p=none)(x:Ext (upd G p ho) H G2 H2):Ext G H (L2.del G2 p) H2 :=
 ⟨fun b o e=>by
  have hb:b≠p:=Ax e hg
  rw [GX hb]
  exact x.gg b o (by rw [Aq hb];exact e),fun b o e=>by
  by_cases hb:b=p
  ·subst hb
   rw [del_same] at e
   cases e
  ·rw [GX hb] at e
   exact x.gh b o e,x.hh,fun b h1 h2=>by
  by_cases hb:b=p
  ·subst hb
   exact del_same
  ·rw [GX hb]
   exact x.no b (by rw [Aq hb];exact h1) h2⟩
theorem Imm.del {β:Type}[Rp β][Imm β]{G2:Hp}{w:V}{c:β}{ys:List V}(h:G2 p=some (.lst ys))(r:Rp.rel K G2 w c):Rp.rel K (L2.del G2 p) w c :=
 Imm.im ⟨fun b xs e=>by
  have hb:b≠p:=fun z=>by
   subst z
   rcases e with e | ⟨o,e⟩<;>(rw [h] at e;cases e)
  rcases e with e | ⟨o,e⟩
  ·exact .inl (by rw [GX hb];exact e)
  ·exact .inr ⟨o,by rw [GX hb];exact e⟩,fun b xs e=>by
  have hb:b≠p:=fun z=>by
   subst z
   rw [h] at e
   cases e
  rw [GX hb]
  exact e⟩ r
theorem EV.runB {β:Type}[Rp β][Imm β]{mb:Option β}{b:β}{Q:VK}(o:Own K G H v p vs as)(e:EV K te σ (upd G p (.lst vs)) mb)(hm:mb=some b)(s:Same G H)(k:∀ w G2 H2,Ext G H G2 H2->Rp.rel K G2 w b->Q w H2):te σ H Q :=
 e.run hm (o.same s) fun w G2 H2 x r=>k w (del G2 p) H2 (x.del o.g) (Imm.del (x.gg _ _ AM) r)
theorem TV.runB {mb:Option Bool}{b:Bool}{Q:Bool->Hp->Prop}(o:Own K G H v p vs as)(e:TV tt σ (upd G p (.lst vs)) mb)(hm:mb=some b)(s:Same G H)(k:∀ G2 H2,Ext G H G2 H2->Q b H2):tt σ H Q :=
 e.run hm (o.same s) fun G2 H2 x=>k (del G2 p) H2 (x.del o.g)
end
section
variable {K:FZ9}{σ:St}{G:Hp}
theorem Ef {ρ A0:Type}[Rp ρ][Rp A0]{t0:TE}{m0:Option A0}{m:A0 × Unit->Option ρ}(e0:EV K t0 σ G m0):EV K (tCall (spM K m) [] E0 (B0 t0 D0)) σ G (m0.bind fun a0=>m (a0,())):=by
 intro G1 s1 c hc H sH Q k
 obtain ⟨a0,ha0,hc⟩:=Option.bind_eq_some_iff.mp hc
 refine e0 G1 s1 a0 ha0 H sH _ fun v0 G2 H2 x0 r0=>?_
 have y0:=x0
 exact ⟨G2,_,c,y0.gh,⟨v0,_,rfl,r0,rfl⟩,hc,fun v G9 H9 x9 r9=>k v G9 H9 (y0.trans x9) r9⟩
theorem B8 {ρ A0 A1:Type}[Rp ρ][Rp A0][Rp A1]{t0 t1:TE}{m0:Option A0}{m1:Option A1}{m:A0 × A1 × Unit->Option ρ}(e0:EV K t0 σ G m0)(e1:EV K t1 σ G m1):EV K (tCall (spM K m) [] E0 (B0 t0 (B0 t1 D0))) σ G (m0.bind fun a0=>m1.bind fun a1=>m (a0,a1,())):=by
 intro G1 s1 c hc H sH Q k
 obtain ⟨a0,ha0,hc⟩:=Option.bind_eq_some_iff.mp hc
 obtain ⟨a1,ha1,hc⟩:=Option.bind_eq_some_iff.mp hc
 refine e0 G1 s1 a0 ha0 H sH _ fun v0 G2 H2 x0 r0=>?_
 have y0:=x0
 refine e1 G2 (s1.trans y0.gg) a1 ha1 H2 y0.gh _ fun v1 G3 H3 x1 r1=>?_
 have y1:=y0.trans x1
 exact ⟨G3,_,c,y1.gh,⟨v0,_,rfl,(Rp.mono x1.gg r0),⟨v1,_,rfl,r1,rfl⟩⟩,hc,fun v G9 H9 x9 r9=>k v G9 H9 (y1.trans x9) r9⟩
theorem D6 {ρ A0 A1 A2:Type}[Rp ρ][Rp A0][Rp A1][Rp A2]{t0 t1 t2:TE}{m0:Option A0}{m1:Option A1}{m2:Option A2}{m:A0 × A1 × A2 × Unit->Option ρ}(e0:EV K t0 σ G m0)(e1:EV K t1 σ G m1)(e2:EV K t2 σ G m2):EV K (tCall (spM K m) [] E0 (B0 t0 (B0 t1 (B0 t2 D0)))) σ G (m0.bind fun a0=>m1.bind fun a1=>m2.bind fun a2=>m (a0,a1,a2,())):=by
 intro G1 s1 c hc H sH Q k
 obtain ⟨a0,ha0,hc⟩:=Option.bind_eq_some_iff.mp hc
 obtain ⟨a1,ha1,hc⟩:=Option.bind_eq_some_iff.mp hc
 obtain ⟨a2,ha2,hc⟩:=Option.bind_eq_some_iff.mp hc
 refine e0 G1 s1 a0 ha0 H sH _ fun v0 G2 H2 x0 r0=>?_
 have y0:=x0
 refine e1 G2 (s1.trans y0.gg) a1 ha1 H2 y0.gh _ fun v1 G3 H3 x1 r1=>?_
 have y1:=y0.trans x1
 refine e2 G3 (s1.trans y1.gg) a2 ha2 H3 y1.gh _ fun v2 G4 H4 x2 r2=>?_
 have y2:=y1.trans x2
 exact ⟨G4,_,c,y2.gh,⟨v0,_,rfl,(Rp.mono x2.gg (Rp.mono x1.gg r0)),⟨v1,_,rfl,(Rp.mono x2.gg r1),⟨v2,_,rfl,r2,rfl⟩⟩⟩,hc,fun v G9 H9 x9 r9=>k v G9 H9 (y2.trans x9) r9⟩
theorem GF {ρ A0 A1 A2 A3:Type}[Rp ρ][Rp A0][Rp A1][Rp A2][Rp A3]{t0 t1 t2 t3:TE}{m0:Option A0}{m1:Option A1}{m2:Option A2}{m3:Option A3}{m:A0 × A1 × A2 × A3 × Unit->Option ρ}(e0:EV K t0 σ G m0)(e1:EV K t1 σ G m1)(e2:EV K t2 σ G m2)(e3:EV K t3 σ G m3):EV K (tCall (spM K m) [] E0 (B0 t0 (B0 t1 (B0 t2 (B0 t3 D0))))) σ G (m0.bind fun a0=>m1.bind fun a1=>m2.bind fun a2=>m3.bind fun a3=>m (a0,a1,a2,a3,())):=by
 intro G1 s1 c hc H sH Q k
 obtain ⟨a0,ha0,hc⟩:=Option.bind_eq_some_iff.mp hc
 obtain ⟨a1,ha1,hc⟩:=Option.bind_eq_some_iff.mp hc
 obtain ⟨a2,ha2,hc⟩:=Option.bind_eq_some_iff.mp hc
 obtain ⟨a3,ha3,hc⟩:=Option.bind_eq_some_iff.mp hc
 refine e0 G1 s1 a0 ha0 H sH _ fun v0 G2 H2 x0 r0=>?_
 have y0:=x0
 refine e1 G2 (s1.trans y0.gg) a1 ha1 H2 y0.gh _ fun v1 G3 H3 x1 r1=>?_
 have y1:=y0.trans x1
 refine e2 G3 (s1.trans y1.gg) a2 ha2 H3 y1.gh _ fun v2 G4 H4 x2 r2=>?_
 have y2:=y1.trans x2
 refine e3 G4 (s1.trans y2.gg) a3 ha3 H4 y2.gh _ fun v3 G5 H5 x3 r3=>?_
 have y3:=y2.trans x3
 exact ⟨G5,_,c,y3.gh,⟨v0,_,rfl,(Rp.mono x3.gg (Rp.mono x2.gg (Rp.mono x1.gg r0))),⟨v1,_,rfl,(Rp.mono x3.gg (Rp.mono x2.gg r1)),⟨v2,_,rfl,(Rp.mono x3.gg r2),⟨v3,_,rfl,r3,rfl⟩⟩⟩⟩,hc,fun v G9 H9 x9 r9=>k v G9 H9 (y3.trans x9) r9⟩
section
variable {ta tb:TE}{a b:Bool}{tt tu:TT}{mb:Option Bool}
theorem ev_andP (ea:EV K ta σ G (some a))(eb:EV K tb σ G (some b)):EV K (tAndV ta tb) σ G (some (a && b)):=(GV ea eb).of (by cases a<;>rfl)
theorem TV.of {m m':Option Bool}(e:TV tt σ G m)(h:m=m'):TV tt σ G m':=h ▸ e
theorem tv_orP (ea:TV tt σ G (some a))(eb:TV tu σ G (some b)):TV (tOr tt tu) σ G (some (a || b)):=(tv_or ea eb).of (by cases a<;>rfl)
theorem BM {α:Type}[Rp α]{te:TE}{mo:Option (Option α)}(e:EV K te σ G mo):EV K te σ G (mo.bind fun o=>o):=by
 intro G1 s1 c hc H sH Q k
 obtain ⟨o,ho,hc⟩:=Option.bind_eq_some_iff.mp hc
 subst hc
 exact e G1 s1 _ ho H sH Q k
theorem TruV.mono {G H:Hp}{v:V}{k:Bool}(s:Same G H)(h:TruV K v G k):TruV K v H k:=by
 cases v with
 | ref p =>
  rcases h with ⟨xs,hx,e⟩ | ⟨xs,hx,e⟩ | ⟨kvs,hx,e⟩
  ·exact .inl ⟨xs,s.seq hx,e⟩
  ·exact .inr (.inl ⟨xs,s.tup hx,e⟩)
  ·exact .inr (.inr ⟨kvs,s _ _ hx,e⟩)
 | _=>exact h
theorem GA {mb:Option Bool}(ea:EV K ta σ G mb):TV (fun σ H Q=>ta σ H fun x H'=>∃ k,TruV K x H' k/\Q k H') σ G mb:=by
 have h:=tv_tru (K:=K) (f:=fun (a:Bool)=>a) (fun {G v a}(r:Rp.rel K G v a)=>by cases r;exact rfl) (fun s=>TruV.mono s) ea
 refine h.of ?_
 cases mb<;>rfl
end
theorem cT {α:Type}{A B:Option α}{r:Option α}(h:cond true A B=r):A=r:=h
theorem cF {α:Type}{A B:Option α}{r:Option α}(h:cond false A B=r):B=r:=h
theorem BF {i:Nat}{x:V}{σ:St}{H:Hp}{tb:TS}{D:Ends}(h:tb D (σ.set i (some x)) H):C5 i x σ H fun σ2 H2=>tb D σ2 H2:=h
end
section
variable {K:FZ9}{σ:St}{G H:Hp}{α β γ:Type}[Rp α][Rp β][Rp γ]{ta tb te:TE}{ia ib:Option Int}{c:Int}{rest t u:TS}{D:Ends}{i j:Nat}{tt:TT}
theorem ev_mulR (ea:EV K ta σ G ia)(hc:-(2 ^ 64)<c/\c<2 ^ 64:=by decide):EV K (tOp (rMul K) ta (tC (.int c))) σ G (ia.bind fun a=>some (a * c)):=by
 have h:=ev_mul ea (BI (K:=K) (σ:=σ) (G:=G) (i:=c))
 have e:(ia.bind fun a=>(some c).bind fun b=>Gc a b)=ia.bind fun a=>some (a * c):=by
  congr 1;funext a
  show Gc a c=_
  unfold Gc
  rw [if_pos (.inr hc)]
 exact h.of e
theorem ev_mulL (eb:EV K tb σ G ib)(hc:-(2 ^ 64)<c/\c<2 ^ 64:=by decide):EV K (tOp (rMul K) (tC (.int c)) tb) σ G (ib.bind fun b=>some (c * b)):=by
 have h:=ev_mul (BI (K:=K) (σ:=σ) (G:=G) (i:=c)) eb
 have e:((some c).bind fun a=>ib.bind fun b=>Gc a b)=ib.bind fun b=>some (c * b):=by
  show (ib.bind fun b=>Gc c b)=_
  congr 1;funext b
  unfold Gc
  rw [if_pos (.inl hc)]
 exact h.of e
theorem Cn (ea:EV K ta σ G ia)(hc:0<c:=by decide):EV K (tOp (rI (fun _ j=>0<j) fun i j=>.int (i % j)) ta (tC (.int c))) σ G (ia.bind fun a=>some (a % c)):=by
 have h:=Dl ea (BI (K:=K) (σ:=σ) (G:=G) (i:=c))
 have e:(ia.bind fun a=>(some c).bind fun b=>Dm a b)=ia.bind fun a=>some (a % c):=by
  congr 1;funext a
  show Dm a c=_
  unfold Dm
  rw [if_pos hc]
 exact h.of e
theorem E8 (ea:EV K ta σ G ia)(hc:0<c/\c<1073741824:=by decide):EV K (tOp (rI CDiv fun i j=>.int (i / j)) ta (tC (.int c))) σ G (ia.bind fun a=>some (a / c)):=by
 have h:=ev_div ea (BI (K:=K) (σ:=σ) (G:=G) (i:=c))
 have e:(ia.bind fun a=>(some c).bind fun b=>divO a b)=ia.bind fun a=>some (a / c):=by
  congr 1;funext a
  show divO a c=_
  unfold divO
  rw [if_pos (show CDiv a c from hc)]
 exact h.of e
structure Scr where
 l:List Int
noncomputable instance rpScr:Rp Scr:=⟨fun K H v a=>∃ l,v = .ref l/\SqL K H l (a.l.map V.int),fun s ⟨l,e,h⟩=>⟨l,e,s.seq h⟩⟩
theorem ev_lenX {ma:Option Scr}(ea:EV K ta σ G ma):EV K (tCB (rLen K) (B0 ta D0)) σ G (ma.bind fun a=>some (a.l.length:Int)):=by
 intro G1 s1 c hc H sH Q k
 obtain ⟨a,ha,hc⟩:=Option.bind_eq_some_iff.mp hc
 cases hc
 refine ea G1 s1 a ha H sH _ fun v G2 H2 x2 r2=>?_
 obtain ⟨l,rfl,h⟩:=r2
 exact ⟨_,.inl (x2.gh.seq h),by rw [List.length_map];exact k _ _ _ x2 rfl⟩
theorem pairedI {H:Hp}:∀ ns:List Int,Paired (Rp.rel K H) (ns.map V.int) ns
 | []=>.nil
 | _::r=>.cons rfl (pairedI r)
theorem ev_atX {ma:Option Scr}(ea:EV K ta σ G ma)(eb:EV K tb σ G ib):EV K (tOp (rAt K) ta tb) σ G (ma.bind fun a=>ib.bind fun i=>atI a.l i) :=
 Cz (fun s ra rb e Q k=>by
  obtain ⟨l,rfl,h⟩:=ra;cases rb
  obtain ⟨v,hv,r⟩:=paired_atI (pairedI (K:=K) _) e
  exact .inl ⟨_,v,s.seq h,hv,k _ _ _ (.refl s) r⟩) ea eb
theorem decOI {G:Hp}{v u:V}{a b:Option Int}(ra:Rp.rel K G v a)(rb:Rp.rel K G u b):scal v u=true/\decide (v=u)=decide (a=b):=by
 cases a with
 | none =>
  cases (show v=V.non from ra)
  cases b with
  | none=>cases (show u=V.non from rb);exact ⟨rfl,rfl⟩
  | some j=>cases (show u=V.int j from rb);exact ⟨rfl,by simp⟩
 | some i =>
  cases (show v=V.int i from ra)
  cases b with
  | none=>cases (show u=V.non from rb);exact ⟨rfl,by simp⟩
  | some j=>cases (show u=V.int j from rb);exact ⟨rfl,by simp⟩
theorem ev_eqOI {oa ob:Option (Option Int)}(ea:EV K ta σ G oa)(eb:EV K tb σ G ob):EV K (tOp rEq ta tb) σ G (oa.bind fun a=>ob.bind fun b=>some (decide (a=b))) :=
 Cz (fun s ra rb e Q k=>by cases e;obtain ⟨h1,h2⟩:=decOI ra rb;exact ⟨h1,k _ _ _ (.refl s) (by show V.bl _=V.bl _;rw [h2])⟩) ea eb
theorem ev_neOI {oa ob:Option (Option Int)}(ea:EV K ta σ G oa)(eb:EV K tb σ G ob):EV K (tOp rNe ta tb) σ G (oa.bind fun a=>ob.bind fun b=>some (!decide (a=b))) :=
 Cz (fun s ra rb e Q k=>by cases e;obtain ⟨h1,h2⟩:=decOI ra rb;exact ⟨h1,k _ _ _ (.refl s) (by show V.bl _=V.bl _;rw [h2])⟩) ea eb
theorem op_repR {X:Cx}:OpR X (binaryOp .Mult) (fun x y H Q=>∃ l k xs,x = .ref l/\y = .int k/\Rd H l (.lst xs)/\-(2 ^ 63)<=k/\k<2 ^ 63/\xs.length * k.toNat<=sizeLine/\∀ p,H p=none->Q (.ref p) (upd H p (.lst (List.replicate k.toNat xs).flatten))):=by
 intro pins s σ H x y v u Q I rx ry h
 obtain ⟨l,k,xs,rfl,rfl,hH,h1,h2,hz,q⟩:=h
 cases rx
 obtain ⟨t,rfl⟩:=ry
 obtain ⟨z,its,n,r,e⟩:=hH.ok I.hok
 have hl:=r.length
 have hlen:its.toArray.size * k.toNat<=sizeLine:=by rw [List.size_toArray,<- hl];exact hz
 have hcap:¬ its.toArray.size * k.toNat > (2 ^ 63 - 1) / 8:=by
  have:(sizeLine:Nat)<=(2 ^ 63 - 1) / 8:=by decide
  omega
 have hfit:¬ (!Builtin.List.listFitsIndex k)=true:=by
  rw [fitsIndex_both h1 h2]
  exact Bool.false_ne_true
 have hlong:¬ Builtin.List.listTooLong (its.toArray.size * k.toNat)=true:=by
  rw [notLongL hlen]
  exact Bool.false_ne_true
 have hnew:List.foldl (fun x1 x2=>x1++x2) #[] (List.replicate (if its.toArray.isEmpty=true then 0 else k.toNat) its.toArray)=(List.replicate k.toNat its).flatten.toArray:=by
  have f0:∀ m:Nat,List.foldl (fun x1 x2=>x1++x2) #[] (List.replicate m its.toArray)=(List.replicate m its).flatten.toArray:=fun m=>by
   have:=foldl_rep its m []
   rw [List.nil_append] at this
   exact this
  rw [f0]
  cases its with
  | nil=>simp
  | cons a r'=>rw [if_neg (by simp)]
 refine wpAny_binaryOp_repeat_ref (T := "list") (U := "int") (by decide) ⟨_,e,rfl⟩ (fun s'=>typeIs_int s' k t) noFill_list_mul F.fills_int_mul F.slot_int_rmul repeat_list F.slot_int_index.lookup
  (call_meets F.slot_int_rmul (typeIs_int s k t) F.entry_int_rmul (F.args_int_rmul_2 _ _) (int___rmul___int_list k t l its.toArray n)
   ⟨e,rfl,⟨_,e,rfl⟩,call_meets F.slot_list_mul ⟨_,e,rfl⟩ F.entry_list_mul (F.args_list_mul_2 _ _) (AutoListH.list___mul___list_int_3 l its.toArray n k t hfit hcap hlong) ⟨e,?_⟩⟩)
 rw [hnew]
 exact ⟨.ref _,_,I.lnew (t':=s.toks) (r.rep k.toNat) (by rw [len_rep,Nat.mul_comm];exact hz),rfl,q _ I.fresh⟩
theorem fv_rep {la:Option (List α)}(ea:EV K ta σ G la)(eb:EV K tb σ G ib) :
  FV K (tOp (fun x y H Q=>∃ l k xs,x = .ref l/\y = .int k/\Rd H l (.lst xs)/\-(2 ^ 63)<=k/\k<2 ^ 63/\xs.length * k.toNat<=sizeLine/\∀ p,H p=none->Q (.ref p) (upd H p (.lst (List.replicate k.toNat xs).flatten))) ta tb) σ G (la.bind fun a=>ib.bind fun b=>repL a b):=by
 intro G1 s1 c hc H sH Q k
 obtain ⟨a,ha,hc⟩:=Option.bind_eq_some_iff.mp hc
 obtain ⟨b,hb,hc⟩:=Option.bind_eq_some_iff.mp hc
 obtain ⟨⟨hl,hz⟩,rfl⟩:=BC hc
 refine ea G1 s1 a ha H sH _ fun v G2 H2 x2 r2=>?_
 refine eb G2 (s1.trans x2.gg) b hb H2 x2.gh _ fun u G3 H3 x3 r3=>?_
 obtain ⟨l1,xs,rfl,h1,z1,p1⟩:=Rp.mono x3.gg r2
 cases r3
 have e1:=Paired.length p1
 rw [<- e1] at hz
 exact ⟨l1,b,xs,rfl,rfl,x3.gh.rd h1,hl.1,hl.2,hz,fv_of x3.gh (by rw [len_rep,Nat.mul_comm];exact hz) (Paired.rep p1 _) (FV.mono (x2.trans x3) k)⟩
theorem sv_setB {a:α}{m:Option α}[Imm α]{v:V}{p:Addr}{vs:List V}{as:List β}(o:Own K G H v p vs as)(e:EV K te σ (upd G p (.lst vs)) m)(hm:m=some a)(s:Same G H)(k:∀ v G2 H2,Ext G H G2 H2->Rp.rel K G2 v a->rest D (σ.set i (some v)) H2) :
  DA (Fn te (C5 i)) rest D σ H:=EV.runB o e hm s k
theorem FT {b:Bool}{m:Option Bool}{v:V}{p:Addr}{vs:List V}{as:List β}(o:Own K G H v p vs as)(e:TV tt σ (upd G p (.lst vs)) m)(hm:m=some b)(s:Same G H)(k:∀ G2 H2,Ext G H G2 H2->if b=true then t { D with nx:=rest D } σ H2 else u { D with nx:=rest D } σ H2) :
  DA (tIfS tt t u) rest D σ H:=TV.runB o e hm s k
noncomputable def Fw {α:Type}(as:List α)(k:Int)(a:α):Option (List α):=(ixN as.length k).bind fun j=>some (as.set j a)
theorem D9 {a:α}{m:Option α}{ti:TE}{mi:Option Int}{k':Int}{as as':List α}{v:V}{p:Addr}{vs:List V}(hσ:σ[i]? = some (some v))(o:Own K G H v p vs as)(e:EV K te σ G m)(hm:m=some a)(ei:EV K ti σ G mi)(hi:mi=some k')(hs:Fw as k' a=some as')(s:Same G H)
  (k:∀ G2 H2 w j,Ext G H G2 H2->Own K G2 (upd H2 p (.lst (vs.set j w))) v p (vs.set j w) as'->rest D σ (upd H2 p (.lst (vs.set j w)))):DA (Fn te (gSub (FR i) ti rSetL)) rest D σ H:=by
 obtain ⟨j,hj,e'⟩:=Option.bind_eq_some_iff.mp hs
 cases e'
 have hlen:=Paired.length o.p
 refine e.run hm s fun w G2 H2 x r=>?_
 have o2:=o.ext x
 refine ⟨v,hσ,?_⟩
 refine ei G2 x.gg k' hi H2 x.gh _ fun u G3 H3 x3 r3=>?_
 cases r3
 have o3:=o2.ext x3
 refine ⟨p,vs,k',j,o3.v,rfl,o3.h,by rw [hlen];exact hj,?_⟩
 refine k G3 H3 w j (x.trans x3) ⟨o3.v,o3.g,AM,by rw [List.length_set];exact o3.z,Paired.st (Rp.mono x3.gg r) j o3.p⟩
end
section
variable {K:FZ9}{σ:St}{G H G1 H1 G0 H0:Hp}{α β γ:Type}[Rp α][Rp β][Rp γ]{ta tb te ti:TE}{tt:TT}{t u rest:TS}{D:Ends}{i j:Nat}{v:V}{p q r:Addr}{vs ws:List V}{a:List α × List β}
end
section
variable {X:Cx}{K:FZ9}
theorem Ak (h:X.K=K):OpR X (binaryOp .Add) (rPlus K):=h ▸ op_plus
theorem Eb (h:X.K=K):OpR X (binaryOp .Mult) (rMul K):=h ▸ op_mulU
theorem sl_anyK (h:X.K=K):SlR X (rSl K):=h ▸ sl_any
theorem A9 (h:X.K=K):IxR X (rAt K):=h ▸ ix_any
theorem As (h:X.K=K):DX X (.builtin "len") (rLen K):=h ▸ call_lenU
theorem call_instK (h:X.K=K):DX X (.builtin "isinstance") (rInst K):=h ▸ call_inst
theorem call_listK (h:X.K=K):DX X (.type "list") (fun xs H Q=>∃ p ys,xs=[.ref p]/\(SqL K H p ys\/SqT K H p ys)/\∀ l,H l=none->Q (.ref l) (upd H l (.lst ys))):=h ▸ call_list_of
theorem Av {tg l:Expr}{tl:TE}(h:X.K=K)(hl:PE X l tl):PI X tg l (iAny K tl):=h ▸ pi_any hl
theorem BN {a:Expr}{ta:TE}(h:X.K=K)(ha:PE X a ta)(he:∀ whole,isTrue a X.env whole=(do let v <- whole;standAt a.pos;holding [v] (truthy v))) :
  PT X a (fun σ H Q=>ta σ H fun x H'=>∃ k,TruV K x H' k/\Q k H'):=h ▸ pt_truth ha he
section
variable {o e:Expr}{es:List Expr}{to:TE}{t:TA}{name:Str}{apos cpos:Pos}{T id:String}{r:V->List V->Hp->VK->Prop}
theorem Cg (h:X.K=K)(pa:PlainAttrs T)(slot:Slot T name id)(hty:typeOf (.builtin id)=pure (.type "method_descriptor"))(hm:MtR X id r)(ho:PE X o to)(ha:PA X (e::es) t)
  (hbase:attributeBase o name X.env (eval o X.env)=eval o X.env:=by rfl)
  (hfew:((backTo cpos (starEach (e::es) X.env)).all (fun x=>!x.1) && (backToKw cpos (keywordEach [] X.env)).all (fun x=>x.1.isSome)
   && decide ((e::es).length+([]:List Keyword).length+(if ([]:List Keyword).isEmpty then 0 else 1)<30))=true:=by rfl)
  (hline:(apos.endLine == cpos.line)=true:=by rfl) (hs:starEach (e::es) X.env=(false,eval e X.env)::starEach es X.env:=by rfl) (hplain:(backTo cpos (starEach es X.env)).any (·.1)=false:=by rfl) :
  PE X (.Call (.Attribute o name apos) (e::es) [] cpos) (tBM K T r to t):=h ▸ pe_bm pa slot hty hm ho ha hbase hfew hline hs hplain
end
end
theorem Bp {f:St->Hp->Prop}{rt:VK}{bk ct:St->Hp->Prop}{σ:St}{H:Hp}(h:f σ H):({ nx:=f,rt:=rt,bk:=bk,ct:=ct }:Ends).nx σ H:=h
section
variable {K:FZ9}{σ:St}{G H:Hp}{α β γ:Type}[Rp α][Rp β][Rp γ]{ta tb te:TE}{rest t u:TS}{D:Ends}{i j:Nat}
noncomputable def extO {α:Type}(as bs:List α):Option (List α):=if as.length+bs.length<=sizeLine then some (as++bs) else none
end
inductive D where
 | non
 | bl (b:Bool)
 | int (i:Int)
 | str (x:Str)
 | lst (l:List D)
 | tup (l:List D)
 | dic
mutual
inductive RelD (K:FZ9)(H:Hp):V->D->Prop where
 | non:RelD K H .non .non
 | bl (b:Bool):RelD K H (.bl b) (.bl b)
 | int (i:Int):RelD K H (.int i) (.int i)
 | str (x:Str) (z:x.length<=sizeLine):RelD K H (.str x) (.str x)
 | lst {a:Addr}{xs:List V}{ds:List D}(h:Rd H a (.lst xs)) (z:xs.length<=sizeLine) (r:RelDs K H xs ds):RelD K H (.ref a) (.lst ds)
 | tup {a:Addr}{xs:List V}{ds:List D}(h:SqT K H a xs) (z:xs.length<=sizeLine) (r:RelDs K H xs ds):RelD K H (.ref a) (.tup ds)
 | dK {a:Addr}{kvs:List (Key × V)}(h:Rd H a (.dK kvs)):RelD K H (.ref a) .dic
inductive RelDs (K:FZ9)(H:Hp):List V->List D->Prop where
 | nil:RelDs K H [] []
 | cons {x:V}{d:D}{xs:List V}{ds:List D}(h:RelD K H x d) (t:RelDs K H xs ds):RelDs K H (x::xs) (d::ds)
end
mutual
theorem RelD.mono {K:FZ9}{H H':Hp}(s:Same H H'):∀ {v:V}{d:D},RelD K H v d->RelD K H' v d
 | _,_,.non=>.non
 | _,_,.bl b=>.bl b
 | _,_,.int i=>.int i
 | _,_,.str x z=>.str x z
 | _,_,.lst h z r=>.lst (s.rd h) z (RelDs.mono s r)
 | _,_,.tup h z r=>.tup (s.tup h) z (RelDs.mono s r)
 | _,_,.dK h=>.dK (s.rd h)
theorem RelDs.mono {K:FZ9}{H H':Hp}(s:Same H H'):∀ {v:List V}{d:List D},RelDs K H v d->RelDs K H' v d
 | _,_,.nil=>.nil
 | _,_,.cons h t=>.cons (RelD.mono s h) (RelDs.mono s t)
end
noncomputable instance rpD:Rp D:=⟨RelD,fun s h=>RelD.mono s h⟩
class ToD (α:Type) [Rp α] where
 to:α->D
 rel:∀ {K:FZ9}{H:Hp}{v:V}{a:α},Rp.rel K H v a->RelD K H v (to a)
noncomputable def dk:D->String
 | .non => "NoneType"
 | .bl _ => "bool"
 | .int _ => "int"
 | .str _ => "str"
 | .lst _ => "list"
 | .tup _ => "tuple"
 | .dic => "dict"
section
variable {K:FZ9}{σ:St}{G:Hp}{α β:Type}[Rp α][Rp β]{ta tb te:TE}{md:Option D}
theorem call_tupK {X:Cx}(h:X.K=K):DX X (.type "tuple") (fun xs H Q=>∃ p ys,xs=[.ref p]/\((SqL K H p ys/\∀ l,H l=none->Q (.ref l) (upd H l (.tup ys)))\/(SqT K H p ys/\Q (.ref p) H))):=h ▸ call_tuple_of
theorem ev_tuple {la:Option (List α)}(ea:EV K ta σ G la):EV K (tCB (fun xs H Q=>∃ p ys,xs=[.ref p]/\((SqL K H p ys/\∀ l,H l=none->Q (.ref l) (upd H l (.tup ys)))\/(SqT K H p ys/\Q (.ref p) H))) (B0 ta D0)) σ G (la.bind fun a=>some (Tp.mk a)):=by
 intro G1 s1 c hc H sH Q k
 obtain ⟨a,ha,hc⟩:=Option.bind_eq_some_iff.mp hc
 cases hc
 refine ea G1 s1 a ha H sH _ fun v G2 H2 x2 r2=>?_
 obtain ⟨l,xs,rfl,h,z,p⟩:=r2
 refine ⟨l,xs,rfl,.inl ⟨.inl (x2.gh.rd h),fun q hq=>?_⟩⟩
 exact k _ _ _ (x2.trans (.new x2.gh hq)) ⟨q,xs,rfl,SqT.of AM,z,Paired.imp' (fun _ _ r=>Rp.mono (Same.new (x2.gh.free hq)) r) p⟩
end
section
variable {K:FZ9}{σ:St}{G:Hp}{ta:TE}
theorem paired_bools {H:Hp}:∀ {xs:List V}{ys:List Bool},Paired (Rp.rel K H) xs ys->xs=ys.map V.bl
 | _,_,.nil=>rfl
 | _,_,.cons r t=>by
  cases r
  rw [paired_bools t]
  rfl
end
noncomputable def OK {α:Type}(m:Option α)(P:α->Prop):Prop:=∃ a,m=some a/\P a
section
variable {α β S ρ:Type}{m:Option α}{P Q:α->Prop}{R:β->Prop}
theorem OK.mono (h:OK m P)(k:∀ a,P a->Q a):OK m Q:=let ⟨a,e,p⟩:=h;⟨a,e,k a p⟩
theorem AE {a:α}(h:P a):OK (some a) P:=⟨a,rfl,h⟩
theorem A7 {f:α->Option β}(h:OK m fun a=>OK (f a) R):OK (m.bind f) R:=by
 obtain ⟨a,rfl,h⟩:=h
 exact h
theorem CF {f:α->Option β}(h:OK m P)(k:∀ a,P a->OK (f a) R):OK (m.bind f) R:=A7 (h.mono k)
theorem BV {b:Bool}{x y:Option α}(h1:b=true->OK x P)(h2:b=false->OK y P):OK (cond b x y) P:=by
 cases b with
 | true=>exact h1 rfl
 | false=>exact h2 rfl
theorem OK.eq {a:α}(h:OK m fun b=>b=a):m=some a:=by obtain ⟨b,e,rfl⟩:=h;exact e
theorem OK.of {a:α}(e:m=some a)(h:P a):OK m P:=⟨a,e,h⟩
theorem AX {α β:Type}(a:α)(f:α->Option β):(some a).bind f=f a:=by rw [Option.bind_some]
theorem AS {α:Type}(m:Option α):(m.bind fun x=>some x)=m:=by cases m<;>rfl
theorem Fv {a b:Int}{P:Int->Prop}(hb:0<b)(h:P (a % b)):OK (Dm a b) P:=⟨_,if_pos hb,h⟩
theorem ok_mul {a b:Int}{P:Int->Prop}(hb:CMul a b)(h:P (a * b)):OK (Gc a b) P:=⟨_,if_pos hb,h⟩
theorem ok_catL {a b:List α}{P:List α->Prop}(hb:a.length+b.length<=sizeLine)(h:P (a++b)):OK (catL a b) P:=⟨_,if_pos hb,h⟩
theorem D4 {a:List α}{b:α}{P:List α->Prop}(hb:a.length<sizeLine)(h:P (a++[b])):OK (Ds a b) P:=⟨_,if_pos hb,h⟩
theorem ok_rep {a:List α}{k:Nat}{P:List α->Prop}(hk:a.length * k<=sizeLine)(hs:k<4611686018427387904)(h:P (List.replicate k a).flatten):OK (repL a (k:Int)) P :=
 ⟨_,if_pos ⟨⟨by omega,by omega⟩,by rw [Int.toNat_natCast];exact hk⟩,by rw [Int.toNat_natCast];exact h⟩
theorem DV {lo hi:Int}{n:Nat}{P:List Int->Prop}(hn:hi - lo=n)(h0:-1000000000<=lo/\lo<=1000000000)(h1:n<=sizeLine)(h:P ((List.range n).map fun (i:Nat)=>lo+(i:Int))):OK (EH lo hi) P:=by
 have hs:sizeLine=16777216:=sizeLine_eq
 have e:(hi - lo).toNat=n:=by omega
 refine ⟨_,if_pos ⟨⟨by omega,by omega,by omega,by omega⟩,by omega⟩,?_⟩
 rw [e]
 exact h
theorem ok_at {a:List α}{i:Int}(h0:0<=i)(h1:i<a.length)(h:∀ x,a[i.toNat]? = some x->P x):OK (atI a i) P:=by
 obtain ⟨k,rfl⟩:=Int.eq_ofNat_of_zero_le h0
 have hk:k<a.length:=by omega
 refine ⟨a[k],CK (by simp [hk]),h _ ?_⟩
 rw [Int.toNat_natCast]
 simp [hk]
theorem BZ {a:List α}{k:Nat}(h1:k<a.length)(h:∀ x,a[k]? = some x->P x):OK (atI a (k:Int)) P :=
 ⟨a[k],CK (by simp [h1]),h _ (by simp [h1])⟩
theorem ok_last {a:List α}(h:a ≠ [])(k:P (a.getLast h)):OK (atI a (-1)) P:=by
 refine ⟨_,?_,k⟩
 have:=atI_last a.dropLast (a.getLast h)
 rwa [List.dropLast_concat_getLast] at this
theorem ok_for {f:α->S->Option (Fl S ρ)}{as:List α}{s0:S}(I:Nat->S->Prop)(J:S->Prop)(R:ρ->Prop){P:Fl S ρ->Prop}(h0:I 0 s0)
  (hs:∀ (i:Nat) a s,as[i]? = some a->I i s->OK (f a s) fun fl=>match fl with | .nx s'=>I (i+1) s' | .bk s'=>J s' | .rt r=>R r)
  (hn:∀ s,I as.length s->P (.nx s)) (hj:∀ s,J s->P (.nx s)) (hr:∀ r,R r->P (.rt r)):OK (Cc f as s0) P:=by
 have key:∀ (n i:Nat) (s:S),n=as.length - i->i<=as.length->I i s->OK (Cc f (as.drop i) s) P:=by
  intro n
  induction n with
  | zero =>
   intro i s hn0 hi hI
   have e:i=as.length:=by omega
   subst e
   rw [List.drop_length]
   exact AE (hn s hI)
  | succ n ih =>
   intro i s hn0 hi hI
   have hlt:i<as.length:=by omega
   rw [List.drop_eq_getElem_cons hlt]
   obtain ⟨fl,e,h⟩:=hs i as[i] s (by simp [hlt]) hI
   show OK ((f as[i] s).bind _) P
   rw [e]
   cases fl with
   | nx s'=>exact ih (i+1) s' (by omega) hlt h
   | bk s'=>exact AE (hj s' h)
   | rt r=>exact AE (hr r h)
 exact key as.length 0 s0 (by omega) (Nat.zero_le _) h0
theorem BA {f:α->S->Option (Fl S ρ)}{as:List α}{s0:S}(I:Nat->S->Prop){P:Fl S ρ->Prop}(h0:I 0 s0)
  (hs:∀ (i:Nat) a s,as[i]? = some a->I i s->OK (f a s) fun fl=>∃ s',fl = .nx s'/\I (i+1) s') (hn:∀ s,I as.length s->P (.nx s)):OK (Cc f as s0) P :=
 ok_for I (fun _=>False) (fun _=>False) h0 (fun i a s ha hI=>(hs i a s ha hI).mono fun fl ⟨s',e,h⟩=>by subst e;exact h) hn (fun _ h=>h.elim) fun _ h=>h.elim
theorem FZ {c:S->Option Bool}{f:S->Option (Fl S ρ)}{s0:S}(I:S->Prop)(J:S->Prop)(R:ρ->Prop)(μ:S->Nat){P:Fl S ρ->Prop}(h0:I s0)(hμ:μ s0<1000000)
  (hs:∀ s,I s->OK (c s) fun b=>if b=true then OK (f s) fun fl=>match fl with | .nx s'=>I s'/\μ s'<μ s | .bk s'=>J s' | .rt r=>R r else P (.nx s))
  (hj:∀ s,J s->P (.nx s)) (hr:∀ r,R r->P (.rt r)):OK (ER c f Gn s0) P:=by
 have key:∀ (n:Nat) (s:S),μ s<n->I s->OK (ER c f n s) P:=by
  intro n
  induction n with
  | zero=>intro s h;exact absurd h (Nat.not_lt_zero _)
  | succ n ih =>
   intro s hlt hI
   obtain ⟨b,e,h⟩:=hs s hI
   show OK ((c s).bind _) P
   rw [e]
   cases b with
   | false =>
    rw [if_neg Bool.false_ne_true] at h
    exact AE h
   | true =>
    rw [if_pos rfl] at h
    obtain ⟨fl,e2,h⟩:=h
    show OK ((f s).bind _) P
    rw [e2]
    cases fl with
    | nx s'=>exact ih s' (by have:=h.2;omega) h.1
    | bk s'=>exact AE (hj s' h)
    | rt r=>exact AE (hr r h)
 exact key Gn s0 (by unfold Gn;omega) h0
theorem DZ {f:α->Option β}{g:α->β}{P:List β->Prop}:∀ {as:List α},(∀ a∈as,f a=some (g a))->P (as.map g)->OK (D1 f as) P:=by
 intro as
 have key:∀ as:List α,(∀ a∈as,f a=some (g a))->D1 f as=some (as.map g):=by
  intro as
  induction as with
  | nil=>intro _;rfl
  | cons a r ih =>
   intro h
   show ((f a).bind fun y=>(D1 f r).bind fun ys=>some (y::ys))=_
   rw [h a List.mem_cons_self,ih fun x hx=>h x (List.mem_cons_of_mem _ hx)]
   rfl
 exact fun h p=>⟨_,key as h,p⟩
theorem ok_mapR {f:α->Option β}{R:α->β->Prop}{P:List β->Prop}:∀ {as:List α},(∀ a∈as,OK (f a) (R a))->(∀ bs:List β,bs.length=as.length->(∀ b∈bs,∃ a∈as,R a b)->(∀ (i:Nat) a b,as[i]? = some a->bs[i]? = some b->R a b)->P bs)->OK (D1 f as) P:=by
 intro as
 have key:∀ as:List α,(∀ a∈as,OK (f a) (R a))->OK (D1 f as) fun bs=>bs.length=as.length/\(∀ b∈bs,∃ a∈as,R a b)/\∀ (i:Nat) a b,as[i]? = some a->bs[i]? = some b->R a b:=by
  intro as
  induction as with
  | nil=>intro _;exact AE ⟨rfl,fun b h=>by simp at h,fun i a b h=>by simp at h⟩
  | cons a r ih =>
   intro h
   refine CF (h a List.mem_cons_self) fun y hy=>CF (ih fun x hx=>h x (List.mem_cons_of_mem _ hx)) fun ys ⟨h1,h2,h3⟩=>AE ⟨by simp [h1],?_,?_⟩
   ·intro b hb
    rcases List.mem_cons.mp hb with e|e
    ·subst e
     exact ⟨a,List.mem_cons_self,hy⟩
    ·obtain ⟨x,hx,hr⟩:=h2 b e
     exact ⟨x,List.mem_cons_of_mem _ hx,hr⟩
   ·intro i x b hx hb
    cases i with
    | zero=>simp at hx hb;subst hx;subst hb;exact hy
    | succ i=>exact h3 i x b (by simpa using hx) (by simpa using hb)
 exact fun h p=>(key as h).mono fun bs ⟨h1,h2,h3⟩=>p bs h1 h2 h3
theorem Fd {fc:α->Option Bool}{fe:α->Option β}{c:α->Bool}{g:α->β}{P:List β->Prop}{as:List α}(hc:∀ a∈as,fc a=some (c a))(he:∀ a∈as,c a=true->fe a=some (g a))(p:P ((as.filter c).map g)):OK (CT fc fe as) P:=by
 have key:∀ as:List α,(∀ a∈as,fc a=some (c a))->(∀ a∈as,c a=true->fe a=some (g a))->CT fc fe as=some ((as.filter c).map g):=by
  intro as
  induction as with
  | nil=>intro _ _;rfl
  | cons a r ih =>
   intro h1 h2
   have i:=ih (fun x hx=>h1 x (List.mem_cons_of_mem _ hx)) fun x hx=>h2 x (List.mem_cons_of_mem _ hx)
   show ((fc a).bind fun b=>cond b ((fe a).bind fun y=>(CT fc fe r).bind fun ys=>some (y::ys)) (CT fc fe r))=_
   rw [h1 a List.mem_cons_self,i]
   cases hb:c a with
   | true =>
    show ((fe a).bind fun y=>_)=_
    rw [h2 a List.mem_cons_self hb]
    simp [hb]
   | false=>simp [hb]
 exact ⟨_,key as hc he,p⟩
end
end L2
namespace Lasso
variable {α β:Type}
end Lasso
namespace Lasso
variable {α:Type}[DecidableEq α]
end Lasso
namespace L2
open PySem PySem.Spec PyProof.Rows
section
variable {K:FZ9}{σ:St}{G H G0 H0 Gx G1 H1 G2 H2:Hp}{α β:Type}[Rp α][Rp β]{ta tb tc te:TE}{tt:TT}{t u rest:TS}{D:Ends}{i j:Nat}{v:V}
theorem TV.runX {mb:Option Bool}{b:Bool}{Q:Bool->Hp->Prop}(s1:Same G Gx)(s2:Same Gx H)(e:TV tt σ Gx mb)(hm:mb=some b)(k:∀ G2 H2,Ext G H G2 H2->Q b H2):tt σ H Q:=by
 refine e.run hm s2 fun G2 H2 x=>?_
 classical
 refine k (fun a=>if G a=none/\H a≠none then none else G2 a) H2 ⟨fun a o e=>?_,fun a o e=>?_,x.hh,fun a h1 h2=>if_pos ⟨h1,h2⟩⟩
 ·rw [if_neg (by rw [e];exact fun z=>nomatch z.1)]
  exact x.gg _ _ (s1 _ _ e)
 ·split at e
  ·cases e
  ·exact x.gh _ _ e
theorem sv_ifX {b:Bool}{m:Option Bool}(s1:Same G Gx)(s2:Same Gx H)(e:TV tt σ Gx m)(hm:m=some b)(k:∀ G2 H2,Ext G H G2 H2->if b=true then t { D with nx:=rest D } σ H2 else u { D with nx:=rest D } σ H2):DA (tIfS tt t u) rest D σ H:=TV.runX s1 s2 e hm k
end
noncomputable def Gs {α:Type}:List α->Option (α × List α)
 | []=>none
 | [a]=>some (a,[])
 | a::b::r=>(Gs (b::r)).bind fun p=>some (p.1,a::p.2)
theorem popO_eq {α:Type}:∀ {as:List α}(h:as ≠ []),Gs as=some (as.getLast h,as.dropLast)
 | [],h=>absurd rfl h
 | [a],_=>rfl
 | a::b::r,_=>by
  show ((Gs (b::r)).bind fun p=>some (p.1,a::p.2))=_
  rw [popO_eq (by simp)]
  rfl
theorem Paired.last {α β:Type}{R:α->β->Prop}:∀ {vs:List α}{as:List β}{a:β}{as':List β},Paired R vs as->Gs as=some (a,as')->∃ w,vs[vs.length - 1]? = some w/\R w a/\Paired R vs.dropLast as'
 | _,_,_,_,.nil,hp=>by cases hp
 | _,_,_,_,.cons h .nil,hp=>by
  cases hp
  exact ⟨_,rfl,h,.nil⟩
 | _,_,_,_,.cons h (.cons h2 t),hp=>by
  obtain ⟨q,hq,e⟩:=Option.bind_eq_some_iff.mp hp
  cases e
  obtain ⟨w,hw,r,pr⟩:=Paired.last (.cons h2 t) hq
  exact ⟨w,by simpa using hw,r,.cons h pr⟩
section
variable {X:Cx}{K:FZ9}{o:Expr}{to:TE}{name:Str}{apos cpos:Pos}{T id:String}{r:V->List V->Hp->VK->Prop}
theorem pe_bm0K (h:X.K=K)(pa:PlainAttrs T)(slot:Slot T name id)(hty:typeOf (.builtin id)=pure (.type "method_descriptor"))(hm:MtR X id r)(ho:PE X o to)
  (hbase:attributeBase o name X.env (eval o X.env)=eval o X.env:=by rfl) (hline:(apos.endLine == cpos.line)=true:=by rfl):PE X (.Call (.Attribute o name apos) [] [] cpos) (tBM0 K T r to):=h ▸ pe_bm0 pa slot hty hm ho hbase hline
end
section
variable {K:FZ9}{σ:St}{G H G1 H1 G0 H0:Hp}{α β:Type}[Rp α][Rp β]{te ti:TE}{tt:TT}{t u rest:TS}{D:Ends}{i j:Nat}{a:α}{m:Option α}{as:List α}{v:V}{p q:Addr}{vs:List V}
theorem sv_pop {as':List α}(hσ:σ[i]? = some (some v))(o:Own K G H v p vs as)(hp:Gs as=some (a,as'))
  (k:∀ w,Rp.rel K G w a->Own K G (upd H p (.lst vs.dropLast)) v p vs.dropLast as'->rest D (σ.set j (some w)) (upd H p (.lst vs.dropLast))):DA (Fn (tBM0 K "list" rPop (FR i)) (C5 j)) rest D σ H:=by
 obtain ⟨rfl,og,oh,oz,op⟩:=o
 obtain ⟨w,hw,r,pr⟩:=Paired.last op hp
 refine ⟨_,hσ,.inl ⟨rfl,_,SqL.of oh⟩,p,vs,w,rfl,rfl,oh,hw,?_⟩
 refine k w r ⟨rfl,og,AM,?_,pr⟩
 rw [List.length_dropLast]
 omega
noncomputable def era (H:Hp)(C:List Addr):Hp:=fun a=>if a∈C then none else H a
theorem era_in {C:List Addr}{b:Addr}(h:b∈C):era H C b=none:=if_pos h
theorem era_out {C:List Addr}{b:Addr}(h:b ∉ C):era H C b=H b:=if_neg h
theorem era_same {C:List Addr}:Same (era H C) H:=fun b o e=>by
 by_cases h:b∈C
 ·rw [era_in h] at e
  cases e
 ·rw [era_out h] at e
  exact e
theorem Ext.begin {C:List Addr}(s:Same G H):Ext G (era H C) G H:=⟨.refl _,s,era_same,fun _ h _=>h⟩
theorem Ext.past {C:List Addr}(x:Ext G0 H0 G H)(h0:∀ b∈C,H0 b=none)(y:Ext G (era H C) G1 H1):Ext G0 H0 G1 H1:=by
 refine ⟨x.gg.trans y.gg,y.gh,fun b o e=>?_,fun b g h=>?_⟩
 ·have hb:b ∉ C:=fun hc=>by
   rw [h0 b hc] at e
   cases e
  exact y.hh b o (by rw [era_out hb];exact x.hh b o e)
 ·have hb:b ∉ C:=fun hc=>h (h0 b hc)
  refine y.no b (x.no b g h) ?_
  rw [era_out hb]
  cases e:H0 b with
  | none=>exact absurd e h
  | some o =>
   rw [x.hh b o e]
   exact fun z=>nomatch z
noncomputable def spW1 (K:FZ9){A:Type}[RpA A]{α:Type}[Rp α](m:List α->A->Option (List α)):Sp:=fun vs H Q _ =>
 ∃ G p xs us as a r,vs = .ref p::us/\Same G H/\Own K G H (.ref p) p xs as/\RpA.rel K G us a/\m as a=some r /\
  ∀ G2 H2 xs',Ext G (era H [p]) G2 H2->Own K G2 H2 (.ref p) p xs' r->Q .non H2
theorem spW1_len {A:Type}[RpA A]{m:List α->A->Option (List α)}{vs:List V}{Q:VK}{E:XK}(h:spW1 K m vs H Q E):vs.length=RpA.n A+1:=by
 obtain ⟨G,p,xs,us,as,a,r,rfl,_,_,h,_⟩:=h
 rw [List.length_cons,RpA.len h]
theorem sv_callW1 {A:Type}[RpA A]{mA:Option A}{ta:TA}{c:A}{m:List α->A->Option (List α)}{r:List α}(hσ:σ[i]? = some (some v))(o:Own K G H v p vs as)(ea:AV K ta σ G mA)(ha:mA=some c)(hm:m as c=some r)(s:Same G H)
  (k:∀ G1 H1 G2 H2 vs',Ext G H G1 H1->Ext G1 (era H1 [p]) G2 H2->Own K G2 H2 v p vs' r->rest D σ H2):DA (Gm (tCall (spW1 K m) [] E0 (B0 (FR i) ta))) rest D σ H:=by
 have ov:=o.v
 subst ov
 refine ⟨_,hσ,?_⟩
 refine ea G (.refl G) c ha H s _ fun us G1 H1 x h=>?_
 exact ⟨G1,p,vs,us,as,c,r,List.append_nil _,x.gh,o.ext x,h,hm,fun G2 H2 xs' y o'=>k G1 H1 G2 H2 xs' x y o'⟩
end
inductive Nt where
 | txt (x:Str)
 | tup (l:List Nt)
 | int (n:Int)
mutual
noncomputable def Nt.dec:(a b:Nt)->Decidable (a=b)
 | .txt x,.txt y=>if h:x=y then .isTrue (by rw [h]) else .isFalse fun e=>h (by cases e;rfl)
 | .txt _,.tup _=>.isFalse fun e=>by cases e
 | .tup _,.txt _=>.isFalse fun e=>by cases e
 | .int m,.int n=>if h:m=n then .isTrue (by rw [h]) else .isFalse fun e=>h (by cases e;rfl)
 | .int _,.txt _=>.isFalse fun e=>by cases e
 | .int _,.tup _=>.isFalse fun e=>by cases e
 | .txt _,.int _=>.isFalse fun e=>by cases e
 | .tup _,.int _=>.isFalse fun e=>by cases e
 | .tup l,.tup m=>match Nt.decs l m with
  | .isTrue h=>.isTrue (by rw [h])
  | .isFalse h=>.isFalse fun e=>h (by cases e;rfl)
noncomputable def Nt.decs:(l m:List Nt)->Decidable (l=m)
 | [],[]=>.isTrue rfl
 | [],_::_=>.isFalse fun e=>by cases e
 | _::_,[]=>.isFalse fun e=>by cases e
 | a::l,b::m=>match Nt.dec a b with
  | .isFalse h=>.isFalse fun e=>h (by cases e;rfl)
  | .isTrue h=>match Nt.decs l m with
   | .isTrue h2=>.isTrue (by rw [h,h2])
   | .isFalse h2=>.isFalse fun e=>h2 (by cases e;rfl)
end
mutual
noncomputable def Nt.dep:Nt->Nat
 | .txt _=>0
 | .int _=>0
 | .tup l=>Nt.deps l+1
noncomputable def Nt.deps:List Nt->Nat
 | []=>0
 | a::l=>max (Nt.dep a) (Nt.deps l)
end
mutual
inductive RelN (K:FZ9)(H:Hp):V->Nt->Prop where
 | txt (x:Str) (z:x.length<=sizeLine):RelN K H (.str x) (.txt x)
 | int (n:Int):RelN K H (.int n) (.int n)
 | tup {a:Addr}{xs:List V}{ds:List Nt}(h:SqT K H a xs) (z:xs.length<=sizeLine) (r:RelNs K H xs ds) (l:ds[0]? = some (.txt "lamp")->H a=some (.tup xs)):RelN K H (.ref a) (.tup ds)
inductive RelNs (K:FZ9)(H:Hp):List V->List Nt->Prop where
 | nil:RelNs K H [] []
 | cons {x:V}{d:Nt}{xs:List V}{ds:List Nt}(h:RelN K H x d) (t:RelNs K H xs ds):RelNs K H (x::xs) (d::ds)
end
mutual
theorem RelN.mono {K:FZ9}{H H':Hp}(s:Same H H'):∀ {v:V}{d:Nt},RelN K H v d->RelN K H' v d
 | _,_,.txt x z=>.txt x z
 | _,_,.int n=>.int n
 | _,_,.tup h z r l=>.tup (s.tup h) z (RelNs.mono s r) fun e=>s _ _ (l e)
theorem RelNs.mono {K:FZ9}{H H':Hp}(s:Same H H'):∀ {v:List V}{d:List Nt},RelNs K H v d->RelNs K H' v d
 | _,_,.nil=>.nil
 | _,_,.cons h t=>.cons (RelN.mono s h) (RelNs.mono s t)
end
noncomputable instance rpN:Rp Nt:=⟨RelN,fun s h=>RelN.mono s h⟩
theorem SqT.keep {K:FZ9}{H H':Hp}{a:Addr}{xs:List V}(s:TupK H H')(h:SqT K H a xs):SqT K H' a xs:=by
 rcases h with h|h
 ·exact .inl (s.rd _ _ h)
 ·exact .inr h
mutual
theorem RelN.keep {K:FZ9}{H H':Hp}(s:TupK H H'):∀ {v:V}{d:Nt},RelN K H v d->RelN K H' v d
 | _,_,.txt x z=>.txt x z
 | _,_,.int n=>.int n
 | _,_,.tup h z r l=>.tup (SqT.keep s h) z (RelNs.keep s r) fun e=>s.eq _ _ (l e)
theorem RelNs.keep {K:FZ9}{H H':Hp}(s:TupK H H'):∀ {v:List V}{d:List Nt},RelNs K H v d->RelNs K H' v d
 | _,_,.nil=>.nil
 | _,_,.cons h t=>.cons (RelN.keep s h) (RelNs.keep s t)
end
noncomputable instance imN:Imm Nt:=⟨fun s h=>RelN.keep s h⟩
section
variable {K:FZ9}{σ:St}{G:Hp}{ta tb te:TE}{m1 m2 md:Option Nt}
end
section
variable {X:Cx}{K:FZ9}
theorem op_inK (h:X.K=K):OpR X (compareOp .In) (rIn K false):=h ▸ op_in_seq
theorem op_notInK (h:X.K=K):OpR X (compareOp .NotIn) (rIn K true):=h ▸ op_notIn_seq
end
section
variable {K:FZ9}{σ:St}{G:Hp}{α:Type}[Rp α]{ta tb tc te:TE}{t1 t2:TO}{ia ib ic:Option Int}{m1 m2:Option (Option Int)}
class Flat (α:Type) [Rp α] [DecidableEq α]:Prop where
 fl:∀ {K:FZ9}{H:Hp}{v:V}{a:α},Rp.rel K H v a->Ft v=true
 eq:∀ {K:FZ9}{H H':Hp}{v u:V}{a b:α},Rp.rel K H v a->Rp.rel K H' u b->eqV v u=decide (a=b)
noncomputable instance flInt:Flat Int:=⟨fun h=>by cases h;rfl,fun h h'=>by cases h;cases h';exact dec_beq _ _⟩
theorem flat_all [DecidableEq α][Flat α]{H:Hp}:∀ {xs:List V}{as:List α},Paired (Rp.rel K H) xs as->xs.all Ft=true
 | _,_,.nil=>rfl
 | _,_,.cons h t=>by rw [List.all_cons,Flat.fl h,flat_all t];rfl
theorem flat_in [DecidableEq α][Flat α]{H H':Hp}{v:V}{a:α}(hv:Rp.rel K H' v a):∀ {xs:List V}{as:List α},Paired (Rp.rel K H) xs as->inV v xs=decide (a∈as)
 | _,_,.nil=>by simp [inV]
 | _,_,.cons (b:=b) h t=>by
  have ih:=flat_in hv t
  unfold inV at ih ⊢
  rw [List.any_cons,ih,Flat.eq h hv]
  apply Bool.eq_iff_iff.mpr
  simp only [Bool.or_eq_true,decide_eq_true_iff,List.mem_cons]
  exact ⟨fun h=>h.imp Eq.symm id,fun h=>h.imp Eq.symm id⟩
theorem ev_inT [DecidableEq α][Flat α]{ma:Option α}{ml:Option (Tp α)}(ea:EV K ta σ G ma)(eb:EV K tb σ G ml):EV K (tOp (rIn K false) ta tb) σ G (ma.bind fun a=>ml.bind fun l=>some (decide (a∈l.l))) :=
 Cz (fun s ra rb e Q k=>by
  cases e
  obtain ⟨l,xs,rfl,h,z,p⟩:=rb
  exact ⟨l,xs,rfl,.inr (s.tup h),Flat.fl ra,flat_all p,by rw [if_neg Bool.false_ne_true,flat_in ra p];exact k _ _ _ (.refl s) rfl⟩) ea eb
end
mutual
noncomputable def Nt.toD:Nt->D
 | .txt x=>.str x
 | .int n=>.int n
 | .tup l=>.tup (Nt.toDs l)
noncomputable def Nt.toDs:List Nt->List D
 | []=>[]
 | a::l=>Nt.toD a::Nt.toDs l
end
mutual
theorem RelN.toD {K:FZ9}{H:Hp}:∀ {v:V}{a:Nt},RelN K H v a->RelD K H v a.toD
 | _,_,.txt x z=>by unfold Nt.toD;exact .str x z
 | _,_,.int n=>by unfold Nt.toD;exact .int n
 | _,_,.tup h z r _=>by unfold Nt.toD;exact .tup h z (RelNs.toD r)
theorem RelNs.toD {K:FZ9}{H:Hp}:∀ {xs:List V}{l:List Nt},RelNs K H xs l->RelDs K H xs (Nt.toDs l)
 | _,_,.nil=>by unfold Nt.toDs;exact .nil
 | _,_,.cons h t=>by unfold Nt.toDs;exact .cons (RelN.toD h) (RelNs.toD t)
end
noncomputable instance tdN:ToD Nt:=⟨Nt.toD,fun h=>RelN.toD h⟩
section
variable {K:FZ9}{σ:St}{G H G1 H1 G0 H0:Hp}{α β γ:Type}[Rp α][Rp β][Rp γ]{te ti:TE}{tt:TT}{t u rest:TS}{D:Ends}{i j:Nat}{as:List α}{bs:List β}{v w:V}{p q:Addr}{vs ws:List V}
theorem Own.over {o:HO}(h:Own K G H v p vs as)(ne:p≠q)(hq:G q=none):Own K (upd G q o) H v p vs as :=
 ⟨h.v,by rw [Aq ne];exact h.g,h.h,h.z,Paired.imp' (fun _ _ r=>Rp.mono (Same.new hq) r) h.p⟩
theorem sv_setitemB [Imm α]{a:α}{m:Option α}{mi:Option Int}{k':Int}{as':List α}(hσ:σ[i]? = some (some v))(o:Own K G H v p vs as)(e:EV K te σ (upd G p (.lst vs)) m)(hm:m=some a)(ei:EV K ti σ G mi)(hi:mi=some k')(hs:Fw as k' a=some as')(s:Same G H)
  (k:∀ G2 H2 w j,Ext G H G2 H2->Own K G2 (upd H2 p (.lst (vs.set j w))) v p (vs.set j w) as'->rest D σ (upd H2 p (.lst (vs.set j w)))):DA (Fn te (gSub (FR i) ti rSetL)) rest D σ H:=by
 obtain ⟨j,hj,e'⟩:=Option.bind_eq_some_iff.mp hs
 cases e'
 have hlen:=Paired.length o.p
 refine EV.runB o e hm s fun w G2 H2 x r=>?_
 have o2:=o.ext x
 refine ⟨v,hσ,?_⟩
 refine ei G2 x.gg k' hi H2 x.gh _ fun u G3 H3 x3 r3=>?_
 cases r3
 have o3:=o2.ext x3
 refine ⟨p,vs,k',j,o3.v,rfl,o3.h,by rw [hlen];exact hj,?_⟩
 exact k G3 H3 w j (x.trans x3) ⟨o3.v,o3.g,AM,by rw [List.length_set];exact o3.z,Paired.st (Rp.mono x3.gg r) j o3.p⟩
end
section
variable {K:FZ9}{σ:St}{G H G1 H1 G2 H2 G0 H0:Hp}{α β γ δ:Type}[Rp α][Rp β][Rp γ][Rp δ]{te ta tb ti:TE}{t:TA}{tt:TT}{rest:TS}{D:Ends}{i j n:Nat}{as as':List α}{v w:V}{p q:Addr}{vs ws:List V}
end
section
variable {K:FZ9}{σ:St}{G:Hp}{ta:TE}
end
theorem Inv.turned2 {X:Cx}{pins:List (Addr × Obj)}{σ:List (Option V)}{H:Hp}{s:Shared}{h':Heap}{t':Nat}{e it:Addr}(I:Inv X pins σ H s)(k:∀ b o,b≠e->b≠it->s.heap.get? b=some o->h'.get? b=some o)(fe:GK X pins H e)(fi:GK X pins H it) :
  Inv X pins σ H { s with heap:=h',toks:=t' }:=by
 have nit:∀ b u,H b=some u->b≠e/\b≠it:=fun b u q=>⟨fun z=>(by rw [z,fe.1] at q;cases q),fun z=>(by rw [z,fi.1] at q;cases q)⟩
 have nm:∀ b,b ∉ [e,it]->b≠e/\b≠it:=fun b hb=>⟨fun z=>hb (by simp [z]),fun z=>hb (by simp [z])⟩
 refine I.step (g':=s.gens) (d':=s.drawn) (ch:=[e,it]) (fun b hb=>?_) (fun b o _ _ hc q _=>k b o (nm b hc).1 (nm b hc).2 q) (fun b o _ _ hc q _=>⟨o.slots,k b o (nm b hc).1 (nm b hc).2 q⟩) (fun _ _ _ _ n=>n)
  (fun b o hc q=>⟨o,k b o (nm b hc).1 (nm b hc).2 q⟩) (fun _ _ q=>q) (fun _ _ _ q=>q) (fun b ps q=>⟨#[],by rw [q];simp⟩) (fun m hm=>?_) (fun b u q=>?_) I.bare
 ·simp only [List.mem_cons,List.not_mem_nil,or_false] at hb
  rcases hb with z|z
  ·subst z
   exact ⟨fe.2.2.2.1,fe.2.1,fe.2.2.2.2.1,fe.2.2.2.2.2⟩
  ·subst z
   exact ⟨fi.2.2.2.1,fi.2.1,fi.2.2.2.2.1,fi.2.2.2.2.2⟩
 ·obtain ⟨o,es,ep,ho,r⟩:=hm
  exact ⟨o,es,ep,k _ o (Ne.symm fe.2.1) (Ne.symm fi.2.1) ho,r⟩
 ·refine (I.hok b u q).stay (fun c v hc z=>?_) (fun _ z=>z) fun _ _ z=>z
  rcases hc with y|y
  ·rw [y] at z ⊢
   exact k b v (nit b u q).1 (nit b u q).2 z
  ·exact k c v (nit c _ y).1 (nit c _ y).2 z
noncomputable def Itn (K:FZ9)(a:Addr):It :=
 ⟨fun i H=>∃ xs x,SqL K H a xs/\xs[i]? = some x,fun i H x H'=>∃ t v,x = .ref t/\H t=none/\H'=upd H t (.tup [.int i,v])/\∀ xs,SqL K H a xs->xs[i]? = some v,fun i H=>∃ xs,SqL K H a xs/\xs.length<=i⟩
theorem turn_enum {P:Program}{w:World}{K:FZ9}{elts:List Expr}{x1:_}{pos:Pos}(a e it:Addr)(ne:e≠it):Turn P w K (.Tuple elts x1 pos) (Itn K a) [e,it] e (fun i h=>(∃ old,IsEnum h e it i old)/\h.IsListIter it a i) where
 mem:=by simp
 obj:=fun i h st b hb=>by
  obtain ⟨⟨old,he⟩,o,q,c,d⟩:=st
  simp only [List.mem_cons,List.not_mem_nil,or_false] at hb
  rcases hb with z|z
  ·subst z
   exact ⟨_,he,fun v z=>by
    have z':Data.fields _=Data.cell v:=z
    cases z'⟩
  ·subst z
   exact ⟨o,q,fun v z=>by rw [d] at z;cases z⟩
 keep:=fun i h h' st k=>⟨let ⟨old,he⟩:=st.1;⟨old,k e (by simp) _ he⟩,st.2.at fun o q=>k it (by simp) o q⟩
 item:=by
  intro X hP hw hK hc i pins s σ H E I hf st hg
  subst hP hw hK
  obtain ⟨⟨old,he⟩,hit⟩:=st
  obtain ⟨xs,x,hq,hx⟩:=hg
  obtain ⟨its,rv,p,hz⟩:=I.list hq
  obtain ⟨u,hu,ru⟩:=rv.get hx
  have fe:=hf e (by simp)
  have fi:=hf it (by simp)
  refine wpAny_pyNext_enum_item he hit p.isList (x:=u) (by simpa using hu) ne fun h1 heo hit1 ht1 hz1 hk1=>?_
  refine ⟨_,rfl,wpAny_letOwnedTupleGo_enum heo fun h2 he2 hs2=>?_⟩
  replace hs2:Heap.SameBut e h1 h2:=hs2
  have heH:e<s.heap.objs.size:=Heap.lt_size he
  have hiH:it<s.heap.objs.size:=by obtain ⟨o,q,_⟩:=hit;exact Heap.lt_size q
  have ht2:h2.get? s.heap.objs.size=some { cls:=.type "tuple",data:=.seq #[.int i s.toks,u] }:=(hs2.2 _ (Nat.ne_of_gt heH)).trans ht1
  have I1:Inv X pins σ (upd H s.heap.objs.size (.tup [.int i,x])) { s with heap:=s.heap.push { cls:=.type "tuple",data:=.seq #[.int i s.toks,u] },toks:=s.toks } :=
   I.laid (fun b ob q=>Heap.get?_push_of_some _ q) (Nat.le_refl _) ⟨by show 2<=sizeLine;decide,[.int i s.toks,u],.cons ⟨_,rfl⟩ (.cons ru .nil),IsTup.new _ _⟩
  have fre:∀ b,b∈[e,it]->b≠s.heap.objs.size:=fun b hb=>by
   simp only [List.mem_cons,List.not_mem_nil,or_false] at hb
   rcases hb with z|z
   ·rw [z];exact Nat.ne_of_lt heH
   ·rw [z];exact Nat.ne_of_lt hiH
  have fn:∀ b∈[e,it],GK X pins (upd H s.heap.objs.size (.tup [.int i,x])) b:=fun b hb=>⟨by rw [Aq (fre b hb)];exact (hf b hb).1,(hf b hb).2⟩
  have I2:Inv X pins σ (upd H s.heap.objs.size (.tup [.int i,x])) { s with heap:=h2,toks:=s.toks+1 }:=I1.turned2 (h':=h2) (t':=s.toks+1) (fun b o h1' h2' q=>by
   replace q:(s.heap.push { cls:=.type "tuple",data:=.seq #[.int i s.toks,u] }).get? b=some o:=q
   by_cases hb:b=s.heap.objs.size
   ·rw [hb] at q ⊢
    rw [Heap.get?_push_size _ rfl] at q
    rw [ht2]
    exact q
   ·have q':s.heap.get? b=some o:=by rw [<- q];exact (Heap.get?_push_ne _ _ _ hb).symm
    exact (hs2.2 _ h1').trans (hk1 b o h1' h2' q')) (fn e (by simp)) (fn it (by simp))
  refine ⟨.ref s.heap.objs.size,_,I2,rfl,⟨_,x,rfl,I.hok.fresh (Nat.le_refl _),rfl,fun ys hy=>by rw [I.list_inj hy hq];exact hx⟩,⟨⟨u,?_⟩,?_⟩,fun b hb=>(fn b hb).1⟩
  ·have:((i+1:Nat):Int)=(i:Int)+1:=by omega
   rw [this]
   exact he2
  ·exact hit1.extBut hs2.extBut (Ne.symm ne)
 done:=by
  intro X hP hw hK hc i pins s σ H E I hf st hg
  subst hP hw hK
  obtain ⟨⟨old,he⟩,hit⟩:=st
  obtain ⟨xs,hq,hx⟩:=hg
  obtain ⟨its,rv,p,hz⟩:=I.list hq
  obtain ⟨f0,f1,f2,f3,f4,f5⟩:=hf it (by simp)
  have hl:=rv.length
  exact wpAny_pyNext_enum_end (I.ok.hd hc) he hit p.isList (by simp;omega) fun h' eb=>⟨rfl,I.turned (t':=s.toks) (fun b o hb q=>eb b o hb q) f0 f1 f3 f4 f5⟩
 self:=fun _ _ _ _ _ st h=>by
  obtain ⟨⟨old,he⟩,_⟩:=st
  exact wpAny_pyIter_enum he h
noncomputable def iEnum (K:FZ9)(ta:TA):TI:=fun σ H R=>ta σ H fun vs H1=>∃ a,vs=[.ref a]/\(∃ xs,SqL K H1 a xs)/\R (Itn K a) H1
theorem pi_enum {X:Cx}{K:FZ9}{elts:List Expr}{x1:_}{tp:Pos}{a:Expr}{ta:TA}{p pos:Pos}(hK:X.K=K)(hg:Gl X "enumerate")(hm:X.mg "enumerate" = none)(ha:PA X [a] ta)(hs:starEach [a] X.env=[(false,eval a X.env)]:=by rfl) :
  PI X (.Tuple elts x1 tp) (.Call (.Name "enumerate" p) [a] [] pos) (iEnum K ta):=by
 subst hK
 intro pins s σ H R I h
 refine Call_ (Ex I hg hm boot_enumerate (PyProof.Rows.callWith_type1 (thn (ha pos pins s σ H _ I h) fun us s1 ⟨vs,H1,I1,r1,q1⟩=>?_) hs rfl))
 obtain ⟨l,e,⟨xs,hq⟩,q⟩:=q1
 subst e
 cases r1 with
 | cons r rr =>
  cases rr
  cases r
  obtain ⟨its,rv,pl,hz⟩:=I1.list hq
  refine call_enumerate_list pl.isList fun h' he hit hz' hk=>?_
  refine wpAny_pyIter_enum (s:={ s1 with heap:=h' }) he ?_
  have I2:Inv X pins σ H1 { s1 with heap:=h' }:=I1.kept (t':=s1.toks) hk
  refine ⟨s1.heap.objs.size+1,[s1.heap.objs.size+1,s1.heap.objs.size],_,_,H1,rfl,I2,turn_enum l (s1.heap.objs.size+1) s1.heap.objs.size (Nat.ne_of_gt (Nat.lt_succ_self _)),⟨⟨_,he⟩,hit⟩,fun b hb=>?_,q⟩
  simp only [List.mem_cons,List.not_mem_nil,or_false] at hb
  rcases hb with z|z
  ·subst z
   exact I1.fpOk (by omega) (I1.hok.fresh (by omega))
  ·subst z
   exact I1.fpOk (Nat.le_refl _) (I1.hok.fresh (Nat.le_refl _))
noncomputable def C6 {α:Type}:Nat->List α->List (Int × α)
 | _,[]=>[]
 | n,a::l=>((n:Int),a)::C6 (n+1) l
theorem Cj {α:Type}:∀ (l:List α) (n i:Nat),(C6 n l)[i]? = (l[i]?).map fun a=>(((n+i:Nat):Int),a)
 | [],n,i=>by simp [C6]
 | a::l,n,0=>by simp [C6]
 | a::l,n,i+1=>by
  show (C6 (n+1) l)[i]? = _
  rw [Cj l (n+1) i]
  have:n+1+i=n+(i+1):=by omega
  rw [this]
  rfl
theorem Dx {α:Type}:∀ (l:List α) (n:Nat),(C6 n l).length=l.length
 | [],_=>rfl
 | a::l,n=>by show (C6 (n+1) l).length+1=_;rw [Dx l (n+1)];rfl
section
variable {K:FZ9}{σ:St}{G H:Hp}{α β γ:Type}[Rp α][Rp β][Rp γ]{ta tb te:TE}{rest:TS}{D:Ends}{i j:Nat}
noncomputable def IE (K:FZ9){α:Type}[Rp α](wi:TI)(σ:St)(G:Hp)(m:Option (List α)):Prop :=
 ∀ G1,Same G G1->∀ a,m=some a->∀ H,Same G1 H->∀ R:It->Hp->Prop,(∀ l vs G2 H2,Ext G1 H G2 H2->Rd G2 l (.lst vs)->Paired (Rp.rel K G2) vs a->R (Itn K l) H2)->wi σ H R
theorem ie_list {la:Option (List α)}(ea:EV K ta σ G la):IE K (iEnum K (B0 ta D0)) σ G la:=by
 intro G1 s1 a ha H sH R k
 refine ea G1 s1 a ha H sH _ fun v G2 H2 x2 r2=>?_
 obtain ⟨l,xs,rfl,h,z,p⟩:=r2
 exact ⟨l,rfl,⟨xs,.inl (x2.gh.rd h)⟩,k l xs G2 H2 x2 h p⟩
structure LoopObE (K:FZ9){α S ρ:Type}[Rp α](RR:ρ->V->Hp->Hp->Prop)(f:Int × α->S->Option (Fl S ρ))(g:TG)(tb:TS)(D:Ends)(σ:St)(G2 H2:Hp)(s0:S)(res:Fl S ρ)(RS:S->St->Hp->Hp->Prop):Prop where
 start:RS s0 σ G2 H2
 keep:∀ s σ' G' H',RS s σ' G' H'->Same G2 G'/\Same G' H'
 step:∀ (x:V) (t:Addr) (a:Int × α) (s:S) (σ1:St) (G1 H1:Hp) (fl:Fl S ρ),RS s σ1 G1 H1->H1 t=none->Rp.rel K G1 x a.2->f a s=some fl->∀ D':Ends,(∀ s' σ' G' H',fl = .nx s'->RS s' σ' G' H'->D'.nx σ' H')->(∀ s' σ' G' H',fl = .nx s'->RS s' σ' G' H'->D'.ct σ' H') ->
  (∀ s' σ' G' H',fl = .bk s'->RS s' σ' G' H'->D'.bk σ' H')->(∀ r v G' H',fl = .rt r->RR r v G' H'->D'.rt v H')->g (.ref t) σ1 (upd H1 t (.tup [.int a.1,x])) fun σ2 H2=>tb D' σ2 H2
 nxt:∀ s σ' G' H',res = .nx s->RS s σ' G' H'->D.nx σ' H'
 rtn:∀ r v G' H',res = .rt r->RR r v G' H'->D.rt v H'
theorem sv_forE {S ρ:Type}{RR:ρ->V->Hp->Hp->Prop}{f:Int × α->S->Option (Fl S ρ)}{wi:TI}{g:TG}{tb:TS}{mi:Option (List α)}{as:List α}{s0:S}{res:Fl S ρ}(ei:IE K wi σ G mi)(hm:mi=some as)(hf:Cc f (C6 0 as) s0=some res)(sg:Same G H)
  (k:∀ G2 H2,Ext G H G2 H2->∃ RS,LoopObE K RR f g tb { D with nx:=rest D } σ G2 H2 s0 res RS):DA (tFor wi g tb) rest D σ H:=by
 refine ei G (.refl G) as hm H sg _ fun l vs G2 H2 x2 hl pr=>?_
 obtain ⟨RS,L⟩:=k G2 H2 x2
 have hla:=Paired.length pr
 have hle:=Dx as 0
 refine ⟨fun i m σ' H'=>m=vs.length - i/\i<=vs.length/\∃ s G',RS s σ' G' H'/\Cc f ((C6 0 as).drop i) s=some res,⟨vs.length,by simp,Nat.zero_le _,s0,G2,L.start,hf⟩,?_⟩
 rintro i m σ' H' ⟨rfl,hi,s,G',rs,hfo⟩
 obtain ⟨k1,k2⟩:=L.keep _ _ _ _ rs
 have hlH:SqL K H' l vs:=.inl ((k1.trans k2).rd hl)
 by_cases hlt:i<vs.length
 ·refine .inr ⟨⟨vs,vs[i],hlH,by simp [hlt]⟩,fun σ'' H''=>∃ s' G'',RS s' σ'' G'' H''/\Cc f ((C6 0 as).drop (i+1)) s'=some res,fun σ'' H'' ⟨s',G'',h⟩=>⟨vs.length - (i+1),by omega,rfl,hlt,s',G'',h⟩,fun x H3 y=>?_⟩
  obtain ⟨t,v,rfl,ht,rfl,hv⟩:=y
  obtain ⟨a,hai,ra⟩:=Paired.getR pr (hv vs hlH)
  have hge:(C6 0 as)[i]? = some ((i:Int),a):=by rw [Cj,hai];simp
  have hd:(C6 0 as).drop i=((i:Int),a)::(C6 0 as).drop (i+1):=by
   obtain ⟨h1,h2⟩:=List.getElem?_eq_some_iff.mp hge
   rw [List.drop_eq_getElem_cons h1,h2]
  rw [hd] at hfo
  obtain ⟨fl,hfl,hfo⟩:=Option.bind_eq_some_iff.mp hfo
  refine L.step v t ((i:Int),a) s σ' G' H' fl rs ht (Rp.mono k1 ra) hfl _ ?_ ?_ ?_ ?_
  ·intro s' σ'' G'' H'' e r
   subst e
   exact ⟨s',G'',r,hfo⟩
  ·intro s' σ'' G'' H'' e r
   subst e
   exact ⟨s',G'',r,hfo⟩
  ·intro s' σ'' G'' H'' e r
   subst e
   exact L.nxt s' σ'' G'' H'' (Option.some.inj hfo).symm r
  ·intro r v G'' H'' e rl
   subst e
   exact L.rtn r v G'' H'' (Option.some.inj hfo).symm rl
 ·have e:i=vs.length:=by omega
  subst e
  have hd:(C6 0 as).drop vs.length=[]:=List.drop_eq_nil_of_le (by omega)
  rw [hd] at hfo
  exact .inl ⟨⟨vs,hlH,Nat.le_refl _⟩,L.nxt s σ' G' H' (Option.some.inj hfo).symm rs⟩
theorem sv_turnE {a:Int × α}{x:V}{t:Addr}{tb:TS}(k:tb D ((σ.set i (some (.int a.1))).set j (some x)) (upd H t (.tup [.int a.1,x]))) :
  gTup K 2 (FX (C5 i) (FX (C5 j) gNil)) (.ref t) σ (upd H t (.tup [.int a.1,x])) fun σ2 H2=>tb D σ2 H2 :=
 ⟨t,_,rfl,SqT.of AM,rfl,_,_,rfl,_,_,rfl,rfl,k⟩
theorem sv_turn3 {i j k:Nat}{a:T3 α β γ}{x:V}{tb:TS}(r:Rp.rel K G x a)(s:Same G H)(q:∀ v1 v2 v3,Rp.rel K G v1 a.a->Rp.rel K G v2 a.b->Rp.rel K G v3 a.c->tb D (((σ.set i (some v1)).set j (some v2)).set k (some v3)) H) :
  gTup K 3 (FX (C5 i) (FX (C5 j) (FX (C5 k) gNil))) x σ H fun σ2 H2=>tb D σ2 H2:=by
 obtain ⟨t,x1,x2,x3,rfl,ht,r1,r2,r3⟩:=r
 exact ⟨t,_,rfl,s.tup ht,rfl,x1,_,rfl,x2,_,rfl,x3,_,rfl,rfl,q _ _ _ r1 r2 r3⟩
noncomputable def shrO (a b:Int):Option Int:=if 0<=b then some (a / 2 ^ b.toNat) else none
theorem ev_shr {ia ib:Option Int}(ea:EV K ta σ G ia)(eb:EV K tb σ G ib):EV K (tOp (rI (fun _ j=>0<=j) fun i j=>.int (i / 2 ^ j.toNat)) ta tb) σ G (ia.bind fun a=>ib.bind fun b=>shrO a b) :=
 Cz (fun s ra rb e Q k=>by
  cases ra;cases rb
  obtain ⟨h,rfl⟩:=BC e
  exact ⟨_,_,rfl,rfl,h,k _ _ _ (.refl s) rfl⟩) ea eb
theorem ev_notInT [DecidableEq α][Flat α]{ma:Option α}{ml:Option (Tp α)}(ea:EV K ta σ G ma)(eb:EV K tb σ G ml):EV K (tOp (rIn K true) ta tb) σ G (ma.bind fun a=>ml.bind fun l=>some (!decide (a∈l.l))) :=
 Cz (fun s ra rb e Q k=>by
  cases e
  obtain ⟨l,xs,rfl,h,z,p⟩:=rb
  exact ⟨l,xs,rfl,.inr (s.tup h),Flat.fl ra,flat_all p,by rw [if_pos rfl,flat_in ra p];exact k _ _ _ (.refl s) rfl⟩) ea eb
theorem bt_any:bootBuiltins "any" = some (.builtin "any"):=by decide +kernel
noncomputable def rAnyB (K:FZ9):List V->Hp->VK->Prop:=fun vs H Q=>∃ (l:Addr) (bs:List Bool),vs=[.ref l]/\SqL K H l (bs.map V.bl)/\Q (.bl (bs.any id)) H
theorem bools_atF {bs:List Bool}{its:List Value}(r:Vals (bs.map V.bl) its){i:Nat}{v:Value}(h:its.toArray[i]? = some v):v = .bool (bs.getD i false):=by
 have h:its[i]? = some v:=by simpa using h
 have hl:=r.length
 rw [List.length_map] at hl
 obtain ⟨hi,_⟩:=List.getElem?_eq_some_iff.mp h
 have e:(bs.map V.bl)[i]? = some (V.bl (bs.getD i false)):=by
  have:i<bs.length:=by omega
  simp [this]
 obtain ⟨u,hu,ru⟩:=r.get e
 rw [h] at hu
 cases hu
 exact ru
theorem call_anyK {X:Cx}(hc:X.calm=true)(h:X.K=K):DX X (.builtin "any") (rAnyB K):=by
 subst h
 intro pins s σ H vs us Q I r h
 obtain ⟨l,bs,rfl,hl,q⟩:=h
 obtain ⟨u,rfl,ru⟩:=FJ r
 cases ru
 obtain ⟨its,rv,pl,_⟩:=I.list hl
 have hL:=pl.isList
 have hlt:l<s.heap.objs.size:=by obtain ⟨_,e,_⟩:=hL;exact Heap.lt_size e
 have hlen:=rv.length
 rw [List.length_map] at hlen
 refine call_any_walk (wpAny_pyIter_list hL ?_)
 refine ⟨_,_,_,_,_,_,fun i=>bs.getD i false,rfl,Walks.list (A:=X.A.in1) (I.ok.hd hc) _ l (Nat.ne_of_lt hlt) its.toArray,⟨⟨_,Heap.get?_push_size _ rfl,rfl,rfl⟩,hL.push _⟩,?_,fun h' tk hk=>?_⟩
 ·intro i v s' Q' E' hP hQ
  rw [bools_atF rv hP]
  exact wpAny_truthy_bool hQ
 ·have e:(List.range its.toArray.size).any (fun i=>bs.getD i false)=bs.any id:=by
   rw [List.size_toArray,<- hlen]
   apply Bool.eq_iff_iff.mpr
   rw [List.any_eq_true,List.any_eq_true]
   constructor
   ·rintro ⟨i,hi,hb⟩
    have hi2:=List.mem_range.mp hi
    rw [List.getD_eq_getElem?_getD,List.getElem?_eq_getElem hi2] at hb
    exact ⟨_,List.getElem_mem hi2,hb⟩
   ·rintro ⟨b,hb,hq⟩
    obtain ⟨i,hi⟩:=List.mem_iff_getElem?.mp hb
    have hi2:=(List.getElem?_eq_some_iff.mp hi).1
    refine ⟨i,List.mem_range.mpr hi2,?_⟩
    rw [List.getD_eq_getElem?_getD,hi]
    exact hq
  rw [e]
  refine ⟨.bl _,H,I.kept fun b o eb=>?_,rfl,q⟩
  refine hk b o (fun hm=>?_) (Heap.get?_push_of_some _ eb)
  have:b=s.heap.objs.size:=by simpa using hm
  exact absurd (this ▸ Heap.lt_size eb) (Nat.lt_irrefl _)
theorem ev_any {lb:Option (List Bool)}(ea:EV K ta σ G lb):EV K (tCB (rAnyB K) (B0 ta D0)) σ G (lb.bind fun bs=>some (bs.any id)):=by
 intro G1 s1 c hc H sH Q k
 obtain ⟨a,ha,hc⟩:=Option.bind_eq_some_iff.mp hc
 cases hc
 refine ea G1 s1 a ha H sH _ fun v G2 H2 x2 r2=>?_
 obtain ⟨l,xs,rfl,h,z,p⟩:=r2
 obtain rfl:=paired_bools p
 exact ⟨l,a,rfl,.inl (x2.gh.rd h),k _ _ _ x2 rfl⟩
end
theorem vals3' {x y z:V}{us:List Value}(h:Vals [x,y,z] us):∃ a b c,us=[a,b,c]/\RelV x a/\RelV y b/\RelV z c:=by
 cases h with
 | cons r t=>cases t with
  | cons r' t'=>cases t' with
   | cons r'' t''=>cases t'';exact ⟨_,_,_,rfl,r,r',r''⟩
class NoN (α:Type) [Rp α]:Prop where
 no_non:∀ {K:FZ9}{H:Hp}{x:V}{a:α},Rp.rel K H x a->x ≠ .non
 ne:∀ {K:FZ9}{X:Cx}{pins:List (Addr × Obj)}{σ:St}{H:Hp}{s:Shared}{x:V}{u:Value}{a:α}(A:Around),X.K=K->Inv X pins σ H s->A.units<cLine->RelV x u->Rp.rel K H x a ->
  (SeqAt.EqAt A s .none u false/\SeqAt.RcAt A s .none u false/\SeqAt.RcNeAt A s .none u true)/\SeqAt.EqAt A s u .none false/\SeqAt.RcAt A s u .none false/\SeqAt.RcNeAt A s u .none true
class Fix (α:Type) [Rp α]:Prop where
 fx:∀ {K:FZ9}{G G':Hp}{v:V}{a:α},Rp.rel K G v a->Rp.rel K G' v a
section
variable {K:FZ9}{σ:St}{G Gx H G1 H1 G0 H0:Hp}{α β γ:Type}[Rp α][Rp β][Rp γ]{te ta tb tc ti:TE}{tt:TT}{t u rest:TS}{D:Ends}{i j:Nat}{as:List α}{bs:List β}{v w:V}{p q:Addr}{vs ws:List V}
variable {a:T3 α (List β) γ}
end
noncomputable def Itd (lo:Int)(n:Nat):It:=⟨fun i _=>i<n,fun i H x H'=>H'=H/\x = .int (lo - i),fun i _=>n<=i⟩
theorem turn_down {P:Program}{w:World}{K:FZ9}{tg:Expr}(it:Addr)(lo:Int)(n:Nat):Turn P w K tg (Itd lo n) [it] it (fun i h=>IsRangeIter h it (lo+(i:Nat) * (-1)) ((n:Int) - (i:Nat)) (-1)) where
 mem:=by simp
 obj:=fun i h st b hb=>by
  have e:b=it:=by simpa using hb
  subst e
  exact ⟨_,st,fun v z=>by
   have z':Data.fields _=Data.cell v:=z
   cases z'⟩
 keep:=fun i h h' st k=>k it (by simp) _ st
 item:=by
  intro X hP hw hK hc i pins s σ H E I hf st hg
  subst hP hw hK
  obtain ⟨f0,f1,f2,f3,f4,f5⟩:=hf it (by simp)
  have W:=Walks.range (prog:=X.prog) (w:=X.w) (I.ok.hd hc) it lo (-1) n
  refine W.item i s _ _ hg st fun v h' tk hv st' kk=>?_
  obtain ⟨t,rfl⟩:=hv
  have I1:Inv X pins σ H { s with heap:=h',toks:=tk }:=I.turned (fun b o hb e=>kk b o (by simpa using hb) e) f0 f1 f3 f4 f5
  refine ⟨_,rfl,go_of (s:={ s with heap:=h',toks:=tk }) (n := "range_iterator") st' rfl rfl (by decide) ⟨.int (lo - i),H,I1,⟨t,?_⟩,⟨rfl,rfl⟩,st',fun b hb=>(hf b hb).1⟩⟩
  have e:lo+(i:Int) * (-1)=lo - i:=by omega
  rw [e]
 done:=by
  intro X hP hw hK hc i pins s σ H E I hf st hg
  subst hP hw hK
  obtain ⟨f0,f1,f2,f3,f4,f5⟩:=hf it (by simp)
  exact wpAny_pyNext_range_end (I.ok.hd hc) st (by have:n<=i:=hg;omega) fun h' eb=>⟨rfl,I.turned (t':=s.toks) (fun b o hb e=>eb b o hb e) f0 f1 f3 f4 f5⟩
 self:=fun _ _ _ _ _ st h=>wpAny_pyIter_rangeiter st h
theorem FO (a b:Int):Builtin.Range.rangeSize a b (-1)=((a - b).toNat:Int):=by
 unfold Builtin.Range.rangeSize
 rw [if_neg (by decide)]
 have e:-(-1:Int)=1:=rfl
 rw [e,Int.ediv_one]
 split<;>omega
theorem small_down {a b:Int}(ha:-(2 ^ 62)<=a)(ha':a<2 ^ 62)(hb:-(2 ^ 62)<=b)(hb':b<2 ^ 62):Builtin.Range.small a b (-1)=true:=by
 unfold Builtin.Range.small
 rw [FO]
 simp only [Builtin.Range.rangeFitsLong,Bool.and_eq_true,Bool.or_eq_true,decide_eq_true_eq,beq_iff_eq]
 rw [if_neg (by decide:¬ ((-1:Int) > 0))]
 simp only [Bool.and_eq_true,decide_eq_true_eq]
 omega
noncomputable def iRngD (ta:TA):TI:=fun σ H R=>ta σ H fun vs H1=>∃ i j:Int,vs=[.int i,.int j,.int (-1)]/\(-(2 ^ 62)<=i/\i<2 ^ 62/\-(2 ^ 62)<=j/\j<2 ^ 62)/\R (Itd i (i - j).toNat) H1
theorem pi_rangeD {X:Cx}{tg:Expr}{a b c:Expr}{ta:TA}{p pos:Pos}(hg:Gl X "range")(hm:X.mg "range" = none)(ha:PA X [a,b,c] ta)(hs:starEach [a,b,c] X.env=[(false,eval a X.env),(false,eval b X.env),(false,eval c X.env)]:=by rfl)(hs2:starEach [b,c] X.env=[(false,eval b X.env),(false,eval c X.env)]:=by rfl) :
  PI X tg (.Call (.Name "range" p) [a,b,c] [] pos) (iRngD ta):=by
 intro pins s σ H R I h
 refine Call_ (Ex I hg hm boot_range (PyProof.Rows.callWith_type1 (thn (ha pos pins s σ H _ I h) fun us s1 ⟨vs,H1,I1,r1,q1⟩=>?_) (by rw [hs,hs2]) (by rw [hs2];rfl)))
 obtain ⟨i,j,e,⟨q1,q2,q3,q4⟩,q⟩:=q1
 subst e
 obtain ⟨u1,u2,u3,rfl,⟨t,rfl⟩,⟨t',rfl⟩,⟨t'',rfl⟩⟩:=vals3' r1
 refine call_range_3 (by decide) ?_ (.inl (PyProof.noPylong_small (by decide)))
 refine wpAny_pyIter_range (IsRange.new ..) (small_down q1 q2 q3 q4) ?_
 have I2:Inv X pins σ H1 { s1 with heap:=s1.heap.push { cls:=.type "range",data:=.fields #[.int i t,.int j t',.int (-1) t''] },toks:=s1.toks }:=I1.kept fun b o e=>Heap.get?_push_of_some _ e
 refine ⟨(s1.heap.push { cls:=.type "range",data:=.fields #[.int i t,.int j t',.int (-1) t''] }).objs.size,[(s1.heap.push { cls:=.type "range",data:=.fields #[.int i t,.int j t',.int (-1) t''] }).objs.size],_,_,H1,rfl,
  I2.kept (t':=s1.toks) fun b o e=>Heap.get?_push_of_some _ e,turn_down _ i (i - j).toNat,?_,fun b hb=>?_,q⟩
 ·have e1:i+((0:Nat):Int) * (-1)=i:=by simp
  have e2:(((i - j).toNat:Nat):Int) - ((0:Nat):Int)=Builtin.Range.rangeSize i j (-1):=by rw [FO];omega
  show IsRangeIter _ _ (i+((0:Nat):Int) * (-1)) ((((i - j).toNat:Nat):Int) - ((0:Nat):Int)) (-1)
  rw [e1,e2]
  exact Heap.get?_push_size _ rfl
 ·have e:b=(s1.heap.push { cls:=.type "range",data:=.fields #[.int i t,.int j t',.int (-1) t''] }).objs.size:=by simpa using hb
  subst e
  exact I2.fpOk (Nat.le_refl _) (I2.hok.fresh (Nat.le_refl _))
noncomputable def rngD (lo hi:Int):Option (List Int):=if (-(2 ^ 62)<=lo/\lo<2 ^ 62/\-(2 ^ 62)<=hi/\hi<2 ^ 62)/\(lo - hi).toNat<=sizeLine then some ((List.range (lo - hi).toNat).map fun (i:Nat)=>lo - (i:Int)) else none
theorem yields_down (lo:Int)(n:Nat)(H:Hp):Yields (Itd lo n) H ((List.range n).map fun (i:Nat)=>V.int (lo - (i:Int))) where
 go:=fun i H' _ hi=>by
  have hi:i<n:=by simpa using hi
  exact hi
 stop:=fun H' _=>by simp [Itd]
 yld:=fun i H' v H'' _ hi y=>⟨y.1,by
  have hi:i<n:=by simpa using hi
  rw [y.2]
  simp [hi]⟩
section
variable {K:FZ9}{σ:St}{G:Hp}{ta tb:TE}
theorem iw_rngD {ia ib:Option Int}(ea:EV K ta σ G ia)(eb:EV K tb σ G ib):IW K (iRngD (B0 ta (B0 tb (B0 (tUn (rU fun i=>.int (-i)) (tC (.int 1))) D0)))) σ G (ia.bind fun i=>ib.bind fun j=>rngD i j):=by
 intro G1 s1 a ha H sH R k
 obtain ⟨i,hi,ha⟩:=Option.bind_eq_some_iff.mp ha
 obtain ⟨j,hj,ha⟩:=Option.bind_eq_some_iff.mp ha
 obtain ⟨⟨hb,hz⟩,rfl⟩:=BC ha
 refine ea G1 s1 i hi H sH _ fun v G2 H2 x2 r2=>?_
 refine eb G2 (s1.trans x2.gg) j hj H2 x2.gh _ fun u G3 H3 x3 r3=>?_
 cases r2;cases r3
 exact ⟨1,rfl,i,j,rfl,hb,k (Itd i (i - j).toNat) _ G3 H3 (x2.trans x3) (yields_down i (i - j).toNat G3) (by rw [List.length_map,List.length_range];exact hz) (Ec G3 (fun n=>i - (n:Int)) _)⟩
end
end L2
namespace L3
open PySem
section
variable {prog:Program}{w:World}{A:Around}{E:Value->Shared->Prop}{s:Shared}
end
section
variable {prog:Program}{w:World}{A:Around}{E:Value->Shared->Prop}{s:Shared}
end
end L3
namespace L2
open PySem PySem.Spec PyProof.Rows
noncomputable def rRng1:List V->Hp->VK->Prop:=fun xs H Q=>∃ j:Int,xs=[.int j]/\∀ p,H p=none->Q (.ref p) (upd H p (.rng 0 j))
theorem call_rng1 {X:Cx}:DX X (.type "range") rRng1:=by
 intro pins s σ H xs us Q I r h
 obtain ⟨j,rfl,q⟩:=h
 obtain ⟨u,rfl,t,rfl⟩:=FJ r
 exact call_range_1 ⟨.ref s.heap.objs.size,_,I.laid (a:=s.heap.objs.size) (o:=.rng 0 j) (fun b o e=>Heap.get?_push_of_some _ e) (Nat.le_refl _) ⟨_,_,_,Heap.get?_push_size _ rfl⟩,rfl,q _ (I.hok.fresh (Nat.le_refl _))⟩
noncomputable def Gj (lo hi:Int):List V:=(List.range (hi - lo).toNat).map fun (i:Nat)=>V.int (lo+(i:Int))
noncomputable def rngB (lo hi:Int):Prop:=(-(2 ^ 62)<=lo/\lo<2 ^ 62/\-(2 ^ 62)<=hi/\hi<2 ^ 62)/\(hi - lo).toNat<=sizeLine
theorem items_ints {lo hi:Int}{acc:Array Value}(h:ItemsOf (fun i v=>∃ t,v = .int (lo+i * 1) t) acc (hi - lo).toNat):Vals (Gj lo hi) acc.toList:=by
 have key:∀ (n:Nat) (l:List Value) (k:Nat),l.length=n->(∀ (j:Nat) (v:Value),l[j]? = some v->∃ t,v=Value.int (lo+((k+j:Nat):Int)) t)->Vals ((List.range n).map fun (i:Nat)=>V.int (lo+((k+i:Nat):Int))) l:=by
  intro n
  induction n with
  | zero =>
   intro l k hl _
   cases l with
   | nil=>exact .nil
   | cons _ _=>cases hl
  | succ n ih =>
   intro l k hl hp
   cases l with
   | nil=>cases hl
   | cons x l =>
    rw [List.range_succ_eq_map,List.map_cons,List.map_map]
    obtain ⟨t,e⟩:=hp 0 x rfl
    refine .cons ⟨t,e⟩ ?_
    have:=ih l (k+1) (by simpa using hl) fun j v hv=>by
     obtain ⟨t,e⟩:=hp (j+1) v (by simpa using hv)
     refine ⟨t,?_⟩
     rw [e]
     congr 3
     omega
    refine cast (congrArg (fun z=>Vals z l) (List.map_congr_left fun i _=>?_)) this
    show V.int (lo+((k+1+i:Nat):Int))=V.int (lo+((k+(i+1):Nat):Int))
    congr 3
    omega
 have:=key (hi - lo).toNat acc.toList 0 (by simpa using h.1) fun j v hv=>by
  obtain ⟨t,e⟩:=h.2 j v (by simpa using hv)
  refine ⟨t,?_⟩
  rw [e]
  simp
 unfold Gj
 refine cast (congrArg (fun z=>Vals z acc.toList) (List.map_congr_left fun i _=>?_)) this
 simp
noncomputable def rLstR:List V->Hp->VK->Prop:=fun xs H Q=>∃ p lo hi,xs=[.ref p]/\H p=some (.rng lo hi)/\rngB lo hi/\∀ l,H l=none->Q (.ref l) (upd H l (.lst (Gj lo hi)))
theorem ints_length (lo hi:Int):(Gj lo hi).length=(hi - lo).toNat:=by
 unfold Gj
 rw [List.length_map,List.length_range]
theorem rsize (lo hi:Int):Builtin.Range.rangeSize lo hi 1=((hi - lo).toNat:Int):=by
 rw [rangeSize_one]
 split<;>omega
theorem call_lstR {X:Cx}(hc:X.calm=true):DX X (.type "list") rLstR:=by
 intro pins s σ H xs us Q I r h
 obtain ⟨p,lo,hi,rfl,hp,⟨hb,hz⟩,q⟩:=h
 obtain ⟨u,rfl,ru⟩:=FJ r
 cases ru
 obtain ⟨t,u,v,e⟩:=(show ObjOk X.prog X.w H s.heap p (.rng lo hi) from I.hok p _ hp)
 have hs:sizeLine=16777216:=sizeLine_eq
 refine call_list_range (I.ok.hd hc) e (small_one hb.1 hb.2.1 hb.2.2.1 hb.2.2.2) (rsize lo hi) (by omega) fun h' tk acc c' hk e' hi'=>?_
 exact ⟨.ref s.heap.objs.size,_,I.laid (t':=tk) hk (Nat.le_refl _) (show ObjOk X.prog X.w _ _ _ (.lst (Gj lo hi)) from ⟨by rw [ints_length];exact hz,acc.toList,c',items_ints hi',by simpa using e'⟩),rfl,q _ (I.hok.fresh (Nat.le_refl _))⟩
section
variable {K:FZ9}{σ:St}{G:Hp}{ta tb:TE}{ia ib:Option Int}
end
noncomputable def inner2 (cap:List Nat)(σ:St):St:=none::none::cap.map fun i=>(σ[i]?).join
noncomputable abbrev gTwo (K:FZ9):TG:=gTup K 2 (FX (C5 0) (FX (C5 1) gNil))
noncomputable def tComp2 (K:FZ9)(cap:List Nat)(wi:TI)(tc:TT)(te:TE):TE:=fun σ H Q=>wi σ H fun J H1=>∀ p,H1 p=none ->
 ∃ W:Nat->Nat->List V->Hp->Prop,(∃ m,W 0 m [] (upd H1 p (.lst [])))/\∀ i m xs H2,W i m xs H2 ->
  (J.stop i H2/\Q (.ref p) H2)\/(J.go i H2/\∃ N:List V->Hp->Prop,(∀ xs' H',N xs' H'->∃ m',m'<m/\W (i+1) m' xs' H') /\
   ∀ x H3,J.yld i H2 x H3->gTwo K x (inner2 cap σ) H3 fun σ2 H4=>tc σ2 H4 fun b H5=>if b=true then te σ2 H5 fun v H6=>H6 p=some (.lst xs)/\xs.length<sizeLine/\N (xs++[v]) (upd H6 p (.lst (xs++[v]))) else N xs H5)
section
variable {X:Cx}{pins:List (Addr × Obj)}{σ:St}
theorem gat2' {K:FZ9}:GAt 2 (gTwo K):=by
 intro v σ H Q h
 obtain ⟨a,xs,e,hs,hl,v0,r,e1,v1,r',e2,e4,q⟩:=h
 refine ⟨a,xs,e,hs,hl,v0,r,e1,v1,r',e2,e4,⟨by simp,fun j hj=>?_⟩,q⟩
 rw [List.getElem?_set,if_neg (by omega),List.getElem?_set,if_neg (by omega)]
theorem pg2' {X:Cx}{scope:Scope}{x y:Str}{px py pt:Pos}{k0:Nat}{cn:List Str}{C:Addr}{s:Shared}{H:Hp}{fp:List Addr}(hx:scope.names.lookup x=some .local)(hy:scope.names.lookup y=some .local)(hnd:(x::y::cn).Nodup) :
  PG (BQ X (x::y::cn) scope C s H fp) (.Tuple [.Name x px,.Name y py] k0 pt) (gTwo X.K):=by
 have hlx:(relabel scope X.env).names.lookup x=some .local := lookup_relabel_local hx
 have hly:(relabel scope X.env).names.lookup y=some .local := lookup_relabel_local hy
 exact pg_tup rfl (CS (Ah (i:=0) hnd rfl (.inl hlx) (.inr hlx)) (CS (Ah (i:=1) hnd rfl (.inl hly) (.inr hly)) GO))
theorem ps_setcomp2 {scope:Scope}{x x' y:Str}{px px' pt py pos spos:Pos}{k0:Nat}{elt iter:Expr}{ifs:List Expr}{cn:List Str}{cap:List Nat}{wi:TI}{tc:TT}{te:TE}{i:Nat}
  (hN:X.N.Nodup) (hi:X.N[i]? = some y) (hy:Loc X.env.scope y) (hc:X.calm=true) (S:CompScope X scope) (hx:scope.names.lookup x=some .local) (hx':scope.names.lookup x'=some .local) (hnd:(x::x'::cn).Nodup) (hcap:Caps X scope cn cap) (hit:PI X (.Tuple [.Name x px,.Name x' px'] k0 pt) iter wi)
  (body:∀ (C:Addr) (s:Shared) (H:Hp) (fp:List Addr),PTs (BQ X (x::x'::cn) scope C s H fp) ifs tc/\PE (BQ X (x::x'::cn) scope C s H fp) elt te)
  (hsw:swapsWith (.ListComp elt [⟨.Tuple [.Name x px,.Name x' px'] k0 pt,iter,ifs,0⟩] scope pos) (some (.Name y py)) spos.line X.env=pure true:=by rfl)
  (hf:X.fn y=true\/X.env.scope.names.lookup y=some .local := by first|exact .inl rfl|exact .inr rfl|assumption)
  (hs:∀ x,foldedSetIterable iter X.env x=pure x:=by intro _;rfl):PS X (.Assign [.Name y py] (.ListComp elt [⟨.Tuple [.Name x px,.Name x' px'] k0 pt,iter,ifs,0⟩] scope pos) spos) (Fn (tComp2 X.K cap wi tc te) (C5 i)):=by
 have h:=ps_setcompN (xn:=[x,x']) (tg:=.Tuple [.Name x px,.Name x' px'] k0 pt) (g:=gTwo X.K) (pos:=pos) (spos:=spos) (py:=py) (elt:=elt) hN hi hy hc S gat2' (fun C s H fp=>pg2' hx hx' hnd) hnd hcap hit body hsw hf hs
 exact h
end
structure YieldsE (J:It)(H:Hp)(xs:List V):Prop where
 go:∀ i H',Same H H'->i<xs.length->J.go i H'
 stop:∀ H',Same H H'->J.stop xs.length H'
 yld:∀ (i:Nat) (H':Hp) (x:V) (H'':Hp),Same H H'->i<xs.length->J.yld i H' x H''->∃ t v,x = .ref t/\H' t=none/\H''=upd H' t (.tup [.int i,v])/\xs[i]? = some v
section
variable {K:FZ9}{σ:St}{G:Hp}{α β:Type}[Rp α][Rp β]{ta:TE}
noncomputable def IF (K:FZ9){α:Type}[Rp α](wi:TI)(σ:St)(G:Hp)(m:Option (List α)):Prop :=
 ∀ G1,Same G G1->∀ a,m=some a->∀ H,Same G1 H->∀ R:It->Hp->Prop,(∀ J vs G2 H2,Ext G1 H G2 H2->YieldsE J G2 vs->vs.length<=sizeLine->Paired (Rp.rel K G2) vs a->R J H2)->wi σ H R
theorem if_list {la:Option (List α)}(ea:EV K ta σ G la):IF K (iEnum K (B0 ta D0)) σ G la:=by
 intro G1 s1 a ha H sH R k
 refine ea G1 s1 a ha H sH _ fun v G2 H2 x2 r2=>?_
 obtain ⟨l,xs,rfl,h,z,p⟩:=r2
 refine ⟨l,rfl,⟨xs,.inl (x2.gh.rd h)⟩,k _ xs G2 H2 x2 ⟨fun i H' s hi=>⟨xs,xs[i],.inl (s.rd h),by simp [hi]⟩,fun H' s=>⟨xs,.inl (s.rd h),Nat.le_refl _⟩,fun i H' y H'' s hi hy=>?_⟩ z p⟩
 obtain ⟨t,v,e1,e2,e3,e4⟩:=hy
 exact ⟨t,v,e1,e2,e3,e4 xs (.inl (s.rd h))⟩
theorem rel_i (G:Hp)(i:Int):Rp.rel K G (V.int i) i:=rfl
theorem fv_comp2 {cap:List Nat}{wi:TI}{tt:TT}{te:TE}{mi:Option (List α)}{fc:Int × α->Option Bool}{fe:Int × α->Option β}(ei:IF K wi σ G mi)
  (hb:∀ (x:V) (a:Int × α) (G1:Hp),Same G G1->Rp.rel K G1 x a.2->TV tt (((inner2 cap σ).set 0 (some (.int a.1))).set 1 (some x)) G1 (fc a)/\EV K te (((inner2 cap σ).set 0 (some (.int a.1))).set 1 (some x)) G1 (fe a)) :
  FV K (tComp2 K cap wi tt te) σ G (mi.bind fun as=>CT fc fe (C6 0 as)):=by
 intro G1 s1 c hc H sH Q k
 obtain ⟨as,has,hc⟩:=Option.bind_eq_some_iff.mp hc
 refine ei G1 s1 as has H sH _ fun J vs Ga Ha xa Y hz pr p hp=>?_
 have hla:=Paired.length pr
 have hle:=Dx as 0
 refine ⟨fun i m ys H2=>m=vs.length - i/\i<=vs.length/\∃ G2 bs cs,Ext Ga Ha G2 H2/\G2 p=none/\H2 p=some (.lst ys)/\ys.length<=i/\Paired (Rp.rel K G2) ys bs/\CT fc fe ((C6 0 as).drop i)=some cs/\c=bs++cs,
  ⟨vs.length,by simp,Nat.zero_le _,Ga,[],c,.own xa.gh hp,xa.gh.free hp,AM,Nat.le_refl _,.nil,hc,rfl⟩,?_⟩
 rintro i m ys H2 ⟨rfl,hi,G2,bs,cs,x2,hg,hh,hy,hpr,hcs,rfl⟩
 by_cases hlt:i<vs.length
 ·refine .inr ⟨Y.go i _ (x2.gg.trans x2.gh) hlt,fun ys' H'=>∃ G2 bs' cs',Ext Ga Ha G2 H'/\G2 p=none/\H' p=some (.lst ys')/\ys'.length<=i+1/\Paired (Rp.rel K G2) ys' bs'/\CT fc fe ((C6 0 as).drop (i+1))=some cs'/\bs++cs=bs'++cs',
   fun ys' H' ⟨G3,bs',cs',h⟩=>⟨vs.length - (i+1),by omega,rfl,hlt,G3,bs',cs',h⟩,fun x H3 y=>?_⟩
  obtain ⟨t,v,rfl,ht,rfl,hv⟩:=Y.yld i _ x H3 (x2.gg.trans x2.gh) hlt y
  obtain ⟨a,hai,ra⟩:=Paired.getR pr hv
  have hge:(C6 0 as)[i]? = some ((i:Int),a):=by rw [Cj,hai];simp
  have hd:(C6 0 as).drop i=((i:Int),a)::(C6 0 as).drop (i+1):=by
   obtain ⟨h1,h2⟩:=List.getElem?_eq_some_iff.mp hge
   rw [List.drop_eq_getElem_cons h1,h2]
  rw [hd] at hcs
  obtain ⟨b,hbb,hcs⟩:=Option.bind_eq_some_iff.mp hcs
  have xn:=Ext.new (o:=.tup [.int i,v]) x2.gh ht
  have x2:=x2.trans xn
  have ne:p≠t:=fun e=>by rw [e,ht] at hh;cases hh
  have hh:(upd H2 t (.tup [.int i,v])) p=some (.lst ys):=by rw [Aq ne];exact hh
  have hg:(upd G2 t (.tup [.int i,v])) p=none:=by rw [Aq ne];exact hg
  have hpr:=Paired.imp' (fun _ _ r=>Rp.mono xn.gg r) hpr
  have B:=hb v ((i:Int),a) _ (s1.trans (xa.gg.trans x2.gg)) (Rp.mono x2.gg ra)
  refine ⟨t,_,rfl,SqT.of AM,rfl,_,_,rfl,_,_,rfl,rfl,?_⟩
  refine B.1 _ (.refl _) b hbb _ x2.gh _ fun G5 H5 x5=>?_
  have hp5:H5 p=some (.lst ys):=x5.hh _ _ hh
  have hg5:G5 p=none:=x5.no p hg (by rw [hh];exact fun z=>nomatch z)
  cases b with
  | false =>
   rw [if_neg Bool.false_ne_true]
   exact ⟨G5,bs,cs,x2.trans x5,hg5,hp5,by omega,Paired.imp' (fun _ _ r=>Rp.mono x5.gg r) hpr,hcs,rfl⟩
  | true =>
   rw [if_pos rfl]
   obtain ⟨z,hze,hcs⟩:=Option.bind_eq_some_iff.mp hcs
   obtain ⟨cs',hcs',hcs⟩:=Option.bind_eq_some_iff.mp hcs
   cases hcs
   refine B.2 G5 x5.gg z hze H5 x5.gh _ fun v G6 H6 x6 r6=>?_
   have hp6:H6 p=some (.lst ys):=x6.hh _ _ hp5
   have hg6:G6 p=none:=x6.no p hg5 (by rw [hp5];exact fun z=>nomatch z)
   refine ⟨hp6,by omega,G6,bs++[z],cs',((x2.trans x5).trans x6).put hp hg6,hg6,AM,?_,Paired.app (Paired.imp' (fun _ _ r=>Rp.mono (x5.trans x6).gg r) hpr) (.cons r6 .nil),hcs',by simp⟩
   rw [List.length_append,List.length_singleton]
   omega
 ·have e:i=vs.length:=by omega
  subst e
  have hd:(C6 0 as).drop vs.length=[]:=List.drop_eq_nil_of_le (by omega)
  rw [hd] at hcs
  cases hcs
  refine .inl ⟨Y.stop _ (x2.gg.trans x2.gh),?_⟩
  rw [List.append_nil] at k
  exact k p ys G2 H2 (xa.trans x2) (xa.hh.free hp) hg hh (by omega) hpr
end
inductive SI where
 | s (x:Str)
 | i (n:Int)
 deriving DecidableEq
theorem Gf {j:Nat}{A:Around}(hr:Room j A):A.units+1<cLine:=by
 have:=hr.un
 omega
section
variable {K:FZ9}{σ:St}{G H:Hp}{ta tb te td ti:TE}{α:Type}[Rp α]{md:Option SI}{rest:TS}{D:Ends}{i:Nat}
end
section
variable {K:FZ9}{σ:St}{G H:Hp}{ta tb te td ti:TE}{α:Type}[Rp α]
end
theorem bt_sum:bootBuiltins "sum" = some (.builtin "sum"):=by decide +kernel
noncomputable def sumO (ns:List Int):Option Int:=if ns.length<=1000/\∀ n∈ns,0<=n/\n<=1000000000 then some ns.sum else none
noncomputable def rSumI (K:FZ9):List V->Hp->VK->Prop:=fun vs H Q=>∃ (l:Addr) (ns:List Int) (m:Int),vs=[.ref l]/\SqL K H l (ns.map V.int)/\sumO ns=some m/\Q (.int m) H
theorem ints_atF {ns:List Int}{its:List Value}(r:Vals (ns.map V.int) its){i:Nat}{v:Value}(h:its.toArray[i]? = some v):∃ t,v = .int (ns.getD i 0) t:=by
 have h:its[i]? = some v:=by simpa using h
 have hl:=r.length
 rw [List.length_map] at hl
 obtain ⟨hi,_⟩:=List.getElem?_eq_some_iff.mp h
 have e:(ns.map V.int)[i]? = some (V.int (ns.getD i 0)):=by
  have:i<ns.length:=by omega
  simp [this]
 obtain ⟨u,hu,ru⟩:=r.get e
 rw [h] at hu
 cases hu
 exact ru
theorem Fa (ns:List Int):∀ j,j<=ns.length->preSum (fun i=>ns.getD i 0) j=(ns.take j).sum
 | 0,_=>by simp [preSum]
 | j+1,h=>by
  have hj:j<ns.length:=by omega
  show preSum (fun i=>ns.getD i 0) j+ns.getD j 0=_
  rw [Fa ns j (by omega),List.take_succ,List.sum_append]
  simp [hj]
theorem sum_bound:∀ {ns:List Int},(∀ n∈ns,0<=n/\n<=1000000000)->0<=ns.sum/\ns.sum<=1000000000 * (ns.length:Int)
 | [],_=>by simp
 | a::r,h=>by
  have h1:=h a List.mem_cons_self
  have h2:=sum_bound fun n hn=>h n (List.mem_cons_of_mem _ hn)
  rw [List.sum_cons,List.length_cons]
  push_cast
  omega
theorem call_sumK {X:Cx}{K:FZ9}(hc:X.calm=true)(h:X.K=K):DX X (.builtin "sum") (rSumI K):=by
 subst h
 intro pins s σ H vs us Q I r h
 obtain ⟨l,ns,m,rfl,hl,hm,q⟩:=h
 obtain ⟨⟨hn,hb⟩,rfl⟩:=BC hm
 obtain ⟨u,rfl,ru⟩:=FJ r
 cases ru
 obtain ⟨its,rv,pl,_⟩:=I.list hl
 have hL:=pl.isList
 have hlt:l<s.heap.objs.size:=by obtain ⟨_,e,_⟩:=hL;exact Heap.lt_size e
 have hlen:=rv.length
 rw [List.length_map] at hlen
 have tk:∀ j,0<=(ns.take j).sum/\(ns.take j).sum<=1000000000 * 1000:=fun j=>by
  have h1:=sum_bound (ns:=ns.take j) fun n hn=>hb n (List.mem_of_mem_take hn)
  have h2:(ns.take j).length<=1000:=by rw [List.length_take];omega
  omega
 refine call_sum_walk (wpAny_pyIter_list hL ?_)
 refine ⟨_,_,_,_,_,_,fun i=>ns.getD i 0,rfl,Walks.list (A:=X.A.in1) (I.ok.hd hc) _ l (Nat.ne_of_lt hlt) its.toArray,⟨⟨_,Heap.get?_push_size _ rfl,rfl,rfl⟩,hL.push _⟩,?_,?_,?_,fun h' tk' t' hk=>?_⟩
 ·intro b hb'
  have:b=s.heap.objs.size\/b=l:=by simpa using hb'
  rcases this with rfl|rfl
  ·trace_state
   exact Heap.lt_size (Heap.get?_push_size _ rfl)
  ·exact Nat.lt_trans hlt (Heap.lt_size (Heap.get?_push_size _ rfl))
 ·intro i v hP
  exact ints_atF rv hP
 ·intro j hj
  have hj:j<ns.length:=by rw [List.size_toArray] at hj;omega
  have e1:ns.getD j 0∈ns:=by simp [hj]
  have b1:=hb _ e1
  rw [Fa ns (j+1) (by omega)]
  have:=tk (j+1)
  unfold InLong
  dsimp only
  omega
 ·rw [Fa ns _ (by rw [List.size_toArray];omega),List.take_of_length_le (by rw [List.size_toArray];omega)]
  refine ⟨.int _,H,I.kept fun b o eb=>?_,⟨t',rfl⟩,q⟩
  refine hk b o (fun hm=>?_) (Heap.get?_push_of_some _ eb)
  have:b=s.heap.objs.size:=by simpa using hm
  exact absurd (this ▸ Heap.lt_size eb) (Nat.lt_irrefl _)
theorem FD {K:FZ9}{H:Hp}:∀ {xs:List V}{ns:List Int},Paired (Rp.rel K H) xs ns->xs=ns.map V.int
 | _,_,.nil=>rfl
 | _,_,.cons h t=>by
  cases h
  rw [List.map_cons,FD t]
section
variable {K:FZ9}{σ:St}{G H:Hp}{ta tb te td ti:TE}{α:Type}[Rp α]
theorem ev_sum {lb:Option (List Int)}(ea:EV K ta σ G lb):EV K (tCB (rSumI K) (B0 ta D0)) σ G (lb.bind fun ns=>sumO ns):=by
 intro G1 s1 c hc H sH Q k
 obtain ⟨a,ha,hc⟩:=Option.bind_eq_some_iff.mp hc
 refine ea G1 s1 a ha H sH _ fun v G2 H2 x2 r2=>?_
 obtain ⟨l,xs,rfl,h,z,p⟩:=r2
 have e:=FD p
 subst e
 exact ⟨l,a,c,rfl,.inl (x2.gh.rd h),hc,k _ _ _ x2 rfl⟩
end
structure Mp (α:Type) where
 l:List (Int × α)
noncomputable def Fo {α:Type}:List (Int × α)->Int->Option α
 | [],_=>none
 | (j,a)::r,k=>if j=k then some a else Fo r k
noncomputable def Gq {α:Type}(l:List (Int × α))(k:Int)(a:α):List (Int × α):=if (l.any fun q=>decide (q.1=k))=true then l.map (fun q=>if q.1=k then (q.1,a) else q) else l++[(k,a)]
noncomputable def putO {α:Type}(m:Mp α)(k:Int)(a:α):Option (Mp α):=if m.l.length<sizeLine then some ⟨Gq m.l k a⟩ else none
noncomputable def Gu (K:FZ9){α:Type}[Rp α](H:Hp)(kv:Key × V)(q:Int × α):Prop:=kv.1 = .inl q.1/\Rp.rel K H kv.2 q.2
noncomputable instance rpMp {α:Type}[Rp α]:Rp (Mp α):=⟨fun K H v a=>∃ p kvs,v = .ref p/\H p=some (.dK kvs)/\Paired (Gu K H) kvs a.l,
 fun s ⟨p,kvs,e,h,pr⟩=>⟨p,kvs,e,s _ _ h,Paired.imp' (fun _ _ r=>⟨r.1,Rp.mono s r.2⟩) pr⟩⟩
structure OwnM (K:FZ9){α:Type}[Rp α](G H:Hp)(v:V)(p:Addr)(kvs:List (Key × V))(a:Mp α):Prop where
 v:v = .ref p
 g:G p=none
 h:H p=some (.dK kvs)
 p:Paired (Gu K G) kvs a.l
section
variable {K:FZ9}{σ:St}{G H G1 H1 G0 H0:Hp}{α β:Type}[Rp α][Rp β]{td te ti:TE}{rest:TS}{D:Ends}{i:Nat}{a:Mp α}{v:V}{p q:Addr}{kvs:List (Key × V)}
theorem OwnM.ext (o:OwnM K G H v p kvs a)(x:Ext G H G1 H1):OwnM K G1 H1 v p kvs a :=
 ⟨o.v,x.no p o.g (by rw [o.h];exact fun z=>nomatch z),x.hh _ _ o.h,Paired.imp' (fun _ _ r=>⟨r.1,Rp.mono x.gg r.2⟩) o.p⟩
theorem OwnM.put {ho:HO}(o:OwnM K G H v p kvs a)(h:p≠q):OwnM K G (upd H q ho) v p kvs a:=⟨o.v,o.g,by rw [Aq h];exact o.h,o.p⟩
theorem OwnM.tell (o:OwnM K G H v p kvs a):Rp.rel K (upd G p (.dK kvs)) v a:=⟨p,kvs,o.v,AM,Paired.imp' (fun _ _ r=>⟨r.1,Rp.mono (Same.new o.g) r.2⟩) o.p⟩
theorem paired_getM {G:Hp}:∀ {kvs:List (Key × V)}{l:List (Int × α)}{k:Int}{b:α},Paired (Gu K G) kvs l->Fo l k=some b->∃ w,GQ kvs (.inl k)=some w/\Rp.rel K G w b
 | _,_,k,b,.nil,e=>by cases e
 | kv::kvs,(j,c)::l,k,b,.cons h t,e=>by
  obtain ⟨h1,h2⟩:=h
  unfold Fo at e
  by_cases hj:j=k
  ·rw [if_pos hj] at e
   cases e
   exact ⟨kv.2,valV_pos (by rw [h1,hj]),h2⟩
  ·rw [if_neg hj] at e
   obtain ⟨w,e1,e2⟩:=paired_getM t e
   refine ⟨w,?_,e2⟩
   rw [valV_neg (fun z=>hj (by rw [h1] at z;exact Sum.inl.inj z))]
   exact e1
theorem paired_any {G:Hp}{k:Int}:∀ {kvs:List (Key × V)}{l:List (Int × α)},Paired (Gu K G) kvs l->(kvs.any fun kv=>decide (kv.1 = .inl k))=l.any fun q=>decide (q.1=k)
 | _,_,.nil=>rfl
 | kv::kvs,q::l,.cons h t=>by
  rw [List.any_cons,List.any_cons,paired_any t,h.1]
  congr 1
  exact decide_eq_decide.mpr ⟨fun e=>Sum.inl.inj e,fun e=>by rw [e]⟩
theorem paired_repl {G:Hp}{k:Int}{w:V}{b:α}(r:Rp.rel K G w b):∀ {kvs:List (Key × V)}{l:List (Int × α)},Paired (Gu K G) kvs l->Paired (Gu K G) (kvs.map fun kv=>if kv.1 = .inl k then (kv.1,w) else kv) (l.map fun q=>if q.1=k then (q.1,b) else q)
 | _,_,.nil=>.nil
 | kv::kvs,q::l,.cons h t=>by
  rw [List.map_cons,List.map_cons]
  refine .cons ?_ (paired_repl r t)
  by_cases e:q.1=k
  ·rw [if_pos e,if_pos (by rw [h.1,e])]
   exact ⟨h.1,r⟩
  ·rw [if_neg e,if_neg (fun z=>e (by rw [h.1] at z;exact Sum.inl.inj z))]
   exact h
theorem paired_putM {G:Hp}{k:Int}{w:V}{b:α}{l:List (Int × α)}(r:Rp.rel K G w b)(h:Paired (Gu K G) kvs l):Paired (Gu K G) (EX kvs (.inl k) w) (Gq l k b):=by
 unfold EX Gq
 rw [paired_any h]
 by_cases e:(l.any fun q=>decide (q.1=k))=true
 ·rw [if_pos e,if_pos e]
  exact paired_repl r h
 ·rw [if_neg e,if_neg e]
  exact Paired.app h (.cons ⟨rfl,r⟩ .nil)
theorem ev_getM {md:Option (Mp α)}{mi:Option Int}(ed:EV K td σ G md)(ei:EV K ti σ G mi):EV K (tDGet td ti) σ G (md.bind fun d=>mi.bind fun k=>Fo d.l k):=by
 intro G1 s1 c hc H sH Q k
 obtain ⟨d,hd,hc⟩:=Option.bind_eq_some_iff.mp hc
 obtain ⟨j,hj,hc⟩:=Option.bind_eq_some_iff.mp hc
 refine ed G1 s1 d hd H sH _ fun v G2 H2 x2 r2=>?_
 refine ei G2 (s1.trans x2.gg) j hj H2 x2.gh _ fun u G3 H3 x3 r3=>?_
 obtain ⟨p,kvs,rfl,h,pr⟩:=Rp.mono x3.gg r2
 cases r3
 obtain ⟨w,e1,e2⟩:=paired_getM pr hc
 exact ⟨p,w,rfl,.inl ⟨kvs,.inl j,.inl (x3.gh _ _ h),rfl,e1.symm⟩,k _ _ _ (x2.trans x3) e2⟩
theorem sv_dput {b:α}{m:Option α}{mi:Option Int}{k':Int}{a':Mp α}(hσ:σ[i]? = some (some v))(o:OwnM K G H v p kvs a)(e:EV K te σ G m)(hm:m=some b)(ei:EV K ti σ G mi)(hi:mi=some k')(hs:putO a k' b=some a')(s:Same G H)
  (k:∀ G2 H2 w,Ext G H G2 H2->OwnM K G2 (upd H2 p (.dK (EX kvs (.inl k') w))) v p (EX kvs (.inl k') w) a'->rest D σ (upd H2 p (.dK (EX kvs (.inl k') w)))):DA (sDPut (FR i) ti te) rest D σ H:=by
 obtain ⟨hl,rfl⟩:=BC hs
 have hlen:=Paired.length o.p
 refine e.run hm s fun w G2 H2 x r=>?_
 have o2:=o.ext x
 refine ⟨v,hσ,?_⟩
 refine ei G2 x.gg k' hi H2 x.gh _ fun u G3 H3 x3 r3=>?_
 cases r3
 have o3:=o2.ext x3
 refine ⟨p,_,o3.v,.inl ⟨kvs,.inl k',o3.h,rfl,by omega,rfl⟩,?_⟩
 exact k G3 H3 w (x.trans x3) ⟨o3.v,o3.g,AM,paired_putM (Rp.mono x3.gg r) o3.p⟩
end
section
variable {K:FZ9}{σ:St}{G H:Hp}{α:Type}[Rp α]{te:TE}{rest:TS}{D:Ends}{i:Nat}{a:α}{m:Option α}{as:List α}{v:V}{p:Addr}{vs:List V}
theorem sv_appendB [Imm α]{as':List α}(hσ:σ[i]? = some (some v))(o:Own K G H v p vs as)(e:EV K te σ (upd G p (.lst vs)) m)(hm:m=some a)(hp:Ds as a=some as')(s:Same G H)
  (k:∀ G2 H2 w,Ext G H G2 H2->Own K G2 (upd H2 p (.lst (vs++[w]))) v p (vs++[w]) as'->rest D σ (upd H2 p (.lst (vs++[w])))):DA (Gm (tBM K "list" GT (FR i) (B0 te D0))) rest D σ H:=by
 obtain ⟨hl,rfl⟩:=BC hp
 have hlen:=Paired.length o.p
 have ov:=o.v
 subst ov
 refine ⟨_,hσ,.inl ⟨rfl,_,SqL.of o.h⟩,?_⟩
 refine EV.runB o e hm s fun w G2 H2 x r=>?_
 have o2:=o.ext x
 refine ⟨p,vs,w,rfl,rfl,o2.h,by omega,?_⟩
 refine k G2 H2 w x ⟨rfl,o2.g,AM,?_,Paired.app o2.p (.cons r .nil)⟩
 rw [List.length_append,List.length_singleton]
 omega
end
noncomputable def EN {α:Type}(l:List α)(lo hi:Option Int)(st:Int):List α :=
 (sliceRange (sliceBounds lo hi (some st) l.length).1 (sliceBounds lo hi (some st) l.length).2.1 (sliceBounds lo hi (some st) l.length).2.2).filterMap fun i=>l[i]?
theorem Paired.fm {α β:Type}{R:α->β->Prop}{f:Nat->Option α}{g:Nat->Option β}(h:∀ i,(f i=none/\g i=none)\/∃ a b,f i=some a/\g i=some b/\R a b):∀ is:List Nat,Paired R (is.filterMap f) (is.filterMap g)
 | []=>.nil
 | i::is=>by
  rcases h i with ⟨h1,h2⟩ | ⟨a,b,h1,h2,r⟩
  ·rw [List.filterMap_cons_none h1,List.filterMap_cons_none h2]
   exact Paired.fm h is
  ·rw [List.filterMap_cons_some h1,List.filterMap_cons_some h2]
   exact .cons r (Paired.fm h is)
theorem Paired.opt {α β:Type}{R:α->β->Prop}:∀ {vs:List α}{as:List β}(_:Paired R vs as) (i:Nat),(vs[i]? = none/\as[i]? = none)\/∃ a b,vs[i]? = some a/\as[i]? = some b/\R a b
 | _,_,.nil,i=>.inl ⟨by simp,by simp⟩
 | _,_,.cons r t,0=>.inr ⟨_,_,rfl,rfl,r⟩
 | _,_,.cons r t,i+1=>by
  rw [List.getElem?_cons_succ,List.getElem?_cons_succ]
  exact Paired.opt t i
theorem Paired.pick {α β:Type}{R:α->β->Prop}{vs:List α}{as:List β}(p:Paired R vs as)(lo hi:Option Int)(st:Int):Paired R (EN vs lo hi st) (EN as lo hi st):=by
 unfold EN
 rw [Paired.length p]
 exact Paired.fm (Paired.opt p) _
theorem pickA_length {α:Type}(l:List α)(lo hi:Option Int)(st:Int):(EN l lo hi st).length<=l.length:=by
 have h:=slicePick_size_le (l.map fun _=>Value.none).toArray lo hi (some st)
 have p:Paired (fun _ _=>True) l (l.map fun _=>Value.none):=by
  induction l with
  | nil=>exact .nil
  | cons a l ih=>exact .cons trivial (ih (slicePick_size_le _ _ _ _))
 have e:=Paired.length (Paired.pick p lo hi st)
 have e2:(slicePick (l.map fun _=>Value.none).toArray lo hi (some st)).size=(EN (l.map fun _=>Value.none) lo hi st).length:=by
  unfold slicePick EN
  rw [List.size_toArray,List.size_toArray]
  congr 1
  congr 1
  funext i
  simp
 rw [e2,List.size_toArray,List.length_map] at h
 omega
noncomputable def SlR3 (X:Cx)(r:V->Option Int->Option Int->Option Int->Hp->VK->Prop):Prop :=
 ∀ (pins:List (Addr × Obj)) (s:Shared) (σ:St) (H:Hp) (x:V) (v vl vu vs:Value) (lo hi st:Option Int) (sl:Addr) (Q:VK),Inv X pins σ H s->RelV x v->s.heap.IsSliceOf sl vl vu vs->IsPart vl lo->IsPart vu hi->IsPart vs st->r x lo hi st H Q ->
  ∃ T id,typeLookup (.type T) "__getitem__" = pure (some (.builtin id))/\s.TypeIs v T/\wpAny (model X.prog X.w) X.A (getItem v (.ref sl)) (EP X pins σ Q) X.xe s
noncomputable abbrev tSl3 (r:V->Option Int->Option Int->Option Int->Hp->VK->Prop)(te:TE)(tl th ts:TO):TE:=fun σ H Q=>te σ H fun x H1=>tl σ H1 fun l H2=>th σ H2 fun u H3=>ts σ H3 fun c H4=>r x l u c H4 Q
noncomputable def rSl3 (K:FZ9):V->Option Int->Option Int->Option Int->Hp->VK->Prop:=fun x lo hi st H Q=>∃ a xs c,x = .ref a/\SqL K H a xs/\st=some c/\c≠0/\∀ p,H p=none->Q (.ref p) (upd H p (.lst (EN xs lo hi c)))
section
variable {X:Cx}{e:Expr}{te:TE}{lo hi:Option Expr}{se:Expr}{tl th ts:TO}{pos p2:Pos}
theorem pe_slice3 {r:V->Option Int->Option Int->Option Int->Hp->VK->Prop}(hr:SlR3 X r)(he:PE X e te)(hl:PO X lo tl)(hu:PO X hi th)(hs:PO X (some se) ts):PE X (.Subscript e (.Slice lo hi (some se) p2) pos) (tSl3 r te tl th ts):=by
 intro pins s σ H Q I h
 refine Subscript_ (thn (he pins s σ H _ I h) fun v s1 ⟨x,H1,I1,r1,q1⟩=>?_)
 refine wpAny_Slice (thn (hl pins s1 σ H1 _ I1 q1) fun vl s2 ⟨l,H2,I2,pl,q2⟩=>thn (hu pins s2 σ H2 _ I2 q2) fun vu s3 ⟨u,H3,I3,pu,q3⟩=>thn (hs pins s3 σ H3 _ I3 q3) fun vs s4 ⟨c,H4,I4,pc,q4⟩=>?_)
 have I5:Inv X pins σ H4 { s4 with heap:=s4.heap.push { cls:=.type "slice",data:=.fields #[vl,vu,vs] } }:=I4.kept (t':=s4.toks) fun b ob q=>Heap.get?_push_of_some _ q
 obtain ⟨T,id,hT,ht,hg⟩:=hr pins { s4 with heap:=s4.heap.push { cls:=.type "slice",data:=.fields #[vl,vu,vs] } } σ H4 x v vl vu vs l u c s4.heap.objs.size Q I5 r1 (Heap.IsSliceOf.new ..) pl pu pc q4
 show wpAny (model X.prog X.w) X.A (subscriptTail e (.Slice lo hi (some se) p2) v (.ref s4.heap.objs.size)) (EP X pins σ Q) X.xe { s4 with heap:=s4.heap.push { cls:=.type "slice",data:=.fields #[vl,vu,vs] } }
 exact tail_any (ops:=[v,.ref s4.heap.objs.size]) ht hT hg (by with_unfolding_all rfl)
theorem sl3_list {K:FZ9}(h:X.K=K):SlR3 X (rSl3 K):=by
 subst h
 intro pins s σ H x v vl vu vs lo hi st sl Q I rx hs pl pu ps h
 obtain ⟨a,xs,c,rfl,hx,rfl,hc,q⟩:=h
 cases rx
 obtain ⟨its,r,ht,hz⟩:=I.list hx
 have hlen:=r.length
 refine ⟨"list",_,slot_list_getitem.lookup,ht.isList.typeIs,?_⟩
 refine wpAny_getItem_list_slice ht.isList hs pl pu ps (fun z=>hc (Option.some.inj z)) ?_ (by rw [List.size_toArray]<;>omega)
 have e:slicePick its.toArray lo hi (some c)=(EN its lo hi c).toArray:=by
  unfold slicePick EN
  rw [List.size_toArray]
  congr 1
  congr 1
  funext i
  simp
 rw [e]
 refine ⟨.ref s.heap.objs.size,_,I.laid (t':=s.toks) (o:=.lst (EN xs lo hi c)) (fun b ob q=>Heap.get?_push_of_some _ q) (Nat.le_refl _) ?_,rfl,q _ (I.hok.fresh (Nat.le_refl _))⟩
 exact ⟨Nat.le_trans (pickA_length xs lo hi c) hz,_,0,Paired.pick r lo hi c,Heap.get?_push_size _ rfl⟩
end
section
variable {K:FZ9}{σ:St}{G H:Hp}{ta t3:TE}{t1 t2:TO}{α:Type}[Rp α]{m1 m2:Option (Option Int)}{c:Int}
theorem fv_slice3 {la:Option (List α)}(ea:EV K ta σ G la)(e1:OV t1 σ G m1)(e2:OV t2 σ G m2)(e3:EV K t3 σ G (some c))(hc:c≠0:=by decide):FV K (tSl3 (rSl3 K) ta t1 t2 (tPart t3)) σ G (la.bind fun a=>m1.bind fun lo=>m2.bind fun hi=>some (EN a lo hi c)):=by
 intro G1 s1 z hz H sH Q k
 obtain ⟨a,ha,hz⟩:=Option.bind_eq_some_iff.mp hz
 obtain ⟨lo,hlo,hz⟩:=Option.bind_eq_some_iff.mp hz
 obtain ⟨hi,hhi,hz⟩:=Option.bind_eq_some_iff.mp hz
 cases hz
 refine ea G1 s1 a ha H sH _ fun v G2 H2 x2 r2=>?_
 refine e1 G2 (s1.trans x2.gg) lo hlo H2 x2.gh _ fun G3 H3 x3=>?_
 refine e2 G3 (s1.trans (x2.trans x3).gg) hi hhi H3 x3.gh _ fun G4 H4 x4=>?_
 refine e3 G4 (s1.trans ((x2.trans x3).trans x4).gg) c rfl H4 x4.gh _ fun w G5 H5 x5 r5=>?_
 cases r5
 obtain ⟨l,xs,rfl,h,z,p⟩:=Rp.mono ((x3.trans x4).trans x5).gg r2
 exact ⟨c,rfl,l,xs,c,rfl,.inl (x5.gh.rd h),rfl,hc,fv_of x5.gh (Nat.le_trans (pickA_length _ _ _ _) z) (Paired.pick p lo hi c) (FV.mono (((x2.trans x3).trans x4).trans x5) k)⟩
end
section
variable {K:FZ9}{σ:St}{G:Hp}{α β γ:Type}[Rp α][Rp β][Rp γ]{ta tb:TE}
end
section
variable {K:FZ9}{σ:St}{G H:Hp}{ta tb te:TE}{rest:TS}{D:Ends}{i:Nat}{v:V}{p:Addr}{vs:List V}
end
section
variable {K:FZ9}{σ:St}{G:Hp}{ta:TE}
end
section
variable {K:FZ9}{σ:St}{G:Hp}{α:Type}[Rp α]{ta tb:TE}
end
section
variable {X:Cx}{pins:List (Addr × Obj)}{σ:St}
end
noncomputable def Ris (xs:Array Nat):Prop:=∀ i j,i<j->(hj:j<xs.size)->xs.getD i 0<xs.getD j 0
theorem below_go (xs:Array Nat)(j:Nat)(hr:Ris xs):∀ fuel lo hi,lo<=hi->hi<=xs.size->hi - lo<=fuel->(∀ i,i<lo->xs.getD i 0<j)->(∀ i,hi<=i->i<xs.size->j<=xs.getD i 0) ->
  (SetTable.below.go xs j fuel lo hi<=xs.size/\(∀ i,i<SetTable.below.go xs j fuel lo hi->xs.getD i 0<j)/\∀ i,SetTable.below.go xs j fuel lo hi<=i->i<xs.size->j<=xs.getD i 0):=by
 intro fuel
 induction fuel with
 | zero =>
  intro lo hi h1 h2 h3 h4 h5
  have e:lo=hi:=by omega
  subst e
  exact ⟨h2,h4,h5⟩
 | succ fuel ih =>
  intro lo hi h1 h2 h3 h4 h5
  unfold SetTable.below.go
  by_cases hlt:lo<hi
  ·rw [if_pos hlt]
   dsimp only
   have hm1:lo<=(lo+hi) / 2:=by omega
   have hm2:(lo+hi) / 2<hi:=by omega
   generalize (lo+hi) / 2=mid at hm1 hm2 ⊢
   have hms:mid<xs.size:=by omega
   have e1:xs.getD mid j=xs.getD mid 0:=by simp [Array.getD,hms]
   rw [e1]
   have mono:∀ a b,a<=b->b<xs.size->xs.getD a 0<=xs.getD b 0:=fun a b hab hb=>by
    rcases Nat.lt_or_eq_of_le hab with h|h
    ·exact Nat.le_of_lt (hr a b h hb)
    ·rw [h];exact Nat.le_refl _
   by_cases hc:xs.getD mid 0<j
   ·rw [if_pos hc]
    refine ih (mid+1) hi (by omega) h2 (by omega) (fun i hi'=>?_) h5
    exact Nat.lt_of_le_of_lt (mono i mid (by omega) hms) hc
   ·rw [if_neg hc]
    refine ih lo mid hm1 (by omega) (by omega) h4 fun i hi' hs=>?_
    exact Nat.le_trans (Nat.le_of_not_lt hc) (mono mid i hi' hs)
  ·rw [if_neg hlt]
   have e:lo=hi:=by omega
   subst e
   exact ⟨h2,h4,h5⟩
theorem below_ok {xs:Array Nat}(hr:Ris xs)(j:Nat):SetTable.below xs j<=xs.size/\(∀ i,i<SetTable.below xs j->xs.getD i 0<j)/\∀ i,SetTable.below xs j<=i->i<xs.size->j<=xs.getD i 0 :=
 below_go xs j hr xs.size 0 xs.size (Nat.zero_le _) (Nat.le_refl _) (Nat.le_refl _) (fun i h=>absurd h (Nat.not_lt_zero _)) fun i h h'=>absurd h' (Nat.not_lt.mpr h)
theorem ris_of_pw {xs:Array Nat}(h:xs.toList.Pairwise (· < ·)):Ris xs:=fun i j hij hj=>by
 have:=List.pairwise_iff_getElem.mp h i j (by simpa using Nat.lt_trans hij hj) (by simpa using hj) hij
 simpa [Array.getD,hj,Nat.lt_trans hij hj] using this
theorem pw_of_ris {xs:Array Nat}(h:Ris xs):xs.toList.Pairwise (· < ·):=by
 rw [List.pairwise_iff_getElem]
 intro i j hi hj hij
 have hi':i<xs.size:=by simpa using hi
 have hj':j<xs.size:=by simpa using hj
 have:=h i j hij hj'
 simpa [Array.getD,hj',hi'] using this
theorem ris_insert {xs:Array Nat}(hr:Ris xs){j:Nat}(hn:xs[SetTable.below xs j]?≠some j):Ris (SetTable.insertAt xs (SetTable.below xs j) j):=by
 apply ris_of_pw
 rw [SetTable.toList_insertAt]
 obtain ⟨a,b,c⟩:=below_ok hr j
 have pw:=pw_of_ris hr
 generalize hp:SetTable.below xs j=p at a b c hn
 have hA:∀ x∈xs.toList.take p,x<j:=fun x hx=>by
  obtain ⟨i,hi,rfl⟩:=List.mem_iff_getElem.mp hx
  rw [List.length_take] at hi
  have h1:i<p:=by omega
  have h2:i<xs.size:=by rw [Array.length_toList] at hi;omega
  have:=b i h1
  rw [List.getElem_take]
  simpa [Array.getD,h2] using this
 have hB:∀ x∈xs.toList.drop p,j<x:=fun x hx=>by
  obtain ⟨i,hi,rfl⟩:=List.mem_iff_getElem.mp hx
  rw [List.length_drop,Array.length_toList] at hi
  have h2:p+i<xs.size:=by omega
  have hp2:p<xs.size:=by omega
  have h3:=c (p+i) (Nat.le_add_right _ _) h2
  rw [List.getElem_drop]
  have h4:xs.getD (p+i) 0≠j:=fun e=>by
   have h5:=c p (Nat.le_refl _) hp2
   have h6:xs.getD p 0<=xs.getD (p+i) 0:=by
    cases i with
    | zero=>exact Nat.le_refl _
    | succ i=>exact Nat.le_of_lt (hr p (p+(i+1)) (by omega) h2)
   have h7:xs.getD p 0=j:=by omega
   apply hn
   simp only [Array.getD,hp2,dite_true] at h7
   rw [Array.getElem?_eq_getElem hp2]
   exact congrArg some h7
  simp only [Array.getD,h2,dite_true] at h3 h4
  have e:xs.toList[p+i]'(by simpa using h2)=xs[p+i]:=by simp
  rw [e]
  have h3':j<=xs[p+i]:=by simpa using h3
  have h4':xs[p+i]≠j:=by simpa using h4
  omega
 rw [List.pairwise_append]
 refine ⟨pw.take,List.pairwise_cons.mpr ⟨hB,pw.drop⟩,fun x hx y hy=>?_⟩
 have h1:=hA x hx
 rcases List.mem_cons.mp hy with rfl|hy
 ·exact h1
 ·exact Nat.lt_trans h1 (hB y hy)
structure RT (t:SetTable):Prop where
 ris:Ris t.place
 dum:t.dummies = #[]
theorem has_empty (j:Nat):SetTable.has #[] j=false:=by
 unfold SetTable.has
 simp
theorem probe_go {t:SetTable}(hd:t.dummies = #[])(f:Nat->Int)(h:Int):∀ fuel p j d,p.dummy=none->SetTable.probe.go t f h fuel p=some (.empty j d)->d=none/\t.place[SetTable.below t.place j]?≠some j:=by
 intro fuel
 induction fuel with
 | zero=>intro p j d _ e;cases e
 | succ fuel ih =>
  intro p j d hp e
  unfold SetTable.probe.go at e
  have hadv:(t.advance p).dummy=none:=by
   unfold SetTable.advance
   split
   ·exact hp
   ·exact hp
  cases hs:t.slot p.j with
  | empty =>
   rw [hs] at e
   dsimp only at e
   cases e
   refine ⟨hp,fun hc=>?_⟩
   unfold SetTable.slot at hs
   dsimp only at hs
   rw [hc] at hs
   simp at hs
  | dummy =>
   unfold SetTable.slot at hs
   dsimp only at hs
   rw [hd,has_empty] at hs
   split at hs<;>simp at hs
  | live i =>
   rw [hs] at e
   dsimp only at e
   split at e
   ·cases e
   ·exact ih _ _ _ hadv e
theorem freeSlot_ok {t:SetTable}(hd:t.dummies = #[]){h:Int}{j:Nat}{b:Bool}(e:t.freeSlot h=some (j,b)):b=false/\t.place[SetTable.below t.place j]?≠some j:=by
 unfold SetTable.freeSlot at e
 cases hp:t.probe (fun _=>h+1) h (t.probeStart h) with
 | none=>rw [hp] at e;cases e
 | some m =>
  rw [hp] at e
  cases m with
  | candidate _ _ _=>cases e
  | empty j' d =>
   obtain ⟨rfl,h2⟩:=probe_go hd _ _ _ _ _ _ rfl hp
   simp only [Option.getD_none,Option.isSome_none,Option.some.injEq,Prod.mk.injEq] at e
   obtain ⟨rfl,rfl⟩:=e
   exact ⟨rfl,h2⟩
theorem Eu (t:SetTable)(n:Nat):RT (t.standIn n):=⟨ris_of_pw (by show (Array.range n).toList.Pairwise _;rw [Array.toList_range];exact List.pairwise_lt_range),rfl⟩
theorem orStandIn_rt {t:SetTable}(h:RT t)(n:Nat):RT (t.orStandIn n):=by
 unfold SetTable.orStandIn
 split
 ·exact h
 ·exact Eu t n
theorem orStandIn_led (t:SetTable)(n:Nat):(t.orStandIn n).led=t.led:=by
 unfold SetTable.orStandIn
 split<;>rfl
theorem layNew_rt {t:SetTable}(ht:RT t)(es:Array (Int × Value))(h:Int)(x:Value):RT (layNew t es h x).2.1/\(layNew t es h x).2.1.led=t.led:=by
 unfold layNew
 split
 ·rename_i slot wd e
  obtain ⟨_,h2⟩:=freeSlot_ok ht.dum e
  refine ⟨orStandIn_rt ⟨?_,?_⟩ _,orStandIn_led _ _⟩
  ·exact ris_insert ht.ris h2
  ·show (if SetTable.has t.dummies slot then _ else t.dummies) = #[]
   rw [ht.dum,has_empty]
   rfl
 ·exact ⟨Eu _ _,rfl⟩
theorem filterMap_pw {β:Type}(f:Nat->Option β):∀ l:List Nat,l.Pairwise (· < ·)->((l.filterMap fun j=>(f j).map (j,·)).map (·.1)).Pairwise (· < ·)
 | [],_=>.nil
 | a::l,h=>by
  have ih:=filterMap_pw f l h.tail
  cases hf:f a with
  | none=>rw [List.filterMap_cons_none (by rw [hf];rfl)];exact ih
  | some b =>
   rw [List.filterMap_cons_some (b:=(a,b)) (by rw [hf];rfl),List.map_cons]
   refine List.pairwise_cons.mpr ⟨fun y hy=>?_,ih⟩
   obtain ⟨⟨j,c⟩,hq,rfl⟩:=List.mem_map.mp hy
   obtain ⟨j',hj',e⟩:=List.mem_filterMap.mp hq
   cases hf':f j' with
   | none=>rw [hf'] at e;cases e
   | some c' =>
    rw [hf'] at e
    cases e
    exact List.rel_of_pairwise_cons h hj'
theorem laid_rt {mask finger moves:Nat}{led plain:Bool}{hs:Array Int}{t:SetTable}{o:Array Nat}(e:SetTable.laid mask finger moves led plain hs=some (t,o)):RT t/\t.led=led/\t.plain=plain/\t.mask=mask:=by
 unfold SetTable.laid at e
 cases hl:SetTable.layClean mask hs with
 | none=>rw [hl] at e;cases e
 | some ow =>
  rw [hl] at e
  simp only [Option.pure_def,Option.bind_eq_bind,Option.bind_some,Option.some.injEq,Prod.mk.injEq] at e
  obtain ⟨rfl,rfl⟩:=e
  refine ⟨⟨ris_of_pw ?_,rfl⟩,rfl,rfl,rfl⟩
  exact filterMap_pw (fun j=>ow.getD j none) _ List.pairwise_lt_range
theorem relayAll_rt (t:SetTable)(ht:RT t)(es:Array (Int × Value))(wanted:Nat):RT (relayAll t es wanted).2.1/\(relayAll t es wanted).2.1.led=t.led:=by
 unfold relayAll
 split
 ·rename_i t' order e
  dsimp only
  split
  ·unfold SetTable.relaid at e
   obtain ⟨a,b,_⟩:=laid_rt e
   exact ⟨a,b⟩
  ·exact ⟨Eu _ _,rfl⟩
 ·exact ⟨Eu _ _,rfl⟩
noncomputable def byT (w:World):Bool:=w.params.followText "set-order"
noncomputable def Ent (w:World)(e:Int × Value)(k:Key):Prop:=EI k e.2=true/\e.1=keyH w k
theorem key_scan {k:Key}{v:Value}(h:EI k v=true):v.scannable=true:=by
 rcases Bb h with ⟨i,t,rfl,rfl⟩ | ⟨x,t,rfl,rfl⟩<;>rfl
structure SObj (w:World)(o:Obj)(es:Array (Int × Value))(ep:Nat)(t:SetTable)(ks:List Key):Prop where
 exact':o.ExactSet
 data:o.data = .set es ep t
 ent:Paired (Ent w) es.toList ks
 few:ks.length<scanBound
 fit:t.fits es.size=true
 rt:RT t
 led:t.led = !byT w
noncomputable def SetIs (w:World)(h:Heap)(a:Addr)(ks:List Key):Prop:=∃ o es ep t,h.get? a=some o/\SObj w o es ep t ks
theorem EY {α β:Type}{F:α->β->Prop}:∀ {l₁:List α}{l₂:List β},Paired F l₁ l₂->l₁.length=l₂.length
 | _,_,.nil=>rfl
 | _,_,.cons _ t=>congrArg (· + 1) (EY t)
theorem SObj.size {w:World}{o es ep t ks}(S:SObj w o es ep t ks):es.size=ks.length:=by
 have:=EY S.ent
 rwa [Array.length_toList] at this
theorem SObj.elems {prog:Program}{w:World}{o es ep t ks}(S:SObj w o es ep t ks):ElemsOf (BB prog w) es.toList:=by
 have:∀ {l:List (Int × Value)}{ks:List Key},Paired (Ent w) l ks->ElemsOf (BB prog w) l:=by
  intro l ks p
  induction p with
  | nil=>intro e he;cases he
  | cons hd _ ih =>
   intro e he
   rcases List.mem_cons.mp he with rfl|he
   ·exact ⟨⟨_,hd.1,hd.2⟩,key_scan hd.1⟩
   ·exact ih e he
 exact this S.ent
theorem paired_perm {α β:Type}{F:α->β->Prop}{l l':List α}(hp:l'.Perm l):∀ {m:List β},Paired F l m->∃ m',m'.Perm m/\Paired F l' m':=by
 have:=hp.symm
 clear hp
 induction this with
 | nil=>intro m p;exact ⟨m,.rfl,p⟩
 | cons x _ ih =>
  intro m p
  cases p with
  | cons h t =>
   obtain ⟨m',e,q⟩:=ih t
   exact ⟨_,e.cons _,.cons h q⟩
 | swap x y l =>
  intro m p
  cases p with
  | cons h t=>cases t with
   | cons h2 t2=>exact ⟨_,List.Perm.swap _ _ _,.cons h2 (.cons h t2)⟩
 | trans _ _ ih1 ih2 =>
  intro m p
  obtain ⟨m1,e1,q1⟩:=ih1 p
  obtain ⟨m2,e2,q2⟩:=ih2 q1
  exact ⟨m2,e2.trans e1,q2⟩
theorem ent_find {w:World}{k:Key}:∀ {l:List (Int × Value)}{ks:List Key},Paired (Ent w) l ks->((∃ e∈l,EI k e.2=true) ↔ k∈ks)
 | _,_,.nil=>by simp
 | _,_,.cons (a:=e) (b:=k') h t=>by
  have ih:=ent_find (k:=k) t
  have hk:EI k e.2=true ↔ k=k':=⟨fun q=>(BB default w).inj _ _ _ q h.1,fun q=>q ▸ h.1⟩
  constructor
  ·rintro ⟨x,hx,q⟩
   rcases List.mem_cons.mp hx with rfl|hx
   ·exact List.mem_cons.mpr (.inl (hk.mp q))
   ·exact List.mem_cons.mpr (.inr (ih.mp ⟨x,hx,q⟩))
  ·intro hm
   rcases List.mem_cons.mp hm with rfl|hm
   ·exact ⟨e,List.mem_cons_self,h.1⟩
   ·obtain ⟨x,hx,q⟩:=ih.mpr hm
    exact ⟨x,List.mem_cons_of_mem _ hx,q⟩
noncomputable def Fq (ks:List Key)(k:Key):List Key:=if ks.any (fun y=>decide (y=k)) then ks else ks++[k]
theorem any_mem {ks:List Key}{k:Key}:ks.any (fun y=>decide (y=k))=true ↔ k∈ks:=by
 rw [List.any_eq_true]
 exact ⟨fun ⟨y,hy,e⟩=>(of_decide_eq_true e) ▸ hy,fun h=>⟨k,h,decide_eq_true rfl⟩⟩
theorem addK_in {ks:List Key}{k:Key}(h:k∈ks):Fq ks k=ks:=by unfold Fq;rw [if_pos (any_mem.mpr h)]
theorem addK_out {ks:List Key}{k:Key}(h:k ∉ ks):Fq ks k=ks++[k]:=by unfold Fq;rw [if_neg (fun q=>h (any_mem.mp q))]
theorem rt_plain_off {t:SetTable}(h:RT t):RT { t with plain:=false }:=⟨h.ris,h.dum⟩
section
variable {prog:Program}{w:World}{A:Around}{E:Value->Shared->Prop}{s:Shared}
theorem store_set {a:Addr}{o:Obj}{es:Array (Int × Value)}{ep:Nat}{t:SetTable}{es':Array (Int × Value)}{t':SetTable}(ho:s.heap.get? a=some o)(hd:o.data = .set es ep t) :
  (s.heap.update a (Obj.putSet es' t')).get? a=some { o with data:=.set es' (ep+1) t' }:=by
 have:=Heap.get?_update_self (Obj.putSet es' t') ho (by rw [putSet_of es' t' hd];rfl)
 rwa [putSet_of es' t' hd] at this
theorem few_line {n:Nat}(h:n<scanBound):n<=sizeLine:=fits_of_scanBound h
theorem add_tail {g:Bool->Sem Unit}(hg:∀ (b:Bool) (s₁:Shared) (Q':Unit->Shared->Prop),Q' () s₁->wpAny (model prog w) A (g b) Q' E s₁)
  {a:Addr}{o:Obj}{es:Array (Int × Value)}{ep:Nat}{t:SetTable}(gA:s.heap.get? a=some o) (xA:o.ExactSet) (dA:o.data = .set es ep t)
  {es1:Array (Int × Value)}{t2:SetTable}{ks:List Key}(p1:Paired (Ent w) es1.toList ks) (f1:ks.length<scanBound) (ft:t2.fits es1.size=true) (r2:RT t2) (l2:t2.led = !byT w) {wd:Bool}{R:Option Bool->Shared->Prop}
  (h:∀ h' ks',Heap.SameBut a s.heap h'->SetIs w h' a ks'->ks'.Perm ks->R (some true) { s with heap:=h' }) :
  wpAny (model prog w) A (do
    storeSet a es1 t2
    if (!wd && t2.tooFull)=true then do
      g (relayAll t2 es1 (SetTable.grown es1.size)).2.2;storeSet a (relayAll t2 es1 (SetTable.grown es1.size)).1 (relayAll t2 es1 (SetTable.grown es1.size)).2.1
      pure (some true)
     else pure (some true)) R E s:=by
 have z1:es1.size=ks.length:=by have:=EY p1;rwa [Array.length_toList] at this
 refine wpAny_bind (wpAny_storeSet_of gA dA ?_ (few_line (by rw [z1];exact f1)))
 have g1:=store_set (es':=es1) (t':=t2) gA dA
 have b1:=Heap.SameBut.update s.heap a (Obj.putSet es1 t2)
 split
 ·have hp:=relayAll_perm t2 es1 (SetTable.grown es1.size)
  have hfr:=relayAll_fits t2 es1 (SetTable.grown es1.size)
  obtain ⟨hrt,hld⟩:=relayAll_rt t2 r2 es1 (SetTable.grown es1.size)
  generalize relayAll t2 es1 (SetTable.grown es1.size)=Rl at hp hfr hrt hld ⊢
  obtain ⟨es2,t3,gave2⟩:=Rl
  dsimp only at hp hfr hrt hld ⊢
  obtain ⟨ks',e',p2⟩:=paired_perm hp p1
  have f2:ks'.length<scanBound:=by rw [e'.length_eq];exact f1
  have z2:es2.size=ks'.length:=by have:=EY p2;rwa [Array.length_toList] at this
  refine wpAny_bind (hg _ _ _ (wpAny_bind (wpAny_storeSet_of (o:={ o with data:=.set es1 (ep+1) t2 }) g1 rfl ?_ (few_line (by rw [z2];exact f2)))))
  have g2:=store_set (s:={ s with heap:=s.heap.update a (Obj.putSet es1 t2) }) (es':=es2) (t':=t3) g1 rfl
  exact wpAny_pure (h _ ks' (b1.trans (Heap.SameBut.update _ a _)) ⟨_,es2,_,t3,g2,⟨xA,rfl,p2,f2,hfr,hrt,hld.trans l2⟩⟩ e')
 ·exact wpAny_pure (h _ ks b1 ⟨_,es1,_,t2,g1,⟨xA,rfl,p1,f1,ft,r2,l2⟩⟩ .rfl)
theorem add_ok {a:Addr}{ks:List Key}{k:Key}{x:Value}{Q:Bool->Shared->Prop}(hk:EI k x=true)(hS:SetIs w s.heap a ks)(hroom:ks.length+1<scanBound)
  (h:∀ h' ks',Heap.SameBut a s.heap h'->SetIs w h' a ks'->ks'.Perm (Fq ks k)->∀ b,Q b { s with heap:=h' }) :
  wpAny (model prog w) A (setAddHashed a x (keyH w k)) Q E s:=by
 obtain ⟨o,es,ep,t,gA,S⟩:=hS
 have hel:=S.elems (prog:=prog)
 have hsz:=S.size
 have hsc:=key_scan hk
 unfold setAddHashed setAddHashedIn
 refine wpAny_holding (wpAny_bind (wpAny_setState_of gA S.data S.fit ?_));dsimp only
 rw [byScan_of hsc (by rw [hsz];exact S.few) hel];simp only [↓reduceIte]
 unfold setAddByScan
 refine wpAny_bind (wpAny_bind (wpAny_rule (wpAny_bind (wpAny_setScan_of (knd:=BB prog w) (k:=k) hk gA S.data S.fit hel ?_))))
 have hf:=ent_find (k:=k) S.ent
 cases hr:List.findIdx? (fun e=>(BB prog w).is k e.2) es.toList with
 | some j =>
  dsimp only
  obtain ⟨hj,hpj,_⟩:=List.findIdx?_eq_some_iff_getElem.mp hr
  have hm:k∈ks:=hf.mp ⟨es.toList[j],List.getElem_mem hj,hpj⟩
  refine wpAny_pure (wpAny_pure ?_)
  have e:s = { s with heap:=s.heap }:=by cases s;rfl
  have q:=h s.heap ks (Heap.SameBut.refl a s.heap) ⟨o,es,ep,t,gA,S⟩ (by rw [addK_in hm]) false
  rw [<- e] at q
  exact q
 | none =>
  dsimp only
  have hm:k ∉ ks:=fun hm=>by
   obtain ⟨e,he,q⟩:=hf.mpr hm
   have:=List.findIdx?_eq_none_iff.mp hr e he
   have q':(BB prog w).is k e.2=true:=q
   rw [q'] at this
   exact Bool.noConfusion this
  have hgw:∀ (b:Bool) {s₁:Shared}{Q':Unit->Shared->Prop},Q' () s₁->wpAny (model prog w) A (match b with|true=>rule "set.scan.the-table-gave-way" | false=>pure ()) Q' E s₁:=by
   intro b s₁ Q' hq
   cases b
   ·exact wpAny_pure hq
   ·exact wpAny_rule hq
  have hperm:=layNew_perm t es (keyH w k) x
  have hfits:=layNew_fits t es (keyH w k) x
  obtain ⟨hrt,hld⟩:=layNew_rt S.rt es (keyH w k) x
  generalize hL:layNew t es (keyH w k) x=L at hperm hfits hrt hld
  obtain ⟨es1,t1,wd,gave⟩:=L
  dsimp only at hperm hfits hrt hld ⊢
  rw [Array.toList_push] at hperm
  obtain ⟨ks1,e1,p1⟩:=paired_perm hperm (S.ent.snoc (b:=k) (show Ent w (keyH w k,x) k from ⟨hk,rfl⟩))
  have f1:ks1.length<scanBound:=by rw [e1.length_eq,List.length_append];exact hroom
  have fin:∀ (h':Heap) (ks':List Key),Heap.SameBut a s.heap h'->SetIs w h' a ks'->ks'.Perm ks1->Q true { s with heap:=h' }:=fun h' ks' b1 b2 b3=>h h' ks' b1 b2 (by rw [addK_out hm];exact b3.trans e1) true
  refine wpAny_bind (hgw _ ?_)
  split
  ·refine wpAny_bind ?_;rw [hashByValue_scannable 8 hsc]
   refine wpAny_pure (add_tail (fun b s₁ Q' hq=>by cases b<;>first|exact wpAny_pure hq|exact wpAny_rule hq) gA S.exact' S.data p1 f1 ?_ ?_ ?_ fun h' ks' b1 b2 b3=>?_)
   ·split
    ·exact hfits
    ·exact SetTable.fits_plain_off hfits
   ·split
    ·exact hrt
    ·exact rt_plain_off hrt
   ·split
    ·exact hld.trans S.led
    ·exact hld.trans S.led
   ·exact wpAny_pure (fin h' ks' b1 b2 b3)
  ·refine wpAny_bind (wpAny_pure ?_);simp only [↓reduceIte]
   refine add_tail (fun b s₁ Q' hq=>by cases b<;>first|exact wpAny_pure hq|exact wpAny_rule hq) gA S.exact' S.data p1 f1 hfits hrt (hld.trans S.led) fun h' ks' b1 b2 b3=>?_
   exact wpAny_pure (fin h' ks' b1 b2 b3)
end
noncomputable def GP (ks:List Key):List Key:=ks.foldl Fq []
theorem addK_perm {a b:List Key}(h:a.Perm b)(k:Key):(Fq a k).Perm (Fq b k):=by
 by_cases hk:k∈b
 ·rw [addK_in hk,addK_in (h.mem_iff.mpr hk)];exact h
 ·rw [addK_out hk,addK_out (fun q=>hk (h.mem_iff.mp q))];exact h.append_right _
theorem addK_len (a:List Key)(k:Key):(Fq a k).length<=a.length+1:=by
 unfold Fq
 split
 ·exact Nat.le_succ _
 ·rw [List.length_append];exact Nat.le_refl _
theorem foldK_len (ks:List Key):∀ a:List Key,(ks.foldl Fq a).length<=a.length+ks.length:=by
 induction ks with
 | nil=>intro a;exact Nat.le_refl _
 | cons k ks ih =>
  intro a
  have h1:=ih (Fq a k)
  have h2:=addK_len a k
  rw [List.foldl_cons,List.length_cons]
  omega
theorem dedK_len (ks:List Key):(GP ks).length<=ks.length:=by
 have:=foldK_len ks []
 rw [List.length_nil] at this
 unfold GP
 omega
theorem dedK_snoc (ks:List Key)(k:Key):GP (ks++[k])=Fq (GP ks) k:=by
 unfold GP
 rw [List.foldl_append]
 rfl
noncomputable def SetP (w:World)(h:Heap)(a:Addr)(ks:List Key):Prop:=∃ ks',SetIs w h a ks'/\ks'.Perm ks
theorem SetIs.at {w:World}{h h':Heap}{a:Addr}{ks:List Key}(x:SetIs w h a ks)(k:∀ o,h.get? a=some o->h'.get? a=some o):SetIs w h' a ks:=by
 obtain ⟨o,es,ep,t,g,S⟩:=x
 exact ⟨o,es,ep,t,k _ g,S⟩
theorem SetP.at {w:World}{h h':Heap}{a:Addr}{ks:List Key}(x:SetP w h a ks)(k:∀ o,h.get? a=some o->h'.get? a=some o):SetP w h' a ks:=by
 obtain ⟨ks',g,e⟩:=x
 exact ⟨ks',g.at k,e⟩
noncomputable def Ce (w:World):Obj:={ cls:=.type "set",dict:=none,data:=.set #[] 0 (.fresh 0 0 (!byT w)) }
theorem fresh_is {w:World}{h:Heap}{a:Addr}(g:h.get? a=some (Ce w)):SetIs w h a [] :=
 ⟨_,#[],0,_,g,⟨⟨rfl,rfl,rfl⟩,rfl,.nil,by decide,rfl,⟨fun i j _ hj=>absurd hj (Nat.not_lt_zero _),rfl⟩,rfl⟩⟩
section
variable {prog:Program}{w:World}{A:Around}{R:Result->Shared->Prop}{I:Addr}{fp wr:List Addr}{G:Array GenState->Array GenState->Prop}{n:Nat}{P:Nat->Value->Prop}{St:Nat->Shared->Prop}
theorem upd_loop (W:WalksS prog w A.in1 I fp wr G n P St)(S:Addr)(nS:S ∉ fp)(val:List Key)(hn:val.length=n)(hv:∀ i v,P i v->∃ k,val[i]? = some k/\EI k v=true)(hb:n+1<scanBound) :
  ∀ (k i:Nat) (s:Shared),n - i=k->i<=n->St i s->SetP w s.heap S (GP (val.take i)) ->
   (∀ s',Moved (S::wr) G s s'->SetP w s'.heap S (GP val)->R (.ok (.ret .none)) s') ->
   codeAny (model prog w) A (.builtin "set.update.loop" ⟨[.ref S,.ref I],[]⟩) R s:=by
 have nW:S ∉ wr:=fun h=>nS (W.sub _ h)
 have up:∀ b∈wr,b∈S::wr:=fun b hb=>List.mem_cons_of_mem _ hb
 intro k
 induction k with
 | zero =>
  intro i s e1 e2 st hS hR
  have ei:i=n:=by omega
  subst ei
  refine codeAny_builtin PyProof.Rows.F.entry_set_update_loop ?_;rw [Around.under_plainId PyProof.Rows.F.plain_set_update_loop _]
  show wpAny _ A.in1 (pyNext (.ref I) >>= _) _ _ s;refine wpAny_bind (W.done s _ _ st fun s' hm=>?_)
  show wpAny _ A.in1 (ret Value.none) _ _ s';refine wpAny_pure (hR s' (hm.mono up) ?_)
  rw [List.take_of_length_le (Nat.le_of_eq hn)] at hS
  exact hS.at fun o e=>hm.heap S _ nW e
 | succ k ih =>
  intro i s e1 e2 st hS hR
  have hlt:i<n:=by omega
  refine codeAny_builtin PyProof.Rows.F.entry_set_update_loop ?_;rw [Around.under_plainId PyProof.Rows.F.plain_set_update_loop _]
  show wpAny _ A.in1 (pyNext (.ref I) >>= _) _ _ s;refine wpAny_bind (W.item i s _ _ hlt st fun v s' hP st' hm=>?_)
  obtain ⟨kk,hkk,hi⟩:=hv i v hP
  obtain ⟨ks',hS',ep⟩:SetP w s'.heap S (GP (val.take i)):=hS.at fun o e=>hm.heap S _ nW e
  show wpAny _ A.in1 (holding [v] (setAdd S v) >>= _) _ _ s'
  refine wpAny_bind (wpAny_holding ?_)
  unfold setAdd
  refine wpAny_holding (wpAny_bind ((BB prog w).pyHash (k:=kk) hi ?_))
  have hl:ks'.length<=i:=by
   rw [ep.length_eq]
   exact Nat.le_trans (dedK_len _) (by rw [List.length_take];exact Nat.min_le_left _ _)
  refine add_ok (s:={ s' with toks:=s'.toks+1 }) hi hS' (by omega) fun h' ks2 hsb hS2 e2' b=>?_
  have hnext:SetP w h' S (GP (val.take (i+1))):=by
   refine ⟨ks2,hS2,?_⟩
   rw [List.take_add_one,hkk]
   show ks2.Perm (GP (val.take i++[kk]))
   rw [dedK_snoc]
   exact e2'.trans (addK_perm ep kk)
  refine wpAny_pure ⟨plainId_quiet PyProof.Rows.F.plain_set_update_loop _,ih (i+1) _ (by omega) hlt (W.frame _ s' _ _ st' (Nat.le_succ _) fun b hb o e=>?_) hnext fun s'' hm'' hS''=>?_⟩
  ·exact (hsb.2 b (fun h:b=S=>nS (by rw [<- h];exact hb))).trans e
  ·refine hR s'' (Moved.trans W.gtrans ((hm.mono up).then_heap (Nat.le_succ _) fun b o hb e=>?_) hm'') hS''
   exact (hsb.2 b (fun h:b=S=>hb (by rw [h];exact List.mem_cons_self))).trans e
end
noncomputable def Src (prog:Program)(w:World)(x:Value)(h0:Heap)(n:Nat)(P:Nat->Value->Prop):Prop :=
 ∀ s₁:Shared,(∀ b o,h0.get? b=some o->s₁.heap.get? b=some o)->∃ (oI:Obj) (fp:List Addr) (St:Nat->Heap->Prop),oI.isFreed=false/\(∀ b∈fp,b=s₁.heap.objs.size\/b<h0.objs.size)/\St 0 (s₁.heap.push oI) /\
  (∀ (A':Around) (Q:Value->Shared->Prop) (E:Value->Shared->Prop),A'.handled=none->Q (.ref s₁.heap.objs.size) { s₁ with heap:=s₁.heap.push oI }->wpAny (model prog w) A' (pyIter x) Q E s₁) /\
  ∀ A':Around,A'.handled=none->Walks prog w A' s₁.heap.objs.size fp [s₁.heap.objs.size] n P St
section
variable {prog:Program}{w:World}{A:Around}{E:Value->Shared->Prop}{s:Shared}
theorem src_list {l:Addr}{items:Array Value}(hl:s.heap.IsList l items):Src prog w (.ref l) s.heap items.size (fun i v=>items[i]? = some v):=fun s₁ hk=>by
 have hl1:s₁.heap.IsList l items:=hl.at fun o e=>hk _ _ e
 obtain ⟨o0,ho0,_⟩:=hl
 have ne:l≠s₁.heap.objs.size:=Nat.ne_of_lt (Heap.lt_size (hk _ _ ho0))
 refine ⟨{ cls:=.type "list_iterator",data:=.fields #[.ref l,.int 0 0] },[s₁.heap.objs.size,l],_,rfl,fun b hb=>?_,?_,fun A' Q E' hh q=>wpAny_pyIter_list hl1 q,fun A' hh=>Walks.list hh _ l ne items⟩
 ·rcases List.mem_cons.mp hb with e|e
  ·exact .inl e
  ·rw [List.mem_singleton.mp e];exact .inr (Heap.lt_size ho0)
 ·exact ⟨⟨_,Heap.get?_push_size _ rfl,rfl,rfl⟩,hl1.push _⟩
theorem code_new_set (a:Value){Q₁:Value->Shared->Prop}(h:Q₁ (.ref s.heap.objs.size) { s with heap:=s.heap.push (Ce w) }) :
  codeAny (model prog w) A (.call (.builtin "set.__new__") ⟨[.type "set",a],[]⟩) (wants Q₁ E) s:=by
 refine codeAny_of_tree ?_
 show wpAny _ A.in1 (checkBuiltinCall "set.__new__" ⟨[.type "set",a],[]⟩ >>= fun _=>again (.builtin "set.__new__" ⟨[.type "set",a],[]⟩)) _ _ s
 refine wpAny_bind (wpAny_of_eq (PySem.F.newCall_set_1 a) (wpAny_pure ⟨plainId_quiet F.plain_set_new _,codeAny_builtin F.entry_set_new ?_⟩));rw [Around.under_plainId F.plain_set_new _]
 unfold Builtin.«set.__new__» Builtin.Frozenset.newClass
 have hsub:=sub_set_self
 obtain ⟨hp,g,d,tk,os⟩:=s
 dsimp only
 wp_walk
 refine wpAny_askSetting (wpAny_pure ?_);dsimp only
 simp only [newObj]
 exact wpAny_bind (wpAny_alloc (wpAny_pure (wpAny_pure h)))
end
section
variable {prog:Program}{w:World}{A:Around}{E:Value->Shared->Prop}{s:Shared}
theorem call_set_src {x:Value}{T:String}{n:Nat}{P:Nat->Value->Prop}{val:List Key}{Q:Value->Shared->Prop}(hh:A.handled=none)(hx:Src prog w x s.heap n P)
  (tx:∀ s₁:Shared,(∀ b o,s.heap.get? b=some o->s₁.heap.get? b=some o)->s₁.TypeIs x T) (n1:isSubtype (.type T) (.type "set")=pure false) (n2:isSubtype (.type T) (.type "frozenset")=pure false) (n3:(Value.type T == Value.type "dict")=false)
  (hn:val.length=n) (hv:∀ i v,P i v->∃ k,val[i]? = some k/\EI k v=true) (hb:n+1<scanBound)
  (h:∀ (h':Heap) (tk:Nat),SetP w h' s.heap.objs.size (GP val)->(∀ b o,s.heap.get? b=some o->h'.get? b=some o)->Q (.ref s.heap.objs.size) { s with heap:=h',toks:=tk }) :
  wpAny (model prog w) A (call (.type "set") [x]) Q E s:=by
 obtain ⟨c,tl,hmro⟩:=F.called_set.mro
 have hmade:=F.called_set.made
 have hsub:=F.called_set.sub
 refine wpAny_call (codeAny_of_tree ?_);show wpAny _ _ (callAny (.type "set") _) _ _ _
 refine wpAny_pure ⟨Code.quiet_builtin _ (by decide +kernel),codeAny_builtin F.entry_type_call ?_⟩;rw [Around.under_plain (weight_type_call_type "set" [x] []) rfl]
 have h1:=F.called_set.notType
 have h2:=F.called_set.canCreate
 have hct:=PySem.F.typeCall_set_1 x
 repeat (any_goals (first|assumption|wp_step))
 refine codeAny_mono (code_new_set x (E:=E) (Q₁:=fun obj s₁=>obj = .ref s.heap.objs.size/\s₁ = { s with heap:=s.heap.push (Ce w) }) ⟨rfl,rfl⟩) fun r s₁ hr=>?_
 cases r with
 | error e=>exact hr
 | ok fl=>cases fl with
  | ret obj =>
   obtain ⟨rfl,rfl⟩:=hr
   have gS:(s.heap.push (Ce w)).get? s.heap.objs.size=some (Ce w):=Heap.get?_push_size _ rfl
   have hT:Shared.TypeIs { s with heap:=s.heap.push (Ce w) } (.ref s.heap.objs.size) "set" := ⟨_,gS,rfl⟩
   have hli:=F.called_set.init.lookup
   have hbi:=F.called_set.init.bind (.ref s.heap.objs.size)
   repeat (any_goals (first|assumption|wp_step))
   refine codeAny_mono (codeAny_call_builtin (R:=wants (fun r s₂=>r = .none/\∃ h' tk,s₂ = { s with heap:=h',toks:=tk }/\SetP w h' s.heap.objs.size (GP val)/\(∀ b o,s.heap.get? b=some o->h'.get? b=some o)) E) F.called_set.init.plain F.entry_set_init (check_set_init_1 hT ?_)) fun r₂ s₂ hr₂=>?_
   ·obtain ⟨hp,g,d,tk0,os⟩:=s
    dsimp only at *
    have kp:∀ b o,hp.get? b=some o->(hp.push (Ce w)).get? b=some o:=fun b o e=>Heap.get?_push_of_some _ e
    have hTx:Shared.TypeIs { heap:=hp.push (Ce w),gens:=g,drawn:=d,toks:=tk0,os:=os } x T:=tx _ kp
    unfold Builtin.«set.__init__» noKeywords Builtin.Frozenset.updateFrom
    generalize hPI:pyIter=PI
    unfold Ce at *
    wp_walk
    subst hPI
    obtain ⟨oI,fp,St,hf,hfp,st0,hit,hW⟩:=hx { heap:=hp.push (Ce w),gens:=g,drawn:=d,toks:=tk0,os:=os } kp
    refine hit _ _ _ (by simp [hh]) (wpAny_bind (wpAny_runValue ?_))
    have eS:(hp.push (Ce w)).objs.size=hp.objs.size+1:=size_push' _ _
    have nS:hp.objs.size ∉ fp:=fun hm=>by
     rcases hfp _ hm with e|e
     ·rw [eS] at e;exact absurd e (Nat.ne_of_lt (Nat.lt_succ_self _))
     ·exact Nat.lt_irrefl _ e
    refine upd_loop (hW _ (by simp [hh])).toS hp.objs.size nS val hn hv hb n 0 _ rfl (Nat.zero_le _) st0 ?_ fun s' hm hS'=>?_
    ·exact ⟨[],fresh_is (Heap.get?_push_of_some _ gS),.rfl⟩
    ·obtain ⟨h',g',d',tk',os'⟩:=s'
     obtain rfl:g'=g:=hm.gens
     obtain rfl:d'=d:=hm.drawn
     obtain rfl:os'=os:=hm.os
     refine wpAny_pure ?_
     show wpAny _ _ (ret Value.none) _ _ _
     refine wpAny_pure ⟨rfl,h',tk',rfl,hS',fun b o e=>?_⟩
     have lb:b<hp.objs.size:=Heap.lt_size e
     refine hm.heap b o (fun hmem=>?_) (Heap.get?_push_of_some _ (kp b o e))
     rcases List.mem_cons.mp hmem with q|q
     ·exact absurd q (Nat.ne_of_lt lb)
     ·have q:=List.mem_singleton.mp q
      rw [eS] at q
      exact absurd q (Nat.ne_of_lt (Nat.lt_succ_of_lt lb))
   ·cases r₂ with
    | error e=>exact hr₂
    | ok fl₂=>cases fl₂ with
     | ret r =>
      obtain ⟨rfl,h',tk,rfl,hS',hk'⟩:=hr₂
      repeat (any_goals (first|assumption|wp_step))
      exact h _ _ hS' hk'
     | _=>exact hr₂.elim
  | _=>exact hr.elim
end
section
variable {prog:Program}{w:World}{A:Around}{E:Value->Shared->Prop}{s:Shared}
end
section
variable {prog:Program}{w:World}{A:Around}{E:Value->Shared->Prop}{s:Shared}{I a T:Addr}{es xs:Array (Int × Value)}{ep:Nat}{t:SetTable}{ks:List Key}
end
section
variable {prog:Program}{w:World}{A:Around}{E:Value->Shared->Prop}{s:Shared}{a:Addr}{es:Array (Int × Value)}{ep:Nat}{t:SetTable}{ks:List Key}
end
noncomputable def SetO (w:World)(p:Addr)(ks:List Key):HO:=.ext fun h=>SetP w h p ks
theorem setO_ok {P:Program}{w:World}{H:Hp}{h:Heap}{p:Addr}{ks:List Key}(x:SetP w h p ks):ObjOk P w H h p (SetO w p ks):=by
 refine ⟨x,?_,fun h1 h2 a b=>a.at b⟩
 obtain ⟨_,⟨o,_,_,_,g,_⟩,_⟩:=x
 exact ⟨o,g⟩
theorem setO_get {P:Program}{w:World}{H:Hp}{h:Heap}{p:Addr}{ks:List Key}(x:HOk P w H h)(e:H p=some (SetO w p ks)):SetP w h p ks:=(x p _ e).1
section
variable {X:Cx}{pins:List (Addr × Obj)}{σ:List (Option V)}{H:Hp}{s s':Shared}
theorem Inv.same (I:Inv X pins σ H s)(e1:s'.heap=s.heap)(e2:s'.gens=s.gens)(e3:s'.os=s.os):Inv X pins σ H s':=by
 obtain ⟨h,g,d,t,o⟩:=s
 obtain ⟨h',g',d',t',o'⟩:=s'
 dsimp only at e1 e2 e3
 subst e1;subst e2;subst e3
 exact ⟨I.ok,I.os,I.bare,I.base,I.loc,I.cell,I.free,I.freeC,I.pin,I.hok,I.len⟩
theorem Inv.laid' {a:Addr}{o:HO}(I:Inv X pins σ H s)(k:∀ b u,s.heap.get? b=some u->s'.heap.get? b=some u)(hp:s.heap.objs.size<=a)(new:ObjOk X.prog X.w (upd H a o) s'.heap a o)(e2:s'.gens=s.gens)(e3:s'.os=s.os) :
  Inv X pins σ (upd H a o) s':=(I.laid (t':=s.toks) k hp new).same rfl e2 e3
end
theorem rel_key:∀ {k:Key}{u:Value},RelV (kV k) u->EI k u=true
 | .inl i,u,h=>by obtain ⟨t,rfl⟩:=h;exact keyIs_int i t
 | .inr x,u,h=>by obtain ⟨t,rfl⟩:=h;exact keyIs_str x t
theorem vals_key {ks:List Key}:∀ {us:List Value},Vals (ks.map kV) us->∀ (i:Nat) (v:Value),us[i]? = some v->∃ k,ks[i]? = some k/\EI k v=true:=by
 induction ks with
 | nil=>intro us r i v e;cases r;cases e
 | cons k ks ih =>
  intro us r i v e
  rw [List.map_cons] at r
  cases r with
  | cons h t=>cases i with
   | zero =>
    cases e
    exact ⟨k,rfl,rel_key h⟩
   | succ i=>exact ih t i v e
noncomputable def rSetK (w:World)(K:FZ9):List V->Hp->VK->Prop:=fun vs H Q=>∃ (l:Addr) (ks:List Key),vs=[.ref l]/\SqL K H l (ks.map kV)/\ks.length<4000/\∀ p,H p=none->Q (.ref p) (upd H p (SetO w p (GP ks)))
theorem call_setL {X:Cx}{w:World}{K:FZ9}(hc:X.calm=true)(hw:X.w=w)(hK:X.K=K):DX X (.type "set") (rSetK w K):=by
 subst hK
 subst hw
 intro pins s σ H vs us Q I r h
 obtain ⟨l,ks,rfl,hl,hz,q⟩:=h
 obtain ⟨u,rfl,ru⟩:=FJ r
 cases ru
 obtain ⟨its,rv,pl,_⟩:=I.list hl
 have hlen:=rv.length
 rw [List.length_map] at hlen
 have il:=pl.isList
 refine call_set_src (val:=ks) (T := "list") (I.ok.hd hc) (src_list il) (fun s1 k=>(il.at fun o e=>k _ _ e).typeIs) PySem.F.sub_list_set PySem.F.sub_list_frozenset (by decide) ?_ (fun i v e=>vals_key rv i v (by rw [List.getElem?_toArray] at e;exact e)) ?_ fun h' tk hS hk=>?_
 ·rw [List.size_toArray];exact hlen
 ·rw [List.size_toArray,<- hlen];unfold scanBound;omega
 ·exact ⟨.ref s.heap.objs.size,_,I.laid' (s':={ s with heap:=h',toks:=tk }) (fun b o e=>hk b o e) (Nat.le_refl _) (setO_ok hS) rfl rfl,rfl,q _ (I.hok.fresh (Nat.le_refl _))⟩
noncomputable def GZ {α:Type}[DecidableEq α](ks:List α)(k:α):List α:=if ks.any (fun y=>decide (y=k)) then ks else ks++[k]
noncomputable def Gp {α:Type}[DecidableEq α](ks:List α):List α:=ks.foldl GZ []
theorem addA_map {α:Type}[DecidableEq α]{f:α->Key}(hf:∀ a b,f a=f b->a=b)(ks:List α)(k:α):Fq (ks.map f) (f k)=(GZ ks k).map f:=by
 have e:(ks.map f).any (fun y=>decide (y=f k))=ks.any (fun y=>decide (y=k)):=by
  rw [List.any_map]
  congr 1
  funext y
  show decide (f y=f k)=decide (y=k)
  by_cases h:y=k
  ·rw [h,decide_eq_true rfl,decide_eq_true rfl]
  ·rw [decide_eq_false h,decide_eq_false (fun q=>h (hf _ _ q))]
 unfold Fq GZ
 rw [e]
 split
 ·rfl
 ·rw [List.map_append];rfl
theorem dedA_map {α:Type}[DecidableEq α]{f:α->Key}(hf:∀ a b,f a=f b->a=b)(ks:List α):GP (ks.map f)=(Gp ks).map f:=by
 have:∀ (ks acc:List α),(ks.map f).foldl Fq (acc.map f)=(ks.foldl GZ acc).map f:=by
  intro ks
  induction ks with
  | nil=>intro acc;rfl
  | cons k ks ih=>intro acc;rw [List.map_cons,List.foldl_cons,List.foldl_cons,addA_map hf,ih]
 exact this ks []
theorem inl_inj (a b:Int)(h:(Sum.inl a:Key)=Sum.inl b):a=b:=Sum.inl.inj h
theorem mem_addA {α:Type}[DecidableEq α]{ks:List α}{k x:α}:x∈GZ ks k ↔ x∈ks\/x=k:=by
 unfold GZ
 split
 ·rename_i h
  obtain ⟨y,hy,e⟩:=List.any_eq_true.mp h
  have e:=of_decide_eq_true e
  constructor
  ·exact .inl
  ·rintro (h|rfl)
   ·exact h
   ·exact e ▸ hy
 ·rw [List.mem_append,List.mem_singleton]
theorem mem_dedA {α:Type}[DecidableEq α]{ks:List α}{x:α}:x∈Gp ks ↔ x∈ks:=by
 have:∀ (ks acc:List α),x∈ks.foldl GZ acc ↔ x∈acc\/x∈ks:=by
  intro ks
  induction ks with
  | nil=>intro acc;simp
  | cons k ks ih=>intro acc;rw [List.foldl_cons,ih,mem_addA,List.mem_cons,or_assoc]
 rw [Gp,this]
 simp
theorem nodup_dedA {α:Type}[DecidableEq α](ks:List α):(Gp ks).Nodup:=by
 have:∀ (ks acc:List α),acc.Nodup->(ks.foldl GZ acc).Nodup:=by
  intro ks
  induction ks with
  | nil=>intro acc h;exact h
  | cons k ks ih =>
   intro acc h
   rw [List.foldl_cons]
   refine ih _ ?_
   unfold GZ
   split
   ·exact h
   ·rename_i hn
    refine List.nodup_append.mpr ⟨h,by simp,fun a ha b hb e=>hn ?_⟩
    rw [List.mem_singleton] at hb
    exact List.any_eq_true.mpr ⟨a,ha,decide_eq_true (e.trans hb)⟩
 exact this ks [] List.nodup_nil
section
variable {K:FZ9}{σ:St}{G:Hp}{ta tb:TE}{w:World}
end
section
variable {prog:Program}{w:World}{A:Around}{E:Value->Shared->Prop}{s:Shared}
end
section
variable {prog:Program}{w:World}{A:Around}{E:Value->Shared->Prop}{s:Shared}
end
section
variable {prog:Program}{w:World}{A:Around}{E:Value->Shared->Prop}{s:Shared}
end
section
variable {prog:Program}{w:World}{A:Around}{E:Value->Shared->Prop}{s:Shared}
end
theorem dedA_len {α:Type}[DecidableEq α](ks:List α):(Gp ks).length<=ks.length:=by
 have:∀ (ks acc:List α),(ks.foldl GZ acc).length<=acc.length+ks.length:=by
  intro ks
  induction ks with
  | nil=>intro acc;exact Nat.le_refl _
  | cons k ks ih =>
   intro acc
   have h1:=ih (GZ acc k)
   have h2:(GZ acc k).length<=acc.length+1:=by
    unfold GZ
    split
    ·exact Nat.le_succ _
    ·rw [List.length_append];exact Nat.le_refl _
   rw [List.foldl_cons,List.length_cons]
   omega
 have:=this ks []
 rw [List.length_nil] at this
 unfold Gp
 omega
section
variable {K:FZ9}{σ:St}{G:Hp}{ta tb:TE}{w:World}
theorem ints_keys (a:List Int):a.map V.int=(a.map (Sum.inl:Int->Key)).map kV:=by rw [List.map_map];rfl
end
section
variable {K:FZ9}{σ:St}{G H G0 H0:Hp}{α β:Type}[Rp α][Rp β]{ta td ti:TE}{rest:TS}{D:Ends}{i:Nat}{a:Mp α}{v:V}{p:Addr}{kvs:List (Key × V)}
end
section
variable {K:FZ9}{σ:St}{G:Hp}{α:Type}[Rp α]{ta:TE}
end
section
variable {K:FZ9}{σ:St}{G H:Hp}{α:Type}[Rp α]{rest:TS}{D:Ends}{i:Nat}{as as':List α}{v:V}{p:Addr}{vs:List V}
end
noncomputable def rExtendT (K:FZ9):V->List V->Hp->VK->Prop:=fun x vs H Q=>∃ l b xs zs,x = .ref l/\vs=[.ref b]/\H l=some (.lst xs)/\SqT K H b zs/\xs.length+zs.length<=sizeLine/\Q .non (upd H l (.lst (xs++zs)))
theorem mt_extendT {X:Cx}{K:FZ9}(hK:X.K=K):MtM X "list.extend" (rExtendT K):=by
 subst hK
 intro pins s σ H x vs v us Q I rx rv h
 obtain ⟨l,b,xs,zs,rfl,rfl,hH,hB,hz,q⟩:=h
 cases rx
 obtain ⟨u,rfl,ru⟩:=rv.one
 cases ru
 obtain ⟨z,its,n,r,hl,e⟩:=I.lstM hH
 obtain ⟨its2,r2,⟨o2,g2,c2,n2,d2⟩,_⟩:=I.tuple hB
 have h1:=r.length
 have h2:=r2.length
 have hsz:its.toArray.size+its2.toArray.size<=sizeLine:=by rw [List.size_toArray,List.size_toArray];omega
 refine wpAny_call_entry F.slot_list_extend ⟨_,e,rfl⟩ F.entry_list_extend ?_ (F.args_list_extend_2 _ _)
 unfold Builtin.«list.extend»
 refine wpAny_bind (wpAny_pure ?_)
 dsimp only
 unfold Builtin.List.listExtendWith
 refine wpAny_bind (wpAny_typeOf (T := "tuple") ⟨o2,g2,c2⟩ ?_)
 have ht:(Value.type "tuple" == Value.type "tuple")=true:=by rfl
 rw [if_pos (by rw [ht];simp)]
 refine wpAny_bind (listItems_at g2 d2 (wpAny_bind (listItems_at e rfl ?_)))
 rw [if_neg (by rw [notLongL hsz,Bool.and_false];exact Bool.false_ne_true)]
 refine wpAny_bind (listUpdate_at e rfl ?_ (by omega) (by rw [Array.size_append];omega))
 refine wpAny_pure ⟨_,rfl,.non,_,I.lset (its':=its++its2) (t':=s.toks) hH e (by simp) (r.append r2) ?_,rfl,q⟩
 rw [List.length_append]
 omega
section
variable {K:FZ9}{σ:St}{G H:Hp}{α:Type}[Rp α]{te:TE}{rest:TS}{D:Ends}{i:Nat}{m:Option (Tp α)}{b:Tp α}{as as':List α}{v:V}{p:Addr}{vs:List V}
theorem sv_extendT (hσ:σ[i]? = some (some v))(o:Own K G H v p vs as)(e:EV K te σ G m)(hm:m=some b)(hp:extO as b.l=some as')(s:Same G H)
  (k:∀ G2 H2 ws,Ext G H G2 H2->Own K G2 (upd H2 p (.lst (vs++ws))) v p (vs++ws) as'->rest D σ (upd H2 p (.lst (vs++ws)))):DA (Gm (tBM K "list" (rExtendT K) (FR i) (B0 te D0))) rest D σ H:=by
 obtain ⟨hl,rfl⟩:=BC hp
 have hlen:=Paired.length o.p
 have ov:=o.v
 subst ov
 refine ⟨_,hσ,.inl ⟨rfl,_,SqL.of o.h⟩,?_⟩
 refine e.run hm s fun w G2 H2 x r=>?_
 have o2:=o.ext x
 obtain ⟨q,ws,rfl,hq,hz,hpr⟩:=r
 have hlw:=Paired.length hpr
 refine ⟨p,q,vs,ws,rfl,rfl,o2.h,x.gh.tup hq,by omega,?_⟩
 refine k G2 H2 ws x ⟨rfl,o2.g,AM,?_,Paired.app o2.p hpr⟩
 rw [List.length_append]
 omega
end
structure MpS (α:Type) where
 l:List (Str × α)
section
variable {K:FZ9}{σ:St}{G H G1 H1 G0 H0:Hp}{α β:Type}[Rp α][Rp β]{td te ti:TE}{rest:TS}{D:Ends}{i:Nat}{a:MpS α}{v:V}{p q:Addr}{kvs:List (Key × V)}
end
section
variable {X:Cx}{i o:Expr}{ty td:TE}{pos:Pos}
end
section
variable {prog:Program}{w:World}{A:Around}{E:Value->Shared->Prop}{s:Shared}
end
section
variable {prog:Program}{w:World}{A:Around}{E:Value->Shared->Prop}{s:Shared}{z TI TO:Addr}{f0 f1:Value}
end
section
variable {prog:Program}{w:World}{A:Around}{E:Value->Shared->Prop}{s:Shared}
end
section
variable {prog:Program}{w:World}{A:Around}{E:Value->Shared->Prop}{s:Shared}
end
section
variable {K:FZ9}{σ:St}{G H G0 H0:Hp}{α β:Type}[Rp α][Rp β]{ta tb:TE}
end
section
variable {X:Cx}{i o:Expr}{ty:TE}{pos:Pos}{a:Addr}{w:World}{K:FZ9}{l:List (Str × Int)}
end
section
variable {K:FZ9}{σ:St}{G:Hp}{ty:TE}{l:List (Str × Int)}
end
end L2
namespace HT
open PySem PySem.Spec PyProof.Rows
section
variable {prog:Program}{w:World}{A:Around}{E:Value->Shared->Prop}{s:Shared}
end
end HT
namespace L2
open PySem PySem.Spec PyProof.Rows
section
variable {K:FZ9}{σ:St}{G:Hp}{α:Type}[Rp α]{ta tb tc te:TE}{t1 t2:TO}{sa sb sc:Option Str}{m1 m2:Option (Option Int)}
end
section
variable {prog:Program}{w:World}{A:Around}{E:Value->Shared->Prop}{s:Shared}
end
noncomputable def LObj (acc:Array Value)(c:Nat):Obj:={ cls:=.type "list",dict:=none,data:=.seq acc c,slots:=#[] }
section
variable {prog:Program}{w:World}{A:Around}{E:Value->Shared->Prop}{s:Shared}
end
section
variable {prog:Program}{w:World}{A:Around}{E:Value->Shared->Prop}{s:Shared}
end
section
variable {K:FZ9}{σ:St}{G H:Hp}{α β:Type}[Rp α][Rp β]{ta tb:TE}
end
section
variable {K:FZ9}{σ:St}{G H:Hp}{ta tb te:TE}{rest:TS}{D:Ends}{i:Nat}{v:V}{p:Addr}{vs:List V}{β:Type}[Rp β]
end
section
variable {K:FZ9}{σ:St}{G:Hp}{α:Type}[Rp α][DecidableEq α]{ta tb:TE}{ma:Option α}{ml:Option (List α)}
end
section
variable {X:Cx}{es:List Expr}{t:TA}{te:TE}{p:Pos}
end
noncomputable def siK:SI->Key
 | .s x=>.inr x
 | .i n=>.inl n
structure Rk where
 l:List SI
section
variable {K:FZ9}{σ:St}{G H G1 H1 G0 H0:Hp}{D:Ends}{p q l:Addr}{xs:List V}{rows:List (Tp SI)}
end
section
variable {K:FZ9}{σ:St}{G H:Hp}{α B A:Type}[Rp α][Rp B][RpA A]{rest:TS}{D:Ends}{i:Nat}{as:List α}{v:V}{p:Addr}{vs:List V}
end
noncomputable def Itv (K:FZ9)(a:Addr)(n:Nat):It :=
 ⟨fun i H=>∃ xs x,SqL K H a xs/\xs.length=n/\i<n/\xs[n - 1 - i]? = some x,fun i H x H'=>H'=H/\∀ xs,SqL K H a xs->xs[n - 1 - i]? = some x,fun i H=>i=n/\∃ xs,SqL K H a xs/\xs.length=n⟩
theorem turn_rev {P:Program}{w:World}{K:FZ9}{tg:Expr}(a it:Addr)(n:Nat):Turn P w K tg (Itv K a n) [it] it (fun i h=>h.IsRevIter it a ((n:Int) - 1 - (i:Int))) where
 mem:=by simp
 obj:=fun i h st b hb=>by
  have e:b=it:=by simpa using hb
  subst e
  obtain ⟨o,e,c,d⟩:=st
  exact ⟨o,e,fun v z=>by rw [d] at z;cases z⟩
 keep:=fun i h h' st k=>st.at fun o e=>k it (by simp) o e
 item:=by
  intro X hP hw hK hc i pins s σ H E I hf st hg
  subst hP hw hK
  obtain ⟨xs,x,hq,hn,hi,hx⟩:=hg
  obtain ⟨its,rv,p,hz⟩:=I.list hq
  obtain ⟨u,hu,ru⟩:=rv.get hx
  obtain ⟨f0,f1,f2,f3,f4,f5⟩:=hf it (by simp)
  have e:(n:Int) - 1 - (i:Int)=((n - 1 - i:Nat):Int):=by omega
  rw [e] at st
  refine wpAny_pyNext_rev_item st p.isList (x:=u) (by simpa using hu) fun h' st' sb=>?_
  have I1:Inv X pins σ H { s with heap:=h' }:=I.turned (t':=s.toks) (fun b o hb e=>(sb.2 b hb).trans e) f0 f1 f3 f4 f5
  have e2:((n - 1 - i:Nat):Int) - 1=(n:Int) - 1 - ((i+1:Nat):Int):=by omega
  rw [e2] at st'
  obtain ⟨o,e,c,d⟩:=id st'
  exact ⟨u,rfl,go_of (s:={ s with heap:=h' }) e c d (by decide) ⟨x,H,I1,ru,⟨rfl,fun ys hy=>by rw [I.list_inj hy hq];exact hx⟩,st',fun b hb=>(hf b hb).1⟩⟩
 done:=by
  intro X hP hw hK hc i pins s σ H E I hf st hg
  subst hP hw hK
  obtain ⟨rfl,xs,hq,hn⟩:=hg
  obtain ⟨f0,f1,f2,f3,f4,f5⟩:=hf it (by simp)
  have e:(i:Int) - 1 - (i:Int) = -1:=by omega
  rw [e] at st
  exact wpAny_pyNext_rev_end (I.ok.hd hc) st fun h' eb=>⟨rfl,I.turned (t':=s.toks) (fun b o hb e=>eb b o hb e) f0 f1 f3 f4 f5⟩
 self:=fun _ _ _ _ _ st h=>wpAny_pyIter_revIter st h
noncomputable def iRev (K:FZ9)(ta:TA):TI:=fun σ H R=>ta σ H fun vs H1=>∃ a xs,vs=[.ref a]/\SqL K H1 a xs/\R (Itv K a xs.length) H1
theorem boot_reversed:bootBuiltins "reversed" = some (.type "reversed"):=by decide +kernel
theorem pi_rev {X:Cx}{K:FZ9}{tg a:Expr}{ta:TA}{p pos:Pos}(hK:X.K=K)(hg:Gl X "reversed")(hm:X.mg "reversed" = none)(ha:PA X [a] ta)(hs:starEach [a] X.env=[(false,eval a X.env)]:=by rfl) :
  PI X tg (.Call (.Name "reversed" p) [a] [] pos) (iRev K ta):=by
 subst hK
 intro pins s σ H R I h
 refine Call_ (Ex I hg hm boot_reversed (PyProof.Rows.callWith_type1 (thn (ha pos pins s σ H _ I h) fun us s1 ⟨vs,H1,I1,r1,q1⟩=>?_) (by rw [hs];rfl) (by rfl)))
 obtain ⟨l,xs,e,hq,q⟩:=q1
 subst e
 obtain ⟨u1,rfl,r1q⟩:=FJ r1
 obtain rfl:u1=Value.ref l:=r1q
 obtain ⟨its,rv,pl,_⟩:=I1.list hq
 have hl:=rv.length
 refine call_reversed_list pl.isList ?_
 have st:(s1.heap.push (revObj l ((its.toArray.size:Int) - 1))).IsRevIter s1.heap.objs.size l ((xs.length:Int) - 1 - ((0:Nat):Int)):=⟨_,Heap.get?_push_size _ rfl,rfl,by
  rw [List.size_toArray,<- hl]
  have e:((xs.length:Int) - 1 - ((0:Nat):Int))=(xs.length:Int) - 1:=by omega
  rw [e]
  rfl⟩
 refine wpAny_pyIter_revIter (s:={ s1 with heap:=s1.heap.push (revObj l ((its.toArray.size:Int) - 1)) }) st ?_
 have I2:Inv X pins σ H1 { s1 with heap:=s1.heap.push (revObj l ((its.toArray.size:Int) - 1)) }:=I1.kept (t':=s1.toks) fun b o e=>Heap.get?_push_of_some _ e
 refine ⟨s1.heap.objs.size,[s1.heap.objs.size],_,_,H1,rfl,I2,turn_rev l s1.heap.objs.size xs.length,st,fun b hb=>?_,q⟩
 rw [List.mem_singleton.mp hb]
 exact I1.fpOk (Nat.le_refl _) (I1.hok.fresh (Nat.le_refl _))
section
variable {K:FZ9}{σ:St}{G:Hp}{α:Type}[Rp α]{ta:TE}
theorem Paired.rev {β:Type}{F:V->β->Prop}:∀ {xs:List V}{as:List β},Paired F xs as->Paired F xs.reverse as.reverse
 | _,_,.nil=>.nil
 | _,_,.cons r t=>by
  rw [List.reverse_cons,List.reverse_cons]
  exact Paired.app (Paired.rev t) (.cons r .nil)
theorem iw_rev {la:Option (List α)}(ea:EV K ta σ G la):IW K (iRev K (B0 ta D0)) σ G (la.bind fun a=>some a.reverse):=by
 intro G1 s1 a ha H sH R k
 obtain ⟨b,hb,ha⟩:=Option.bind_eq_some_iff.mp ha
 cases ha
 refine ea G1 s1 b hb H sH _ fun v G2 H2 x2 r2=>?_
 obtain ⟨l,xs,rfl,h,z,p⟩:=r2
 refine ⟨l,xs,rfl,.inl (x2.gh.rd h),k _ xs.reverse G2 H2 x2 ⟨fun i H' s hi=>?_,fun H' s=>?_,fun i H' x H'' s hi hy=>?_⟩ (by rw [List.length_reverse];exact z) (Paired.rev p)⟩
 ·rw [List.length_reverse] at hi
  exact ⟨xs,xs[xs.length - 1 - i]'(by omega),.inl (s.rd h),rfl,hi,List.getElem?_eq_getElem (by omega)⟩
 ·rw [List.length_reverse]
  exact ⟨rfl,xs,.inl (s.rd h),rfl⟩
 ·rw [List.length_reverse] at hi
  refine ⟨hy.1,?_⟩
  rw [List.getElem?_reverse (by omega)]
  exact hy.2 xs (.inl (s.rd h))
end
theorem rev_no_len:typeLookup (.type "list_reverseiterator") "__len__" = pure none:=by rw [typeLookup_type,builtinLookup_eq_fast];kernel_rfl
theorem rev_hint:typeLookup (.type "list_reverseiterator") "__length_hint__" = pure (some (.builtin "list_reverseiterator.__length_hint__")):=by rw [typeLookup_type,builtinLookup_eq_fast];kernel_rfl
section
variable {prog:Program}{w:World}{A:Around}{E:Value->Shared->Prop}{s:Shared}
theorem call_listOfRev {Q:Value->Shared->Prop}{z l:Addr}{xs:Array Value}(hh:A.handled=none)(hit:s.heap.IsRevIter z l ((xs.size:Int) - 1))(hl:s.heap.IsList l xs)(hb:xs.size<=sizeLine)
  (h:∀ h' tk acc' c',(∀ c o,c≠z->s.heap.get? c=some o->h'.get? c=some o)->h'.get? s.heap.objs.size=some (LObj acc' c')->ItemsOf (fun i v=>xs[xs.size - 1 - i]? = some v) acc' xs.size->Q (.ref s.heap.objs.size) { s with heap:=h',toks:=tk }) :
  wpAny (model prog w) A (call (.type "list") [.ref z]) Q E s:=by
 refine callType_codes (Q₁:=fun obj s₁=>obj = .ref s.heap.objs.size/\s₁ = { s with heap:=s.heap.push { cls:=.type "list",data:=.seq #[] } }) PySem.F.called_list (PySem.F.typeCall_list_1 _) PySem.F.entry_list_init (code_list_new _ ⟨rfl,rfl⟩) fun obj s₁ h₁=>?_
 obtain ⟨rfl,rfl⟩:=h₁
 have hS:(s.heap.push { cls:=.type "list",data:=.seq #[] }).get? s.heap.objs.size=some (LObj #[] 0):=Heap.get?_push_size _ rfl
 have lz:z<s.heap.objs.size:=by obtain ⟨_,e,_⟩:=hit;exact Heap.lt_size e
 have ll:l<s.heap.objs.size:=by obtain ⟨_,e,_⟩:=hl;exact Heap.lt_size e
 have hzl:l≠z:=fun q=>by
  obtain ⟨o,e,c,_⟩:=hit
  obtain ⟨o',e',c',_⟩:=hl
  rw [q,e] at e'
  cases e'
  rw [c] at c'
  exact absurd c' (by decide)
 have ne:s.heap.objs.size≠z:=fun q=>absurd lz (by rw [<- q];exact Nat.lt_irrefl _)
 have nl:s.heap.objs.size≠l:=fun q=>absurd ll (by rw [<- q];exact Nat.lt_irrefl _)
 have up:∀ c o,s.heap.get? c=some o->(s.heap.push { cls:=.type "list",data:=.seq #[] }).get? c=some o:=fun c o q=>Heap.get?_push_of_some _ q
 refine ⟨⟨_,hS,rfl⟩,PySem.F.args_list_init_2 _ _,?_⟩
 show wpAny _ _ (do let old <- Builtin.List.listItems (.ref s.heap.objs.size);Builtin.List.listUpdate (.ref s.heap.objs.size) (fun _=>#[]);letGo old.toList.reverse;Builtin.List.listExtendWith (.ref s.heap.objs.size) (.ref z) .none) _ _ _
 refine wpAny_bind ?_
 unfold Builtin.List.listItems
 refine wpAny_bind (wpAny_seqItems hS rfl (wpAny_pure ?_))
 show wpAny _ _ (updateSeq s.heap.objs.size (fun _=>#[]) >>= fun _=>letGo (#[]:Array Value).toList.reverse >>= fun _=>Builtin.List.listExtendWith (.ref s.heap.objs.size) (.ref z) .none) _ _ _
 refine wpAny_bind (wpAny_updateSeq (s:={ s with heap:=s.heap.push { cls:=.type "list",data:=.seq #[] } }) hS rfl ?_)
 have hS₂:=Heap.get?_update_self (Obj.mapSeq (fun _=>(#[]:Array Value))) hS rfl
 have oth₂:∀ b o,b≠s.heap.objs.size->s.heap.get? b=some o->((s.heap.push { cls:=.type "list",data:=.seq #[] }).update s.heap.objs.size (Obj.mapSeq (fun _=>(#[]:Array Value)))).get? b=some o:=fun b o hb e=>(Heap.get?_update_other _ _ (Ne.symm hb)).trans (up b o e)
 refine wpAny_bind (wpAny_letGo ?_)
 have hit₂:=hit.at (h':=(s.heap.push { cls:=.type "list",data:=.seq #[] }).update s.heap.objs.size (Obj.mapSeq (fun _=>(#[]:Array Value)))) fun o e=>oth₂ z o (Ne.symm ne) e
 have hl₂:((s.heap.push { cls:=.type "list",data:=.seq #[] }).update s.heap.objs.size (Obj.mapSeq (fun _=>(#[]:Array Value)))).IsList l xs:=hl.at fun o e=>oth₂ l o (Ne.symm nl) e
 have ty:Shared.TypeIs { s with heap:=(s.heap.push { cls:=.type "list",data:=.seq #[] }).update s.heap.objs.size (Obj.mapSeq (fun _=>(#[]:Array Value))) } (.ref z) "list_reverseiterator" := by
  obtain ⟨o,e,c,_⟩:=hit₂
  exact ⟨o,e,c⟩
 unfold Builtin.List.listExtendWith
 refine wpAny_bind (wpAny_typeOf (T := "list_reverseiterator") ty ?_)
 have h1:Builtin.List.listSameRef (.ref s.heap.objs.size) (.ref z)=false:=by simp [Builtin.List.listSameRef,ne]
 have h2:(Value.type "list_reverseiterator" == Value.type "list")=false:=by decide
 have h3:(Value.type "list_reverseiterator" == Value.type "tuple")=false:=by decide
 simp only [h1,h2,h3,Bool.or_false,Bool.false_eq_true,if_false]
 refine wpAny_bind (wpAny_pyIter_revIter hit₂ ?_)
 refine wpAny_bind (wpAny_holding ?_)
 unfold Builtin.List.listLengthHint
 refine wpAny_bind (wpAny_specialOf (T := "list_reverseiterator") ty rev_no_len ?_)
 show wpAny _ _ (specialOf (Value.ref z) (Str.ofString "__length_hint__") >>= _) _ _ _
 refine wpAny_bind (wpAny_specialOf (T := "list_reverseiterator") ty rev_hint ?_)
 generalize hid:("list_reverseiterator.__length_hint__" : String)=id0
 wp_delta
 rw [show splitId id0=some ("list_reverseiterator","__length_hint__") from by subst hid;decide +kernel]
 subst hid
 refine wpAny_bind (wpAny_isInstance (T := "list_reverseiterator") (b:=true) ty (by rw [isSubtype_type];kernel_rfl) ?_)
 refine wpAny_ite_split (fun hab=>absurd hab (by decide)) (fun _=>?_)
 refine wpAny_ite_split (fun _=>?_) (fun hab=>absurd (by decide +kernel) hab)
 refine wpAny_ite_split (fun hab=>absurd hab (by decide +kernel)) (fun _=>?_)
 refine wpAny_pure ?_
 refine wpAny_ite_split (fun hab=>absurd hab (by decide +kernel)) (fun _=>?_)
 have W:=(Walks.listRev (prog:=prog) (w:=w) (A:=A.in1.in1) hh z l hzl xs).toS
 refine wpAny_pure ⟨plainId_quiet PySem.F.plain_extend_loop _,?_⟩
 refine codeAny_extend_loopS W hb _ (fun q=>?_) _ xs.size 0 _ #[] _ rfl (Nat.zero_le _) ⟨Nat.zero_le _,by simpa using hit₂,hl₂⟩ hS₂ (ItemsOf.nil _) fun s' acc' c' hm hS' hacc=>?_
 ·simp only [List.mem_cons,List.not_mem_nil,or_false] at q
  rcases q with q|q
  ·exact ne q
  ·exact nl q
 rw [Moved.eq_with hm]
 refine ⟨rfl,h s'.heap s'.toks acc' c' (fun c o hc e=>hm.heap c o (fun q=>?_) (oth₂ c o (Nat.ne_of_lt (Heap.lt_size e)) e)) hS' hacc⟩
 simp only [List.mem_cons,List.not_mem_nil,or_false] at q
 rcases q with q|q
 ·exact absurd (Heap.lt_size e) (by rw [q];exact Nat.lt_irrefl _)
 ·exact hc q
end
theorem items_rev {xs:List V}{its:List Value}{acc:Array Value}(rv:Vals xs its)(h:ItemsOf (fun i v=>its.toArray[its.toArray.size - 1 - i]? = some v) acc its.toArray.size):Vals xs.reverse acc.toList:=by
 have e:acc.toList=its.reverse:=by
  have hs:acc.size=its.length:=by simpa using h.1
  refine List.ext_getElem? fun j=>?_
  by_cases hj:j<its.length
  ·have ha:acc[j]? = some (acc[j]'(by omega)):=Array.getElem?_eq_getElem (by omega)
   have:=h.2 j _ ha
   rw [List.getElem?_reverse hj,Array.getElem?_toList,ha]
   simpa using this.symm
  ·rw [List.getElem?_eq_none (by simp;omega),List.getElem?_eq_none (by simp;omega)]
 rw [e]
 exact rv.reverse
noncomputable def tListRev (K:FZ9)(ta:TA):TE:=fun σ H Q=>ta σ H fun us H1=>∃ (a:Addr) (xs:List V),us=[.ref a]/\SqL K H1 a xs/\∀ p,H1 p=none->Q (.ref p) (upd H1 p (.lst xs.reverse))
theorem pe_listRev {X:Cx}{K:FZ9}{a:Expr}{ta:TA}{p p2 pos pos2:Pos}(hc:X.calm=true)(hK:X.K=K)(hg:Gl X "list")(hm:X.mg "list" = none)(hg2:Gl X "reversed")(hm2:X.mg "reversed" = none)(ha:PA X [a] ta)
  (hs:starEach [a] X.env=[(false,eval a X.env)]:=by rfl)
  (hs3:starEach [.Call (.Name "reversed" p2) [a] [] pos2] X.env=[(false,eval (.Call (.Name "reversed" p2) [a] [] pos2) X.env)]:=by rfl) :
  PE X (.Call (.Name "list" p) [.Call (.Name "reversed" p2) [a] [] pos2] [] pos) (tListRev K ta):=by
 subst hK
 intro pins s σ H R I h
 refine Call_ (Ex I hg hm bt_list (PyProof.Rows.callWith_type1 ?_ (by rw [hs3];rfl) rfl))
 rw [hs3]
 refine Calls.spliced_cons ?_
 refine Call_ (Ex I hg2 hm2 boot_reversed (PyProof.Rows.callWith_type1 (thn (ha pos2 pins s σ H _ I h) fun us s1 ⟨vs,H1,I1,r1,q1⟩=>?_) (by rw [hs];rfl) (by rfl)))
 obtain ⟨l,xs,e,hq,q⟩:=q1
 subst e
 obtain ⟨u1,rfl,r1q⟩:=FJ r1
 obtain rfl:u1=Value.ref l:=r1q
 obtain ⟨its,rv,pl,hz⟩:=I1.list hq
 have hl:=rv.length
 refine call_reversed_list pl.isList ?_
 refine Calls.spliced_nil ?_
 have st:(s1.heap.push (revObj l ((its.toArray.size:Int) - 1))).IsRevIter s1.heap.objs.size l ((its.toArray.size:Int) - 1):=⟨_,Heap.get?_push_size _ rfl,rfl,rfl⟩
 refine call_listOfRev (s:={ s1 with heap:=s1.heap.push (revObj l ((its.toArray.size:Int) - 1)) }) (I1.ok.hd hc) st (pl.isList.push _) (by simp only [List.size_toArray];omega) fun h' tk acc c k1 k2 k3=>?_
 have kp:∀ b o,s1.heap.get? b=some o->h'.get? b=some o:=fun b o e=>k1 b o (Nat.ne_of_lt (Heap.lt_size e)) (Heap.get?_push_of_some _ e)
 have sz:(s1.heap.push (revObj l ((its.toArray.size:Int) - 1))).objs.size=s1.heap.objs.size+1:=Heap.size_push ..
 exact ⟨.ref (s1.heap.push (revObj l ((its.toArray.size:Int) - 1))).objs.size,_,I1.laid (t':=tk) kp (by rw [sz];exact Nat.le_succ _) (show ObjOk X.prog X.w _ _ _ (.lst xs.reverse) from ⟨by rw [List.length_reverse];exact hz,acc.toList,c,items_rev rv k3,by simpa [LObj] using k2⟩),rfl,q _ (I1.hok.fresh (by rw [sz];exact Nat.le_succ _))⟩
section
variable {K:FZ9}{σ:St}{G:Hp}{α:Type}[Rp α]{ta tb:TE}
theorem fv_listRev {la:Option (List α)}(ea:EV K ta σ G la):FV K (tListRev K (B0 ta D0)) σ G (la.bind fun a=>some a.reverse):=by
 intro G1 s1 c hc H sH Q k
 obtain ⟨a,ha,hc⟩:=Option.bind_eq_some_iff.mp hc
 cases hc
 refine ea G1 s1 a ha H sH _ fun v G2 H2 x2 r2=>?_
 obtain ⟨l,xs,rfl,h,z,p⟩:=r2
 refine ⟨l,xs,rfl,.inl (x2.gh.rd h),fun t ht=>?_⟩
 have x5:Ext G2 H2 G2 (upd H2 t (.lst xs.reverse)):=.own x2.gh ht
 refine k t xs.reverse _ _ (x2.trans x5) (x2.hh.free ht) ?_ AM (by rw [List.length_reverse];exact z) (Paired.rev p)
 cases e:G2 t with
 | none=>rfl
 | some o =>
  have:=x2.gh t o e
  rw [ht] at this
  cases this
end
section
variable {prog:Program}{w:World}{A:Around}{E:Value->Shared->Prop}{s:Shared}
end
section
variable {K:FZ9}{σ:St}{G:Hp}{α:Type}[Rp α]{ta tb:TE}
end
section
variable {K:FZ9}{σ:St}{G:Hp}{ta tb:TE}
end
noncomputable def siN:SI->Nt
 | .s x=>.txt x
 | .i n=>.int n
section
variable {K:FZ9}{σ:St}{G:Hp}{te ta tb:TE}
theorem fv_lstR1 {ia:Option Int}(ea:EV K ta σ G ia):FV K (tCB rLstR (B0 (tCB rRng1 (B0 ta D0)) D0)) σ G (ia.bind fun j=>EH 0 j):=by
 intro G1 s1 c hc H sH Q k
 obtain ⟨j,hj,hc⟩:=Option.bind_eq_some_iff.mp hc
 obtain ⟨hb,rfl⟩:=BC hc
 refine ea G1 s1 j hj H sH _ fun v G2 H2 x2 r2=>?_
 cases r2
 refine ⟨j,rfl,fun p hp=>⟨p,0,j,rfl,AM,hb,fun t ht=>?_⟩⟩
 have x4:Ext G2 H2 G2 (upd H2 p (.rng 0 j)):=.own x2.gh hp
 have x5:Ext G2 (upd H2 p (.rng 0 j)) G2 (upd (upd H2 p (.rng 0 j)) t (.lst (Gj 0 j))):=.own x4.gh ht
 have y:=(x2.trans x4).trans x5
 refine k t (Gj 0 j) _ _ y ((x2.trans x4).hh.free ht) ?_ AM (by rw [ints_length];exact hb.2) (Ec _ (fun n=>(0:Int)+(n:Int)) _)
 exact (x2.trans x4).gh.free ht
end
section
variable {K:FZ9}{σ:St}{G:Hp}{te ta:TE}
end
section
variable {K:FZ9}{σ:St}{G H:Hp}{α:Type}[Rp α]{tk:TE}{rest:TS}{D:Ends}{i:Nat}{b:Tp α}{as as':List α}{v:V}{p:Addr}{vs:List V}
end
section
variable {κ:PyProof.Rows.KeyKind}
noncomputable def ky (κ:PyProof.Rows.KeyKind)(p:Keyed):κ.α:=(κ.keyOf p.1).getD κ.dflt
variable {prog:Program}{w:World}{A:Around}{E:Value->Shared->Prop}{s:Shared}
end
section
variable {κ:PyProof.Rows.KeyKind}
noncomputable def kl (κ:PyProof.Rows.KeyKind)(x y:Keyed):Prop:=κ.kle (ky κ x) (ky κ y)
end
noncomputable def sg (st:SortSt)(g:Nat):SortSt:=SortSt.mk' (kindOf st) (arrOf st) (pendingOf st) g (failedOf st)
section
variable {κ:PyProof.Rows.KeyKind}{prog:Program}{w:World}{A:Around}{E:Value->Shared->Prop}{s:Shared}
variable {a b out:Array Keyed}{ia ib:Nat}
end
end L2
set_option maxHeartbeats 2000000
namespace L2
open PySem PySem.Spec PyProof.Rows
section
variable {κ:PyProof.Rows.KeyKind}{prog:Program}{w:World}{A:Around}{E:Value->Shared->Prop}{s:Shared}
end
end L2
set_option maxHeartbeats 2000000
namespace L2
open PySem PySem.Spec PyProof.Rows
section
variable {κ:PyProof.Rows.KeyKind}{prog:Program}{w:World}{A:Around}{E:Value->Shared->Prop}{s:Shared}
variable {a b out:Array Keyed}
end
end L2
set_option maxHeartbeats 2000000
namespace L2
open PySem PySem.Spec PyProof.Rows
section
variable {κ:PyProof.Rows.KeyKind}{prog:Program}{w:World}{A:Around}{E:Value->Shared->Prop}{s:Shared}
end
end L2
set_option maxHeartbeats 2000000
namespace L2
open PySem PySem.Spec PyProof.Rows
section
variable {κ:PyProof.Rows.KeyKind}{prog:Program}{w:World}{A:Around}{E:Value->Shared->Prop}{s:Shared}
end
end L2
set_option maxHeartbeats 2000000
namespace L2
open PySem PySem.Spec PyProof.Rows
section
variable {κ:PyProof.Rows.KeyKind}{prog:Program}{w:World}{A:Around}{E:Value->Shared->Prop}{s:Shared}
end
end L2
set_option maxHeartbeats 2000000
namespace L2
open PySem PySem.Spec PyProof.Rows
section
variable {κ:PyProof.Rows.KeyKind}{prog:Program}{w:World}{A:Around}{E:Value->Shared->Prop}{s:Shared}
end
end L2
set_option maxHeartbeats 2000000
namespace L2
open PySem PySem.Spec PyProof.Rows
section
variable {κ:PyProof.Rows.KeyKind}{prog:Program}{w:World}{A:Around}{E:Value->Shared->Prop}{s:Shared}
end
end L2
set_option maxHeartbeats 2000000
namespace L2
open PySem PySem.Spec PyProof.Rows
section
variable {κ:PyProof.Rows.KeyKind}{prog:Program}{w:World}{A:Around}{E:Value->Shared->Prop}{s:Shared}
noncomputable abbrev mk (X:Array Keyed)(p:Array (Nat × Nat × Nat))(g:Nat):SortSt:=SortSt.mk' oneType' X p g none
end
end L2
set_option maxHeartbeats 2000000
namespace L2
open PySem PySem.Spec PyProof.Rows
section
variable {κ:PyProof.Rows.KeyKind}{prog:Program}{w:World}{A:Around}{E:Value->Shared->Prop}{s:Shared}
end
end L2
set_option maxHeartbeats 2000000
namespace L2
open PySem PySem.Spec PyProof.Rows
section
variable {κ:PyProof.Rows.KeyKind}{prog:Program}{w:World}{A:Around}{E:Value->Shared->Prop}{s:Shared}
end
section
variable {K:FZ9}{σ:St}{G:Hp}{ta:TE}
end
section
variable {prog:Program}{w:World}{A:Around}{E:Value->Shared->Prop}{s:Shared}{a:Addr}
end
section
variable {K:FZ9}{σ:St}{G:Hp}{ta tb:TE}{w:World}
end
section
variable {K:FZ9}{σ:St}{G:Hp}{ta:TE}{w:World}
end
structure MpR (α:Type) where
 l:List (Rk × α)
section
variable {K:FZ9}{σ:St}{G H G1 H1 G0 H0:Hp}{α β:Type}[Rp α][Rp β]{td te ti:TE}{rest:TS}{D:Ends}{i:Nat}{a:MpR α}{v:V}{p q:Addr}{kvs:List (List Key × V)}
end
section
variable {X:Cx}{i o:Expr}{ty td:TE}{pos:Pos}
theorem pt_cmpDN (hu:X.A.units+1<cLine)(hi:PE X i ty)(ho:PE X o td)(hm:behindInMarks .NotIn o=false):PT X (.Compare i [.NotIn] [o] pos) (tTest (tDNotIn ty td)):=pt_cmp (pc_dnotin hu hi ho) hm
end
section
variable {K:FZ9}{σ:St}{G H:Hp}{α β γ δ:Type}[Rp α][Rp β][Rp γ][Rp δ]{rest:TS}{D:Ends}{i j:Nat}{v:V}{p:Addr}{vs:List V}{as:List α}{t1 t2:TE}{ta:TA}
end
section
variable (nf:Rk->List Rk->Int->Option (Option Int))(rows:List Rk)
end
noncomputable def cv:Option Addr->V
 | none=>.non
 | some q=>.ref q
class RpC (γ:Type) [Rp γ] where
 P:FZ9->Hp->HO->γ->Prop
 mono:∀ {K:FZ9}{G G':Hp}{ho:HO}{a:γ},Same G G'->P K G ho a->P K G' ho a
 rel:∀ {K:FZ9}{G:Hp}{ho:HO}{a:γ}{q:Addr},P K G ho a->G q=some ho->Rp.rel K G (.ref q) a
noncomputable instance rcList {α:Type}[Rp α]:RpC (List α) :=
 ⟨fun K G ho as=>∃ vs,ho = .lst vs/\vs.length<=sizeLine/\Paired (Rp.rel K G) vs as,fun s ⟨vs,e,z,p⟩=>⟨vs,e,z,Paired.imp' (fun _ _ r=>Rp.mono s r) p⟩,
  fun ⟨vs,e,z,p⟩ h=>⟨_,vs,rfl,.inl (by rw [h,e]),z,p⟩⟩
noncomputable instance rcMp {α:Type}[Rp α]:RpC (Mp α) :=
 ⟨fun K G ho a=>∃ kvs,ho = .dK kvs/\Paired (Gu K G) kvs a.l,fun s ⟨vs,e,p⟩=>⟨vs,e,Paired.imp' (fun _ _ r=>⟨r.1,Rp.mono s r.2⟩) p⟩,
  fun ⟨vs,e,p⟩ h=>⟨_,vs,rfl,by rw [h,e],p⟩⟩
noncomputable def CellR (K:FZ9){γ:Type}[Rp γ][RpC γ](G H:Hp):Option Addr->Option γ->Prop
 | none,none=>True
 | some q,some x=>G q=none/\∃ ho,H q=some ho/\RpC.P K G ho x
 | _,_=>False
structure OwnC (K:FZ9){γ:Type}[Rp γ][RpC γ](H0 G H:Hp)(v:V)(p:Addr)(cs:List (Option Addr))(as:List (Option γ)):Prop where
 v:v = .ref p
 g:G p=none
 h:H p=some (.lst (cs.map cv))
 z:cs.length<=sizeLine
 h0:H0 p=none
 c0:∀ q,some q∈cs->H0 q=none/\q≠p
 nd:∀ (i j:Nat) q,cs[i]? = some (some q)->cs[j]? = some (some q)->i=j
 p:Paired (CellR K G H) cs as
noncomputable def GY (G H:Hp)(C:List Addr):Hp:=fun b=>if b∈C then H b else G b
noncomputable def FI (p:Addr)(cs:List (Option Addr)):List Addr:=p::cs.filterMap id
theorem mem_addrs {p b:Addr}{cs:List (Option Addr)}:b∈FI p cs ↔ b=p\/some b∈cs:=by
 unfold FI
 rw [List.mem_cons,List.mem_filterMap]
 constructor
 ·rintro (h | ⟨a,h1,h2⟩)
  ·exact .inl h
  ·exact .inr (by rw [<- h2];exact h1)
 ·rintro (h|h)
  ·exact .inl h
  ·exact .inr ⟨some b,h,rfl⟩
section
variable {K:FZ9}{σ:St}{G H G1 H1 G0 H0:Hp}{γ α β:Type}[Rp γ][RpC γ][Rp α][Rp β]{t1 t2 te ti tk:TE}{rest:TS}{D:Ends}{i:Nat}{v:V}{p:Addr}{cs:List (Option Addr)}{as:List (Option γ)}
theorem nn_map {G:Hp}{v:V}{a:Mp α}(h:Rp.rel K G v a):v ≠ .non:=by obtain ⟨_,_,rfl,_⟩:=h;exact fun z=>nomatch z
theorem cells_at:∀ {cs:List (Option Addr)}{as:List (Option γ)}{j:Nat}{c:Option Addr},Paired (CellR K G H) cs as->cs[j]? = some c->∃ a,as[j]? = some a/\CellR K G H c a
 | _,_,_,_,.nil,e=>by simp at e
 | _,_,0,_,.cons r _,e=>by simp at e;subst e;exact ⟨_,rfl,r⟩
 | _,_,j+1,_,.cons _ t,e=>cells_at (j:=j) t (by simpa using e)
theorem cells_at' {a:Option γ}:∀ {cs:List (Option Addr)}{as:List (Option γ)}{j:Nat},Paired (CellR K G H) cs as->as[j]? = some a->∃ c,cs[j]? = some c/\CellR K G H c a
 | _,_,_,.nil,e=>by simp at e
 | _,_,0,.cons r _,e=>by simp at e;subst e;exact ⟨_,rfl,r⟩
 | _,_,j+1,.cons _ t,e=>cells_at' (j:=j) t (by simpa using e)
theorem OwnC.cell (o:OwnC K H0 G H v p cs as){q:Addr}(h:some q∈cs):G q=none/\H q≠none:=by
 obtain ⟨j,hj⟩:=List.mem_iff_getElem?.mp h
 obtain ⟨a,_,r⟩:=cells_at o.p hj
 cases a with
 | none=>exact r.elim
 | some a =>
  obtain ⟨g,ho,hh,_⟩:=r
  exact ⟨g,by rw [hh];exact fun z=>nomatch z⟩
theorem OwnC.gC (o:OwnC K H0 G H v p cs as){b:Addr}(h:b∈FI p cs):G b=none:=by
 rcases mem_addrs.mp h with rfl|h
 ·exact o.g
 ·exact (o.cell h).1
theorem OwnC.zC (o:OwnC K H0 G H v p cs as){b:Addr}(h:b∈FI p cs):H0 b=none:=by
 rcases mem_addrs.mp h with rfl|h
 ·exact o.h0
 ·exact (o.c0 _ h).1
theorem CellR.imp {c:Option Addr}{a:Option γ}(sg:Same G G1)(hg:∀ q,c=some q->G q=none->G1 q=none)(hh:∀ q ho,c=some q->H q=some ho->H1 q=some ho)(r:CellR K G H c a):CellR K G1 H1 c a:=by
 cases c with
 | none=>cases a with
  | none=>trivial
  | some a=>exact r.elim
 | some q=>cases a with
  | none=>exact r.elim
  | some a =>
   obtain ⟨g,ho,e,pp⟩:=r
   exact ⟨hg q rfl g,ho,hh q ho rfl e,RpC.mono sg pp⟩
theorem pimp {F F':Option Addr->Option γ->Prop}:∀ {cs:List (Option Addr)}{as:List (Option γ)},(∀ c a,c∈cs->F c a->F' c a)->Paired F cs as->Paired F' cs as
 | _,_,_,.nil=>.nil
 | _,_,h,.cons r t=>.cons (h _ _ (List.mem_cons_self ..) r) (pimp (fun c a hc=>h c a (List.mem_cons_of_mem _ hc)) t)
theorem OwnC.ext (o:OwnC K H0 G H v p cs as)(x:Ext G H G1 H1):OwnC K H0 G1 H1 v p cs as :=
 ⟨o.v,x.no p o.g (by rw [o.h];exact fun z=>nomatch z),x.hh _ _ o.h,o.z,o.h0,o.c0,o.nd,
  pimp (fun c a hc r=>r.imp x.gg (fun q e g=>x.no q g (o.cell (e ▸ hc)).2) (fun q ho _ e=>x.hh _ _ e)) o.p⟩
theorem OwnC.up (o:OwnC K H0 G H v p cs as):Same G (GY G H (FI p cs)):=fun b u e=>by
 unfold GY
 rw [if_neg (fun hb=>by rw [o.gC hb] at e;cases e)]
 exact e
theorem OwnC.sm (o:OwnC K H0 G H v p cs as)(s:Same G H):Same (GY G H (FI p cs)) H:=fun b u e=>by
 unfold GY at e
 split at e
 ·exact e
 ·exact s _ _ e
theorem OwnC.frz (o:OwnC K H0 G H v p cs as)(x:Ext G0 H0 G H):Ext G0 H0 (GY G H (FI p cs)) H :=
 ⟨x.gg.trans o.up,o.sm x.gh,x.hh,fun b h1 h2=>by
  unfold GY
  rw [if_neg (fun hb=>h2 (o.zC hb))]
  exact x.no b h1 h2⟩
theorem OwnC.pv (o:OwnC K H0 G H v p cs as):Paired (Rp.rel K (GY G H (FI p cs))) (cs.map cv) as:=by
 have key:∀ (cs':List (Option Addr)) (as':List (Option γ)),(∀ c∈cs',c∈cs)->Paired (CellR K G H) cs' as'->Paired (Rp.rel K (GY G H (FI p cs))) (cs'.map cv) as':=by
  intro cs' as' hs pr
  induction pr with
  | nil=>exact .nil
  | @cons c a cs2 as2 r t ih =>
   refine .cons ?_ (ih fun c hc=>hs c (List.mem_cons_of_mem _ hc))
   cases c with
   | none=>cases a with
    | none=>exact (rfl:V.non=V.non)
    | some a=>exact r.elim
   | some q=>cases a with
    | none=>exact r.elim
    | some a =>
     obtain ⟨g,ho,e,pp⟩:=r
     have hq:GY G H (FI p cs) q=some ho:=by
      unfold GY
      rw [if_pos (mem_addrs.mpr (.inr (hs _ (List.mem_cons_self ..))))]
      exact e
     exact (RpC.rel (a:=a) (RpC.mono o.up pp) hq:Rp.rel K _ (V.ref q) a)
 exact key cs as (fun _ h=>h) o.p
theorem OwnC.tell (o:OwnC K H0 G H v p cs as):Rp.rel K (GY G H (FI p cs)) v as:=by
 refine ⟨p,cs.map cv,o.v,.inl ?_,by rw [List.length_map];exact o.z,o.pv⟩
 unfold GY
 rw [if_pos (mem_addrs.mpr (.inl rfl))]
 exact o.h
theorem paired_somes {G:Hp}:∀ {xs:List V}{ls:List γ},Paired (Rp.rel K G) xs (ls.map some)->Paired (Rp.rel K G) xs ls
 | [],[],_=>.nil
 | _::_,_::_,.cons r t=>.cons r (paired_somes t)
theorem OwnC.tellL {ls:List γ}(o:OwnC K H0 G H v p cs (ls.map some)):Rp.rel K (GY G H (FI p cs)) v ls:=by
 obtain ⟨l,xs,e,h,z,pr⟩:=o.tell
 exact ⟨l,xs,e,h,z,paired_somes pr⟩
theorem OwnC.cellput {j:Nat}{q:Addr}{ho ho':HO}{a:γ}(o:OwnC K H0 G H v p cs as)(hj:cs[j]? = some (some q))(hp:RpC.P K G ho' a):OwnC K H0 G (upd H q ho') v p cs (as.set j (some a)):=by
 have hm:some q∈cs:=List.mem_of_getElem? hj
 have np:=(o.c0 q hm).2
 refine ⟨o.v,o.g,by rw [Aq (Ne.symm np)];exact o.h,o.z,o.h0,o.c0,o.nd,?_⟩
 have key:∀ (cs':List (Option Addr)) (as':List (Option γ)) (n:Nat),(∀ i,cs'[i]? = cs[n+i]?)->Paired (CellR K G H) cs' as'->∀ m,m+n=j\/(j<n/\cs'.length<=m)->Paired (CellR K G (upd H q ho')) cs' (as'.set m (some a)):=by
  intro cs' as' n hs pr
  induction pr generalizing n with
  | nil=>intro m _;exact .nil
  | @cons c x cs2 as2 r t ih =>
   intro m hm'
   have hc:cs[n]? = some c:=by have:=hs 0;simpa using this.symm
   have hs2:∀ i,cs2[i]? = cs[n+1+i]?:=fun i=>by
    have:=hs (i+1)
    rw [List.getElem?_cons_succ] at this
    rw [this]
    congr 1
    omega
   have other:n≠j->CellR K G (upd H q ho') c x:=fun hne=>by
    refine r.imp (.refl _) (fun _ _ g=>g) fun b u e hb=>?_
    rw [Aq (fun z=>hne (o.nd n j q (by rw [hc,e,z]) hj))]
    exact hb
   cases m with
   | zero =>
    rcases hm' with hm' | ⟨_,hl⟩
    ·have hn:n=j:=by omega
     subst hn
     rw [hj] at hc
     cases hc
     rw [List.set_cons_zero]
     refine .cons ?_ ?_
     ·cases x with
      | none=>exact r.elim
      | some x=>exact ⟨r.1,ho',AM,hp⟩
     ·have hl:(as2.set as2.length (some a))=as2:=List.set_eq_of_length_le (Nat.le_refl _)
      have:=ih (n+1) hs2 as2.length (.inr ⟨by omega,by rw [Paired.length t];exact Nat.le_refl _⟩)
      rw [hl] at this
      exact this
    ·rw [List.length_cons] at hl
     omega
   | succ m =>
    rw [List.set_cons_succ]
    rcases hm' with hm' | ⟨h1,hl⟩
    ·exact .cons (other (by omega)) (ih (n+1) hs2 m (.inl (by omega)))
    ·rw [List.length_cons] at hl
     exact .cons (other (by omega)) (ih (n+1) hs2 m (.inr ⟨by omega,by omega⟩))
 exact key cs as 0 (fun i=>by rw [Nat.zero_add]) o.p j (.inl (by omega))
theorem Ext.putC (x:Ext G0 H0 G H)(o:OwnC K H0 G H v p cs as){q:Addr}{ho:HO}(hq:some q∈cs):Ext G0 H0 G (upd H q ho):=x.put (o.c0 q hq).1 (o.cell hq).1
end
section
variable {K:FZ9}{σ:St}{G H G1 H1 G0 H0:Hp}{γ α β:Type}[Rp γ][RpC γ][Rp α][Rp β]{t1 t2 te ti tk:TE}{rest:TS}{D:Ends}{i:Nat}{v:V}{p:Addr}{cs:List (Option Addr)}
theorem sv_ownL {cap:List Nat}{wi:TI}{mi:Option (List α)}{ls:List α}{r:List (List β)}(ei:IW K wi σ G mi)(hm:mi=some ls)(hr:r=ls.map fun _=>([]:List β))(xt:Ext G0 H0 G H)
  (k:∀ p cs G2 H2,Ext G H G2 H2->OwnC K H0 G2 H2 (.ref p) p cs (r.map some)->rest D (σ.set i (some (.ref p))) H2):DA (Fn (tComp cap wi Gw (tLst D0)) (C5 i)) rest D σ H:=by
 subst hr
 refine ei G (.refl G) ls hm H xt.gh _ fun J vs Ga Ha xa Y hz pr p hp=>?_
 have hla:=Paired.length pr
 refine ⟨fun i m ys H2=>m=vs.length - i/\i<=vs.length/\∃ cs,ys=cs.map cv/\cs.length=i/\Ext Ga Ha Ga H2/\OwnC K H0 Ga H2 (.ref p) p cs ((List.replicate i ([]:List β)).map some),
  ⟨vs.length,by simp,Nat.zero_le _,[],rfl,rfl,.own xa.gh hp,⟨rfl,xa.gh.free hp,AM,Nat.zero_le _,(xt.trans xa).hh.free hp,fun q h=>(nomatch h),fun i j q h=>by simp at h,.nil⟩⟩,?_⟩
 rintro i m ys H2 ⟨rfl,hi,cs,rfl,hc,x2,o2⟩
 by_cases hlt:i<vs.length
 ·refine .inr ⟨Y.go i _ x2.gh hlt,fun ys' H'=>∃ cs,ys'=cs.map cv/\cs.length=i+1/\Ext Ga Ha Ga H'/\OwnC K H0 Ga H' (.ref p) p cs ((List.replicate (i+1) ([]:List β)).map some),
   fun ys' H' ⟨cs',h⟩=>⟨vs.length - (i+1),by omega,rfl,hlt,cs',h⟩,fun x H3 y=>?_⟩
  obtain ⟨rfl,hx⟩:=Y.yld i _ x H3 x2.gh hlt y
  unfold Gw
  try dsimp only
  rw [if_pos rfl]
  refine ⟨Nat.zero_le _,fun q hq=>?_⟩
  have hqp:q≠p:=fun z=>by rw [z,o2.h] at hq;cases hq
  refine ⟨by rw [Aq (Ne.symm hqp)];exact o2.h,by rw [List.length_map];omega,cs++[some q],by rw [List.map_append];rfl,by rw [List.length_append,List.length_singleton,hc],?_⟩
  have x3:Ext Ga Ha Ga (upd H3 q (.lst [])):=x2.trans (.own x2.gh hq)
  have x4:Ext Ga Ha Ga (upd (upd H3 q (.lst [])) p (.lst (cs.map cv++[.ref q]))):=x3.put hp o2.g
  have h0q:H0 q=none:=((xt.trans xa).hh.trans x2.hh).free hq
  have old:∀ b,some b∈cs->b≠q:=fun b hb z=>(o2.cell hb).2 (by rw [z];exact hq)
  refine ⟨x4,rfl,o2.g,?_,?_,o2.h0,?_,?_,?_⟩
  ·rw [AM,List.map_append];rfl
  ·rw [List.length_append,List.length_singleton];omega
  ·intro b hb
   rcases List.mem_append.mp hb with hb|hb
   ·exact o2.c0 b hb
   ·cases List.mem_singleton.mp hb
    exact ⟨h0q,hqp⟩
  ·intro a b c h1 h2
   rw [List.getElem?_append] at h1 h2
   split at h1<;>split at h2
   ·exact o2.nd a b c h1 h2
   ·have:c=q:=by
     have:=List.mem_of_getElem? h2
     rw [List.mem_singleton] at this
     exact Option.some.inj this
    exact absurd this (old c (List.mem_of_getElem? h1))
   ·have:c=q:=by
     have:=List.mem_of_getElem? h1
     rw [List.mem_singleton] at this
     exact Option.some.inj this
    exact absurd this (old c (List.mem_of_getElem? h2))
   ·have e1:=(List.getElem?_eq_some_iff.mp h1).1
    have e2:=(List.getElem?_eq_some_iff.mp h2).1
    rw [List.length_singleton] at e1 e2
    omega
  ·rw [List.replicate_succ',List.map_append]
   refine Paired.app (pimp (fun c a hc r=>r.imp (.refl _) (fun _ _ g=>g) fun b u e hb=>?_) o2.p) (.cons ⟨xa.gh.free (x2.hh.free hq),.lst [],?_,[],rfl,Nat.zero_le _,.nil⟩ .nil)
   ·rw [Aq hqp,AM]
   ·subst e
    rw [Aq (o2.c0 b hc).2,Aq (old b hc)]
    exact hb
 ·have e:i=vs.length:=by omega
  subst e
  have hr:List.replicate vs.length ([]:List β)=ls.map fun _=>([]:List β):=by
   rw [List.map_const',hla]
  rw [hr] at o2
  exact .inl ⟨Y.stop _ x2.gh,k p cs Ga H2 (xa.trans x2) o2⟩
theorem sv_ownD {cap:List Nat}{wi:TI}{mi:Option (List α)}{ls:List α}{r:List (Option γ)}(ei:IW K wi σ G mi)(hm:mi=some ls)(hr:r=ls.map fun _=>(none:Option γ))(xt:Ext G0 H0 G H)
  (k:∀ p cs G2 H2,Ext G H G2 H2->OwnC K H0 G2 H2 (.ref p) p cs r->rest D (σ.set i (some (.ref p))) H2):DA (Fn (tComp cap wi Gw (tC .non)) (C5 i)) rest D σ H:=by
 subst hr
 have e:=D2 (cap:=cap) (fe:=fun _=>some (none:Option γ)) ei fun x a G1 s r=>Dw
 have hmm:∀ l:List α,D1 (fun _=>some (none:Option γ)) l=some (l.map fun _=>(none:Option γ)):=by
  intro l
  induction l with
  | nil=>rfl
  | cons a l ih =>
   show ((D1 (fun _=>some (none:Option γ)) l).bind fun ys=>some (none::ys))=_
   rw [ih]
   rfl
 refine e G (.refl G) (ls.map fun _=>(none:Option γ)) (by rw [hm];exact hmm ls) H xt.gh _ fun p vs G2 H2 x2 h0 hg hh hz hp=>?_
 have hv:vs=(List.replicate ls.length (none:Option Addr)).map cv:=by
  rw [List.map_replicate]
  have key:∀ (vs:List V) (l:List α),Paired (Rp.rel K G2) vs (l.map fun _=>(none:Option γ))->vs=List.replicate l.length (cv none):=by
   intro vs l
   induction l generalizing vs with
   | nil=>intro h;cases h;rfl
   | cons a l ih =>
    intro h
    rw [List.map_cons] at h
    cases h with
    | cons r t =>
     have r:_=V.non:=r
     rw [r,ih _ t,List.length_cons,List.replicate_succ]
     rfl
  exact key vs ls hp
 subst hv
 refine k p (List.replicate ls.length none) G2 H2 x2 ⟨rfl,hg,hh,by rw [List.length_map] at hz;exact hz,xt.hh.free h0,?_,?_,?_⟩
 ·intro q hq
  cases List.eq_of_mem_replicate hq
 ·intro a b q h1
  cases List.eq_of_mem_replicate (List.mem_of_getElem? h1)
 ·rw [List.map_const']
  generalize ls.length=n
  induction n with
  | zero=>exact .nil
  | succ n ih=>exact .cons trivial ih
noncomputable def appAt {α:Type}(as:List (List α))(k:Int)(a:α):Option (List (List α)):=(ixN as.length k).bind fun j=>as[j]?.bind fun l=>(Ds l a).bind fun l'=>some (as.set j l')
theorem atI_cell {ls:List γ}{j:Nat}{k:Int}{l:γ}(o:OwnC K H0 G H v p cs (ls.map some))(hj:ixN ls.length k=some j)(hl:ls[j]? = some l):∃ q ho,cs[j]? = some (some q)/\atI (cs.map cv) k=some (.ref q)/\G q=none/\H q=some ho/\RpC.P K G ho l:=by
 have hlen:=Paired.length o.p
 rw [List.length_map] at hlen
 obtain ⟨c,hc,r⟩:=cells_at' o.p (show (ls.map some)[j]? = some (some l) by rw [List.getElem?_map,hl];rfl)
 cases c with
 | none=>exact r.elim
 | some q =>
  obtain ⟨g,ho,e,pp⟩:=r
  refine ⟨q,ho,hc,?_,g,e,pp⟩
  unfold atI
  rw [List.length_map,hlen,hj]
  show (cs.map cv)[j]? = _
  rw [List.getElem?_map,hc]
  rfl
theorem sv_appAt {ls ls':List (List α)}{m1:Option Int}{k1:Int}{m2:Option α}{a:α}(hσ:σ[i]? = some (some v))(o:OwnC K H0 G H v p cs (ls.map some))(e1:EV K t1 σ G m1)(h1:m1=some k1)(e2:EV K t2 σ G m2)(h2:m2=some a)(hs:appAt ls k1 a=some ls')(xt:Ext G0 H0 G H)
  (k:∀ G2 H2 H3,Ext G H G2 H2->Ext G0 H0 G2 H3->OwnC K H0 G2 H3 v p cs (ls'.map some)->rest D σ H3):DA (Gm (tBM K "list" GT (tOp (rAt K) (FR i) t1) (B0 t2 D0))) rest D σ H:=by
 obtain ⟨j,hj,hs⟩:=Option.bind_eq_some_iff.mp hs
 obtain ⟨l,hl,hs⟩:=Option.bind_eq_some_iff.mp hs
 obtain ⟨l',hl',hs⟩:=Option.bind_eq_some_iff.mp hs
 cases hs
 obtain ⟨hz,rfl⟩:=BC hl'
 have ov:=o.v
 subst ov
 refine ⟨_,hσ,?_⟩
 refine e1.run h1 xt.gh fun v1 G1 H1 x1 r1=>?_
 cases r1
 have o1:=o.ext x1
 obtain ⟨q,ho,hc,hat,gq,hq,vs,rfl,z,pr⟩:=atI_cell o1 hj hl
 refine .inl ⟨cs.map cv,.ref q,SqL.of o1.h,hat,?_⟩
 refine ⟨.inl ⟨rfl,vs,SqL.of hq⟩,?_⟩
 refine e2 G1 x1.gg a h2 H1 x1.gh _ fun w G2 H2 x2 r2=>?_
 have o2:=o1.ext x2
 have hlen:=Paired.length pr
 refine ⟨q,vs,w,rfl,rfl,x2.hh _ _ hq,by omega,?_⟩
 have hm:=List.mem_of_getElem? hc
 have o3:=o2.cellput (ho:=.lst vs) (ho':=.lst (vs++[w])) (a:=l++[a]) hc ⟨vs++[w],rfl,by rw [List.length_append,List.length_singleton];omega,Paired.app (Paired.imp' (fun _ _ r=>Rp.mono x2.gg r) pr) (.cons r2 .nil)⟩
 refine k G2 H2 _ (x1.trans x2) ((xt.trans (x1.trans x2)).putC o2 hm) ?_
 rw [List.map_set]
 exact o3
theorem sv_dnewAt {as as':List (Option (Mp α))}{m1:Option Int}{k1:Int}(hσ:σ[i]? = some (some v))(o:OwnC K H0 G H v p cs as)(e1:EV K t1 σ G m1)(h1:m1=some k1)(hs:Fw as k1 (some (Mp.mk []))=some as')(xt:Ext G0 H0 G H)
  (k:∀ G2 H2 H3 cs',Ext G H G2 H2->Ext G0 H0 G2 H3->OwnC K H0 G2 H3 v p cs' as'->rest D σ H3):DA (Fn tDNewK (gSub (FR i) t1 rSetL)) rest D σ H:=by
 obtain ⟨j,hj,hs⟩:=Option.bind_eq_some_iff.mp hs
 cases hs
 intro q hq
 have ov:=o.v
 subst ov
 refine ⟨_,hσ,?_⟩
 have x0:Ext G H G (upd H q (.dK [])):=.own xt.gh hq
 refine e1 G (.refl G) k1 h1 _ x0.gh _ fun v1 G1 H1 x1 r1=>?_
 cases r1
 have x01:=x0.trans x1
 have o1:=o.ext x01
 have hq1:H1 q=some (.dK []):=x1.hh _ _ AM
 have gq1:G1 q=none:=x1.no q (xt.gh.free hq) (by rw [AM];exact fun z=>nomatch z)
 have hqp:q≠p:=fun z=>by rw [z,o.h] at hq;cases hq
 have old:∀ b,some b∈cs->b≠q:=fun b hb z=>(o.cell hb).2 (by rw [z];exact hq)
 have hlen:=Paired.length o1.p
 have hjl:j<cs.length:=by
  obtain ⟨_,hh,_⟩:=ixN_seq hj
  omega
 refine ⟨p,cs.map cv,k1,j,rfl,rfl,o1.h,by rw [List.length_map,hlen];exact hj,?_⟩
 have e:(cs.map cv).set j (.ref q)=(cs.set j (some q)).map cv:=by rw [List.map_set];rfl
 rw [e]
 refine k G1 H1 _ (cs.set j (some q)) x01 ((xt.trans x01).put o.h0 o1.g) ⟨rfl,o1.g,AM,by rw [List.length_set];exact o1.z,o.h0,?_,?_,?_⟩
 ·intro b hb
  rcases List.mem_or_eq_of_mem_set hb with hb|hb
  ·exact o.c0 b hb
  ·cases hb
   exact ⟨xt.hh.free hq,hqp⟩
 ·intro a b c ha hb
  rw [List.getElem?_set] at ha hb
  by_cases h1:j=a<;>by_cases h2:j=b
  ·omega
  ·rw [if_pos h1,if_pos (by omega)] at ha
   cases ha
   rw [if_neg h2] at hb
   exact absurd rfl (old _ (List.mem_of_getElem? hb))
  ·rw [if_pos h2,if_pos (by omega)] at hb
   cases hb
   rw [if_neg h1] at ha
   exact absurd rfl (old _ (List.mem_of_getElem? ha))
  ·rw [if_neg h1] at ha
   rw [if_neg h2] at hb
   exact o.nd a b c ha hb
 ·have key:Paired (CellR K G1 (upd H1 p (.lst ((cs.set j (some q)).map cv)))) cs as:=pimp (fun c a hc r=>r.imp (.refl _) (fun _ _ g=>g) fun b u e hb=>by
    subst e
    rw [Aq (o.c0 b hc).2]
    exact hb) o1.p
  have cell:CellR K G1 (upd H1 p (.lst ((cs.set j (some q)).map cv))) (some q) (some (Mp.mk []:Mp α)):=⟨gq1,.dK [],by rw [Aq hqp];exact hq1,[],rfl,.nil⟩
  exact Paired.st cell j key
noncomputable def putDA {α:Type}(as:List (Option (Mp α)))(k m:Int)(b:α):Option (List (Option (Mp α))):=(ixN as.length k).bind fun j=>as[j]?.bind fun o=>o.bind fun d=>(putO d m b).bind fun d'=>some (as.set j (some d'))
theorem sv_putDA {as as':List (Option (Mp α))}{m1 m2:Option Int}{k1 k2:Int}{m:Option α}{b:α}(hσ:σ[i]? = some (some v))(o:OwnC K H0 G H v p cs as)(e:EV K te σ G m)(hm:m=some b)(e1:EV K t1 σ G m1)(h1:m1=some k1)(e2:EV K t2 σ G m2)(h2:m2=some k2)(hs:putDA as k1 k2 b=some as')(xt:Ext G0 H0 G H)
  (k:∀ G2 H2 H3,Ext G H G2 H2->Ext G0 H0 G2 H3->OwnC K H0 G2 H3 v p cs as'->rest D σ H3):DA (sDPut (tOp (rAt K) (FR i) t1) t2 te) rest D σ H:=by
 obtain ⟨j,hj,hs⟩:=Option.bind_eq_some_iff.mp hs
 obtain ⟨x,hx,hs⟩:=Option.bind_eq_some_iff.mp hs
 obtain ⟨d,hd,hs⟩:=Option.bind_eq_some_iff.mp hs
 obtain ⟨d',hd',hs⟩:=Option.bind_eq_some_iff.mp hs
 cases hs
 cases hd
 obtain ⟨hz,rfl⟩:=BC hd'
 have ov:=o.v
 subst ov
 refine e.run hm xt.gh fun w G1 H1 x1 r1=>?_
 have o1:=o.ext x1
 refine ⟨_,hσ,?_⟩
 refine e1 G1 x1.gg k1 h1 H1 x1.gh _ fun v2 G2 H2 x2 r2=>?_
 cases r2
 have o2:=o1.ext x2
 have hlen:=Paired.length o2.p
 obtain ⟨c,hc,r⟩:=cells_at' o2.p hx
 cases c with
 | none=>exact r.elim
 | some q =>
  obtain ⟨g,ho,eq,kvs,rfl,pr⟩:=r
  refine .inl ⟨cs.map cv,.ref q,SqL.of o2.h,?_,?_⟩
  ·unfold atI
   rw [List.length_map,hlen,hj]
   show (cs.map cv)[j]? = _
   rw [List.getElem?_map,hc]
   rfl
  refine e2 G2 (x1.gg.trans x2.gg) k2 h2 H2 x2.gh _ fun v3 G3 H3 x3 r3=>?_
  cases r3
  have o3:=o2.ext x3
  have hlp:=Paired.length pr
  have hm:=List.mem_of_getElem? hc
  refine ⟨q,_,rfl,.inl ⟨kvs,.inl k2,x3.hh _ _ eq,rfl,by omega,rfl⟩,?_⟩
  have o4:=o3.cellput (ho:=.dK kvs) (ho':=.dK (EX kvs (.inl k2) w)) (a:=Mp.mk (Gq d.l k2 b)) hc ⟨_,rfl,paired_putM (Rp.mono (x2.gg.trans x3.gg) r1) (Paired.imp' (fun _ _ r=>⟨r.1,Rp.mono x3.gg r.2⟩) pr)⟩
  exact k G3 H3 _ ((x1.trans x2).trans x3) ((xt.trans ((x1.trans x2).trans x3)).putC o3 hm) o4
theorem sv_ownFB {δ:Type}[Rp δ][Imm δ]{vs:List V}{b:List δ}{m:Option (List δ)}{as:List β}(o:Own K G H v p vs as)(e:FV K te σ (upd G p (.lst vs)) m)(hm:m=some b)(s:Same G H)(k:∀ q ws G2 H2,Ext G H G2 H2->H q=none->Own K G2 H2 (.ref q) q ws b->rest D (σ.set i (some (.ref q))) H2):DA (Fn te (C5 i)) rest D σ H:=by
 refine e _ (.refl _) b hm H (o.same s) _ fun l ys G2 H2 x h0 hg hh hz hpr=>?_
 have gp:G2 p=some (.lst vs):=x.gg _ _ AM
 have gl:L2.del G2 p l=none:=by
  unfold L2.del
  split
  ·rfl
  ·exact hg
 exact k l ys _ H2 (x.del o.g) h0 ⟨rfl,gl,hh,hz,Paired.imp' (fun _ _ r=>Imm.del gp r) hpr⟩
theorem fv_ifx {tt:TT}{ba:Option Bool}{m1 m2:Option (List α)}(et:TV tt σ G ba)(ea:FV K t1 σ G m1)(eb:FV K t2 σ G m2):FV K (tIf tt t1 t2) σ G (ba.bind fun a=>cond a m1 m2):=by
 intro G1 s1 c hc H sH Q k
 obtain ⟨a,ha,hc⟩:=Option.bind_eq_some_iff.mp hc
 refine et G1 s1 a ha H sH _ fun G2 H2 x2=>?_
 cases a with
 | true=>exact CN (ea G2 (s1.trans x2.gg) c hc H2 x2.gh _ (FV.mono x2 k))
 | false=>exact CG (eb G2 (s1.trans x2.gg) c hc H2 x2.gh _ (FV.mono x2 k))
theorem sv_appPop {j:Nat}{u:V}{p':Addr}{vs ws:List V}{as as' bs bs':List α}{a:α}(hσ:σ[i]? = some (some v))(hσ':σ[j]? = some (some u))(o:Own K G H v p vs as)(o':Own K G H u p' ws bs)(ne:p≠p')(hp:Gs bs=some (a,bs'))(hs:Ds as a=some as')
  (k:∀ w,Own K G (upd (upd H p' (.lst ws.dropLast)) p (.lst (vs++[w]))) v p (vs++[w]) as'->Own K G (upd (upd H p' (.lst ws.dropLast)) p (.lst (vs++[w]))) u p' ws.dropLast bs'->rest D σ (upd (upd H p' (.lst ws.dropLast)) p (.lst (vs++[w])))) :
  DA (Gm (tBM K "list" GT (FR i) (B0 (tBM0 K "list" rPop (FR j)) D0))) rest D σ H:=by
 obtain ⟨hz,rfl⟩:=BC hs
 have hlen:=Paired.length o.p
 obtain ⟨rfl,og,oh,oz,op⟩:=o
 obtain ⟨rfl,og',oh',oz',op'⟩:=o'
 obtain ⟨w,hw,r,pr⟩:=Paired.last op' hp
 refine ⟨_,hσ,.inl ⟨rfl,_,SqL.of oh⟩,?_⟩
 refine ⟨_,hσ',.inl ⟨rfl,_,SqL.of oh'⟩,p',ws,w,rfl,rfl,oh',hw,?_⟩
 refine ⟨p,vs,w,rfl,rfl,by rw [Aq ne];exact oh,by omega,?_⟩
 refine k w ⟨rfl,og,AM,?_,Paired.app op (.cons r .nil)⟩ ⟨rfl,og',by rw [Aq (Ne.symm ne),AM],?_,pr⟩
 ·rw [List.length_append,List.length_singleton]
  omega
 ·rw [List.length_dropLast]
  omega
end
section
variable {K:FZ9}{σ:St}{G H:Hp}{α:Type}[Rp α]{tk te ti td:TE}{rest:TS}{D:Ends}{i:Nat}
theorem sv_ownM1 {m1:Option Int}{k1:Int}{m:Option α}{a:α}{b:Mp α}(e1:EV K tk σ G m1)(h1:m1=some k1)(e:EV K te σ G m)(hm:m=some a)(hb:(some (Mp.mk [(k1,a)]):Option (Mp α))=some b)(s:Same G H)(k:∀ p kvs G2 H2,Ext G H G2 H2->H p=none->OwnM K G2 H2 (.ref p) p kvs b->rest D (σ.set i (some (.ref p))) H2) :
  DA (Fn (tDisp [(tk,te)]) (C5 i)) rest D σ H:=by
 cases hb
 intro p hp
 have x0:Ext G H G (upd H p (.dK [])):=.own s hp
 refine e1 G (.refl G) k1 h1 _ x0.gh _ fun u G1 H1 x1 r1=>?_
 cases r1
 refine e G1 x1.gg a hm H1 x1.gh _ fun v G2 H2 x2 r2=>?_
 have x3:=(x0.trans x1).trans x2
 have hg:G2 p=none:=(x1.trans x2).no p (s.free hp) (by rw [AM];exact fun z=>nomatch z)
 refine ⟨(x1.trans x2).hh _ _ AM,[(Sum.inl k1,v)],rfl,by show 1<=15;decide,?_⟩
 exact k p _ G2 _ (x3.put hp hg) hp ⟨rfl,hg,AM,.cons ⟨rfl,r2⟩ .nil⟩
noncomputable def hasM {α:Type}(l:List (Int × α))(k:Int):Bool:=l.any fun q=>decide (q.1=k)
theorem paired_hasM {G:Hp}{k:Int}{kvs:List (Key × V)}{l:List (Int × α)}(h:Paired (Gu K G) kvs l):(GQ kvs (.inl k)).isSome=hasM l k:=by
 unfold GQ hasM
 rw [Option.isSome_map,List.isSome_find?,paired_any h]
theorem ev_notInM {md:Option (Mp α)}{mi:Option Int}(ei:EV K ti σ G mi)(ed:EV K td σ G md):EV K (tDNotIn ti td) σ G (mi.bind fun k=>md.bind fun d=>some (!hasM d.l k)):=by
 intro G1 s1 c hc H sH Q k
 obtain ⟨j,hj,hc⟩:=Option.bind_eq_some_iff.mp hc
 obtain ⟨d,hd,hc⟩:=Option.bind_eq_some_iff.mp hc
 cases hc
 refine ei G1 s1 j hj H sH _ fun u G2 H2 x2 r2=>?_
 refine ed G2 (s1.trans x2.gg) d hd H2 x2.gh _ fun v G3 H3 x3 r3=>?_
 cases r2
 obtain ⟨p,kvs,rfl,h,pr⟩:=r3
 refine ⟨p,GQ kvs (.inl j),rfl,.inl ⟨kvs,.inl j,.inl (x3.gh _ _ h),rfl,rfl⟩,?_⟩
 rw [paired_hasM pr]
 exact k _ _ _ (x2.trans x3) rfl
end
noncomputable def rExtendR:V->List V->Hp->VK->Prop:=fun x vs H Q=>∃ l b xs zs,x = .ref l/\vs=[.ref b]/\H l=some (.lst xs)/\Rd H b (.lst zs)/\xs.length+zs.length<=sizeLine/\Q .non (upd H l (.lst (xs++zs)))
theorem mt_extendR {X:Cx}:MtM X "list.extend" rExtendR:=by
 intro pins s σ H x vs v us Q I rx rv h
 obtain ⟨l,b,xs,zs,rfl,rfl,hH,hB,hz,q⟩:=h
 cases rx
 obtain ⟨u,rfl,ru⟩:=rv.one
 cases ru
 obtain ⟨z,its,n,r,hl,e⟩:=I.lstM hH
 obtain ⟨z2,its2,n2,r2,e2⟩:=hB.ok I.hok
 have hl2:=r2.length
 have hsz:its.toArray.size+its2.toArray.size<=sizeLine:=by rw [List.size_toArray,List.size_toArray];omega
 have hlong:¬ (!its.toArray.isEmpty && Builtin.List.listTooLong (its.toArray.size+its2.toArray.size))=true:=by
  rw [notLongL hsz,Bool.and_false]
  exact Bool.false_ne_true
 refine call_meets F.slot_list_extend ⟨_,e,rfl⟩ F.entry_list_extend (F.args_list_extend_2 _ _)
  (AutoSeq1.list_extend_list_list_0 l its.toArray n b its2.toArray n2 hlong (by rw [List.size_toArray];omega) (by omega)) ⟨e,e2,?_⟩
 refine ⟨.non,_,I.lset (its':=its++its2) hH e (by simp) (r.append r2) ?_,rfl,q⟩
 rw [List.length_append]
 omega
section
variable {K:FZ9}{σ:St}{G H:Hp}{α:Type}[Rp α]{te:TE}{rest:TS}{D:Ends}{i:Nat}
theorem sv_extendE {ml:Option (List α)}{as bs as':List α}{v:V}{p:Addr}{vs:List V}(hσ:σ[i]? = some (some v))(o:Own K G H v p vs as)(e:EV K te σ G ml)(hm:ml=some bs)(hp:extO as bs=some as')(s:Same G H)
  (k:∀ G2 H2 ws,Ext G H G2 H2->Own K G2 (upd H2 p (.lst (vs++ws))) v p (vs++ws) as'->rest D σ (upd H2 p (.lst (vs++ws)))):DA (Gm (tBM K "list" rExtendR (FR i) (B0 te D0))) rest D σ H:=by
 obtain ⟨hl,rfl⟩:=BC hp
 have hlen:=Paired.length o.p
 obtain ⟨rfl,og,oh,oz,op⟩:=o
 refine ⟨_,hσ,.inl ⟨rfl,_,SqL.of oh⟩,?_⟩
 refine e.run hm s fun w G2 H2 x r=>?_
 obtain ⟨q,ws,rfl,hh,hz,hpr⟩:=r
 have hlw:=Paired.length hpr
 refine ⟨p,q,vs,ws,rfl,rfl,x.hh _ _ oh,x.gh.rd hh,by omega,?_⟩
 refine k G2 H2 ws x ⟨rfl,x.no p og (by rw [oh];exact fun z=>nomatch z),AM,?_,Paired.app (Paired.imp' (fun _ _ r=>Rp.mono x.gg r) op) hpr⟩
 rw [List.length_append]
 omega
theorem OwnM.same {v:V}{p:Addr}{kvs:List (Key × V)}{a:Mp α}(o:OwnM K G H v p kvs a)(s:Same G H):Same (upd G p (.dK kvs)) H:=fun b ho e=>by
 by_cases hb:b=p
 ·subst hb
  rw [AM] at e
  cases e
  exact o.h
 ·rw [Aq hb] at e
  exact s _ _ e
theorem sv_ifM {tt:TT}{t u:TS}{v:V}{p:Addr}{kvs:List (Key × V)}{a:Mp α}{b:Bool}{m:Option Bool}(o:OwnM K G H v p kvs a)(e:TV tt σ (upd G p (.dK kvs)) m)(hm:m=some b)(s:Same G H)(k:∀ G2 H2,Ext G H G2 H2->if b=true then t { D with nx:=rest D } σ H2 else u { D with nx:=rest D } σ H2) :
  DA (tIfS tt t u) rest D σ H:=e.run hm (o.same s) fun G2 H2 x=>k (del G2 p) H2 (x.del o.g)
end
noncomputable def rLenSet (w:World):List V->Hp->VK->Prop:=fun vs H Q=>∃ (l:Addr) (ks:List Key),vs=[.ref l]/\H l=some (SetO w l ks)/\ks.length<4000/\Q (.int ks.length) H
theorem call_lenSet {X:Cx}{w:World}(hw:X.w=w):DX X (.builtin "len") (rLenSet w):=by
 subst hw
 intro pins s σ H vs us Q I r h
 obtain ⟨l,ks,rfl,hl,hz,q⟩:=h
 obtain ⟨u,rfl,ru⟩:=FJ r
 cases ru
 obtain ⟨ks',⟨o,es,ep,t,g,S⟩,pm⟩:=setO_get I.hok hl
 have e:es.size=ks.length:=S.size.trans pm.length_eq
 refine call_len_set g S.exact' S.data S.fit (by omega) ⟨.int ks.length,H,I.tok _,⟨s.toks+1,by rw [e]⟩,q⟩
noncomputable def lenSetO (ys:List Int):Option Int:=if ys.length<4000 then some ((Gp ys).length:Int) else none
section
variable {K:FZ9}{σ:St}{G:Hp}{ta:TE}{w:World}
theorem ev_lenSet {la:Option (List Int)}(ea:EV K ta σ G la):EV K (tCB (rLenSet w) (B0 (tCB (rSetK w K) (B0 ta D0)) D0)) σ G (la.bind fun ys=>lenSetO ys):=by
 intro G1 s1 c hc H sH Q k
 obtain ⟨a,ha,hc⟩:=Option.bind_eq_some_iff.mp hc
 obtain ⟨h4,rfl⟩:=BC hc
 have hl:=dedA_len a
 refine ea G1 s1 a ha H sH _ fun v G2 H2 x2 r2=>?_
 obtain ⟨l,xs,rfl,h,z,p⟩:=r2
 have e:=FD p
 subst e
 refine ⟨l,a.map Sum.inl,rfl,?_,by rw [List.length_map];exact h4,fun q hq=>?_⟩
 ·rw [<- ints_keys];exact .inl (x2.gh.rd h)
 ·rw [dedA_map inl_inj]
  refine ⟨q,(Gp a).map Sum.inl,rfl,AM,by rw [List.length_map];omega,?_⟩
  have x3:Ext G2 H2 G2 (upd H2 q (SetO w q ((Gp a).map Sum.inl))):=.own x2.gh hq
  rw [List.length_map]
  exact k _ _ _ (x2.trans x3) rfl
end
section
variable {K:FZ9}{σ:St}{G:Hp}{ta:TE}
end
noncomputable abbrev gThree (K:FZ9):TG:=gTup K 3 (FX (C5 0) (FX (C5 1) (FX (C5 2) gNil)))
theorem gat3 {K:FZ9}:GAt 3 (gThree K):=by
 intro v σ H Q h
 obtain ⟨a,xs,e,hs,hl,v0,r,e1,v1,r',e2,v2,r'',e3,e4,q⟩:=h
 refine ⟨a,xs,e,hs,hl,v0,r,e1,v1,r',e2,v2,r'',e3,e4,⟨by simp,fun j hj=>?_⟩,q⟩
 rw [List.getElem?_set,if_neg (by omega),List.getElem?_set,if_neg (by omega),List.getElem?_set,if_neg (by omega)]
section
variable {X:Cx}
theorem pg3 {scope:Scope}{x y z:Str}{px py pz pt:Pos}{k0:Nat}{cn:List Str}{C:Addr}{s:Shared}{H:Hp}{fp:List Addr}(hc:X.calm=true)(hx:scope.names.lookup x=some .local)(hy:scope.names.lookup y=some .local)(hz:scope.names.lookup z=some .local)(hnd:([x,y,z]++cn).Nodup) :
  PG (BQ X ([x,y,z]++cn) scope C s H fp) (.Tuple [.Name x px,.Name y py,.Name z pz] k0 pt) (gThree X.K):=by
 have hlx:(relabel scope X.env).names.lookup x=some .local := lookup_relabel_local hx
 have hly:(relabel scope X.env).names.lookup y=some .local := lookup_relabel_local hy
 have hlz:(relabel scope X.env).names.lookup z=some .local := lookup_relabel_local hz
 exact pg_tup rfl (CS (Ah (i:=0) hnd rfl (.inl hlx) (.inr hlx)) (CS (Ah (i:=1) hnd rfl (.inl hly) (.inr hly)) (CS (Ah (i:=2) hnd rfl (.inl hlz) (.inr hlz)) GO)))
end
section
variable {K:FZ9}{σ:St}{G:Hp}{α β γ δ:Type}[Rp α][Rp β][Rp γ][Rp δ]
theorem fv_compG {n:Nat}{cap:List Nat}{wi:TI}{g:TG}{tt:TT}{te:TE}{mi:Option (List α)}{fc:α->Option Bool}{fe:α->Option β}(ei:IW K wi σ G mi)
  (hb:∀ (x:V) (a:α) (G1 H1:Hp),Same G G1->Same G1 H1->Rp.rel K G1 x a->∃ σ2,(∀ Q:St->Hp->Prop,Q σ2 H1->g x (Cb n cap σ) H1 Q)/\TV tt σ2 G1 (fc a)/\EV K te σ2 G1 (fe a)) :
  FV K (tCompN g n cap wi tt te) σ G (mi.bind fun as=>CT fc fe as):=by
 intro G1 s1 c hc H sH Q k
 obtain ⟨as,has,hc⟩:=Option.bind_eq_some_iff.mp hc
 refine ei G1 s1 as has H sH _ fun J vs Ga Ha xa Y hz pr p hp=>?_
 have hla:=Paired.length pr
 refine ⟨fun i m ys H2=>m=vs.length - i/\i<=vs.length/\∃ G2 bs cs,Ext Ga Ha G2 H2/\G2 p=none/\H2 p=some (.lst ys)/\ys.length<=i/\Paired (Rp.rel K G2) ys bs/\CT fc fe (as.drop i)=some cs/\c=bs++cs,
  ⟨vs.length,by simp,Nat.zero_le _,Ga,[],c,.own xa.gh hp,xa.gh.free hp,AM,Nat.le_refl _,.nil,hc,rfl⟩,?_⟩
 rintro i m ys H2 ⟨rfl,hi,G2,bs,cs,x2,hg,hh,hy,hpr,hcs,rfl⟩
 by_cases hlt:i<vs.length
 ·refine .inr ⟨Y.go i _ (x2.gg.trans x2.gh) hlt,fun ys' H'=>∃ G2 bs' cs',Ext Ga Ha G2 H'/\G2 p=none/\H' p=some (.lst ys')/\ys'.length<=i+1/\Paired (Rp.rel K G2) ys' bs'/\CT fc fe (as.drop (i+1))=some cs'/\bs++cs=bs'++cs',
   fun ys' H' ⟨G3,bs',cs',h⟩=>⟨vs.length - (i+1),by omega,rfl,hlt,G3,bs',cs',h⟩,fun x H3 y=>?_⟩
  obtain ⟨rfl,hx⟩:=Y.yld i _ x H3 (x2.gg.trans x2.gh) hlt y
  obtain ⟨a,hai,ra⟩:=Paired.getR pr hx
  have hd:as.drop i=a::as.drop (i+1):=by
   obtain ⟨h1,h2⟩:=List.getElem?_eq_some_iff.mp hai
   rw [List.drop_eq_getElem_cons h1,h2]
  rw [hd] at hcs
  obtain ⟨b,hbb,hcs⟩:=Option.bind_eq_some_iff.mp hcs
  obtain ⟨σ2,hun,B1,B2⟩:=hb x a G2 _ (s1.trans (xa.gg.trans x2.gg)) x2.gh (Rp.mono x2.gg ra)
  refine hun _ ?_
  refine B1 G2 (.refl _) b hbb _ x2.gh _ fun G5 H5 x5=>?_
  have hp5:H5 p=some (.lst ys):=x5.hh _ _ hh
  have hg5:G5 p=none:=x5.no p hg (by rw [hh];exact fun z=>nomatch z)
  cases b with
  | false =>
   rw [if_neg Bool.false_ne_true]
   exact ⟨G5,bs,cs,x2.trans x5,hg5,hp5,by omega,Paired.imp' (fun _ _ r=>Rp.mono x5.gg r) hpr,hcs,rfl⟩
  | true =>
   rw [if_pos rfl]
   obtain ⟨z,hze,hcs⟩:=Option.bind_eq_some_iff.mp hcs
   obtain ⟨cs',hcs',hcs⟩:=Option.bind_eq_some_iff.mp hcs
   cases hcs
   refine B2 G5 x5.gg z hze H5 x5.gh _ fun v G6 H6 x6 r6=>?_
   have hp6:H6 p=some (.lst ys):=x6.hh _ _ hp5
   have hg6:G6 p=none:=x6.no p hg5 (by rw [hp5];exact fun z=>nomatch z)
   refine ⟨hp6,by omega,G6,bs++[z],cs',((x2.trans x5).trans x6).put hp hg6,hg6,AM,?_,Paired.app (Paired.imp' (fun _ _ r=>Rp.mono (x5.trans x6).gg r) hpr) (.cons r6 .nil),hcs',by simp⟩
   rw [List.length_append,List.length_singleton]
   omega
 ·have e:i=vs.length:=by omega
  subst e
  have hd:as.drop vs.length=[]:=List.drop_eq_nil_of_le (by omega)
  rw [hd] at hcs
  cases hcs
  refine .inl ⟨Y.stop _ (x2.gg.trans x2.gh),?_⟩
  rw [List.append_nil] at k
  exact k p ys G2 H2 (xa.trans x2) (xa.hh.free hp) hg hh (by omega) hpr
theorem fv_mapG {n:Nat}{cap:List Nat}{wi:TI}{g:TG}{te:TE}{mi:Option (List α)}{fe:α->Option β}(ei:IW K wi σ G mi)
  (hb:∀ (x:V) (a:α) (G1 H1:Hp),Same G G1->Same G1 H1->Rp.rel K G1 x a->∃ σ2,(∀ Q:St->Hp->Prop,Q σ2 H1->g x (Cb n cap σ) H1 Q)/\EV K te σ2 G1 (fe a)) :
  FV K (tCompN g n cap wi Gw te) σ G (mi.bind fun as=>D1 fe as):=by
 have h:=fv_compG (tt:=Gw) (fc:=fun _=>some true) ei fun x a G1 H1 s s' r=>let ⟨σ2,h1,h2⟩:=hb x a G1 H1 s s' r;⟨σ2,h1,tv_yes,h2⟩
 have e:(fun as=>CT (fun _=>some true) fe as)=fun as=>D1 fe as:=funext (compO_true fe)
 rw [e] at h
 exact h
theorem fv_map3 {cap:List Nat}{wi:TI}{te:TE}{mi:Option (List (T3 α β γ))}{fe:T3 α β γ->Option δ}(ei:IW K wi σ G mi)
  (hb:∀ (x y z:V) (a:T3 α β γ) (G1:Hp),Same G G1->Rp.rel K G1 x a.a->Rp.rel K G1 y a.b->Rp.rel K G1 z a.c->EV K te ((((Cb 3 cap σ).set 0 (some x)).set 1 (some y)).set 2 (some z)) G1 (fe a)) :
  FV K (tCompN (gThree K) 3 cap wi Gw te) σ G (mi.bind fun as=>D1 fe as) :=
 fv_mapG ei fun x a G1 H1 s s' r=>by
  obtain ⟨t,v0,v1,v2,rfl,ht,r0,r1,r2⟩:=r
  exact ⟨_,fun Q q=>⟨t,_,rfl,s'.tup ht,rfl,_,_,rfl,_,_,rfl,_,_,rfl,rfl,q⟩,hb v0 v1 v2 a G1 s r0 r1 r2⟩
end
section
variable {K:FZ9}{σ:St}{G H:Hp}{α β γ δ:Type}[Rp α][Rp β][Rp γ][Rp δ]{te:TE}{rest:TS}{D:Ends}{i:Nat}{p:Addr}{vs:List V}
end
end L2
namespace My
open PySem PySem.Spec PyProof.Rows L2
noncomputable def Am (script_:Scr)(k_:Int):Option Int :=
 (some (decide (k_<(script_.l.length:Int)))).bind fun b1=>cond b1
  (((some script_).bind fun t6=>(some k_).bind fun t7=>atI t6.l t7))
  ((some (0:Int)))
noncomputable abbrev AZ (x:Scr × Int × Unit):Option Int:=Am x.1 x.2.1
noncomputable def CJ (Gi:Int)(ES:Int):Option (List Int) :=
 (some ([]:List Int)).bind fun BY =>
 (some ((Gi % (2147483647:Int))+(48271:Int))).bind fun AL =>
 ((some ES).bind fun t15=>EH 0 t15).bind fun as16=>(Cc (S:=((List Int) × Int)) (ρ:=(List Int)) (fun (k_:Int) s23 =>
   (((((some s23.2).bind fun t38=>(some s23.2).bind fun t39=>Gc t38 t39).bind fun t40=>(some (t40+((48271:Int) * s23.2)))).bind fun t41=>(some (t41+k_))).bind fun t42=>(some (t42 % (2147483647:Int)))).bind fun AL =>
   (some AL).bind fun a49=>(Ds s23.1 a49).bind fun z57 =>
   some (Fl.nx (z57,AL))) as16 (BY,AL)).bind fun fl18=>match fl18 with
  | .nx s23 =>
   (some s23.1)
  | .rt r=>some r
  | .bk _=>none
noncomputable abbrev CZ (x:Int × Int × Unit):Option (List Int):=CJ x.1 x.2.1
noncomputable def DG (script_:Scr):Option (List Int) :=
 ((some script_).bind fun t1=>(some (0:Int)).bind fun t2=>Am t1 t2).bind fun Gi =>
 (((some script_).bind fun t9=>(some (1:Int)).bind fun t10=>Am t9 t10).bind fun t11=>(some ((1:Int)+(Gi % (8:Int)))).bind fun t12=>CJ t11 t12).bind fun BY =>
 (some (decide (((Gi / (8:Int)) % (8:Int))=(3:Int)))).bind fun b19=>cond b19
  (((some BY).bind fun t28=>D1 (fun (AL:Int)=>(some ((20:Int)+(AL % (56:Int))))) t28))
  (((some BY).bind fun t38=>D1 (fun (AL:Int)=>(some ((1:Int)+(AL % (8:Int))))) t38))
noncomputable abbrev E1 (x:Scr × Unit):Option (List Int):=DG x.1
noncomputable def DE (script_:Scr)(Ej:(List Int))(sizes_here_:(List Int))(Aj:Int):Option (List (T3 Int Int (T3 Int Int (Tp Int)))) :=
 (some ([]:List (T3 Int Int (T3 Int Int (Tp Int))))).bind fun BR =>
 ((((some script_).bind fun t9=>(some (3:Int)).bind fun t10=>Am t9 t10).bind fun t11=>(some (t11 % (13:Int)))).bind fun t12=>EH 0 t12).bind fun as13=>(Cc (S:=((List (T3 Int Int (T3 Int Int (Tp Int)))))) (ρ:=(List (T3 Int Int (T3 Int Int (Tp Int))))) (fun (k_:Int) s20 =>
   ((some script_).bind fun t39=>(some ((14:Int)+k_)).bind fun t40=>Am t39 t40).bind fun AL =>
   (some (decide ((1:Int)<(sizes_here_.length:Int)))).bind fun b47=>cond b47
    (((some AL).bind fun t52=>(some ((sizes_here_.length:Int) - (1:Int))).bind fun t53=>Dm t52 t53).bind fun one_ =>
    (((some (AL / (8:Int))).bind fun t60=>(some (((sizes_here_.length:Int) - (1:Int)) - one_)).bind fun t61=>Dm t60 t61).bind fun t62=>(some ((one_+(1:Int))+t62))).bind fun other_ =>
    (((some Ej).bind fun t69=>(some one_).bind fun t70=>atI t69 t70).bind fun t75=>((some (AL / (64:Int))).bind fun t73=>((some sizes_here_).bind fun t71=>(some one_).bind fun t72=>atI t71 t72).bind fun t74=>Dm t73 t74).bind fun t76=>(some (t75+t76))).bind fun first_ =>
    (((some Ej).bind fun t83=>(some other_).bind fun t84=>atI t83 t84).bind fun t89=>((some (AL / (4800:Int))).bind fun t87=>((some sizes_here_).bind fun t85=>(some other_).bind fun t86=>atI t85 t86).bind fun t88=>Dm t87 t88).bind fun t90=>(some (t89+t90))).bind fun second_ =>
    (((some Aj).bind fun t97=>EH 0 t97).bind fun t105=>CT (fun (Ao:Int)=>(((some (AL / (360000:Int))).bind fun t102=>(some (Ao+(2:Int))).bind fun t103=>Dm t102 t103).bind fun t104=>(some (decide (t104=(1:Int)))))) (fun (Ao:Int)=>(some Ao)) t105).bind fun taken_ =>
    (some (T3.mk one_ other_ (T3.mk first_ second_ (Tp.mk taken_)))).bind fun a112=>(Ds s20 a112).bind fun z120 =>
    some (Fl.nx z120))
    (some (Fl.nx s20))) as13 BR).bind fun fl15=>match fl15 with
  | .nx s20 =>
   (some s20)
  | .rt r=>some r
  | .bk _=>none
noncomputable abbrev E7 (x:Scr × (List Int) × (List Int) × Int × Unit):Option (List (T3 Int Int (T3 Int Int (Tp Int)))):=DE x.1 x.2.1 x.2.2.1 x.2.2.2.1
noncomputable def BS (ES:Int)(GB:(List Bool))(BR:(List (T3 Int Int (T3 Int Int (Tp Int))))):Option (List Bool) :=
 (some GB).bind fun Bl =>
 ((some (ES - (1:Int))).bind fun t9=>(some (-(1:Int))).bind fun t10=>rngD t9 t10).bind fun as11=>(Cc (S:=((List Bool))) (ρ:=(List Bool)) (fun (k_:Int) s18 =>
   (some BR).bind fun as34=>(Cc (S:=((List Bool))) (ρ:=(List Bool)) (fun (pr62:(T3 Int Int (T3 Int Int (Tp Int)))) s41 =>
     ((some (decide (pr62.a=k_))).bind fun t68=>cond t68 ((some s41).bind fun t66=>(some pr62.b).bind fun t67=>atI t66 t67) (some false)).bind fun b69=>cond b69
      ((some true).bind fun a74=>(some k_).bind fun k76=>(Fw s41 k76 a74).bind fun z85 =>
      some (Fl.nx z85))
      (some (Fl.nx s41))) as34 s18).bind fun fl36=>match fl36 with
    | .nx s41 =>
     some (Fl.nx s41)
    | .rt r=>some (Fl.rt r)
    | .bk _=>none) as11 Bl).bind fun fl13=>match fl13 with
  | .nx s18 =>
   (some s18)
  | .rt r=>some r
  | .bk _=>none
noncomputable abbrev CL (x:Int × (List Bool) × (List (T3 Int Int (T3 Int Int (Tp Int)))) × Unit):Option (List Bool):=BS x.1 x.2.1 x.2.2.1
noncomputable def Bu (leads_:(List (List Int))):Option (List Int) :=
 ((some leads_).bind fun t5=>D1 (fun (At:(List Int))=>(some false)) t5).bind fun seen_ =>
 ((some leads_).bind fun t18=>D1 (fun (At:(List Int))=>(some (0:Int))) t18).bind fun tried_ =>
 (some ([]:List Int)).bind fun order_ =>
 ((some (leads_.length:Int)).bind fun t35=>EH 0 t35).bind fun as36=>(Cc (S:=((List Bool) × (List Int) × (List Int))) (ρ:=(List Int)) (fun (begin_:Int) s43 =>
   (((some s43.1).bind fun t62=>(some begin_).bind fun t63=>atI t62 t63).bind fun t64=>cond t64 (some ([]:List Int)) (some [begin_])).bind fun path_ =>
   (some true).bind fun a73=>(some begin_).bind fun k75=>(Fw s43.1 k75 a73).bind fun z84 =>
   (ER (S:=((List Bool) × (List Int) × (List Int) × (List Int))) (ρ:=(List Int)) (fun s87=>(some (decide ((0:Int)<(s87.2.2.2.length:Int))))) (fun s87 =>
     ((some s87.2.2.2).bind fun t106=>(some (-(1:Int))).bind fun t107=>atI t106 t107).bind fun At =>
     (((some s87.2.1).bind fun t124=>(some At).bind fun t125=>atI t124 t125).bind fun t132=>(((some leads_).bind fun t129=>(some At).bind fun t130=>atI t129 t130).bind fun t131=>(some (t131.length:Int))).bind fun t133=>(some (decide (t132=t133)))).bind fun b134=>cond b134
      ((Gs s87.2.2.2).bind fun pr139=>(Ds s87.2.2.1 pr139.1).bind fun z141 =>
      some (Fl.nx (s87.1,s87.2.1,z141,pr139.2)))
      ((((some leads_).bind fun t152=>(some At).bind fun t153=>atI t152 t153).bind fun t156=>((some s87.2.1).bind fun t154=>(some At).bind fun t155=>atI t154 t155).bind fun t157=>atI t156 t157).bind fun other_ =>
      (((some s87.2.1).bind fun t167=>(some At).bind fun t168=>atI t167 t168).bind fun t169=>(some (t169+(1:Int)))).bind fun a170=>(some At).bind fun k172=>(Fw s87.2.1 k172 a170).bind fun z181 =>
      (((some s87.1).bind fun t185=>(some other_).bind fun t186=>atI t185 t186).bind fun t187=>(some (!t187))).bind fun b188=>cond b188
       ((some true).bind fun a193=>(some other_).bind fun k195=>(Fw s87.1 k195 a193).bind fun z204 =>
       (some other_).bind fun a205=>(Ds s87.2.2.2 a205).bind fun z213 =>
       some (Fl.nx (z204,z181,s87.2.2.1,z213)))
       (some (Fl.nx (s87.1,z181,s87.2.2.1,s87.2.2.2))))) Gn (z84,s43.2.1,s43.2.2,path_)).bind fun fl85=>match fl85 with
    | .nx s87 =>
     some (Fl.nx (s87.1,s87.2.1,s87.2.2.1))
    | .rt r=>some (Fl.rt r)
    | .bk _=>none) as36 (seen_,tried_,order_)).bind fun fl38=>match fl38 with
  | .nx s43 =>
   (some s43.2.2)
  | .rt r=>some r
  | .bk _=>none
noncomputable abbrev Cp (x:(List (List Int)) × Unit):Option (List Int):=Bu x.1
noncomputable def EF (net_:(T3 Int (List (T3 Int Int (Tp Int))) Int)):Option (List (List Int)) :=
 ((some net_.a).bind fun t1=>EH 0 t1).bind fun l9=>(some (l9.map fun _=>([]:(List Int)))).bind fun Fs =>
 (some net_.b).bind fun as11=>(Cc (S:=((List (List Int)))) (ρ:=(List (List Int))) (fun (way_:(T3 Int Int (Tp Int))) s18 =>
   (some way_.a).bind fun k31=>(some way_.b).bind fun a33=>(appAt s18 k31 a33).bind fun z41 =>
   some (Fl.nx z41)) as11 Fs).bind fun fl13=>match fl13 with
  | .nx s18 =>
   (some s18)
  | .rt r=>some r
  | .bk _=>none
noncomputable abbrev Ev (x:(T3 Int (List (T3 Int Int (Tp Int))) Int) × Unit):Option (List (List Int)):=EF x.1
noncomputable def Ci (net_:(T3 Int (List (T3 Int Int (Tp Int))) Int)):Option (List (List Int)) :=
 ((some net_.a).bind fun t1=>EH 0 t1).bind fun l9=>(some (l9.map fun _=>([]:(List Int)))).bind fun begins_ =>
 (some net_.b).bind fun as11=>(Cc (S:=((List (List Int)))) (ρ:=(List (List Int))) (fun (way_:(T3 Int Int (Tp Int))) s18 =>
   (some way_.b).bind fun k31=>(some way_.a).bind fun a33=>(appAt s18 k31 a33).bind fun z41 =>
   some (Fl.nx z41)) as11 begins_).bind fun fl13=>match fl13 with
  | .nx s18 =>
   (some s18)
  | .rt r=>some r
  | .bk _=>none
noncomputable abbrev Cs (x:(T3 Int (List (T3 Int Int (Tp Int))) Int) × Unit):Option (List (List Int)):=Ci x.1
noncomputable def CU (Az:(List (Option Int)))(Fs:(List (List Int)))(begin_:Int)(AL:Int):Option (List (Option Int)) :=
 (some (some AL)).bind fun a1=>(some begin_).bind fun k3=>(Fw Az k3 a1).bind fun z12 =>
 (some [begin_]).bind fun Go =>
 (ER (S:=((List (Option Int)) × (List Int))) (ρ:=(List (Option Int))) (fun s23=>(some (decide ((0:Int)<(s23.2.length:Int))))) (fun s23 =>
   (Gs s23.2).bind fun pr40 =>
   ((some Fs).bind fun t45=>(some pr40.1).bind fun t46=>atI t45 t46).bind fun as47=>(Cc (S:=((List (Option Int)) × (List Int))) (ρ:=(List (Option Int))) (fun (other_:Int) s54 =>
     (((some s54.1).bind fun t71=>(some other_).bind fun t72=>atI t71 t72).bind fun t73=>(some t73.isNone)).bind fun b74=>cond b74
      ((some (some AL)).bind fun a79=>(some other_).bind fun k81=>(Fw s54.1 k81 a79).bind fun z90 =>
      (some other_).bind fun a91=>(Ds s54.2 a91).bind fun z99 =>
      some (Fl.nx (z90,z99)))
      (some (Fl.nx (s54.1,s54.2)))) as47 (s23.1,pr40.2)).bind fun fl49=>match fl49 with
    | .nx s54 =>
     some (Fl.nx (s54.1,s54.2))
    | .rt r=>some (Fl.rt r)
    | .bk _=>none) Gn (z12,Go)).bind fun fl21=>match fl21 with
  | .nx s23 =>
   some s23.1
  | .rt r=>some r
  | .bk _=>none
noncomputable abbrev DT (Az:(List (Option Int)))(x:(List (List Int)) × Int × Int × Unit):Option (List (Option Int)):=CU Az x.1 x.2.1 x.2.2.1
noncomputable def DC (net_:(T3 Int (List (T3 Int Int (Tp Int))) Int)):Option (List (Option Int)) :=
 (((some net_).bind fun t1=>Ci t1).bind fun t2=>Bu t2).bind fun order_ =>
 ((some net_).bind fun t9=>EF t9).bind fun Fs =>
 ((some order_).bind fun t20=>D1 (fun (At:Int)=>(some none)) t20).bind fun Az =>
 (some (0:Int)).bind fun ES =>
 (some order_.reverse).bind fun as35=>(Cc (S:=((List (Option Int)) × Int)) (ρ:=(List (Option Int))) (fun (begin_:Int) s42 =>
   (((some s42.1).bind fun t60=>(some begin_).bind fun t61=>atI t60 t61).bind fun t62=>(some t62.isNone)).bind fun b63=>cond b63
    (((some Fs).bind fun t72=>((some begin_).bind fun t70=>((some s42.2).bind fun t68=>(some ()).bind fun t69=>some (t68,t69)).bind fun t71=>some (t70,t71)).bind fun t73=>some (t72,t73)).bind fun ca74=>(CU s42.1 ca74.1 ca74.2.1 ca74.2.2.1).bind fun rz76 =>
    (some (s42.2+(1:Int))).bind fun ES =>
    some (Fl.nx (rz76,ES)))
    (some (Fl.nx (s42.1,s42.2)))) as35 (Az,ES)).bind fun fl37=>match fl37 with
  | .nx s42 =>
   (some s42.1)
  | .rt r=>some r
  | .bk _=>none
noncomputable abbrev DO (x:(T3 Int (List (T3 Int Int (Tp Int))) Int) × Unit):Option (List (Option Int)):=DC x.1
noncomputable def Bj (net_:(T3 Int (List (T3 Int Int (Tp Int))) Int))(Az:(List (Option Int))):Option (List (Option (Mp Bool))) :=
 (some Az).bind fun l8=>(some (l8.map fun _=>(none:(Option (Mp Bool))))).bind fun DQ =>
 (some net_.b).bind fun as10=>(Cc (S:=((List (Option (Mp Bool))))) (ρ:=(List (Option (Mp Bool)))) (fun (way_:(T3 Int Int (Tp Int))) s17 =>
   ((some Az).bind fun t32=>(some way_.a).bind fun t33=>atI t32 t33).bind fun EK =>
   (((some Az).bind fun t42=>(some way_.b).bind fun t43=>atI t42 t43).bind fun t44=>(some (decide (EK=t44)))).bind fun b45=>cond b45
    ((((some s17).bind fun t55=>((some EK).bind fun t54=>t54).bind fun t56=>atI t55 t56).bind fun t57=>(some t57.isNone)).bind fun b58=>(cond b58
     (((some EK).bind fun t67=>t67).bind fun k68=>(Fw s17 k68 (some (Mp.mk []))).bind fun z77 =>
     some z77)
     (some s17)).bind fun s63 =>
    (some way_.c.l).bind fun as81=>(Cc (S:=((List (Option (Mp Bool))))) (ρ:=(List (Option (Mp Bool)))) (fun (Ao:Int) s88 =>
      (some true).bind fun a102=>((some EK).bind fun t101=>t101).bind fun k104=>(some Ao).bind fun k106=>(putDA s88 k104 k106 a102).bind fun z115 =>
      some (Fl.nx z115)) as81 s63).bind fun fl83=>match fl83 with
     | .nx s88 =>
      some (Fl.nx s88)
     | .rt r=>some (Fl.rt r)
     | .bk _=>none)
    (some (Fl.nx s17))) as10 DQ).bind fun fl12=>match fl12 with
  | .nx s17 =>
   (some s17)
  | .rt r=>some r
  | .bk _=>none
noncomputable abbrev Bs (x:(T3 Int (List (T3 Int Int (Tp Int))) Int) × (List (Option Int)) × Unit):Option (List (Option (Mp Bool))):=Bj x.1 x.2.1
noncomputable def Em (leads_:(List (List Int)))(CO:(List Bool)):Option (List Bool) :=
 (some CO).bind fun found_ =>
 ((some CO).bind fun t14=>CT (fun (pc13:(Int × Bool))=>(some pc13.2)) (fun (pc13:(Int × Bool))=>(some pc13.1)) (C6 0 t14)).bind fun Go =>
 (ER (S:=((List Bool) × (List Int))) (ρ:=(List Bool)) (fun s25=>(some (decide ((0:Int)<(s25.2.length:Int))))) (fun s25 =>
   (Gs s25.2).bind fun pr41 =>
   ((some leads_).bind fun t46=>(some pr41.1).bind fun t47=>atI t46 t47).bind fun as48=>(Cc (S:=((List Bool) × (List Int))) (ρ:=(List Bool)) (fun (other_:Int) s55 =>
     (((some s55.1).bind fun t72=>(some other_).bind fun t73=>atI t72 t73).bind fun t74=>(some (!t74))).bind fun b75=>cond b75
      ((some true).bind fun a80=>(some other_).bind fun k82=>(Fw s55.1 k82 a80).bind fun z91 =>
      (some other_).bind fun a92=>(Ds s55.2 a92).bind fun z100 =>
      some (Fl.nx (z91,z100)))
      (some (Fl.nx (s55.1,s55.2)))) as48 (s25.1,pr41.2)).bind fun fl50=>match fl50 with
    | .nx s55 =>
     some (Fl.nx (s55.1,s55.2))
    | .rt r=>some (Fl.rt r)
    | .bk _=>none) Gn (found_,Go)).bind fun fl23=>match fl23 with
  | .nx s25 =>
   (some s25.1)
  | .rt r=>some r
  | .bk _=>none
noncomputable abbrev Fk (x:(List (List Int)) × (List Bool) × Unit):Option (List Bool):=Em x.1 x.2.1
noncomputable def B4 (taken_:(Mp Bool))(CI:Int):Option (List Int) :=
 (((some CI).bind fun t1=>EH 0 t1).bind fun t6=>CT (fun (Ao:Int)=>(some (!hasM taken_.l Ao))) (fun (Ao:Int)=>(some Ao)) t6)
noncomputable abbrev Bd (x:(Mp Bool) × Int × Unit):Option (List Int):=B4 x.1 x.2.1
noncomputable def CV (taken_:(Option (Mp Bool)))(CI:Int):Option Bool :=
 ((some taken_.isSome).bind fun t6=>cond t6 (((((some taken_).bind fun t1=>t1).bind fun t2=>(some CI).bind fun t3=>B4 t2 t3).bind fun t4=>(some (t4.length:Int))).bind fun t5=>(some (decide (t5=(0:Int))))) (some false))
noncomputable abbrev De (x:(Option (Mp Bool)) × Int × Unit):Option Bool:=CV x.1 x.2.1
noncomputable def Cr (taken_:(Option (Mp Bool)))(CI:Int):Option (Option Int) :=
 (some taken_.isNone).bind fun b1=>cond b1
  ((some none))
  ((((((some taken_).bind fun t11=>t11).bind fun t12=>(some CI).bind fun t13=>B4 t12 t13).bind fun t14=>(some (0:Int)).bind fun t15=>atI t14 t15).bind fun t16=>(some (some t16))))
noncomputable abbrev Ez (x:(Option (Mp Bool)) × Int × Unit):Option (Option Int):=Cr x.1 x.2.1
noncomputable def Gd (net_:(T3 Int (List (T3 Int Int (Tp Int))) Int)):Option (List (Option (Int × (Option Int)))) :=
 (some net_.c).bind fun CI =>
 ((some net_).bind fun t7=>DC t7).bind fun Az =>
 ((some net_).bind fun t14=>(some Az).bind fun t15=>Bj t14 t15).bind fun DQ =>
 (((some net_).bind fun t22=>Ci t22).bind fun t33=>((some Az).bind fun t32=>D1 (fun (EK:(Option Int))=>(((some DQ).bind fun t28=>((some EK).bind fun t27=>t27).bind fun t29=>atI t28 t29).bind fun t30=>(some CI).bind fun t31=>CV t30 t31)) t32).bind fun t34=>Em t33 t34).bind fun free_ =>
 (some ([]:List (Option (Int × (Option Int))))).bind fun rows_ =>
 (some Az).bind fun as49=>(Cc (S:=((List (Option (Int × (Option Int)))))) (ρ:=(List (Option (Int × (Option Int))))) (fun (pr72:(Int × (Option Int))) s56 =>
   (((some free_).bind fun t75=>(some pr72.1).bind fun t76=>atI t75 t76).bind fun t86=>cond t86 (some none) ((((some pr72.2).bind fun t77=>t77).bind fun t83=>(((some DQ).bind fun t79=>((some pr72.2).bind fun t78=>t78).bind fun t80=>atI t79 t80).bind fun t81=>(some CI).bind fun t82=>Cr t81 t82).bind fun t84=>(some (t83,t84))).bind fun t85=>(some (some t85)))).bind fun a87=>(Ds s56 a87).bind fun z95 =>
   some (Fl.nx z95)) (C6 0 as49) rows_).bind fun fl51=>match fl51 with
  | .nx s56 =>
   (some s56)
  | .rt r=>some r
  | .bk _=>none
noncomputable abbrev mm_shut (x:(T3 Int (List (T3 Int Int (Tp Int))) Int) × Unit):Option (List (Option (Int × (Option Int)))):=Gd x.1
noncomputable def Bn (way_:(T3 Int Int (Tp Int)))(rows_:(List (Option (Int × (Option Int))))):Option Bool :=
 ((some rows_).bind fun t1=>(some way_.a).bind fun t2=>atI t1 t2).bind fun one_ =>
 ((some rows_).bind fun t9=>(some way_.b).bind fun t10=>atI t9 t10).bind fun other_ =>
 (some one_.isNone).bind fun b17=>cond b17
  ((some true))
  (((some other_.isNone).bind fun t33=>cond t33 (some true) ((((some other_).bind fun t27=>t27).bind fun t28=>(some t28.1)).bind fun t31=>(((some one_).bind fun t29=>t29).bind fun t30=>(some t30.1)).bind fun t32=>(some (decide (t32<t31))))).bind fun b34=>cond b34
   ((some false))
   ((((((some other_).bind fun t44=>t44).bind fun t45=>(some t45.1)).bind fun t48=>(((some one_).bind fun t46=>t46).bind fun t47=>(some t47.1)).bind fun t49=>(some (decide (t48<t49)))).bind fun t69=>cond t69 (some true) (((((some one_).bind fun t50=>t50).bind fun t51=>(some t51.2)).bind fun t52=>(some t52.isSome)).bind fun t68=>cond t68 (((((some one_).bind fun t53=>t53).bind fun t54=>(some t54.2)).bind fun t59=>(((some other_).bind fun t57=>t57).bind fun t58=>(some t58.2)).bind fun t60=>(some (decide (t59=t60)))).bind fun t67=>cond t67 (((((some one_).bind fun t63=>t63).bind fun t64=>(some t64.2)).bind fun t65=>t65).bind fun t66=>(some (!decide (t66∈way_.c.l)))) (some false)) (some false)))))
noncomputable abbrev D5 (x:(T3 Int Int (Tp Int)) × (List (Option (Int × (Option Int)))) × Unit):Option Bool:=Bn x.1 x.2.1
noncomputable def Bf (net_:(T3 Int (List (T3 Int Int (Tp Int))) Int))(CO:(List Bool)):Option (List (List Int)) :=
 ((some net_.a).bind fun t1=>EH 0 t1).bind fun l9=>(some (l9.map fun _=>([]:(List Int)))).bind fun Bx =>
 (some net_.b).bind fun as11=>(Cc (S:=((List (List Int)))) (ρ:=(List (List Int))) (fun (pr34:(Int × (T3 Int Int (Tp Int)))) s18 =>
   ((some CO).bind fun t37=>(some pr34.1).bind fun t38=>atI t37 t38).bind fun b39=>cond b39
    ((some pr34.2.a).bind fun k44=>(some pr34.1).bind fun a46=>(appAt s18 k44 a46).bind fun z54 =>
    some (Fl.nx z54))
    (some (Fl.nx s18))) (C6 0 as11) Bx).bind fun fl13=>match fl13 with
  | .nx s18 =>
   (some s18)
  | .rt r=>some r
  | .bk _=>none
noncomputable abbrev Bw (x:(T3 Int (List (T3 Int Int (Tp Int))) Int) × (List Bool) × Unit):Option (List (List Int)):=Bf x.1 x.2.1
noncomputable def Eo (ways_:(List (T3 Int Int (Tp Int))))(came_by_:(Mp (Option Int)))(last_:Int):Option (List Int) :=
 (some [last_]).bind fun path_ =>
 (ER (S:=((List Int))) (ρ:=(List Int)) (fun s11=>(((some came_by_).bind fun t28=>(((some ways_).bind fun t25=>((some s11).bind fun t23=>(some (-(1:Int))).bind fun t24=>atI t23 t24).bind fun t26=>atI t25 t26).bind fun t27=>(some t27.a)).bind fun t29=>Fo t28.l t29).bind fun t30=>(some t30.isSome))) (fun s11 =>
   (((some came_by_).bind fun t54=>(((some ways_).bind fun t51=>((some s11).bind fun t49=>(some (-(1:Int))).bind fun t50=>atI t49 t50).bind fun t52=>atI t51 t52).bind fun t53=>(some t53.a)).bind fun t55=>Fo t54.l t55).bind fun t56=>t56).bind fun a57=>(Ds s11 a57).bind fun z65 =>
   some (Fl.nx z65)) Gn path_).bind fun fl9=>match fl9 with
  | .nx s11 =>
   (some (EN s11 none none (-1)))
  | .rt r=>some r
  | .bk _=>none
noncomputable abbrev Fi (x:(List (T3 Int Int (Tp Int))) × (Mp (Option Int)) × Int × Unit):Option (List Int):=Eo x.1 x.2.1 x.2.2.1
noncomputable def BE (ways_:(List (T3 Int Int (Tp Int))))(Bx:(List (List Int)))(begin_:Int)(CO:(List Bool)):Option (Option (List Int)) :=
 (some begin_).bind fun k9=>(some none).bind fun a11=>(some (Mp.mk [(k9,a11)])).bind fun came_by_ =>
 (some [begin_]).bind fun Go =>
 (some (0:Int)).bind fun place_ =>
 (ER (S:=((Mp (Option Int)) × (List Int) × Int)) (ρ:=(Option (List Int))) (fun s29=>(some (decide (s29.2.2<(s29.2.1.length:Int))))) (fun s29 =>
   ((some s29.2.1).bind fun t50=>(some s29.2.2).bind fun t51=>atI t50 t51).bind fun At =>
   ((some Bx).bind fun t58=>(some At).bind fun t59=>atI t58 t59).bind fun as60=>(Cc (S:=((Mp (Option Int)) × (List Int))) (ρ:=(Option (List Int))) (fun (AL:Int) s67 =>
     ((some CO).bind fun t81=>(some AL).bind fun t82=>atI t81 t82).bind fun b83=>cond b83
      ((((some ways_).bind fun t97=>(some s67.1).bind fun t98=>(some AL).bind fun t99=>Eo t97 t98 t99).bind fun t100=>(some (some t100))).bind fun rr106=>some (Fl.rt rr106))
      ((((some ways_).bind fun t108=>(some AL).bind fun t109=>atI t108 t109).bind fun t110=>(some t110.b)).bind fun end_ =>
      (some (!hasM s67.1.l end_)).bind fun b117=>cond b117
       ((some (some AL)).bind fun a122=>(some end_).bind fun k124=>(putO s67.1 k124 a122).bind fun z132 =>
       (some end_).bind fun a133=>(Ds s67.2 a133).bind fun z141 =>
       some (Fl.nx (z132,z141)))
       (some (Fl.nx (s67.1,s67.2))))) as60 (s29.1,s29.2.1)).bind fun fl62=>match fl62 with
    | .nx s67 =>
     (some (s29.2.2+(1:Int))).bind fun place_ =>
     some (Fl.nx (s67.1,s67.2,place_))
    | .rt r=>some (Fl.rt r)
    | .bk _=>none) Gn (came_by_,Go,place_)).bind fun fl27=>match fl27 with
  | .nx s29 =>
   (some none)
  | .rt r=>some r
  | .bk _=>none
noncomputable abbrev BJ (x:(List (T3 Int Int (Tp Int))) × (List (List Int)) × Int × (List Bool) × Unit):Option (Option (List Int)):=BE x.1 x.2.1 x.2.2.1 x.2.2.2.1
noncomputable def Dk (ways_:(List (T3 Int Int (Tp Int))))(Ao:Int)(BY:(List Int)):Option Bool :=
 (((some BY).bind fun t9=>D1 (fun (AL:Int)=>((((some ways_).bind fun t5=>(some AL).bind fun t6=>atI t5 t6).bind fun t7=>(some t7.c)).bind fun t8=>(some (decide (Ao∈t8.l))))) t9).bind fun t10=>(some (t10.any id)))
noncomputable abbrev Ea (x:(List (T3 Int Int (Tp Int))) × Int × (List Int) × Unit):Option Bool:=Dk x.1 x.2.1 x.2.2.1
noncomputable def C3 (net_:(T3 Int (List (T3 Int Int (Tp Int))) Int))(Az:(List (Option Int)))(begin_:Int):Option (List Int) :=
 (some net_.b).bind fun ways_ =>
 ((some net_).bind fun t20=>((some ways_).bind fun t19=>D1 (fun (way_:(T3 Int Int (Tp Int)))=>(((some Az).bind fun t11=>(some way_.a).bind fun t12=>atI t11 t12).bind fun t17=>((some Az).bind fun t15=>(some way_.b).bind fun t16=>atI t15 t16).bind fun t18=>(some (decide (t17=t18))))) t19).bind fun t21=>Bf t20 t21).bind fun Bx =>
 (some ([]:List Int)).bind fun ring_ =>
 (some begin_).bind fun here_ =>
 ((some net_.c).bind fun t42=>EH 0 t42).bind fun as43=>(Cc (S:=((List Int) × Int)) (ρ:=(List Int)) (fun (Ao:Int) s50 =>
   (((some ways_).bind fun t69=>(some Ao).bind fun t70=>(some s50.1).bind fun t71=>Dk t69 t70 t71).bind fun t72=>(some (!t72))).bind fun b73=>cond b73
    ((((some ways_).bind fun t92=>(some Bx).bind fun t93=>(some s50.2).bind fun t94=>((some ways_).bind fun t91=>D1 (fun (way_:(T3 Int Int (Tp Int)))=>(some (decide (Ao∈way_.c.l)))) t91).bind fun t95=>BE t92 t93 t94 t95).bind fun t96=>t96).bind fun a97=>(extO s50.1 a97).bind fun z105 =>
    (((some ways_).bind fun t113=>((some z105).bind fun t111=>(some (-(1:Int))).bind fun t112=>atI t111 t112).bind fun t114=>atI t113 t114).bind fun t115=>(some t115.b)).bind fun here_ =>
    some (Fl.nx (z105,here_)))
    (some (Fl.nx (s50.1,s50.2)))) as43 (ring_,here_)).bind fun fl45=>match fl45 with
  | .nx s50 =>
   (some ((decide ((s50.1.length:Int)=(0:Int))) || (!decide (s50.2=begin_)))).bind fun b128=>(cond b128
    ((((some ways_).bind fun t151=>(some Bx).bind fun t152=>(some s50.2).bind fun t153=>((some ways_).bind fun t150=>D1 (fun (way_:(T3 Int Int (Tp Int)))=>(some (decide (way_.b=begin_)))) t150).bind fun t154=>BE t151 t152 t153 t154).bind fun t155=>t155).bind fun a156=>(extO s50.1 a156).bind fun z164 =>
    some z164)
    (some s50.1)).bind fun s133 =>
   (some s133)
  | .rt r=>some r
  | .bk _=>none
noncomputable abbrev Ch (x:(T3 Int (List (T3 Int Int (Tp Int))) Int) × (List (Option Int)) × Int × Unit):Option (List Int):=C3 x.1 x.2.1 x.2.2.1
noncomputable def DM (net_:(T3 Int (List (T3 Int Int (Tp Int))) Int))(At:Int):Option (Option ((List Int) × (List Int))) :=
 (some net_.b).bind fun ways_ =>
 ((some net_).bind fun t7=>DC t7).bind fun Az =>
 ((some net_).bind fun t14=>(some Az).bind fun t15=>Bj t14 t15).bind fun DQ =>
 ((some Az).bind fun t31=>D1 (fun (EK:(Option Int))=>(((some DQ).bind fun t27=>((some EK).bind fun t26=>t26).bind fun t28=>atI t27 t28).bind fun t29=>(some net_.c).bind fun t30=>CV t29 t30)) t31).bind fun fair_ =>
 ((some fair_).bind fun t38=>(some At).bind fun t39=>atI t38 t39).bind fun b40=>cond b40
  ((((some ([]:List Int)).bind fun t49=>((some net_).bind fun t45=>(some Az).bind fun t46=>(some At).bind fun t47=>C3 t45 t46 t47).bind fun t50=>some (t49,t50)).bind fun t51=>(some (some t51))))
  (((some net_).bind fun t62=>((some ways_).bind fun t61=>D1 (fun (way_:(T3 Int Int (Tp Int)))=>(some true)) t61).bind fun t63=>Bf t62 t63).bind fun Bx =>
  ((some ways_).bind fun t77=>(some Bx).bind fun t78=>(some At).bind fun t79=>((some ways_).bind fun t76=>D1 (fun (way_:(T3 Int Int (Tp Int)))=>((some fair_).bind fun t74=>(some way_.b).bind fun t75=>atI t74 t75)) t76).bind fun t80=>BE t77 t78 t79 t80).bind fun stem_ =>
  (some stem_.isNone).bind fun b87=>cond b87
   ((some none))
   (((((some stem_).bind fun t97=>t97).bind fun t107=>((some net_).bind fun t104=>(some Az).bind fun t105=>(((some ways_).bind fun t101=>(((some stem_).bind fun t98=>t98).bind fun t99=>(some (-(1:Int))).bind fun t100=>atI t99 t100).bind fun t102=>atI t101 t102).bind fun t103=>(some t103.b)).bind fun t106=>C3 t104 t105 t106).bind fun t108=>(some (t107,t108))).bind fun t109=>(some (some t109)))))
noncomputable abbrev E2 (x:(T3 Int (List (T3 Int Int (Tp Int))) Int) × Int × Unit):Option (Option ((List Int) × (List Int))):=DM x.1 x.2.1
noncomputable def Dh (net_:(T3 Int (List (T3 Int Int (Tp Int))) Int))(At:Int)(BY:(List Int)):Option (Option Int) :=
 (some BY).bind fun as1=>(Cc (S:=(Int)) (ρ:=(Option Int)) (fun (AL:Int) s8 =>
   (some ((!true) || false)).bind fun b23=>cond b23
    ((some none).bind fun rr33=>some (Fl.rt rr33))
    (((some (decide (AL<(0:Int)))).bind fun t40=>cond t40 (some true) ((some (decide ((net_.b.length:Int)<=AL))).bind fun t39=>cond t39 (some true) ((((some net_.b).bind fun t35=>(some AL).bind fun t36=>atI t35 t36).bind fun t37=>(some t37.a)).bind fun t38=>(some (!decide (t38=s8)))))).bind fun b41=>cond b41
     ((some none).bind fun rr51=>some (Fl.rt rr51))
     ((((some net_.b).bind fun t53=>(some AL).bind fun t54=>atI t53 t54).bind fun t55=>(some t55.b)).bind fun At =>
     some (Fl.nx At)))) as1 At).bind fun fl3=>match fl3 with
  | .nx s8 =>
   (some (some s8))
  | .rt r=>some r
  | .bk _=>none
noncomputable abbrev EO (x:(T3 Int (List (T3 Int Int (Tp Int))) Int) × Int × (List Int) × Unit):Option (Option Int):=Dh x.1 x.2.1 x.2.2.1
noncomputable def Da (net_:(T3 Int (List (T3 Int Int (Tp Int))) Int))(At:Int)(told_here_:((List Int) × (List Int))):Option Bool :=
 ((some net_).bind fun t1=>(some At).bind fun t2=>(some told_here_.1).bind fun t3=>Dh t1 t2 t3).bind fun begin_ =>
 ((some begin_.isNone).bind fun t16=>cond t16 (some true) ((some (decide ((told_here_.2.length:Int)=(0:Int)))).bind fun t15=>cond t15 (some true) (((some net_).bind fun t11=>((some begin_).bind fun t10=>t10).bind fun t12=>(some told_here_.2).bind fun t13=>Dh t11 t12 t13).bind fun t14=>(some (!decide (t14=begin_)))))).bind fun b17=>cond b17
  ((some false))
  ((some ([]:List Int)).bind fun taken_ =>
  (some told_here_.2).bind fun as35=>(Cc (S:=((List Int))) (ρ:=Bool) (fun (AL:Int) s42 =>
    (((some net_.b).bind fun t55=>(some AL).bind fun t56=>atI t55 t56).bind fun t57=>(some t57.c)).bind fun a58=>(extO s42 a58.l).bind fun z66 =>
    some (Fl.nx z66)) as35 taken_).bind fun fl37=>match fl37 with
   | .nx s42 =>
    (((some s42).bind fun t74=>lenSetO t74).bind fun t75=>(some (decide (t75=net_.c))))
   | .rt r=>some r
   | .bk _=>none)
noncomputable abbrev EZ (x:(T3 Int (List (T3 Int Int (Tp Int))) Int) × Int × ((List Int) × (List Int)) × Unit):Option Bool:=Da x.1 x.2.1 x.2.2.1
noncomputable def Dj (net_:(T3 Int (List (T3 Int Int (Tp Int))) Int))(At:Int)(due_:Bool):Option Bool :=
 ((some net_).bind fun t1=>(some At).bind fun t2=>DM t1 t2).bind fun told_here_ =>
 (some (told_here_.isNone || (!due_))).bind fun b9=>cond b9
  ((some (told_here_.isNone && (!due_))))
  ((((some net_).bind fun t20=>(some At).bind fun t21=>((some told_here_).bind fun t19=>t19).bind fun t22=>Da t20 t21 t22).bind fun t35=>cond t35 ((((((some told_here_).bind fun t23=>t23).bind fun t24=>(some t24.1)).bind fun t25=>(some (t25.length:Int))).bind fun t26=>(some (decide (t26<net_.a)))).bind fun t34=>cond t34 (((((some told_here_).bind fun t27=>t27).bind fun t28=>(some t28.2)).bind fun t29=>(some (t29.length:Int))).bind fun t32=>((some net_.a).bind fun t30=>(some (net_.c+(1:Int))).bind fun t31=>Gc t30 t31).bind fun t33=>(some (decide (t32<=t33)))) (some false)) (some false)))
noncomputable abbrev Ee (x:(T3 Int (List (T3 Int Int (Tp Int))) Int) × Int × Bool × Unit):Option Bool:=Dj x.1 x.2.1 x.2.2.1
noncomputable def EA (net_:(T3 Int (List (T3 Int Int (Tp Int))) Int))(Bl:(List Bool))(Fu:(List Int)):Option Bool :=
 ((some net_).bind fun t1=>Gd t1).bind fun rows_ =>
 (some (!decide ((rows_.length:Int)=net_.a))).bind fun b8=>cond b8
  ((some false))
  (((some net_.a).bind fun t18=>EH 0 t18).bind fun as19=>(Cc (S:=Unit) (ρ:=Bool) (fun (At:Int) s26 =>
    ((((some rows_).bind fun t39=>(some At).bind fun t40=>atI t39 t40).bind fun t41=>(some t41.isNone)).bind fun t46=>((some Bl).bind fun t44=>(some At).bind fun t45=>atI t44 t45).bind fun t47=>(some (!decide (t46=t47)))).bind fun b48=>cond b48
     ((some false).bind fun rr58=>some (Fl.rt rr58))
     (some (Fl.nx ()))) as19 ()).bind fun fl21=>match fl21 with
   | .nx s26 =>
    (some net_.b).bind fun as64=>(Cc (S:=Unit) (ρ:=Bool) (fun (way_:(T3 Int Int (Tp Int))) s71 =>
      (((some way_).bind fun t84=>(some rows_).bind fun t85=>Bn t84 t85).bind fun t86=>(some (!t86))).bind fun b87=>cond b87
       ((some false).bind fun rr97=>some (Fl.rt rr97))
       (some (Fl.nx ()))) as64 ()).bind fun fl66=>match fl66 with
     | .nx s71 =>
      (some Fu).bind fun as103=>(Cc (S:=Unit) (ρ:=Bool) (fun (At:Int) s110 =>
        (((some net_).bind fun t125=>(some At).bind fun t126=>((some Bl).bind fun t123=>(some At).bind fun t124=>atI t123 t124).bind fun t127=>Dj t125 t126 t127).bind fun t128=>(some (!t128))).bind fun b129=>cond b129
         ((some false).bind fun rr139=>some (Fl.rt rr139))
         (some (Fl.nx ()))) as103 ()).bind fun fl105=>match fl105 with
       | .nx s110 =>
        (some true)
       | .rt r=>some r
       | .bk _=>none
     | .rt r=>some r
     | .bk _=>none
   | .rt r=>some r
   | .bk _=>none)
noncomputable abbrev FH (x:(T3 Int (List (T3 Int Int (Tp Int))) Int) × (List Bool) × (List Int) × Unit):Option Bool:=EA x.1 x.2.1 x.2.2.1
noncomputable def DD (script_:Scr)(k_:Int)(Aj:Int):Option (List Int) :=
 ((some script_).bind fun t1=>(some ((4:Int)+k_)).bind fun t2=>Am t1 t2).bind fun AL =>
 (some (decide ((AL % (2:Int))=(0:Int)))).bind fun b9=>cond b9
  (((some Aj).bind fun t14=>EH 0 t14))
  ((some (decide ((AL % (4:Int))=(1:Int)))).bind fun b20=>cond b20
   ((((some Aj).bind fun t25=>EH 0 t25).bind fun t35=>CT (fun (Ao:Int)=>(((some (AL / (4:Int))).bind fun t32=>(some Aj).bind fun t33=>Dm t32 t33).bind fun t34=>(some (!decide (Ao=t34))))) (fun (Ao:Int)=>(some Ao)) t35))
   ((((some Aj).bind fun t41=>EH 0 t41).bind fun t50=>CT (fun (Ao:Int)=>((((some AL).bind fun t46=>(some (Ao+(2:Int))).bind fun t47=>shrO t46 t47).bind fun t48=>(some (t48 % (2:Int)))).bind fun t49=>(some (decide (t49=(1:Int)))))) (fun (Ao:Int)=>(some Ao)) t50)))
noncomputable abbrev E3 (x:Scr × Int × Int × Unit):Option (List Int):=DD x.1 x.2.1 x.2.2.1
noncomputable def DI (base_:Int)(size_:Int)(some_:(List Int))(AL:Int):Option (List (T3 Int Int (Tp Int))) :=
 (some ([]:List (T3 Int Int (Tp Int)))).bind fun ways_ =>
 ((some size_).bind fun t9=>EH 0 t9).bind fun as10=>(Cc (S:=((List (T3 Int Int (Tp Int))))) (ρ:=(List (T3 Int Int (Tp Int)))) (fun (at_:Int) s17 =>
   ((some some_).bind fun t42=>CT (fun (Ao:Int)=>((((((some Ao).bind fun t35=>(some Ao).bind fun t36=>Gc t35 t36).bind fun t37=>(some (t37 * (7:Int)))).bind fun t38=>(some (AL+t38))).bind fun t39=>(some size_).bind fun t40=>Dm t39 t40).bind fun t41=>(some (decide (t41=at_))))) (fun (Ao:Int)=>(some Ao)) t42).bind fun taken_ =>
   ((((some (at_+(1:Int))).bind fun t49=>(some size_).bind fun t50=>Dm t49 t50).bind fun t51=>(some (base_+t51))).bind fun t52=>(some (T3.mk (base_+at_) t52 (Tp.mk taken_)))).bind fun a53=>(Ds s17 a53).bind fun z61 =>
   some (Fl.nx z61)) as10 ways_).bind fun fl12=>match fl12 with
  | .nx s17 =>
   (some s17)
  | .rt r=>some r
  | .bk _=>none
noncomputable abbrev E5 (x:Int × Int × (List Int) × Int × Unit):Option (List (T3 Int Int (Tp Int))):=DI x.1 x.2.1 x.2.2.1 x.2.2.2.1
noncomputable def Ct (ways_:(List (T3 Int Int (Tp Int))))(D8:Int)(EJ:Int):Option (List (T3 Int Int (Tp Int))) :=
 ((some ways_).bind fun t16=>D1 (fun (pc3:(T3 Int Int (Tp Int)))=>(((some (((607:Int) * pc3.a)+EJ)).bind fun t10=>(some D8).bind fun t11=>Dm t10 t11).bind fun t14=>((some (((607:Int) * pc3.b)+EJ)).bind fun t12=>(some D8).bind fun t13=>Dm t12 t13).bind fun t15=>(some (T3.mk t14 t15 pc3.c)))) t16)
noncomputable abbrev Dp (x:(List (T3 Int Int (Tp Int))) × Int × Int × Unit):Option (List (T3 Int Int (Tp Int))):=Ct x.1 x.2.1 x.2.2.1
noncomputable def m_law (script_:Scr):Option Bool :=
 ((some script_).bind fun t1=>DG t1).bind fun sizes_here_ =>
 (((some script_).bind fun t8=>(some (2:Int)).bind fun t9=>Am t8 t9).bind fun t10=>(some (t10 % (13:Int)))).bind fun Aj =>
 (((some (sizes_here_.length:Int)).bind fun t17=>EH 0 t17).bind fun t23=>D1 (fun (k_:Int)=>((some (cutA sizes_here_ none (some k_))).bind fun t22=>sumO t22)) t23).bind fun Ej =>
 ((some sizes_here_).bind fun t30=>sumO t30).bind fun D8 =>
 (some ([]:List (T3 Int Int (Tp Int)))).bind fun ways_ =>
 (some ([]:List Bool)).bind fun GB =>
 ((some (sizes_here_.length:Int)).bind fun t51=>EH 0 t51).bind fun as52=>(Cc (S:=((List (T3 Int Int (Tp Int))) × (List Bool))) (ρ:=Bool) (fun (k_:Int) s59 =>
   ((some script_).bind fun t75=>(some k_).bind fun t76=>(some Aj).bind fun t77=>DD t75 t76 t77).bind fun some_ =>
   (some (decide ((some_.length:Int)=Aj))).bind fun a84=>(Ds s59.2 a84).bind fun z92 =>
   ((some s59.1).bind fun t104=>(((some Ej).bind fun t93=>(some k_).bind fun t94=>atI t93 t94).bind fun t100=>((some sizes_here_).bind fun t95=>(some k_).bind fun t96=>atI t95 t96).bind fun t101=>(some some_).bind fun t102=>(((some script_).bind fun t97=>(some ((5:Int)+k_)).bind fun t98=>Am t97 t98).bind fun t99=>(some (t99 / (16384:Int)))).bind fun t103=>DI t100 t101 t102 t103).bind fun t105=>catL t104 t105).bind fun ways_ =>
   some (Fl.nx (ways_,z92))) as52 (ways_,GB)).bind fun fl54=>match fl54 with
  | .nx s59 =>
   ((some script_).bind fun t119=>(some Ej).bind fun t120=>(some sizes_here_).bind fun t121=>(some Aj).bind fun t122=>DE t119 t120 t121 t122).bind fun BR =>
   ((some (sizes_here_.length:Int)).bind fun t133=>(some s59.2).bind fun t134=>(some BR).bind fun t135=>BS t133 t134 t135).bind fun rounds_ =>
   ((some s59.1).bind fun t152=>((some BR).bind fun t151=>D1 (fun (pc144:(T3 Int Int (T3 Int Int (Tp Int))))=>(some pc144.c)) t151).bind fun t153=>catL t152 t153).bind fun ways_ =>
   ((((some script_).bind fun t160=>(some (2:Int)).bind fun t161=>Am t160 t161).bind fun t162=>(some (t162 / (13:Int)))).bind fun t163=>(some (t163 % (600:Int)))).bind fun EJ =>
   (((((some script_).bind fun t170=>(some (2:Int)).bind fun t171=>Am t170 t171).bind fun t172=>(some (t172 / (7800:Int)))).bind fun t173=>(some (t173 % (2:Int)))).bind fun t174=>(some (decide (t174=(1:Int))))).bind fun b175=>(cond b175
    ((some ways_.reverse).bind fun ways_ =>
    some ways_)
    (some ways_)).bind fun s180 =>
   ((some [false]).bind fun t195=>(some D8).bind fun t196=>repL t195 t196).bind fun Bl =>
   ((some (sizes_here_.length:Int)).bind fun t205=>EH 0 t205).bind fun as206=>(Cc (S:=((List Bool))) (ρ:=Bool) (fun (k_:Int) s213 =>
     (((some sizes_here_).bind fun t227=>(some k_).bind fun t228=>atI t227 t228).bind fun t229=>EH 0 t229).bind fun as230=>(Cc (S:=((List Bool))) (ρ:=Bool) (fun (at_:Int) s237 =>
       ((some rounds_).bind fun t250=>(some k_).bind fun t251=>atI t250 t251).bind fun a259=>((((((some Ej).bind fun t252=>(some k_).bind fun t253=>atI t252 t253).bind fun t254=>(some (t254+at_))).bind fun t255=>(some ((607:Int) * t255))).bind fun t256=>(some (t256+EJ))).bind fun t257=>(some D8).bind fun t258=>Dm t257 t258).bind fun k261=>(Fw s237 k261 a259).bind fun z270 =>
       some (Fl.nx z270)) as230 s213).bind fun fl232=>match fl232 with
      | .nx s237 =>
       some (Fl.nx s237)
      | .rt r=>some (Fl.rt r)
      | .bk _=>none) as206 Bl).bind fun fl208=>match fl208 with
    | .nx s213 =>
     ((((some script_).bind fun t280=>(some (13:Int)).bind fun t281=>Am t280 t281).bind fun t282=>(some (2:Int)).bind fun t283=>CJ t282 t283).bind fun t290=>D1 (fun (AL:Int)=>((some AL).bind fun t288=>(some D8).bind fun t289=>Dm t288 t289)) t290).bind fun Fu =>
     ((((some s180).bind fun t305=>(some D8).bind fun t306=>(some EJ).bind fun t307=>Ct t305 t306 t307).bind fun t308=>(some (T3.mk D8 t308 Aj))).bind fun t309=>(some s213).bind fun t310=>(some Fu).bind fun t311=>EA t309 t310 t311)
    | .rt r=>some r
    | .bk _=>none
  | .rt r=>some r
  | .bk _=>none
noncomputable abbrev mm_law (x:Scr × Unit):Option Bool:=m_law x.1
noncomputable def top (i:Nat):Stmt:=PySem.Challenge.pw_lassoscribe_k37_great_nets.main.body.getD i (.Pass ⟨0,0,0,0⟩)
noncomputable abbrev Dn:Stmt:=top 1
noncomputable abbrev ED:Stmt:=top 3
noncomputable abbrev DN:Stmt:=top 4
noncomputable abbrev Br:Stmt:=top 5
noncomputable abbrev Ca:Stmt:=top 6
noncomputable abbrev Df:Stmt:=top 7
noncomputable abbrev C9:Stmt:=top 8
noncomputable abbrev Bv:Stmt:=top 9
noncomputable abbrev EC:Stmt:=top 10
noncomputable abbrev EG:Stmt:=top 11
noncomputable abbrev Es:Stmt:=top 12
noncomputable abbrev Gg:Stmt:=top 13
noncomputable abbrev En:Stmt:=top 14
noncomputable abbrev Bt:Stmt:=top 15
noncomputable abbrev CC:Stmt:=top 16
noncomputable abbrev CY:Stmt:=top 17
noncomputable abbrev DF:Stmt:=top 18
noncomputable abbrev CW:Stmt:=top 20
noncomputable abbrev Cm:Stmt:=top 21
noncomputable abbrev EB:Stmt:=top 22
noncomputable abbrev Db:Stmt:=top 23
noncomputable abbrev CA:Stmt:=top 24
noncomputable abbrev DH:Stmt:=top 25
noncomputable abbrev DK:Stmt:=top 26
noncomputable abbrev DL:Stmt:=top 27
noncomputable abbrev DJ:Stmt:=top 28
noncomputable abbrev BU:Stmt:=top 29
noncomputable abbrev Cq:Stmt:=top 30
noncomputable abbrev Dg:Stmt:=top 31
noncomputable abbrev E9:Stmt:=top 32
noncomputable abbrev GN:Stmt:=top 33
structure Txt (mg:Str->Option Value):Prop where
 any_:mg "any" = none
 bool_:mg "bool" = none
 enumerate_:mg "enumerate" = none
 int_:mg "int" = none
 isinstance_:mg "isinstance" = none
 len_:mg "len" = none
 list_:mg "list" = none
 range_:mg "range" = none
 reversed_:mg "reversed" = none
 set_:mg "set" = none
 sum_:mg "sum" = none
 tuple_:mg "tuple" = none
theorem sc_is_taken:FnScope ["ways","mark","numbers"] ["ways","mark","numbers"] (AF Dn):=⟨rfl,rfl,rfl,by decide +kernel,rfl,by decide +kernel,by decide +kernel⟩
theorem sc_ends_of:FnScope ["net","ends","way"] ["net"] (AF ED):=⟨rfl,rfl,rfl,by decide +kernel,rfl,by decide +kernel,by decide +kernel⟩
theorem sc_begins_of:FnScope ["net","begins","way"] ["net"] (AF DN):=⟨rfl,rfl,rfl,by decide +kernel,rfl,by decide +kernel,by decide +kernel⟩
theorem sc_leaving_order:FnScope ["leads","seen","tried","order","begin","path","node","other"] ["leads"] (AF Br):=⟨rfl,rfl,rfl,by decide +kernel,rfl,by decide +kernel,by decide +kernel⟩
theorem sc_number_knot:FnScope ["knots","ends","begin","number","line","node","other"] ["knots","ends","begin","number"] (AF Ca):=⟨rfl,rfl,rfl,by decide +kernel,rfl,by decide +kernel,by decide +kernel⟩
theorem sc_knots_of:FnScope ["net","order","ends","knots","many","begin"] ["net"] (AF Df):=⟨rfl,rfl,rfl,by decide +kernel,rfl,by decide +kernel,by decide +kernel⟩
theorem sc_marks_within:FnScope ["net","knots","within","way","knot","mark"] ["net","knots"] (AF C9):=⟨rfl,rfl,rfl,by decide +kernel,rfl,by decide +kernel,by decide +kernel⟩
theorem sc_missing_marks:FnScope ["taken","marks"] ["taken","marks"] (AF Bv):=⟨rfl,rfl,rfl,by decide +kernel,rfl,by decide +kernel,by decide +kernel⟩
theorem sc_is_fair:FnScope ["taken","marks"] ["taken","marks"] (AF EC):=⟨rfl,rfl,rfl,by decide +kernel,rfl,by decide +kernel,by decide +kernel⟩
theorem sc_lack_of:FnScope ["taken","marks"] ["taken","marks"] (AF EG):=⟨rfl,rfl,rfl,by decide +kernel,rfl,by decide +kernel,by decide +kernel⟩
theorem sc_spread:FnScope ["leads","wanted","found","line","node","other"] ["leads","wanted"] (AF Es):=⟨rfl,rfl,rfl,by decide +kernel,rfl,by decide +kernel,by decide +kernel⟩
theorem sc_shut:FnScope ["net","marks","knots","within","free","rows","node","knot"] ["net"] (AF Gg):=⟨rfl,rfl,rfl,by decide +kernel,rfl,by decide +kernel,by decide +kernel⟩
theorem sc_traced:FnScope ["ways","came_by","last","path"] ["ways","came_by","last"] (AF En):=⟨rfl,rfl,rfl,by decide +kernel,rfl,by decide +kernel,by decide +kernel⟩
theorem sc_shortest_path:FnScope ["ways","leaving","begin","wanted","came_by","line","place","node","number","end"] ["ways","leaving","begin","wanted"] (AF Bt):=⟨rfl,rfl,rfl,by decide +kernel,rfl,by decide +kernel,by decide +kernel⟩
theorem sc_ways_leaving:FnScope ["net","wanted","leaving","number","way"] ["net","wanted"] (AF CC):=⟨rfl,rfl,rfl,by decide +kernel,rfl,by decide +kernel,by decide +kernel⟩
theorem sc_ring_within:FnScope ["net","knots","begin","ways","leaving","ring","here","mark"] ["net","knots","begin"] (AF CY):=⟨rfl,rfl,rfl,by decide +kernel,rfl,by decide +kernel,by decide +kernel⟩
theorem sc_ring_from:FnScope ["net","node","ways","knots","within","fair","leaving","stem"] ["net","node"] (AF DF):=⟨rfl,rfl,rfl,by decide +kernel,rfl,by decide +kernel,by decide +kernel⟩
theorem sc_law_cell_at:FnScope ["_law_script","_law_k"] ["_law_script","_law_k"] (AF CW):=⟨rfl,rfl,rfl,by decide +kernel,rfl,by decide +kernel,by decide +kernel⟩
theorem sc_law_stream:FnScope ["_law_cell","_law_many","_law_numbers","_law_number","_law_k"] ["_law_cell","_law_many"] (AF Cm):=⟨rfl,rfl,rfl,by decide +kernel,rfl,by decide +kernel,by decide +kernel⟩
theorem sc_law_end:FnScope ["_law_net","_law_node","_law_numbers","_law_number"] ["_law_net","_law_node","_law_numbers"] (AF EB):=⟨rfl,rfl,rfl,by decide +kernel,rfl,by decide +kernel,by decide +kernel⟩
theorem sc_law_fair:FnScope ["_law_net","_law_node","_law_told_here","_law_begin","_law_taken","_law_number"] ["_law_net","_law_node","_law_told_here"] (AF Db):=⟨rfl,rfl,rfl,by decide +kernel,rfl,by decide +kernel,by decide +kernel⟩
theorem sc_law_way_fits:FnScope ["_law_way","_law_rows","_law_one","_law_other"] ["_law_way","_law_rows"] (AF CA):=⟨rfl,rfl,rfl,by decide +kernel,rfl,by decide +kernel,by decide +kernel⟩
theorem sc_law_sizes:FnScope ["_law_script","_law_cell","_law_numbers"] ["_law_script"] (AF DH):=⟨rfl,rfl,rfl,by decide +kernel,rfl,by decide +kernel,by decide +kernel⟩
theorem sc_law_marks:FnScope ["_law_script","_law_k","_law_marks_here","_law_number"] ["_law_script","_law_k","_law_marks_here"] (AF DK):=⟨rfl,rfl,rfl,by decide +kernel,rfl,by decide +kernel,by decide +kernel⟩
theorem sc_law_round:FnScope ["_law_base","_law_size","_law_some","_law_number","_law_ways","_law_at","_law_taken"] ["_law_base","_law_size","_law_some","_law_number"] (AF DL):=⟨rfl,rfl,rfl,by decide +kernel,rfl,by decide +kernel,by decide +kernel⟩
theorem sc_law_leads:FnScope ["_law_script","_law_bases","_law_sizes_here","_law_marks_here","_law_leads_here","_law_k","_law_number","_law_one","_law_other","_law_first","_law_second","_law_taken"] ["_law_script","_law_bases","_law_sizes_here","_law_marks_here"] (AF DJ):=⟨rfl,rfl,rfl,by decide +kernel,rfl,by decide +kernel,by decide +kernel⟩
theorem sc_law_fair_rounds:FnScope ["_law_many","_law_whole","_law_leads_here","_law_fair_here","_law_k","_law_one","_law_other","_law_way"] ["_law_many","_law_whole","_law_leads_here"] (AF BU):=⟨rfl,rfl,rfl,by decide +kernel,rfl,by decide +kernel,by decide +kernel⟩
theorem sc_law_turned:FnScope ["_law_ways","_law_count","_law_shift"] ["_law_ways","_law_count","_law_shift"] (AF Cq):=⟨rfl,rfl,rfl,by decide +kernel,rfl,by decide +kernel,by decide +kernel⟩
theorem sc_law_told:FnScope ["_law_net","_law_node","_law_due","_law_told_here"] ["_law_net","_law_node","_law_due"] (AF Dg):=⟨rfl,rfl,rfl,by decide +kernel,rfl,by decide +kernel,by decide +kernel⟩
theorem sc_law_all:FnScope ["_law_net","_law_fair_here","_law_nodes","_law_rows","_law_node","_law_way"] ["_law_net","_law_fair_here","_law_nodes"] (AF E9):=⟨rfl,rfl,rfl,by decide +kernel,rfl,by decide +kernel,by decide +kernel⟩
theorem sc_law:FnScope ["_law_script","_law_sizes_here","_law_marks_here","_law_bases","_law_count","_law_ways","_law_whole","_law_k","_law_some","_law_leads_here","_law_rounds","_law_shift","_law_fair_here","_law_at","_law_nodes"] ["_law_script"] (AF GN):=⟨rfl,rfl,rfl,by decide +kernel,rfl,by decide +kernel,by decide +kernel⟩
noncomputable def sp_law (K:FZ9):Sp:=fun vs H Q _=>∃ (a:Addr) (ns:List Int),vs=[.ref a]/\SqL K H a (ns.map V.int)/\ns.length<=63/\∀ H',Q (.bl true) H'
section
variable {P:Program}{w:World}{K:FZ9}{mg:Str->Option Value}{base:Heap}
theorem ok_law_cell_at {f:Addr}{fd:FuncData}(F:Fun K "_law_cell_at" "_law_cell_at" CW f fd)(T:Txt mg):FnOk P w K mg base CX0 1 f fd ["_law_script","_law_k"] (spM K AZ):=by
 refine F.ok sc_law_cell_at (fun vs H Q E h=>(Au h).trans rfl) (fun cdv A outer s H0 vs Q E hr h=>?_)
 obtain ⟨G0,⟨script_,⟨k_,⟨⟩⟩⟩,res,sg0,⟨BL,_,rfl,AD,⟨v_k_,_,rfl,Gv,rfl⟩⟩,hm,q⟩:=h
 replace AD:Rp.rel K G0 BL script_:=AD
 replace Gv:Rp.rel K G0 v_k_ k_:=Gv
 replace hm:Am script_ k_=some res:=hm
 unfold Am at hm
 have xt:Ext G0 H0 G0 H0:=Ext.refl sg0
 refine ⟨_,(A5 (Bc (Ag op_ltU (pv 1) (Ap (As (K:=K) rfl) (by rfl) T.len_ Bk (A6 (pv 0) AB)) (Ab _)) (A5 (Ad (AI (A9 (K:=K) rfl) (pv 0) (pv 1) (fun _ _=>rfl)))
   AA) AA)
   (A5 (Ad AC)
   AA)),?_⟩
 refine bE hm fun b1 h2 hm=>?_
 refine Cv (Ac (K:=K) (Dt (A4 rfl Gv) (ev_lenX (A4 rfl AD)))) h2 xt.gh fun G3 H4 x5=>?_
 have xt:=xt.trans x5
 have AD:=Rp.mono x5.gg AD
 have Gv:=Rp.mono x5.gg Gv
 cases b1 with
 | true =>
  replace hm:=cT hm
  refine CN ?_
  exact Ae (K:=K) (ev_atX (A4 rfl AD) (A4 rfl Gv)) hm xt.gh fun v8 G9 H10 x11 r12=>q v8 G9 H10 (xt.trans x11) r12
 | false =>
  replace hm:=cF hm
  refine CG ?_
  exact Ae (K:=K) (rest:=Du) (σ:=[some BL,some v_k_]) BI hm xt.gh fun v13 G14 H15 x16 r17=>q v13 G14 H15 (xt.trans x16) r17
theorem ok_law_stream {f:Addr}{fd:FuncData}(F:Fun K "_law_stream" "_law_stream" Cm f fd)(T:Txt mg):FnOk P w K mg base CX0 1 f fd ["_law_cell","_law_many"] (spM K CZ):=by
 refine F.ok sc_law_stream (fun vs H Q E h=>(Au h).trans rfl) (fun cdv A outer s H0 vs Q E hr h=>?_)
 obtain ⟨G0,⟨Gi,⟨ES,⟨⟩⟩⟩,res,sg0,⟨v_cell_,_,rfl,GJ,⟨Fm,_,rfl,Ck,rfl⟩⟩,hm,q⟩:=h
 replace GJ:Rp.rel K G0 v_cell_ Gi:=GJ
 replace Ck:Rp.rel K G0 Fm ES:=Ck
 replace hm:CJ Gi ES=some res:=hm
 unfold CJ at hm
 have xt:Ext G0 H0 G0 H0:=Ext.refl sg0
 refine ⟨_,(A5 (AN (i:=2) sc_law_stream.nd rfl (Or.inl rfl) (CH AB))
   (A5 (AN (i:=3) sc_law_stream.nd rfl (Or.inl rfl) (AR (Ak (K:=K) rfl) (AR BX (pv 0) AC) AC))
   (A5 (BW PassesOwn.never rfl (B7 rfl T.range_ (A6 (pv 1) AB)) (Ah (i:=4) sc_law_stream.nd rfl (Or.inl rfl)) (A5 (AN (i:=3) sc_law_stream.nd rfl (Or.inl rfl) (AR BX (AR (Ak (K:=K) rfl) (AR (Ak (K:=K) rfl) (AR (Eb (K:=K) rfl) (pv 3) (pv 3)) (AR (Eb (K:=K) rfl) AC (pv 3))) (pv 4)) AC))
   (A5 (Bo (Cg (K:=K) rfl PySem.F.plainAttrs_list PySem.F.slot_list_append PySem.F.type_list_append BK (pv 2) (A6 (pv 3) AB)))
   AA)))
   (A5 (Ad (pv 2))
   AA)))),?_⟩
 refine bE hm fun BY h8 hm=>?_
 refine Cd (K:=K) (Cw (D3 (α:=Int))) h8 xt.gh fun p1 vs2 G3 H4 x5 hz6 o7=>?_
 have hz6:=xt.hh.free hz6
 have xt:=xt.trans x5
 have GJ:=Rp.mono x5.gg GJ
 have Ck:=Rp.mono x5.gg Ck
 refine bE hm fun AL h14 hm=>?_
 refine AU (K:=K) (BO (Cn (A4 rfl GJ)) BI) h14 xt.gh fun v9 G10 H11 x12 r13=>?_
 have xt:=xt.trans x12
 have Ck:=Rp.mono x12.gg Ck
 have o7:=o7.ext x12
 refine bE hm fun as16 h17 hm=>?_
 refine bE hm fun fl18 h19 hm=>?_
 refine Bi (K:=K) (RR:=fun r v G' H'=>Ext G0 H0 G' H'/\Rp.rel K G' v r) (By (A4 rfl Ck)) h17 h19 xt.gh fun G20 H21 x22=>⟨fun s23 S' G' H'=>∃ (v24:V) (v25:Option V),Ext G0 H0 G' H'/\Same G20 G'/\S'=[some v_cell_,some Fm,some (V.ref p1),some v24,v25]/\(∃ vs,Own K G' H' (V.ref p1) p1 vs s23.1)/\Rp.rel K G' v24 (s23.2:Int),?_,?_,?_,?_,?_⟩
 ·have xt:=xt.trans x22
  have o7:=o7.ext x22
  have r13:=Rp.mono x22.gg r13
  exact ⟨v9,_,xt,(Same.refl _),rfl,⟨_,o7⟩,r13⟩
 ·rintro _ S' G' H' ⟨v24,v25,xt,mk26,rfl,⟨vs2,o7⟩,r27⟩
  exact ⟨mk26,xt.gh⟩
 ·rintro xv28 a29 s23 _ G32 H33 fl30 - ⟨v24,v25,xt,mk26,rfl,⟨vs2,o7⟩,r27⟩ rx31 hm D' kN34 kC35 kB36 kR37
  refine BF ?_
  refine bE hm fun AL h48 hm=>?_
  refine AU (K:=K) (Cn (BO (BO (ev_mul (A4 rfl r27) (A4 rfl r27)) (ev_mulL (A4 rfl r27))) (A4 rfl rx31))) h48 xt.gh fun v43 G44 H45 x46 r47=>?_
  have xt:=xt.trans x46
  have mk26:=mk26.trans x46.gg
  have o7:=o7.ext x46
  refine bE hm fun a49 h50 hm=>?_
  refine bE hm fun z57 h51 hm=>?_
  refine Cu (K:=K) rfl o7 (A4 rfl r47) h50 h51 xt.gh fun G52 H53 w54 x55 o56=>?_
  have xt:Ext G0 H0 G52 (upd H53 p1 (.lst (vs2++[w54]))):=(xt.trans x55).put hz6 o56.g
  have mk26:=mk26.trans x55.gg
  have r47:=Rp.mono x55.gg r47
  cases hm
  exact kN34 _ _ _ _ rfl ⟨v43,_,xt,mk26,rfl,⟨_,o56⟩,r47⟩
 ·rintro s23 _ G62 H63 rfl ⟨v58,v59,xt,mk60,rfl,⟨vs2,o7⟩,r61⟩
  refine Bp ?_
  have sf:=Same.new (o:=.lst vs2) o7.g
  have xt:=xt.frz hz6 o7.g o7.h
  have r64:=o7.tell
  exact Ae (K:=K) (A4 rfl r64) hm xt.gh fun v65 G66 H67 x68 r69=>q v65 G66 H67 (xt.trans x68) r69
 ·rintro r' v' G' H' rfl rl
  cases hm
  exact q v' G' H' rl.1 rl.2
theorem ok_law_sizes {f:Addr}{fd:FuncData}(F:Fun K "_law_sizes" "_law_sizes" DH f fd)(T:Txt mg)(D_law_cell_at:DefOk P w K mg base "_law_cell_at" 1 ["_law_script","_law_k"] (spM K AZ))(D_law_stream:DefOk P w K mg base "_law_stream" 1 ["_law_cell","_law_many"] (spM K CZ)):FnOk P w K mg base CX0 2 f fd ["_law_script"] (spM K E1):=by
 refine F.ok sc_law_sizes (fun vs H Q E h=>(Au h).trans rfl) (fun cdv A outer s H0 vs Q E hr h=>?_)
 obtain ⟨G0,⟨script_,⟨⟩⟩,res,sg0,⟨BL,_,rfl,AD,rfl⟩,hm,q⟩:=h
 replace AD:Rp.rel K G0 BL script_:=AD
 replace hm:DG script_=some res:=hm
 unfold DG at hm
 have xt:Ext G0 H0 G0 H0:=Ext.refl sg0
 refine ⟨_,(A5 (AN (i:=1) sc_law_sizes.nd rfl (Or.inl rfl) (Aa D_law_cell_at hr (by decide) rfl (A6 (pv 0) (A6 AC AB))))
   (A5 (AN (i:=2) sc_law_sizes.nd rfl (Or.inl rfl) (Aa D_law_stream hr (by decide) rfl (A6 (Aa D_law_cell_at hr (by decide) rfl (A6 (pv 0) (A6 AC AB))) (A6 (AR (Ak (K:=K) rfl) AC (AR BX (pv 1) AC)) AB))))
   (A5 (Bc (Ag DY (AR BX (AR E6 (pv 1) AC) AC) AC (Ab _)) (A5 (Ad (Co (cn:=[]) (cap:=[]) rfl ⟨by decide +kernel,rfl,by decide +kernel,Ay rfl⟩ rfl (by decide +kernel) trivial (Av (K:=K) rfl (pv 2)) (fun C s0 H0 fp=>⟨BP,(AR (Ak (K:=K) rfl) AC (AR BX (pv 0) AC))⟩)))
   AA) AA)
   (A5 (Ad (Co (cn:=[]) (cap:=[]) rfl ⟨by decide +kernel,rfl,by decide +kernel,Ay rfl⟩ rfl (by decide +kernel) trivial (Av (K:=K) rfl (pv 2)) (fun C s0 H0 fp=>⟨BP,(AR (Ak (K:=K) rfl) AC (AR BX (pv 0) AC))⟩)))
   AA)))),?_⟩
 refine bE hm fun Gi h8 hm=>?_
 refine AU (K:=K) (B8 (m:=AZ) (A4 rfl AD) BI) h8 xt.gh fun v3 G4 H5 x6 r7=>?_
 have xt:=xt.trans x6
 have AD:=Rp.mono x6.gg AD
 refine bE hm fun BY h18 hm=>?_
 refine AU (K:=K) (B8 (m:=CZ) (B8 (m:=AZ) (A4 rfl AD) BI) (BO BI (Cn (A4 rfl r7)))) h18 xt.gh fun v13 G14 H15 x16 r17=>?_
 have xt:=xt.trans x16
 have r7:=Rp.mono x16.gg r7
 refine bE hm fun b19 h20 hm=>?_
 refine Cv (Ac (K:=K) (DB (Cn (E8 (A4 rfl r7))) BI)) h20 xt.gh fun G21 H22 x23=>?_
 have xt:=xt.trans x23
 have r17:=Rp.mono x23.gg r17
 cases b19 with
 | true =>
  replace hm:=cT hm
  refine CN ?_
  exact Ae (K:=K) (FV.ev (D2 (cap:=[]) (fe:=fun (AL:Int)=>(some ((20:Int)+(AL % (56:Int))))) (Aw (A4 rfl r17)) fun xc27 AL Gc24 sc25 rc26=>(BO BI (Cn (A4 rfl rc26))))) hm xt.gh fun v29 G30 H31 x32 r33=>q v29 G30 H31 (xt.trans x32) r33
 | false =>
  replace hm:=cF hm
  refine CG ?_
  exact Ae (K:=K) (FV.ev (D2 (cap:=[]) (fe:=fun (AL:Int)=>(some ((1:Int)+(AL % (8:Int))))) (Aw (A4 rfl r17)) fun xc37 AL Gc34 sc35 rc36=>(BO BI (Cn (A4 rfl rc36))))) hm xt.gh fun v39 G40 H41 x42 r43=>q v39 G40 H41 (xt.trans x42) r43
theorem ok_law_leads {f:Addr}{fd:FuncData}(F:Fun K "_law_leads" "_law_leads" DJ f fd)(T:Txt mg)(D_law_cell_at:DefOk P w K mg base "_law_cell_at" 1 ["_law_script","_law_k"] (spM K AZ)):FnOk P w K mg base CX0 2 f fd ["_law_script","_law_bases","_law_sizes_here","_law_marks_here"] (spM K E7):=by
 refine F.ok sc_law_leads (fun vs H Q E h=>(Au h).trans rfl) (fun cdv A outer s H0 vs Q E hr h=>?_)
 obtain ⟨G0,⟨script_,⟨Ej,⟨sizes_here_,⟨Aj,⟨⟩⟩⟩⟩⟩,res,sg0,⟨BL,_,rfl,AD,⟨v_bases_,_,rfl,BH,⟨v_sizes_here_,_,rfl,AO,⟨Dq,_,rfl,AK,rfl⟩⟩⟩⟩,hm,q⟩:=h
 replace AD:Rp.rel K G0 BL script_:=AD
 replace BH:Rp.rel K G0 v_bases_ Ej:=BH
 replace AO:Rp.rel K G0 v_sizes_here_ sizes_here_:=AO
 replace AK:Rp.rel K G0 Dq Aj:=AK
 replace hm:DE script_ Ej sizes_here_ Aj=some res:=hm
 unfold DE at hm
 have xt:Ext G0 H0 G0 H0:=Ext.refl sg0
 refine ⟨_,(A5 (AN (i:=4) sc_law_leads.nd rfl (Or.inl rfl) (CH AB))
   (A5 (BW PassesOwn.never rfl (B7 rfl T.range_ (A6 (AR BX (Aa D_law_cell_at hr (by decide) rfl (A6 (pv 0) (A6 AC AB))) AC) AB)) (Ah (i:=5) sc_law_leads.nd rfl (Or.inl rfl)) (A5 (AN (i:=6) sc_law_leads.nd rfl (Or.inr rfl) (Aa D_law_cell_at hr (by decide) rfl (A6 (pv 0) (A6 (AR (Ak (K:=K) rfl) AC (pv 5)) AB))))
   (A5 (Bc (Ag op_gtU (Ap (As (K:=K) rfl) (by rfl) T.len_ Bk (A6 (pv 2) AB)) AC (Ab _)) (A5 (AN (i:=7) sc_law_leads.nd rfl (Or.inl rfl) (AR BX (pv 6) (AR op_sub (Ap (As (K:=K) rfl) (by rfl) T.len_ Bk (A6 (pv 2) AB)) AC)))
   (A5 (AN (i:=8) sc_law_leads.nd rfl (Or.inl rfl) (AR (Ak (K:=K) rfl) (AR (Ak (K:=K) rfl) (pv 7) AC) (AR BX (AR E6 (pv 6) AC) (AR op_sub (AR op_sub (Ap (As (K:=K) rfl) (by rfl) T.len_ Bk (A6 (pv 2) AB)) AC) (pv 7)))))
   (A5 (AN (i:=9) sc_law_leads.nd rfl (Or.inl rfl) (AR (Ak (K:=K) rfl) (AI (A9 (K:=K) rfl) (pv 1) (pv 7) (fun _ _=>rfl)) (AR BX (AR E6 (pv 6) AC) (AI (A9 (K:=K) rfl) (pv 2) (pv 7) (fun _ _=>rfl)))))
   (A5 (AN (i:=10) sc_law_leads.nd rfl (Or.inl rfl) (AR (Ak (K:=K) rfl) (AI (A9 (K:=K) rfl) (pv 1) (pv 8) (fun _ _=>rfl)) (AR BX (AR E6 (pv 6) AC) (AI (A9 (K:=K) rfl) (pv 2) (pv 8) (fun _ _=>rfl)))))
   (A5 (Bg (i:=11) sc_law_leads.nd rfl (Or.inl rfl) (cn:=["_law_number"]) (cap:=[6]) rfl ⟨by decide +kernel,rfl,by decide +kernel,Ay rfl⟩ rfl (by decide +kernel) ⟨⟨rfl,.inl rfl,rfl⟩,trivial⟩ (B7 rfl T.range_ (A6 (pv 3) AB)) (fun C s0 H0 fp=>⟨(Fj (Ag DY (AR BX (AR E6 (pv 1) AC) (AR (Ak (K:=K) rfl) (pv 0) AC)) AC (Ab _))),(pv 0)⟩))
   (A5 (Bo (Cg (K:=K) rfl PySem.F.plainAttrs_list PySem.F.slot_list_append PySem.F.type_list_append BK (pv 4) (A6 (Fb (A6 (pv 7) (A6 (pv 8) (A6 (Fb (A6 (pv 9) (A6 (pv 10) (A6 (Dd (call_tupK (K:=K) rfl) (by rfl) T.tuple_ bt_tuple (A6 (pv 11) AB)) AB)))) AB)))) AB)))
   AA)))))) AA)
   AA)))
   (A5 (Ad (pv 4))
   AA))),?_⟩
 refine bE hm fun BR h8 hm=>?_
 refine Cd (K:=K) (Cw (D3 (α:=(T3 Int Int (T3 Int Int (Tp Int)))))) h8 xt.gh fun p1 vs2 G3 H4 x5 hz6 o7=>?_
 have hz6:=xt.hh.free hz6
 have xt:=xt.trans x5
 have AD:=Rp.mono x5.gg AD
 have BH:=Rp.mono x5.gg BH
 have AO:=Rp.mono x5.gg AO
 have AK:=Rp.mono x5.gg AK
 refine bE hm fun as13 h14 hm=>?_
 refine bE hm fun fl15 h16 hm=>?_
 refine Bi (K:=K) (RR:=fun r v G' H'=>Ext G0 H0 G' H'/\Rp.rel K G' v r) (By (Cn (B8 (m:=AZ) (A4 rfl AD) BI))) h14 h16 xt.gh fun G17 H18 x19=>⟨fun s20 S' G' H'=>∃ (v21:Option V) (v22:Option V) (v23:Option V) (v24:Option V) (v25:Option V) (v26:Option V) (v27:Option V),Ext G0 H0 G' H'/\Same G17 G'/\S'=[some BL,some v_bases_,some v_sizes_here_,some Dq,some (V.ref p1),v21,v22,v23,v24,v25,v26,v27]/\(∃ vs,Own K G' H' (V.ref p1) p1 vs s20),?_,?_,?_,?_,?_⟩
 ·have xt:=xt.trans x19
  have o7:=o7.ext x19
  exact ⟨_,_,_,_,_,_,_,xt,(Same.refl _),rfl,⟨_,o7⟩⟩
 ·rintro _ S' G' H' ⟨v21,v22,v23,v24,v25,v26,v27,xt,mk28,rfl,⟨vs2,o7⟩⟩
  exact ⟨mk28,xt.gh⟩
 ·rintro xv29 a30 s20 _ G33 H34 fl31 - ⟨v21,v22,v23,v24,v25,v26,v27,xt,mk28,rfl,⟨vs2,o7⟩⟩ rx32 hm D' kN35 kC36 kB37 kR38
  have AD:=Rp.mono (x19.gg.trans mk28) AD
  have BH:=Rp.mono (x19.gg.trans mk28) BH
  have AO:=Rp.mono (x19.gg.trans mk28) AO
  have AK:=Rp.mono (x19.gg.trans mk28) AK
  refine BF ?_
  refine bE hm fun AL h46 hm=>?_
  refine AU (K:=K) (B8 (m:=AZ) (A4 rfl AD) (BO BI (A4 rfl rx32))) h46 xt.gh fun v41 G42 H43 x44 r45=>?_
  have xt:=xt.trans x44
  have mk28:=mk28.trans x44.gg
  have BH:=Rp.mono x44.gg BH
  have AO:=Rp.mono x44.gg AO
  have AK:=Rp.mono x44.gg AK
  have o7:=o7.ext x44
  refine bE hm fun b47 h48 hm=>?_
  refine Cv (Ac (K:=K) (Dt (C4 (A4 rfl AO)) BI)) h48 xt.gh fun G49 H50 x51=>?_
  have xt:=xt.trans x51
  have mk28:=mk28.trans x51.gg
  have BH:=Rp.mono x51.gg BH
  have AO:=Rp.mono x51.gg AO
  have AK:=Rp.mono x51.gg AK
  have o7:=o7.ext x51
  have r45:=Rp.mono x51.gg r45
  cases b47 with
  | true =>
   replace hm:=cT hm
   refine CN ?_
   refine bE hm fun one_ h59 hm=>?_
   refine AU (K:=K) (Dl (A4 rfl r45) (ev_sub (C4 (A4 rfl AO)) BI)) h59 xt.gh fun v54 G55 H56 x57 r58=>?_
   have xt:=xt.trans x57
   have mk28:=mk28.trans x57.gg
   have BH:=Rp.mono x57.gg BH
   have AO:=Rp.mono x57.gg AO
   have AK:=Rp.mono x57.gg AK
   have o7:=o7.ext x57
   have r45:=Rp.mono x57.gg r45
   refine bE hm fun other_ h68 hm=>?_
   refine AU (K:=K) (BO (BO (A4 rfl r58) BI) (Dl (E8 (A4 rfl r45)) (ev_sub (ev_sub (C4 (A4 rfl AO)) BI) (A4 rfl r58)))) h68 xt.gh fun v63 G64 H65 x66 r67=>?_
   have xt:=xt.trans x66
   have mk28:=mk28.trans x66.gg
   have BH:=Rp.mono x66.gg BH
   have AO:=Rp.mono x66.gg AO
   have AK:=Rp.mono x66.gg AK
   have o7:=o7.ext x66
   have r45:=Rp.mono x66.gg r45
   have r58:=Rp.mono x66.gg r58
   refine bE hm fun first_ h82 hm=>?_
   refine AU (K:=K) (BO (Al (A4 rfl BH) (A4 rfl r58)) (Dl (E8 (A4 rfl r45)) (Al (A4 rfl AO) (A4 rfl r58)))) h82 xt.gh fun v77 G78 H79 x80 r81=>?_
   have xt:=xt.trans x80
   have mk28:=mk28.trans x80.gg
   have BH:=Rp.mono x80.gg BH
   have AO:=Rp.mono x80.gg AO
   have AK:=Rp.mono x80.gg AK
   have o7:=o7.ext x80
   have r45:=Rp.mono x80.gg r45
   have r58:=Rp.mono x80.gg r58
   have r67:=Rp.mono x80.gg r67
   refine bE hm fun second_ h96 hm=>?_
   refine AU (K:=K) (BO (Al (A4 rfl BH) (A4 rfl r67)) (Dl (E8 (A4 rfl r45)) (Al (A4 rfl AO) (A4 rfl r67)))) h96 xt.gh fun v91 G92 H93 x94 r95=>?_
   have xt:=xt.trans x94
   have mk28:=mk28.trans x94.gg
   have AK:=Rp.mono x94.gg AK
   have o7:=o7.ext x94
   have r45:=Rp.mono x94.gg r45
   have r58:=Rp.mono x94.gg r58
   have r67:=Rp.mono x94.gg r67
   have r81:=Rp.mono x94.gg r81
   refine bE hm fun taken_ h111 hm=>?_
   refine AU (K:=K) (FV.ev (Ff (cap:=[6]) (fc:=fun (Ao:Int)=>(((some (AL / (360000:Int))).bind fun t102=>(some (Ao+(2:Int))).bind fun t103=>Dm t102 t103).bind fun t104=>(some (decide (t104=(1:Int)))))) (fe:=fun (Ao:Int)=>(some Ao)) (By (A4 rfl AK)) fun xc101 Ao Gc98 sc99 rc100=>⟨(Ac (K:=K) (DB (Dl (E8 (A4 rfl (Rp.mono sc99 r45))) (BO (A4 rfl rc100) BI)) BI)),(A4 rfl rc100)⟩)) h111 xt.gh fun v106 G107 H108 x109 r110=>?_
   have xt:=xt.trans x109
   have mk28:=mk28.trans x109.gg
   have o7:=o7.ext x109
   have r58:=Rp.mono x109.gg r58
   have r67:=Rp.mono x109.gg r67
   have r81:=Rp.mono x109.gg r81
   have r95:=Rp.mono x109.gg r95
   refine bE hm fun a112 h113 hm=>?_
   refine bE hm fun z120 h114 hm=>?_
   refine Cu (K:=K) rfl o7 (GE (A4 rfl r58) (A4 rfl r67) (GE (A4 rfl r81) (A4 rfl r95) (ev_tuple (A4 rfl r110)))) h113 h114 xt.gh fun G115 H116 w117 x118 o119=>?_
   have xt:Ext G0 H0 G115 (upd H116 p1 (.lst (vs2++[w117]))):=(xt.trans x118).put hz6 o119.g
   have mk28:=mk28.trans x118.gg
   cases hm
   exact kN35 _ _ _ _ rfl ⟨_,_,_,_,_,_,_,xt,mk28,rfl,⟨_,o119⟩⟩
  | false =>
   replace hm:=cF hm
   refine CG ?_
   cases hm
   exact kN35 _ _ _ _ rfl ⟨_,_,_,_,_,_,_,xt,mk28,rfl,⟨_,o7⟩⟩
 ·rintro s20 _ G129 H130 rfl ⟨v121,v122,v123,v124,v125,v126,v127,xt,mk128,rfl,⟨vs2,o7⟩⟩
  refine Bp ?_
  have sf:=Same.new (o:=.lst vs2) o7.g
  have xt:=xt.frz hz6 o7.g o7.h
  have r131:=o7.tell
  exact Ae (K:=K) (A4 rfl r131) hm xt.gh fun v132 G133 H134 x135 r136=>q v132 G133 H134 (xt.trans x135) r136
 ·rintro r' v' G' H' rfl rl
  cases hm
  exact q v' G' H' rl.1 rl.2
theorem ok_law_fair_rounds {f:Addr}{fd:FuncData}(F:Fun K "_law_fair_rounds" "_law_fair_rounds" BU f fd)(T:Txt mg):FnOk P w K mg base CX0 1 f fd ["_law_many","_law_whole","_law_leads_here"] (spM K CL):=by
 refine F.ok sc_law_fair_rounds (fun vs H Q E h=>(Au h).trans rfl) (fun cdv A outer s H0 vs Q E hr h=>?_)
 obtain ⟨G0,⟨ES,⟨GB,⟨BR,⟨⟩⟩⟩⟩,res,sg0,⟨Fm,_,rfl,Ck,⟨v_whole_,_,rfl,r_whole_,⟨Eg,_,rfl,C2,rfl⟩⟩⟩,hm,q⟩:=h
 replace Ck:Rp.rel K G0 Fm ES:=Ck
 replace r_whole_:Rp.rel K G0 v_whole_ GB:=r_whole_
 replace C2:Rp.rel K G0 Eg BR:=C2
 replace hm:BS ES GB BR=some res:=hm
 unfold BS at hm
 have xt:Ext G0 H0 G0 H0:=Ext.refl sg0
 refine ⟨_,(A5 (AN (i:=3) sc_law_fair_rounds.nd rfl (Or.inl rfl) (Dd (call_listK (K:=K) rfl) (by rfl) T.list_ bt_list (A6 (pv 1) AB)))
   (A5 (BW PassesOwn.never rfl (pi_rangeD rfl T.range_ (A6 (AR op_sub (pv 0) AC) (A6 (Gk FU AC) (A6 (Gk FU AC) AB)))) (Ah (i:=4) sc_law_fair_rounds.nd rfl (Or.inl rfl)) (A5 (BW PassesOwn.never rfl (Av (K:=K) rfl (pv 2)) (pg_tup rfl (CS (Ah (i:=5) sc_law_fair_rounds.nd rfl (Or.inl rfl)) (CS (Ah (i:=6) sc_law_fair_rounds.nd rfl (Or.inl rfl)) (CS (Ah (i:=7) sc_law_fair_rounds.nd rfl (Or.inl rfl)) GO)))) (A5 (Bc (PW.pt (pw_and (Ag DY (pv 5) (pv 4) (Ab _)) (pw_and1 (BN (K:=K) rfl (AI (A9 (K:=K) rfl) (pv 3) (pv 6) (fun _ _=>rfl)) (fun _=>rfl))))) (A5 (Et Dv (Ey (pv 3) (pv 4) DR))
   AA) AA)
   AA))
   AA))
   (A5 (Ad (pv 3))
   AA))),?_⟩
 refine bE hm fun Bl h8 hm=>?_
 refine Cd (K:=K) (fv_list (A4 rfl r_whole_)) h8 xt.gh fun p1 vs2 G3 H4 x5 hz6 o7=>?_
 have hz6:=xt.hh.free hz6
 have xt:=xt.trans x5
 have Ck:=Rp.mono x5.gg Ck
 have C2:=Rp.mono x5.gg C2
 refine bE hm fun as11 h12 hm=>?_
 refine bE hm fun fl13 h14 hm=>?_
 refine Bi (K:=K) (RR:=fun r v G' H'=>Ext G0 H0 G' H'/\Rp.rel K G' v r) (iw_rngD (ev_sub (A4 rfl Ck) BI) (Fz BI)) h12 h14 xt.gh fun G15 H16 x17=>⟨fun s18 S' G' H'=>∃ (v19:Option V) (v20:Option V) (v21:Option V) (v22:Option V),Ext G0 H0 G' H'/\Same G15 G'/\S'=[some Fm,some v_whole_,some Eg,some (V.ref p1),v19,v20,v21,v22]/\(∃ vs,Own K G' H' (V.ref p1) p1 vs s18),?_,?_,?_,?_,?_⟩
 ·have xt:=xt.trans x17
  have o7:=o7.ext x17
  exact ⟨_,_,_,_,xt,(Same.refl _),rfl,⟨_,o7⟩⟩
 ·rintro _ S' G' H' ⟨v19,v20,v21,v22,xt,mk23,rfl,⟨vs2,o7⟩⟩
  exact ⟨mk23,xt.gh⟩
 ·rintro xv24 a25 s18 _ G28 H29 fl26 - ⟨v19,v20,v21,v22,xt,mk23,rfl,⟨vs2,o7⟩⟩ rx27 hm D' kN30 kC31 kB32 kR33
  have C2:=Rp.mono (x17.gg.trans mk23) C2
  refine BF ?_
  refine bE hm fun as34 h35 hm=>?_
  refine bE hm fun fl36 h37 hm=>?_
  refine Bi (K:=K) (RR:=fun r v G' H'=>Ext G0 H0 G' H'/\Rp.rel K G' v r) (Aw (A4 rfl C2)) h35 h37 xt.gh fun G38 H39 x40=>⟨fun s41 S' G' H'=>∃ (v42:Option V) (v43:Option V) (v44:Option V),Ext G0 H0 G' H'/\Same G38 G'/\S'=[some Fm,some v_whole_,some Eg,some (V.ref p1),some xv24,v42,v43,v44]/\(∃ vs,Own K G' H' (V.ref p1) p1 vs s41),?_,?_,?_,?_,?_⟩
  ·have xt:=xt.trans x40
   have o7:=o7.ext x40
   exact ⟨_,_,_,xt,(Same.refl _),rfl,⟨_,o7⟩⟩
  ·rintro _ S' G' H' ⟨v42,v43,v44,xt,mk45,rfl,⟨vs2,o7⟩⟩
   exact ⟨mk45,xt.gh⟩
  ·rintro xv46 a47 s41 _ G50 H51 fl48 - ⟨v42,v43,v44,xt,mk45,rfl,⟨vs2,o7⟩⟩ rx49 hm D' kN52 kC53 kB54 kR55
   have rx27:=Rp.mono (x40.gg.trans mk45) rx27
   refine sv_turn3 rx49 xt.gh fun v56 v57 v58 r59 r60 r61=>?_
   refine bE hm fun b69 h70 hm=>?_
   refine FT o7 (tv_and (Ac (K:=K) (DB (A4 rfl (Rp.mono (Same.new o7.g) r59)) (A4 rfl (Rp.mono (Same.new o7.g) rx27)))) (GA (K:=K) (Al (A4 rfl o7.tell) (A4 rfl (Rp.mono (Same.new o7.g) r60))))) h70 xt.gh fun G71 H72 x73=>?_
   have xt:=xt.trans x73
   have mk45:=mk45.trans x73.gg
   have o7:=o7.ext x73
   have rx27:=Rp.mono x73.gg rx27
   cases b69 with
   | true =>
    replace hm:=cT hm
    refine CN ?_
    refine bE hm fun a74 h75 hm=>?_
    refine bE hm fun k76 h77 hm=>?_
    refine bE hm fun z85 h78 hm=>?_
    refine D9 (K:=K) rfl o7 Fp h75 (A4 rfl rx27) h77 h78 xt.gh fun G79 H80 w81 j82 x83 o84=>?_
    have xt:Ext G0 H0 G79 (upd H80 p1 (.lst (vs2.set j82 w81))):=(xt.trans x83).put hz6 o84.g
    have mk45:=mk45.trans x83.gg
    cases hm
    exact kN52 _ _ _ _ rfl ⟨_,_,_,xt,mk45,rfl,⟨_,o84⟩⟩
   | false =>
    replace hm:=cF hm
    refine CG ?_
    cases hm
    exact kN52 _ _ _ _ rfl ⟨_,_,_,xt,mk45,rfl,⟨_,o7⟩⟩
  ·rintro s41 _ G90 H91 rfl ⟨v86,v87,v88,xt,mk89,rfl,⟨vs2,o7⟩⟩
   refine Bp ?_
   have mk23:=(mk23.trans x40.gg).trans mk89
   cases hm
   exact kN30 _ _ _ _ rfl ⟨_,_,_,_,xt,mk23,rfl,⟨_,o7⟩⟩
  ·rintro r' v' G' H' rfl rl
   cases hm
   exact kR33 _ v' G' H' rfl rl
 ·rintro s18 _ G97 H98 rfl ⟨v92,v93,v94,v95,xt,mk96,rfl,⟨vs2,o7⟩⟩
  refine Bp ?_
  have sf:=Same.new (o:=.lst vs2) o7.g
  have xt:=xt.frz hz6 o7.g o7.h
  have r99:=o7.tell
  exact Ae (K:=K) (A4 rfl r99) hm xt.gh fun v100 G101 H102 x103 r104=>q v100 G101 H102 (xt.trans x103) r104
 ·rintro r' v' G' H' rfl rl
  cases hm
  exact q v' G' H' rl.1 rl.2
theorem ok_leaving_order {f:Addr}{fd:FuncData}(F:Fun K "leaving_order" "leaving_order" Br f fd)(T:Txt mg):FnOk P w K mg base CX0 1 f fd ["leads"] (spM K Cp):=by
 refine F.ok sc_leaving_order (fun vs H Q E h=>(Au h).trans rfl) (fun cdv A outer s H0 vs Q E hr h=>?_)
 obtain ⟨G0,⟨leads_,⟨⟩⟩,res,sg0,⟨EW,_,rfl,AJ,rfl⟩,hm,q⟩:=h
 replace AJ:Rp.rel K G0 EW leads_:=AJ
 replace hm:Bu leads_=some res:=hm
 unfold Bu at hm
 have xt:Ext G0 H0 G0 H0:=Ext.refl sg0
 refine ⟨_,(A5 (Bg (i:=1) sc_leaving_order.nd rfl (Or.inl rfl) (cn:=[]) (cap:=[]) rfl ⟨by decide +kernel,rfl,by decide +kernel,Ay rfl⟩ rfl (by decide +kernel) trivial (Av (K:=K) rfl (pv 0)) (fun C s0 H0 fp=>⟨BP,Dv⟩))
   (A5 (Bg (i:=2) sc_leaving_order.nd rfl (Or.inl rfl) (cn:=[]) (cap:=[]) rfl ⟨by decide +kernel,rfl,by decide +kernel,Ay rfl⟩ rfl (by decide +kernel) trivial (Av (K:=K) rfl (pv 0)) (fun C s0 H0 fp=>⟨BP,AC⟩))
   (A5 (AN (i:=3) sc_leaving_order.nd rfl (Or.inl rfl) (CH AB))
   (A5 (BW PassesOwn.never rfl (B7 rfl T.range_ (A6 (Ap (As (K:=K) rfl) (by rfl) T.len_ Bk (A6 (pv 0) AB)) AB)) (Ah (i:=4) sc_leaving_order.nd rfl (Or.inl rfl)) (A5 (AN (i:=5) sc_leaving_order.nd rfl (Or.inl rfl) (pe_ifExp (BN (K:=K) rfl (AI (A9 (K:=K) rfl) (pv 1) (pv 4) (fun _ _=>rfl)) (fun _=>rfl)) (CH AB) (CH (A6 (pv 4) AB))))
   (A5 (Et Dv (Ey (pv 1) (pv 4) DR))
   (A5 (FS PassesOwn.never (Ag op_gtU (Ap (As (K:=K) rfl) (by rfl) T.len_ Bk (A6 (pv 5) AB)) AC (Ab _)) (A5 (AN (i:=6) sc_leaving_order.nd rfl (Or.inl rfl) (AI (A9 (K:=K) rfl) (pv 5) (Gk FU AC) (fun _ _=>rfl)))
   (A5 (Bc (Ag DY (AI (A9 (K:=K) rfl) (pv 2) (pv 6) (fun _ _=>rfl)) (Ap (As (K:=K) rfl) (by rfl) T.len_ Bk (A6 (AI (A9 (K:=K) rfl) (pv 0) (pv 6) (fun _ _=>rfl)) AB)) (Ab _)) (A5 (Bo (Cg (K:=K) rfl PySem.F.plainAttrs_list PySem.F.slot_list_append PySem.F.type_list_append BK (pv 3) (A6 (pe_bm0K (K:=K) rfl PySem.F.plainAttrs_list PySem.F.slot_list_pop PySem.F.type_list_pop mt_pop (pv 5)) AB)))
   AA) (A5 (AN (i:=7) sc_leaving_order.nd rfl (Or.inl rfl) (AI (A9 (K:=K) rfl) (AI (A9 (K:=K) rfl) (pv 0) (pv 6) (fun _ _=>rfl)) (AI (A9 (K:=K) rfl) (pv 2) (pv 6) (fun _ _=>rfl)) (fun _ _=>rfl)))
   (A5 (Et (AR (Ak (K:=K) rfl) (AI (A9 (K:=K) rfl) (pv 2) (pv 6) (fun _ _=>rfl)) AC) (Ey (pv 2) (pv 6) DR))
   (A5 (Bc (Fx (BN (K:=K) rfl (AI (A9 (K:=K) rfl) (pv 1) (pv 7) (fun _ _=>rfl)) (fun _=>rfl))) (A5 (Et Dv (Ey (pv 1) (pv 7) DR))
   (A5 (Bo (Cg (K:=K) rfl PySem.F.plainAttrs_list PySem.F.slot_list_append PySem.F.type_list_append BK (pv 5) (A6 (pv 7) AB)))
   AA)) AA)
   AA))))
   AA)))
   AA))))
   (A5 (Ad (pv 3))
   AA))))),?_⟩
 refine bE hm fun seen_ h13 hm=>?_
 refine Cd (K:=K) (D2 (cap:=[]) (fe:=fun (At:(List Int))=>(some false)) (Aw (A4 rfl AJ)) fun xc4 At Gc1 sc2 rc3=>Fp) h13 xt.gh fun p6 vs7 G8 H9 x10 hz11 o12=>?_
 have hz11:=xt.hh.free hz11
 have xt:=xt.trans x10
 have AJ:=Rp.mono x10.gg AJ
 refine bE hm fun tried_ h26 hm=>?_
 refine Cd (K:=K) (D2 (cap:=[]) (fe:=fun (At:(List Int))=>(some (0:Int))) (Aw (A4 rfl AJ)) fun xc17 At Gc14 sc15 rc16=>BI) h26 xt.gh fun p19 vs20 G21 H22 x23 hz24 o25=>?_
 have ne_p6_p19:p6≠p19:=Ax o12.h hz24
 have hz24:=xt.hh.free hz24
 have xt:=xt.trans x23
 have AJ:=Rp.mono x23.gg AJ
 have o12:=o12.ext x23
 refine bE hm fun order_ h34 hm=>?_
 refine Cd (K:=K) (Cw (D3 (α:=Int))) h34 xt.gh fun p27 vs28 G29 H30 x31 hz32 o33=>?_
 have ne_p6_p27:p6≠p27:=Ax o12.h hz32
 have ne_p19_p27:p19≠p27:=Ax o25.h hz32
 have hz32:=xt.hh.free hz32
 have xt:=xt.trans x31
 have AJ:=Rp.mono x31.gg AJ
 have o12:=o12.ext x31
 have o25:=o25.ext x31
 refine bE hm fun as36 h37 hm=>?_
 refine bE hm fun fl38 h39 hm=>?_
 refine Bi (K:=K) (RR:=fun r v G' H'=>Ext G0 H0 G' H'/\Rp.rel K G' v r) (By (C4 (A4 rfl AJ))) h37 h39 xt.gh fun G40 H41 x42=>⟨fun s43 S' G' H'=>∃ (v44:Option V) (v45:Option V) (v46:Option V) (v47:Option V),Ext G0 H0 G' H'/\Same G40 G'/\S'=[some EW,some (V.ref p6),some (V.ref p19),some (V.ref p27),v44,v45,v46,v47]/\(∃ vs,Own K G' H' (V.ref p6) p6 vs s43.1)/\(∃ vs,Own K G' H' (V.ref p19) p19 vs s43.2.1)/\(∃ vs,Own K G' H' (V.ref p27) p27 vs s43.2.2),?_,?_,?_,?_,?_⟩
 ·have xt:=xt.trans x42
  have o12:=o12.ext x42
  have o25:=o25.ext x42
  have o33:=o33.ext x42
  exact ⟨_,_,_,_,xt,(Same.refl _),rfl,⟨_,o12⟩,⟨_,o25⟩,⟨_,o33⟩⟩
 ·rintro _ S' G' H' ⟨v44,v45,v46,v47,xt,mk48,rfl,⟨vs7,o12⟩,⟨vs20,o25⟩,⟨vs28,o33⟩⟩
  exact ⟨mk48,xt.gh⟩
 ·rintro xv49 a50 s43 _ G53 H54 fl51 - ⟨v44,v45,v46,v47,xt,mk48,rfl,⟨vs7,o12⟩,⟨vs20,o25⟩,⟨vs28,o33⟩⟩ rx52 hm D' kN55 kC56 kB57 kR58
  have AJ:=Rp.mono (x42.gg.trans mk48) AJ
  refine BF ?_
  refine bE hm fun path_ h72 hm=>?_
  refine sv_ownFB (K:=K) o12 (fv_ifx (GA (K:=K) (Al (A4 rfl o12.tell) (A4 rfl (Rp.mono (Same.new o12.g) rx52)))) (Cw (D3 (α:=Int))) (Cw (GI (A4 rfl (Rp.mono (Same.new o12.g) rx52)) (D3 (α:=Int))))) h72 xt.gh fun p65 vs66 G67 H68 x69 hz70 o71=>?_
  have ne_p6_p65:p6≠p65:=Ax o12.h hz70
  have ne_p19_p65:p19≠p65:=Ax o25.h hz70
  have ne_p27_p65:p27≠p65:=Ax o33.h hz70
  have hz70:=xt.hh.free hz70
  have xt:=xt.trans x69
  have mk48:=mk48.trans x69.gg
  have AJ:=Rp.mono x69.gg AJ
  have o12:=o12.ext x69
  have o25:=o25.ext x69
  have o33:=o33.ext x69
  have rx52:=Rp.mono x69.gg rx52
  refine bE hm fun a73 h74 hm=>?_
  refine bE hm fun k75 h76 hm=>?_
  refine bE hm fun z84 h77 hm=>?_
  refine D9 (K:=K) rfl o12 Fp h74 (A4 rfl rx52) h76 h77 xt.gh fun G78 H79 w80 j81 x82 o83=>?_
  have xt:Ext G0 H0 G78 (upd H79 p6 (.lst (vs7.set j81 w80))):=(xt.trans x82).put hz11 o83.g
  have mk48:=mk48.trans x82.gg
  have AJ:=Rp.mono x82.gg AJ
  have o25:=(o25.ext x82).put (q:=p6) (ho:=.lst (vs7.set j81 w80)) (by first|assumption|exact Ne.symm (by assumption))
  have o33:=(o33.ext x82).put (q:=p6) (ho:=.lst (vs7.set j81 w80)) (by first|assumption|exact Ne.symm (by assumption))
  have rx52:=Rp.mono x82.gg rx52
  have o71:=(o71.ext x82).put (q:=p6) (ho:=.lst (vs7.set j81 w80)) (by first|assumption|exact Ne.symm (by assumption))
  refine bE hm fun fl85 h86 hm=>?_
  refine FY (K:=K) (G:=G78) (RR:=fun r v G' H'=>Ext G0 H0 G' H'/\Rp.rel K G' v r) h86 (fun s87 S' G' H'=>∃ (v88:Option V) (v89:Option V),Ext G0 H0 G' H'/\Same G78 G'/\S'=[some EW,some (V.ref p6),some (V.ref p19),some (V.ref p27),some xv49,some (V.ref p65),v88,v89]/\(∃ vs,Own K G' H' (V.ref p6) p6 vs s87.1)/\(∃ vs,Own K G' H' (V.ref p19) p19 vs s87.2.1)/\(∃ vs,Own K G' H' (V.ref p27) p27 vs s87.2.2.1)/\(∃ vs,Own K G' H' (V.ref p65) p65 vs s87.2.2.2)) ⟨?_,?_,?_,?_,?_,?_⟩
  ·exact ⟨_,_,xt,(Same.refl _),rfl,⟨_,o83⟩,⟨_,o25⟩,⟨_,o33⟩,⟨_,o71⟩⟩
  ·rintro _ S' G' H' ⟨v88,v89,xt,mk90,rfl,⟨vs91,o83⟩,⟨vs20,o25⟩,⟨vs28,o33⟩,⟨vs66,o71⟩⟩
   exact xt.gh
  ·rintro s87 _ G92 H93 b' ⟨v88,v89,xt,mk90,rfl,⟨vs91,o83⟩,⟨vs20,o25⟩,⟨vs28,o33⟩,⟨vs66,o71⟩⟩ hc Q' k'
   refine TV.runB o71 (Ac (K:=K) (Dt (C4 (A4 rfl o71.tell)) BI)) hc xt.gh fun G94 H95 x96=>?_
   have xt:=xt.trans x96
   have mk90:=mk90.trans x96.gg
   have o83:=o83.ext x96
   have o25:=o25.ext x96
   have o33:=o33.ext x96
   have o71:=o71.ext x96
   exact k' _ _ ⟨_,_,xt,mk90,rfl,⟨_,o83⟩,⟨_,o25⟩,⟨_,o33⟩,⟨_,o71⟩⟩
  ·rintro s87 _ G98 H99 fl97 ⟨v88,v89,xt,mk90,rfl,⟨vs91,o83⟩,⟨vs20,o25⟩,⟨vs28,o33⟩,⟨vs66,o71⟩⟩ hm - D' kN100 kC101 kB102 kR103
   have mk48:=mk48.trans mk90
   have AJ:=Rp.mono mk90 AJ
   have rx52:=Rp.mono mk90 rx52
   refine bE hm fun At h113 hm=>?_
   refine sv_setB (K:=K) o71 (Al (A4 rfl o71.tell) (Fz BI)) h113 xt.gh fun v108 G109 H110 x111 r112=>?_
   have xt:=xt.trans x111
   have mk48:=mk48.trans x111.gg
   have mk90:=mk90.trans x111.gg
   have AJ:=Rp.mono x111.gg AJ
   have o83:=o83.ext x111
   have o25:=o25.ext x111
   have o33:=o33.ext x111
   have rx52:=Rp.mono x111.gg rx52
   have o71:=o71.ext x111
   refine bE hm fun b134 h135 hm=>?_
   refine FT o25 (Ac (K:=K) (DB (Al (A4 rfl o25.tell) (A4 rfl (Rp.mono (Same.new o25.g) r112))) (C4 (Al (A4 rfl (Rp.mono (Same.new o25.g) AJ)) (A4 rfl (Rp.mono (Same.new o25.g) r112)))))) h135 xt.gh fun G136 H137 x138=>?_
   have xt:=xt.trans x138
   have mk48:=mk48.trans x138.gg
   have mk90:=mk90.trans x138.gg
   have AJ:=Rp.mono x138.gg AJ
   have o83:=o83.ext x138
   have o25:=o25.ext x138
   have o33:=o33.ext x138
   have rx52:=Rp.mono x138.gg rx52
   have o71:=o71.ext x138
   have r112:=Rp.mono x138.gg r112
   cases b134 with
   | true =>
    replace hm:=cT hm
    refine CN ?_
    refine bE hm fun pr139 h140 hm=>?_
    refine bE hm fun z141 h142 hm=>?_
    refine sv_appPop (K:=K) (a:=pr139.1) (bs':=pr139.2) rfl rfl o33 o71 (by first|assumption|exact Ne.symm (by assumption)) h140 h142 fun w143 o144 o145=>?_
    have xt:Ext G0 H0 G136 (upd (upd H137 p65 (.lst vs66.dropLast)) p27 (.lst (vs28++[w143]))):=(xt.put hz70 o145.g).put hz32 o144.g
    have o83:=(o83.put (q:=p65) (ho:=.lst vs66.dropLast) (by first|assumption|exact Ne.symm (by assumption))).put (q:=p27) (ho:=.lst (vs28++[w143])) (by first|assumption|exact Ne.symm (by assumption))
    have o25:=(o25.put (q:=p65) (ho:=.lst vs66.dropLast) (by first|assumption|exact Ne.symm (by assumption))).put (q:=p27) (ho:=.lst (vs28++[w143])) (by first|assumption|exact Ne.symm (by assumption))
    cases hm
    exact kN100 _ _ _ _ rfl ⟨_,_,xt,mk90,rfl,⟨_,o83⟩,⟨_,o25⟩,⟨_,o144⟩,⟨_,o145⟩⟩
   | false =>
    replace hm:=cF hm
    refine CG ?_
    refine bE hm fun other_ h163 hm=>?_
    refine sv_setB (K:=K) o25 (Al (Al (A4 rfl (Rp.mono (Same.new o25.g) AJ)) (A4 rfl (Rp.mono (Same.new o25.g) r112))) (Al (A4 rfl o25.tell) (A4 rfl (Rp.mono (Same.new o25.g) r112)))) h163 xt.gh fun v158 G159 H160 x161 r162=>?_
    have xt:=xt.trans x161
    have mk48:=mk48.trans x161.gg
    have mk90:=mk90.trans x161.gg
    have AJ:=Rp.mono x161.gg AJ
    have o83:=o83.ext x161
    have o25:=o25.ext x161
    have o33:=o33.ext x161
    have rx52:=Rp.mono x161.gg rx52
    have o71:=o71.ext x161
    have r112:=Rp.mono x161.gg r112
    refine bE hm fun a170 h171 hm=>?_
    refine bE hm fun k172 h173 hm=>?_
    refine bE hm fun z181 h174 hm=>?_
    refine sv_setitemB (K:=K) rfl o25 (BO (Al (A4 rfl o25.tell) (A4 rfl (Rp.mono (Same.new o25.g) r112))) BI) h171 (A4 rfl r112) h173 h174 xt.gh fun G175 H176 w177 j178 x179 o180=>?_
    have xt:Ext G0 H0 G175 (upd H176 p19 (.lst (vs20.set j178 w177))):=(xt.trans x179).put hz24 o180.g
    have mk48:=mk48.trans x179.gg
    have mk90:=mk90.trans x179.gg
    have AJ:=Rp.mono x179.gg AJ
    have o83:=(o83.ext x179).put (q:=p19) (ho:=.lst (vs20.set j178 w177)) (by first|assumption|exact Ne.symm (by assumption))
    have o33:=(o33.ext x179).put (q:=p19) (ho:=.lst (vs20.set j178 w177)) (by first|assumption|exact Ne.symm (by assumption))
    have rx52:=Rp.mono x179.gg rx52
    have o71:=(o71.ext x179).put (q:=p19) (ho:=.lst (vs20.set j178 w177)) (by first|assumption|exact Ne.symm (by assumption))
    have r112:=Rp.mono x179.gg r112
    have r162:=Rp.mono x179.gg r162
    refine bE hm fun b188 h189 hm=>?_
    refine FT o83 (GC (GA (K:=K) (Al (A4 rfl o83.tell) (A4 rfl (Rp.mono (Same.new o83.g) r162))))) h189 xt.gh fun G190 H191 x192=>?_
    have xt:=xt.trans x192
    have mk48:=mk48.trans x192.gg
    have mk90:=mk90.trans x192.gg
    have AJ:=Rp.mono x192.gg AJ
    have o83:=o83.ext x192
    have o180:=o180.ext x192
    have o33:=o33.ext x192
    have rx52:=Rp.mono x192.gg rx52
    have o71:=o71.ext x192
    have r112:=Rp.mono x192.gg r112
    have r162:=Rp.mono x192.gg r162
    cases b188 with
    | true =>
     replace hm:=cT hm
     refine CN ?_
     refine bE hm fun a193 h194 hm=>?_
     refine bE hm fun k195 h196 hm=>?_
     refine bE hm fun z204 h197 hm=>?_
     refine D9 (K:=K) rfl o83 Fp h194 (A4 rfl r162) h196 h197 xt.gh fun G198 H199 w200 j201 x202 o203=>?_
     have xt:Ext G0 H0 G198 (upd H199 p6 (.lst (vs91.set j201 w200))):=(xt.trans x202).put hz11 o203.g
     have mk48:=mk48.trans x202.gg
     have mk90:=mk90.trans x202.gg
     have AJ:=Rp.mono x202.gg AJ
     have o180:=(o180.ext x202).put (q:=p6) (ho:=.lst (vs91.set j201 w200)) (by first|assumption|exact Ne.symm (by assumption))
     have o33:=(o33.ext x202).put (q:=p6) (ho:=.lst (vs91.set j201 w200)) (by first|assumption|exact Ne.symm (by assumption))
     have rx52:=Rp.mono x202.gg rx52
     have o71:=(o71.ext x202).put (q:=p6) (ho:=.lst (vs91.set j201 w200)) (by first|assumption|exact Ne.symm (by assumption))
     have r112:=Rp.mono x202.gg r112
     have r162:=Rp.mono x202.gg r162
     refine bE hm fun a205 h206 hm=>?_
     refine bE hm fun z213 h207 hm=>?_
     refine Cu (K:=K) rfl o71 (A4 rfl r162) h206 h207 xt.gh fun G208 H209 w210 x211 o212=>?_
     have xt:Ext G0 H0 G208 (upd H209 p65 (.lst (vs66++[w210]))):=(xt.trans x211).put hz70 o212.g
     have mk48:=mk48.trans x211.gg
     have mk90:=mk90.trans x211.gg
     have AJ:=Rp.mono x211.gg AJ
     have o203:=(o203.ext x211).put (q:=p65) (ho:=.lst (vs66++[w210])) (by first|assumption|exact Ne.symm (by assumption))
     have o180:=(o180.ext x211).put (q:=p65) (ho:=.lst (vs66++[w210])) (by first|assumption|exact Ne.symm (by assumption))
     have o33:=(o33.ext x211).put (q:=p65) (ho:=.lst (vs66++[w210])) (by first|assumption|exact Ne.symm (by assumption))
     cases hm
     exact kN100 _ _ _ _ rfl ⟨_,_,xt,mk90,rfl,⟨_,o203⟩,⟨_,o180⟩,⟨_,o33⟩,⟨_,o212⟩⟩
    | false =>
     replace hm:=cF hm
     refine CG ?_
     cases hm
     exact kN100 _ _ _ _ rfl ⟨_,_,xt,mk90,rfl,⟨_,o83⟩,⟨_,o180⟩,⟨_,o33⟩,⟨_,o71⟩⟩
  ·rintro s87 _ G218 H219 rfl ⟨v214,v215,xt,mk216,rfl,⟨vs217,o83⟩,⟨vs20,o25⟩,⟨vs28,o33⟩,⟨vs66,o71⟩⟩
   refine Bp ?_
   have mk48:=mk48.trans mk216
   cases hm
   exact kN55 _ _ _ _ rfl ⟨_,_,_,_,xt,mk48,rfl,⟨_,o83⟩,⟨_,o25⟩,⟨_,o33⟩⟩
  ·rintro r' v' G' H' rfl rl
   cases hm
   exact kR58 _ v' G' H' rfl rl
 ·rintro s43 _ G225 H226 rfl ⟨v220,v221,v222,v223,xt,mk224,rfl,⟨vs7,o12⟩,⟨vs20,o25⟩,⟨vs28,o33⟩⟩
  refine Bp ?_
  have AJ:=Rp.mono (x42.gg.trans mk224) AJ
  have sf:=Same.new (o:=.lst vs28) o33.g
  have xt:=xt.frz hz32 o33.g o33.h
  have r227:=o33.tell
  have AJ:=Rp.mono sf AJ
  have o12:=o12.over (o:=.lst vs28) (by first|assumption|exact Ne.symm (by assumption)) o33.g
  have o25:=o25.over (o:=.lst vs28) (by first|assumption|exact Ne.symm (by assumption)) o33.g
  exact Ae (K:=K) (A4 rfl r227) hm xt.gh fun v228 G229 H230 x231 r232=>q v228 G229 H230 (xt.trans x231) r232
 ·rintro r' v' G' H' rfl rl
  cases hm
  exact q v' G' H' rl.1 rl.2
theorem ok_ends_of {f:Addr}{fd:FuncData}(F:Fun K "ends_of" "ends_of" ED f fd)(T:Txt mg):FnOk P w K mg base CX0 1 f fd ["net"] (spM K Ev):=by
 refine F.ok sc_ends_of (fun vs H Q E h=>(Au h).trans rfl) (fun cdv A outer s H0 vs Q E hr h=>?_)
 obtain ⟨G0,⟨net_,⟨⟩⟩,res,sg0,⟨Af,_,rfl,A8,rfl⟩,hm,q⟩:=h
 replace A8:Rp.rel K G0 Af net_:=A8
 replace hm:EF net_=some res:=hm
 unfold EF at hm
 have xt:Ext G0 H0 G0 H0:=Ext.refl sg0
 refine ⟨_,(A5 (Bg (i:=1) sc_ends_of.nd rfl (Or.inl rfl) (cn:=[]) (cap:=[]) rfl ⟨by decide +kernel,rfl,by decide +kernel,Ay rfl⟩ rfl (by decide +kernel) trivial (B7 rfl T.range_ (A6 (AI (A9 (K:=K) rfl) (pv 0) AC (fun _ _=>rfl)) AB)) (fun C s0 H0 fp=>⟨BP,(CH AB)⟩))
   (A5 (BW PassesOwn.never rfl (Av (K:=K) rfl (AI (A9 (K:=K) rfl) (pv 0) AC (fun _ _=>rfl))) (Ah (i:=2) sc_ends_of.nd rfl (Or.inl rfl)) (A5 (Bo (Cg (K:=K) rfl PySem.F.plainAttrs_list PySem.F.slot_list_append PySem.F.type_list_append BK (AI (A9 (K:=K) rfl) (pv 1) (AI (A9 (K:=K) rfl) (pv 2) AC (fun _ _=>rfl)) (fun _ _=>rfl)) (A6 (AI (A9 (K:=K) rfl) (pv 2) AC (fun _ _=>rfl)) AB)))
   AA))
   (A5 (Ad (pv 1))
   AA))),?_⟩
 refine bE hm fun l9 h10 hm=>?_
 refine bE hm fun Fs h8 hm=>?_
 refine sv_ownL (K:=K) (cap:=[]) (By (Cy (A4 rfl A8))) h10 (Option.some.inj h8).symm xt fun p2 cs3 G4 H5 x6 o7=>?_
 have xt:=xt.trans x6
 have A8:=Rp.mono x6.gg A8
 refine bE hm fun as11 h12 hm=>?_
 refine bE hm fun fl13 h14 hm=>?_
 refine Bi (K:=K) (RR:=fun r v G' H'=>Ext G0 H0 G' H'/\Rp.rel K G' v r) (Aw (Bq (A4 rfl A8))) h12 h14 xt.gh fun G15 H16 x17=>⟨fun s18 S' G' H'=>∃ (v19:Option V),Ext G0 H0 G' H'/\Same G15 G'/\S'=[some Af,some (V.ref p2),v19]/\(∃ vs,OwnC K H0 G' H' (V.ref p2) p2 vs (s18.map some)),?_,?_,?_,?_,?_⟩
 ·have xt:=xt.trans x17
  have o7:=o7.ext x17
  exact ⟨_,xt,(Same.refl _),rfl,⟨_,o7⟩⟩
 ·rintro _ S' G' H' ⟨v19,xt,mk20,rfl,⟨cs3,o7⟩⟩
  exact ⟨mk20,xt.gh⟩
 ·rintro xv21 a22 s18 _ G25 H26 fl23 - ⟨v19,xt,mk20,rfl,⟨cs3,o7⟩⟩ rx24 hm D' kN27 kC28 kB29 kR30
  refine BF ?_
  refine bE hm fun k31 h32 hm=>?_
  refine bE hm fun a33 h34 hm=>?_
  refine bE hm fun z41 h35 hm=>?_
  refine sv_appAt (K:=K) rfl o7 (Cy (A4 rfl rx24)) h32 (Bq (A4 rfl rx24)) h34 h35 xt fun G36 H37 H38 x39 xt o40=>?_
  have mk20:=mk20.trans x39.gg
  cases hm
  exact kN27 _ _ _ _ rfl ⟨_,xt,mk20,rfl,⟨_,o40⟩⟩
 ·rintro s18 _ G44 H45 rfl ⟨v42,xt,mk43,rfl,⟨cs3,o7⟩⟩
  refine Bp ?_
  have sf:=o7.up
  have xt:=o7.frz xt
  have r46:=o7.tellL
  exact Ae (K:=K) (A4 rfl r46) hm xt.gh fun v47 G48 H49 x50 r51=>q v47 G48 H49 (xt.trans x50) r51
 ·rintro r' v' G' H' rfl rl
  cases hm
  exact q v' G' H' rl.1 rl.2
theorem ok_begins_of {f:Addr}{fd:FuncData}(F:Fun K "begins_of" "begins_of" DN f fd)(T:Txt mg):FnOk P w K mg base CX0 1 f fd ["net"] (spM K Cs):=by
 refine F.ok sc_begins_of (fun vs H Q E h=>(Au h).trans rfl) (fun cdv A outer s H0 vs Q E hr h=>?_)
 obtain ⟨G0,⟨net_,⟨⟩⟩,res,sg0,⟨Af,_,rfl,A8,rfl⟩,hm,q⟩:=h
 replace A8:Rp.rel K G0 Af net_:=A8
 replace hm:Ci net_=some res:=hm
 unfold Ci at hm
 have xt:Ext G0 H0 G0 H0:=Ext.refl sg0
 refine ⟨_,(A5 (Bg (i:=1) sc_begins_of.nd rfl (Or.inl rfl) (cn:=[]) (cap:=[]) rfl ⟨by decide +kernel,rfl,by decide +kernel,Ay rfl⟩ rfl (by decide +kernel) trivial (B7 rfl T.range_ (A6 (AI (A9 (K:=K) rfl) (pv 0) AC (fun _ _=>rfl)) AB)) (fun C s0 H0 fp=>⟨BP,(CH AB)⟩))
   (A5 (BW PassesOwn.never rfl (Av (K:=K) rfl (AI (A9 (K:=K) rfl) (pv 0) AC (fun _ _=>rfl))) (Ah (i:=2) sc_begins_of.nd rfl (Or.inl rfl)) (A5 (Bo (Cg (K:=K) rfl PySem.F.plainAttrs_list PySem.F.slot_list_append PySem.F.type_list_append BK (AI (A9 (K:=K) rfl) (pv 1) (AI (A9 (K:=K) rfl) (pv 2) AC (fun _ _=>rfl)) (fun _ _=>rfl)) (A6 (AI (A9 (K:=K) rfl) (pv 2) AC (fun _ _=>rfl)) AB)))
   AA))
   (A5 (Ad (pv 1))
   AA))),?_⟩
 refine bE hm fun l9 h10 hm=>?_
 refine bE hm fun begins_ h8 hm=>?_
 refine sv_ownL (K:=K) (cap:=[]) (By (Cy (A4 rfl A8))) h10 (Option.some.inj h8).symm xt fun p2 cs3 G4 H5 x6 o7=>?_
 have xt:=xt.trans x6
 have A8:=Rp.mono x6.gg A8
 refine bE hm fun as11 h12 hm=>?_
 refine bE hm fun fl13 h14 hm=>?_
 refine Bi (K:=K) (RR:=fun r v G' H'=>Ext G0 H0 G' H'/\Rp.rel K G' v r) (Aw (Bq (A4 rfl A8))) h12 h14 xt.gh fun G15 H16 x17=>⟨fun s18 S' G' H'=>∃ (v19:Option V),Ext G0 H0 G' H'/\Same G15 G'/\S'=[some Af,some (V.ref p2),v19]/\(∃ vs,OwnC K H0 G' H' (V.ref p2) p2 vs (s18.map some)),?_,?_,?_,?_,?_⟩
 ·have xt:=xt.trans x17
  have o7:=o7.ext x17
  exact ⟨_,xt,(Same.refl _),rfl,⟨_,o7⟩⟩
 ·rintro _ S' G' H' ⟨v19,xt,mk20,rfl,⟨cs3,o7⟩⟩
  exact ⟨mk20,xt.gh⟩
 ·rintro xv21 a22 s18 _ G25 H26 fl23 - ⟨v19,xt,mk20,rfl,⟨cs3,o7⟩⟩ rx24 hm D' kN27 kC28 kB29 kR30
  refine BF ?_
  refine bE hm fun k31 h32 hm=>?_
  refine bE hm fun a33 h34 hm=>?_
  refine bE hm fun z41 h35 hm=>?_
  refine sv_appAt (K:=K) rfl o7 (Bq (A4 rfl rx24)) h32 (Cy (A4 rfl rx24)) h34 h35 xt fun G36 H37 H38 x39 xt o40=>?_
  have mk20:=mk20.trans x39.gg
  cases hm
  exact kN27 _ _ _ _ rfl ⟨_,xt,mk20,rfl,⟨_,o40⟩⟩
 ·rintro s18 _ G44 H45 rfl ⟨v42,xt,mk43,rfl,⟨cs3,o7⟩⟩
  refine Bp ?_
  have sf:=o7.up
  have xt:=o7.frz xt
  have r46:=o7.tellL
  exact Ae (K:=K) (A4 rfl r46) hm xt.gh fun v47 G48 H49 x50 r51=>q v47 G48 H49 (xt.trans x50) r51
 ·rintro r' v' G' H' rfl rl
  cases hm
  exact q v' G' H' rl.1 rl.2
theorem ok_number_knot {f:Addr}{fd:FuncData}(F:Fun K "number_knot" "number_knot" Ca f fd)(T:Txt mg):FnOk P w K mg base CX0 1 f fd ["knots","ends","begin","number"] (spW1 K DT):=by
 refine F.ok sc_number_knot (fun vs H Q E h=>(spW1_len h).trans rfl) (fun cdv A outer s H9 vs Q E hr h=>?_)
 obtain ⟨G0,Bz,vs_knots_,_,Az,⟨Fs,⟨begin_,⟨AL,⟨⟩⟩⟩⟩,res,rfl,sg0,o_knots_,⟨v_ends_,_,rfl,CM,⟨CQ,_,rfl,AH,⟨EE,_,rfl,An,rfl⟩⟩⟩,hm,q⟩:=h
 have xt:Ext G0 (era H9 [Bz]) G0 H9:=Ext.begin sg0
 have hz_knots_:era H9 [Bz] Bz=none:=era_in (by simp)
 generalize era H9 [Bz]=H0 at xt q hz_knots_
 replace CM:Rp.rel K G0 v_ends_ Fs:=CM
 replace AH:Rp.rel K G0 CQ begin_:=AH
 replace An:Rp.rel K G0 EE AL:=An
 replace hm:CU Az Fs begin_ AL=some res:=hm
 unfold CU at hm
 refine ⟨_,(A5 (Et (pv 3) (Ey (pv 0) (pv 2) DR))
   (A5 (AN (i:=4) sc_number_knot.nd rfl (Or.inl rfl) (CH (A6 (pv 2) AB)))
   (A5 (FS PassesOwn.never (Ag op_gtU (Ap (As (K:=K) rfl) (by rfl) T.len_ Bk (A6 (pv 4) AB)) AC (Ab _)) (A5 (AN (i:=5) sc_number_knot.nd rfl (Or.inl rfl) (pe_bm0K (K:=K) rfl PySem.F.plainAttrs_list PySem.F.slot_list_pop PySem.F.type_list_pop mt_pop (pv 4)))
   (A5 (BW PassesOwn.never rfl (Av (K:=K) rfl (AI (A9 (K:=K) rfl) (pv 1) (pv 5) (fun _ _=>rfl))) (Ah (i:=6) sc_number_knot.nd rfl (Or.inl rfl)) (A5 (Bc (Ag ET (AI (A9 (K:=K) rfl) (pv 0) (pv 6) (fun _ _=>rfl)) Bm (Ab _)) (A5 (Et (pv 3) (Ey (pv 0) (pv 6) DR))
   (A5 (Bo (Cg (K:=K) rfl PySem.F.plainAttrs_list PySem.F.slot_list_append PySem.F.type_list_append BK (pv 4) (A6 (pv 6) AB)))
   AA)) AA)
   AA))
   AA)))
   AA))),?_⟩
 refine bE hm fun a1 h2 hm=>?_
 refine bE hm fun k3 h4 hm=>?_
 refine bE hm fun z12 h5 hm=>?_
 refine D9 (K:=K) rfl o_knots_ (Dz (A4 rfl An)) h2 (A4 rfl AH) h4 h5 xt.gh fun G6 H7 w8 j9 x10 o11=>?_
 have xt:Ext G0 H0 G6 (upd H7 Bz (.lst (vs_knots_.set j9 w8))):=(xt.trans x10).put hz_knots_ o11.g
 have CM:=Rp.mono x10.gg CM
 have AH:=Rp.mono x10.gg AH
 have An:=Rp.mono x10.gg An
 refine bE hm fun Go h20 hm=>?_
 refine Cd (K:=K) (Cw (GI (A4 rfl AH) (D3 (α:=Int)))) h20 xt.gh fun p13 vs14 G15 H16 x17 hz18 o19=>?_
 have ne_p_knots__p13:Bz≠p13:=Ax o11.h hz18
 have hz18:=xt.hh.free hz18
 have xt:=xt.trans x17
 have o11:=o11.ext x17
 have CM:=Rp.mono x17.gg CM
 have AH:=Rp.mono x17.gg AH
 have An:=Rp.mono x17.gg An
 refine bE hm fun fl21 h22 hm=>?_
 refine FY (K:=K) (G:=G15) (RR:=fun _ _ _ _=>False) h22 (fun s23 S' G' H'=>∃ (v24:Option V) (v25:Option V),Ext G0 H0 G' H'/\Same G15 G'/\S'=[some (V.ref Bz),some v_ends_,some CQ,some EE,some (V.ref p13),v24,v25]/\(∃ vs,Own K G' H' (V.ref Bz) Bz vs s23.1)/\(∃ vs,Own K G' H' (V.ref p13) p13 vs s23.2)) ⟨?_,?_,?_,?_,?_,?_⟩
 ·exact ⟨_,_,xt,(Same.refl _),rfl,⟨_,o11⟩,⟨_,o19⟩⟩
 ·rintro _ S' G' H' ⟨v24,v25,xt,mk26,rfl,⟨vs27,o11⟩,⟨vs14,o19⟩⟩
  exact xt.gh
 ·rintro s23 _ G28 H29 b' ⟨v24,v25,xt,mk26,rfl,⟨vs27,o11⟩,⟨vs14,o19⟩⟩ hc Q' k'
  refine TV.runB o19 (Ac (K:=K) (Dt (C4 (A4 rfl o19.tell)) BI)) hc xt.gh fun G30 H31 x32=>?_
  have xt:=xt.trans x32
  have mk26:=mk26.trans x32.gg
  have o11:=o11.ext x32
  have o19:=o19.ext x32
  exact k' _ _ ⟨_,_,xt,mk26,rfl,⟨_,o11⟩,⟨_,o19⟩⟩
 ·rintro s23 _ G34 H35 fl33 ⟨v24,v25,xt,mk26,rfl,⟨vs27,o11⟩,⟨vs14,o19⟩⟩ hm - D' kN36 kC37 kB38 kR39
  have CM:=Rp.mono mk26 CM
  have AH:=Rp.mono mk26 AH
  have An:=Rp.mono mk26 An
  refine bE hm fun pr40 h41 hm=>?_
  refine sv_pop (K:=K) (a:=pr40.1) (as':=pr40.2) rfl o19 h41 fun w42 r43 o44=>?_
  have xt:Ext G0 H0 G34 (upd H35 p13 (.lst vs14.dropLast)):=xt.put hz18 o44.g
  have o11:=o11.put (q:=p13) (ho:=.lst vs14.dropLast) (by first|assumption|exact Ne.symm (by assumption))
  refine bE hm fun as47 h48 hm=>?_
  refine bE hm fun fl49 h50 hm=>?_
  refine Bi (K:=K) (RR:=fun _ _ _ _=>False) (Aw (Al (A4 rfl CM) (A4 rfl r43))) h48 h50 xt.gh fun G51 H52 x53=>⟨fun s54 S' G' H'=>∃ (v55:Option V),Ext G0 H0 G' H'/\Same G51 G'/\S'=[some (V.ref Bz),some v_ends_,some CQ,some EE,some (V.ref p13),some w42,v55]/\(∃ vs,Own K G' H' (V.ref Bz) Bz vs s54.1)/\(∃ vs,Own K G' H' (V.ref p13) p13 vs s54.2),?_,?_,?_,?_,?_⟩
  ·have xt:=xt.trans x53
   have o11:=o11.ext x53
   have o44:=o44.ext x53
   exact ⟨_,xt,(Same.refl _),rfl,⟨_,o11⟩,⟨_,o44⟩⟩
  ·rintro _ S' G' H' ⟨v55,xt,mk56,rfl,⟨vs27,o11⟩,⟨vs57,o44⟩⟩
   exact ⟨mk56,xt.gh⟩
  ·rintro xv58 a59 s54 _ G62 H63 fl60 - ⟨v55,xt,mk56,rfl,⟨vs27,o11⟩,⟨vs57,o44⟩⟩ rx61 hm D' kN64 kC65 kB66 kR67
   have mk26:=(mk26.trans x53.gg).trans mk56
   have CM:=Rp.mono (x53.gg.trans mk56) CM
   have AH:=Rp.mono (x53.gg.trans mk56) AH
   have An:=Rp.mono (x53.gg.trans mk56) An
   have r43:=Rp.mono (x53.gg.trans mk56) r43
   refine BF ?_
   refine bE hm fun b74 h75 hm=>?_
   refine FT o11 (Ac (K:=K) (EQ nn_int (Al (A4 rfl o11.tell) (A4 rfl (Rp.mono (Same.new o11.g) rx61))))) h75 xt.gh fun G76 H77 x78=>?_
   have xt:=xt.trans x78
   have mk26:=mk26.trans x78.gg
   have mk56:=mk56.trans x78.gg
   have o11:=o11.ext x78
   have CM:=Rp.mono x78.gg CM
   have AH:=Rp.mono x78.gg AH
   have An:=Rp.mono x78.gg An
   have o44:=o44.ext x78
   have r43:=Rp.mono x78.gg r43
   have rx61:=Rp.mono x78.gg rx61
   cases b74 with
   | true =>
    replace hm:=cT hm
    refine CN ?_
    refine bE hm fun a79 h80 hm=>?_
    refine bE hm fun k81 h82 hm=>?_
    refine bE hm fun z90 h83 hm=>?_
    refine D9 (K:=K) rfl o11 (Dz (A4 rfl An)) h80 (A4 rfl rx61) h82 h83 xt.gh fun G84 H85 w86 j87 x88 o89=>?_
    have xt:Ext G0 H0 G84 (upd H85 Bz (.lst (vs27.set j87 w86))):=(xt.trans x88).put hz_knots_ o89.g
    have mk26:=mk26.trans x88.gg
    have mk56:=mk56.trans x88.gg
    have CM:=Rp.mono x88.gg CM
    have AH:=Rp.mono x88.gg AH
    have An:=Rp.mono x88.gg An
    have o44:=(o44.ext x88).put (q:=Bz) (ho:=.lst (vs27.set j87 w86)) (by first|assumption|exact Ne.symm (by assumption))
    have r43:=Rp.mono x88.gg r43
    have rx61:=Rp.mono x88.gg rx61
    refine bE hm fun a91 h92 hm=>?_
    refine bE hm fun z99 h93 hm=>?_
    refine Cu (K:=K) rfl o44 (A4 rfl rx61) h92 h93 xt.gh fun G94 H95 w96 x97 o98=>?_
    have xt:Ext G0 H0 G94 (upd H95 p13 (.lst (vs57++[w96]))):=(xt.trans x97).put hz18 o98.g
    have mk26:=mk26.trans x97.gg
    have mk56:=mk56.trans x97.gg
    have o89:=(o89.ext x97).put (q:=p13) (ho:=.lst (vs57++[w96])) (by first|assumption|exact Ne.symm (by assumption))
    cases hm
    exact kN64 _ _ _ _ rfl ⟨_,xt,mk56,rfl,⟨_,o89⟩,⟨_,o98⟩⟩
   | false =>
    replace hm:=cF hm
    refine CG ?_
    cases hm
    exact kN64 _ _ _ _ rfl ⟨_,xt,mk56,rfl,⟨_,o11⟩,⟨_,o44⟩⟩
  ·rintro s54 _ G103 H104 rfl ⟨v100,xt,mk101,rfl,⟨vs27,o11⟩,⟨vs102,o44⟩⟩
   refine Bp ?_
   have mk26:=(mk26.trans x53.gg).trans mk101
   cases hm
   exact kN36 _ _ _ _ rfl ⟨_,_,xt,mk26,rfl,⟨_,o11⟩,⟨_,o44⟩⟩
  ·rintro r' v' G' H' rfl rl
   exact rl.elim
 ·rintro s23 _ G109 H110 rfl ⟨v105,v106,xt,mk107,rfl,⟨vs108,o11⟩,⟨vs14,o19⟩⟩
  refine Bp ?_
  cases hm
  exact q _ _ _ xt o11
 ·rintro r' v' G' H' rfl rl
  exact rl.elim
theorem ok_knots_of {f:Addr}{fd:FuncData}(F:Fun K "knots_of" "knots_of" Df f fd)(T:Txt mg)(D_leaving_order:DefOk P w K mg base "leaving_order" 1 ["leads"] (spM K Cp))(D_ends_of:DefOk P w K mg base "ends_of" 1 ["net"] (spM K Ev))(D_begins_of:DefOk P w K mg base "begins_of" 1 ["net"] (spM K Cs))(D_number_knot:DefOk P w K mg base "number_knot" 1 ["knots","ends","begin","number"] (spW1 K DT)):FnOk P w K mg base CX0 2 f fd ["net"] (spM K DO):=by
 refine F.ok sc_knots_of (fun vs H Q E h=>(Au h).trans rfl) (fun cdv A outer s H0 vs Q E hr h=>?_)
 obtain ⟨G0,⟨net_,⟨⟩⟩,res,sg0,⟨Af,_,rfl,A8,rfl⟩,hm,q⟩:=h
 replace A8:Rp.rel K G0 Af net_:=A8
 replace hm:DC net_=some res:=hm
 unfold DC at hm
 have xt:Ext G0 H0 G0 H0:=Ext.refl sg0
 refine ⟨_,(A5 (AN (i:=1) sc_knots_of.nd rfl (Or.inl rfl) (Aa D_leaving_order hr (by decide) rfl (A6 (Aa D_begins_of hr (by decide) rfl (A6 (pv 0) AB)) AB)))
   (A5 (AN (i:=2) sc_knots_of.nd rfl (Or.inl rfl) (Aa D_ends_of hr (by decide) rfl (A6 (pv 0) AB)))
   (A5 (Bg (i:=3) sc_knots_of.nd rfl (Or.inl rfl) (cn:=[]) (cap:=[]) rfl ⟨by decide +kernel,rfl,by decide +kernel,Ay rfl⟩ rfl (by decide +kernel) trivial (Av (K:=K) rfl (pv 1)) (fun C s0 H0 fp=>⟨BP,Bm⟩))
   (A5 (AN (i:=4) sc_knots_of.nd rfl (Or.inl rfl) AC)
   (A5 (BW PassesOwn.never rfl (pi_rev (K:=K) rfl (by rfl) T.reversed_ (A6 (pv 1) AB)) (Ah (i:=5) sc_knots_of.nd rfl (Or.inl rfl)) (A5 (Bc (Ag ET (AI (A9 (K:=K) rfl) (pv 3) (pv 5) (fun _ _=>rfl)) Bm (Ab _)) (A5 (Bo (Aa D_number_knot hr (by decide) rfl (A6 (pv 3) (A6 (pv 2) (A6 (pv 5) (A6 (pv 4) AB))))))
   (A5 (AN (i:=4) sc_knots_of.nd rfl (Or.inl rfl) (AR (Ak (K:=K) rfl) (pv 4) AC))
   AA)) AA)
   AA))
   (A5 (Ad (pv 3))
   AA)))))),?_⟩
 refine bE hm fun order_ h8 hm=>?_
 refine AU (K:=K) (Ef (m:=Cp) (Ef (m:=Cs) (A4 rfl A8))) h8 xt.gh fun v3 G4 H5 x6 r7=>?_
 have xt:=xt.trans x6
 have A8:=Rp.mono x6.gg A8
 refine bE hm fun Fs h15 hm=>?_
 refine AU (K:=K) (Ef (m:=Ev) (A4 rfl A8)) h15 xt.gh fun v10 G11 H12 x13 r14=>?_
 have xt:=xt.trans x13
 have A8:=Rp.mono x13.gg A8
 have r7:=Rp.mono x13.gg r7
 refine bE hm fun Az h28 hm=>?_
 refine Cd (K:=K) (D2 (cap:=[]) (fe:=fun (At:Int)=>(some none)) (Aw (A4 rfl r7)) fun xc19 At Gc16 sc17 rc18=>(Dw (α:=Int))) h28 xt.gh fun p21 vs22 G23 H24 x25 hz26 o27=>?_
 have hz26:=xt.hh.free hz26
 have xt:=xt.trans x25
 have A8:=Rp.mono x25.gg A8
 have r7:=Rp.mono x25.gg r7
 have r14:=Rp.mono x25.gg r14
 refine bE hm fun ES h34 hm=>?_
 refine AU (K:=K) BI h34 xt.gh fun v29 G30 H31 x32 r33=>?_
 have xt:=xt.trans x32
 have A8:=Rp.mono x32.gg A8
 have r7:=Rp.mono x32.gg r7
 have r14:=Rp.mono x32.gg r14
 have o27:=o27.ext x32
 refine bE hm fun as35 h36 hm=>?_
 refine bE hm fun fl37 h38 hm=>?_
 refine Bi (K:=K) (RR:=fun r v G' H'=>Ext G0 H0 G' H'/\Rp.rel K G' v r) (iw_rev (A4 rfl r7)) h36 h38 xt.gh fun G39 H40 x41=>⟨fun s42 S' G' H'=>∃ (v43:V) (v44:Option V),Ext G0 H0 G' H'/\Same G39 G'/\S'=[some Af,some v3,some v10,some (V.ref p21),some v43,v44]/\(∃ vs,Own K G' H' (V.ref p21) p21 vs s42.1)/\Rp.rel K G' v43 (s42.2:Int),?_,?_,?_,?_,?_⟩
 ·have xt:=xt.trans x41
  have o27:=o27.ext x41
  have r33:=Rp.mono x41.gg r33
  exact ⟨v29,_,xt,(Same.refl _),rfl,⟨_,o27⟩,r33⟩
 ·rintro _ S' G' H' ⟨v43,v44,xt,mk45,rfl,⟨vs22,o27⟩,r46⟩
  exact ⟨mk45,xt.gh⟩
 ·rintro xv47 a48 s42 _ G51 H52 fl49 - ⟨v43,v44,xt,mk45,rfl,⟨vs22,o27⟩,r46⟩ rx50 hm D' kN53 kC54 kB55 kR56
  have A8:=Rp.mono (x41.gg.trans mk45) A8
  have r7:=Rp.mono (x41.gg.trans mk45) r7
  have r14:=Rp.mono (x41.gg.trans mk45) r14
  refine BF ?_
  refine bE hm fun b63 h64 hm=>?_
  refine FT o27 (Ac (K:=K) (EQ nn_int (Al (A4 rfl o27.tell) (A4 rfl (Rp.mono (Same.new o27.g) rx50))))) h64 xt.gh fun G65 H66 x67=>?_
  have xt:=xt.trans x67
  have mk45:=mk45.trans x67.gg
  have A8:=Rp.mono x67.gg A8
  have r7:=Rp.mono x67.gg r7
  have r14:=Rp.mono x67.gg r14
  have o27:=o27.ext x67
  have r46:=Rp.mono x67.gg r46
  have rx50:=Rp.mono x67.gg rx50
  cases b63 with
  | true =>
   replace hm:=cT hm
   refine CN ?_
   refine bE hm fun ca74 h75 hm=>?_
   refine bE hm fun rz76 h77 hm=>?_
   refine sv_callW1 (K:=K) (m:=DT) rfl o27 (av_cons (A4 rfl r14) (av_cons (A4 rfl rx50) (av_cons (A4 rfl r46) av_nil))) h75 h77 xt.gh fun G78 H79 G80 H81 vs84 x82 y83 o85=>?_
   have xt:=(xt.trans x82).past (C:=[p21]) (fun b hb=>by simp only [List.mem_cons,List.not_mem_nil,or_false] at hb;(first | (rcases hb with e|e<;>(rw [e];assumption)) | (rw [hb];assumption))) y83
   have mk45:=mk45.trans (x82.gg.trans y83.gg)
   have r46:=Rp.mono (x82.gg.trans y83.gg) r46
   refine bE hm fun ES h91 hm=>?_
   refine AU (K:=K) (BO (A4 rfl r46) BI) h91 xt.gh fun v86 G87 H88 x89 r90=>?_
   have xt:=xt.trans x89
   have mk45:=mk45.trans x89.gg
   have o85:=o85.ext x89
   cases hm
   exact kN53 _ _ _ _ rfl ⟨v86,_,xt,mk45,rfl,⟨_,o85⟩,r90⟩
  | false =>
   replace hm:=cF hm
   refine CG ?_
   cases hm
   exact kN53 _ _ _ _ rfl ⟨v43,_,xt,mk45,rfl,⟨_,o27⟩,r46⟩
 ·rintro s42 _ G96 H97 rfl ⟨v92,v93,xt,mk94,rfl,⟨vs22,o27⟩,r95⟩
  refine Bp ?_
  have sf:=Same.new (o:=.lst vs22) o27.g
  have xt:=xt.frz hz26 o27.g o27.h
  have r98:=o27.tell
  exact Ae (K:=K) (A4 rfl r98) hm xt.gh fun v99 G100 H101 x102 r103=>q v99 G100 H101 (xt.trans x102) r103
 ·rintro r' v' G' H' rfl rl
  cases hm
  exact q v' G' H' rl.1 rl.2
theorem ok_marks_within {f:Addr}{fd:FuncData}(F:Fun K "marks_within" "marks_within" C9 f fd)(T:Txt mg):FnOk P w K mg base CX0 1 f fd ["net","knots"] (spM K Bs):=by
 refine F.ok sc_marks_within (fun vs H Q E h=>(Au h).trans rfl) (fun cdv A outer s H0 vs Q E hr h=>?_)
 obtain ⟨G0,⟨net_,⟨Az,⟨⟩⟩⟩,res,sg0,⟨Af,_,rfl,A8,⟨Dr,_,rfl,BG,rfl⟩⟩,hm,q⟩:=h
 replace A8:Rp.rel K G0 Af net_:=A8
 replace BG:Rp.rel K G0 Dr Az:=BG
 replace hm:Bj net_ Az=some res:=hm
 unfold Bj at hm
 have xt:Ext G0 H0 G0 H0:=Ext.refl sg0
 refine ⟨_,(A5 (Bg (i:=2) sc_marks_within.nd rfl (Or.inl rfl) (cn:=[]) (cap:=[]) rfl ⟨by decide +kernel,rfl,by decide +kernel,Ay rfl⟩ rfl (by decide +kernel) trivial (Av (K:=K) rfl (pv 1)) (fun C s0 H0 fp=>⟨BP,Bm⟩))
   (A5 (BW PassesOwn.never rfl (Av (K:=K) rfl (AI (A9 (K:=K) rfl) (pv 0) AC (fun _ _=>rfl))) (Ah (i:=3) sc_marks_within.nd rfl (Or.inl rfl)) (A5 (AN (i:=4) sc_marks_within.nd rfl (Or.inl rfl) (AI (A9 (K:=K) rfl) (pv 1) (AI (A9 (K:=K) rfl) (pv 3) AC (fun _ _=>rfl)) (fun _ _=>rfl)))
   (A5 (Bc (Ag DY (pv 4) (AI (A9 (K:=K) rfl) (pv 1) (AI (A9 (K:=K) rfl) (pv 3) AC (fun _ _=>rfl)) (fun _ _=>rfl)) (Ab _)) (A5 (Bc (Ag ET (AI (A9 (K:=K) rfl) (pv 2) (pv 4) (fun _ _=>rfl)) Bm (Ab _)) (A5 (Et pe_dnewK (Ey (pv 2) (pv 4) DR))
   AA) AA)
   (A5 (BW PassesOwn.never rfl (Av (K:=K) rfl (AI (A9 (K:=K) rfl) (pv 3) AC (fun _ _=>rfl))) (Ah (i:=5) sc_marks_within.nd rfl (Or.inl rfl)) (A5 (ps_dput (Gf hr) (AI (A9 (K:=K) rfl) (pv 2) (pv 4) (fun _ _=>rfl)) (pv 5) Dv rfl)
   AA))
   AA)) AA)
   AA)))
   (A5 (Ad (pv 2))
   AA))),?_⟩
 refine bE hm fun l8 h9 hm=>?_
 refine bE hm fun DQ h7 hm=>?_
 refine sv_ownD (K:=K) (cap:=[]) (Aw (A4 rfl BG)) h9 (Option.some.inj h7).symm xt fun p1 cs2 G3 H4 x5 o6=>?_
 have xt:=xt.trans x5
 have A8:=Rp.mono x5.gg A8
 have BG:=Rp.mono x5.gg BG
 refine bE hm fun as10 h11 hm=>?_
 refine bE hm fun fl12 h13 hm=>?_
 refine Bi (K:=K) (RR:=fun r v G' H'=>Ext G0 H0 G' H'/\Rp.rel K G' v r) (Aw (Bq (A4 rfl A8))) h11 h13 xt.gh fun G14 H15 x16=>⟨fun s17 S' G' H'=>∃ (v18:Option V) (v19:Option V) (v20:Option V),Ext G0 H0 G' H'/\Same G14 G'/\S'=[some Af,some Dr,some (V.ref p1),v18,v19,v20]/\(∃ vs,OwnC K H0 G' H' (V.ref p1) p1 vs s17),?_,?_,?_,?_,?_⟩
 ·have xt:=xt.trans x16
  have o6:=o6.ext x16
  exact ⟨_,_,_,xt,(Same.refl _),rfl,⟨_,o6⟩⟩
 ·rintro _ S' G' H' ⟨v18,v19,v20,xt,mk21,rfl,⟨cs2,o6⟩⟩
  exact ⟨mk21,xt.gh⟩
 ·rintro xv22 a23 s17 _ G26 H27 fl24 - ⟨v18,v19,v20,xt,mk21,rfl,⟨cs2,o6⟩⟩ rx25 hm D' kN28 kC29 kB30 kR31
  have BG:=Rp.mono (x16.gg.trans mk21) BG
  refine BF ?_
  refine bE hm fun EK h39 hm=>?_
  refine AU (K:=K) (Al (A4 rfl BG) (Cy (A4 rfl rx25))) h39 xt.gh fun v34 G35 H36 x37 r38=>?_
  have xt:=xt.trans x37
  have mk21:=mk21.trans x37.gg
  have BG:=Rp.mono x37.gg BG
  have o6:=o6.ext x37
  have rx25:=Rp.mono x37.gg rx25
  refine bE hm fun b45 h46 hm=>?_
  refine Cv (Ac (K:=K) (ev_eqOI (A4 rfl r38) (Al (A4 rfl BG) (Bq (A4 rfl rx25))))) h46 xt.gh fun G47 H48 x49=>?_
  have xt:=xt.trans x49
  have mk21:=mk21.trans x49.gg
  have o6:=o6.ext x49
  have rx25:=Rp.mono x49.gg rx25
  have r38:=Rp.mono x49.gg r38
  cases b45 with
  | true =>
   replace hm:=cT hm
   refine CN ?_
   refine bE hm fun b58 h59 hm=>?_
   refine bE hm fun s63 h64 hm=>?_
   refine sv_join (fun S80 H79=>∃ (G78:Hp) ,Ext G0 H0 G78 H79/\Same G47 G78/\S80=[some Af,some Dr,some (V.ref p1),some xv22,some v34,v20]/\(∃ vs,OwnC K H0 G78 H79 (V.ref p1) p1 vs s63)) (fun nx kn66=>?_) ?_
   ·refine sv_ifX o6.up (o6.sm xt.gh) (Ac (K:=K) (EQ nn_map (Al (A4 rfl o6.tell) (BM (A4 rfl (Rp.mono o6.up r38)))))) h59 fun G60 H61 x62=>?_
    have xt:=xt.trans x62
    have o6:=o6.ext x62
    have r38:=Rp.mono x62.gg r38
    have mk65:Same G47 G60:=x62.gg
    have hm:=h64
    cases b58 with
    | true =>
     replace hm:=cT hm
     refine CN ?_
     refine bE hm fun k68 h69 hm=>?_
     refine bE hm fun z77 h70 hm=>?_
     refine sv_dnewAt (K:=K) rfl o6 (BM (A4 rfl r38)) h69 h70 xt fun G71 H72 H73 cs74 x75 xt o76=>?_
     have mk65:=mk65.trans x75.gg
     cases hm
     exact kn66 _ _ ⟨G71,xt,mk65,rfl,⟨_,o76⟩⟩
    | false =>
     replace hm:=cF hm
     refine CG ?_
     cases hm
     exact kn66 _ _ ⟨G60,xt,mk65,rfl,⟨_,o6⟩⟩
   ·rintro _ H79 ⟨G78,xt,mk65,rfl,⟨cs2,o6⟩⟩
    have mk21:=mk21.trans mk65
    have rx25:=Rp.mono mk65 rx25
    have r38:=Rp.mono mk65 r38
    refine bE hm fun as81 h82 hm=>?_
    refine bE hm fun fl83 h84 hm=>?_
    refine Bi (K:=K) (RR:=fun r v G' H'=>Ext G0 H0 G' H'/\Rp.rel K G' v r) (iw_tup (Ek (A4 rfl rx25))) h82 h84 xt.gh fun G85 H86 x87=>⟨fun s88 S' G' H'=>∃ (v89:Option V),Ext G0 H0 G' H'/\Same G85 G'/\S'=[some Af,some Dr,some (V.ref p1),some xv22,some v34,v89]/\(∃ vs,OwnC K H0 G' H' (V.ref p1) p1 vs s88),?_,?_,?_,?_,?_⟩
    ·have xt:=xt.trans x87
     have o6:=o6.ext x87
     exact ⟨_,xt,(Same.refl _),rfl,⟨_,o6⟩⟩
    ·rintro _ S' G' H' ⟨v89,xt,mk90,rfl,⟨cs2,o6⟩⟩
     exact ⟨mk90,xt.gh⟩
    ·rintro xv91 a92 s88 _ G95 H96 fl93 - ⟨v89,xt,mk90,rfl,⟨cs2,o6⟩⟩ rx94 hm D' kN97 kC98 kB99 kR100
     have r38:=Rp.mono (x87.gg.trans mk90) r38
     refine BF ?_
     refine bE hm fun a102 h103 hm=>?_
     refine bE hm fun k104 h105 hm=>?_
     refine bE hm fun k106 h107 hm=>?_
     refine bE hm fun z115 h108 hm=>?_
     refine sv_putDA (K:=K) rfl o6 Fp h103 (BM (A4 rfl r38)) h105 (A4 rfl rx94) h107 h108 xt fun G109 H110 H111 x112 xt o114=>?_
     have mk90:=mk90.trans x112.gg
     cases hm
     exact kN97 _ _ _ _ rfl ⟨_,xt,mk90,rfl,⟨_,o114⟩⟩
    ·rintro s88 _ G118 H119 rfl ⟨v116,xt,mk117,rfl,⟨cs2,o6⟩⟩
     refine Bp ?_
     have mk21:=(mk21.trans x87.gg).trans mk117
     cases hm
     exact kN28 _ _ _ _ rfl ⟨_,_,_,xt,mk21,rfl,⟨_,o6⟩⟩
    ·rintro r' v' G' H' rfl rl
     cases hm
     exact kR31 _ v' G' H' rfl rl
  | false =>
   replace hm:=cF hm
   refine CG ?_
   cases hm
   exact kN28 _ _ _ _ rfl ⟨_,_,_,xt,mk21,rfl,⟨_,o6⟩⟩
 ·rintro s17 _ G124 H125 rfl ⟨v120,v121,v122,xt,mk123,rfl,⟨cs2,o6⟩⟩
  refine Bp ?_
  have sf:=o6.up
  have xt:=o6.frz xt
  have r126:=o6.tell
  exact Ae (K:=K) (A4 rfl r126) hm xt.gh fun v127 G128 H129 x130 r131=>q v127 G128 H129 (xt.trans x130) r131
 ·rintro r' v' G' H' rfl rl
  cases hm
  exact q v' G' H' rl.1 rl.2
theorem ok_spread {f:Addr}{fd:FuncData}(F:Fun K "spread" "spread" Es f fd)(T:Txt mg):FnOk P w K mg base CX0 1 f fd ["leads","wanted"] (spM K Fk):=by
 refine F.ok sc_spread (fun vs H Q E h=>(Au h).trans rfl) (fun cdv A outer s H0 vs Q E hr h=>?_)
 obtain ⟨G0,⟨leads_,⟨CO,⟨⟩⟩⟩,res,sg0,⟨EW,_,rfl,AJ,⟨C8,_,rfl,AG,rfl⟩⟩,hm,q⟩:=h
 replace AJ:Rp.rel K G0 EW leads_:=AJ
 replace AG:Rp.rel K G0 C8 CO:=AG
 replace hm:Em leads_ CO=some res:=hm
 unfold Em at hm
 have xt:Ext G0 H0 G0 H0:=Ext.refl sg0
 refine ⟨_,(A5 (AN (i:=2) sc_spread.nd rfl (Or.inl rfl) (Dd (call_listK (K:=K) rfl) (by rfl) T.list_ bt_list (A6 (pv 1) AB)))
   (A5 (ps_setcomp2 (i:=3) sc_spread.nd rfl (Or.inl rfl) (cn:=[]) (cap:=[]) rfl ⟨by decide +kernel,rfl,by decide +kernel,Ay rfl⟩ rfl rfl (by decide +kernel) trivial (pi_enum (K:=K) rfl rfl T.enumerate_ (A6 (pv 1) AB)) (fun C s0 H0 fp=>⟨(Fj (BN (K:=K) rfl (pv 1) (fun _=>rfl))),(pv 0)⟩))
   (A5 (FS PassesOwn.never (Ag op_gtU (Ap (As (K:=K) rfl) (by rfl) T.len_ Bk (A6 (pv 3) AB)) AC (Ab _)) (A5 (AN (i:=4) sc_spread.nd rfl (Or.inl rfl) (pe_bm0K (K:=K) rfl PySem.F.plainAttrs_list PySem.F.slot_list_pop PySem.F.type_list_pop mt_pop (pv 3)))
   (A5 (BW PassesOwn.never rfl (Av (K:=K) rfl (AI (A9 (K:=K) rfl) (pv 0) (pv 4) (fun _ _=>rfl))) (Ah (i:=5) sc_spread.nd rfl (Or.inl rfl)) (A5 (Bc (Fx (BN (K:=K) rfl (AI (A9 (K:=K) rfl) (pv 2) (pv 5) (fun _ _=>rfl)) (fun _=>rfl))) (A5 (Et Dv (Ey (pv 2) (pv 5) DR))
   (A5 (Bo (Cg (K:=K) rfl PySem.F.plainAttrs_list PySem.F.slot_list_append PySem.F.type_list_append BK (pv 3) (A6 (pv 5) AB)))
   AA)) AA)
   AA))
   AA)))
   (A5 (Ad (pv 2))
   AA)))),?_⟩
 refine bE hm fun found_ h8 hm=>?_
 refine Cd (K:=K) (fv_list (A4 rfl AG)) h8 xt.gh fun p1 vs2 G3 H4 x5 hz6 o7=>?_
 have hz6:=xt.hh.free hz6
 have xt:=xt.trans x5
 have AJ:=Rp.mono x5.gg AJ
 have AG:=Rp.mono x5.gg AG
 refine bE hm fun Go h22 hm=>?_
 refine Cd (K:=K) (fv_comp2 (cap:=[]) (fc:=fun (pc13:(Int × Bool))=>(some pc13.2)) (fe:=fun (pc13:(Int × Bool))=>(some pc13.1)) (if_list (A4 rfl AG)) fun xc12 pc13 Gc9 sc10 rc11=>⟨(GA (K:=K) (A4 rfl rc11)),(A4 rfl (rel_i (K:=K) Gc9 pc13.1))⟩) h22 xt.gh fun p15 vs16 G17 H18 x19 hz20 o21=>?_
 have ne_p1_p15:p1≠p15:=Ax o7.h hz20
 have hz20:=xt.hh.free hz20
 have xt:=xt.trans x19
 have AJ:=Rp.mono x19.gg AJ
 have AG:=Rp.mono x19.gg AG
 have o7:=o7.ext x19
 refine bE hm fun fl23 h24 hm=>?_
 refine FY (K:=K) (G:=G17) (RR:=fun r v G' H'=>Ext G0 H0 G' H'/\Rp.rel K G' v r) h24 (fun s25 S' G' H'=>∃ (v26:Option V) (v27:Option V),Ext G0 H0 G' H'/\Same G17 G'/\S'=[some EW,some C8,some (V.ref p1),some (V.ref p15),v26,v27]/\(∃ vs,Own K G' H' (V.ref p1) p1 vs s25.1)/\(∃ vs,Own K G' H' (V.ref p15) p15 vs s25.2)) ⟨?_,?_,?_,?_,?_,?_⟩
 ·exact ⟨_,_,xt,(Same.refl _),rfl,⟨_,o7⟩,⟨_,o21⟩⟩
 ·rintro _ S' G' H' ⟨v26,v27,xt,mk28,rfl,⟨vs2,o7⟩,⟨vs16,o21⟩⟩
  exact xt.gh
 ·rintro s25 _ G29 H30 b' ⟨v26,v27,xt,mk28,rfl,⟨vs2,o7⟩,⟨vs16,o21⟩⟩ hc Q' k'
  refine TV.runB o21 (Ac (K:=K) (Dt (C4 (A4 rfl o21.tell)) BI)) hc xt.gh fun G31 H32 x33=>?_
  have xt:=xt.trans x33
  have mk28:=mk28.trans x33.gg
  have o7:=o7.ext x33
  have o21:=o21.ext x33
  exact k' _ _ ⟨_,_,xt,mk28,rfl,⟨_,o7⟩,⟨_,o21⟩⟩
 ·rintro s25 _ G35 H36 fl34 ⟨v26,v27,xt,mk28,rfl,⟨vs2,o7⟩,⟨vs16,o21⟩⟩ hm - D' kN37 kC38 kB39 kR40
  have AJ:=Rp.mono mk28 AJ
  have AG:=Rp.mono mk28 AG
  refine bE hm fun pr41 h42 hm=>?_
  refine sv_pop (K:=K) (a:=pr41.1) (as':=pr41.2) rfl o21 h42 fun w43 r44 o45=>?_
  have xt:Ext G0 H0 G35 (upd H36 p15 (.lst vs16.dropLast)):=xt.put hz20 o45.g
  have o7:=o7.put (q:=p15) (ho:=.lst vs16.dropLast) (by first|assumption|exact Ne.symm (by assumption))
  refine bE hm fun as48 h49 hm=>?_
  refine bE hm fun fl50 h51 hm=>?_
  refine Bi (K:=K) (RR:=fun r v G' H'=>Ext G0 H0 G' H'/\Rp.rel K G' v r) (Aw (Al (A4 rfl AJ) (A4 rfl r44))) h49 h51 xt.gh fun G52 H53 x54=>⟨fun s55 S' G' H'=>∃ (v56:Option V),Ext G0 H0 G' H'/\Same G52 G'/\S'=[some EW,some C8,some (V.ref p1),some (V.ref p15),some w43,v56]/\(∃ vs,Own K G' H' (V.ref p1) p1 vs s55.1)/\(∃ vs,Own K G' H' (V.ref p15) p15 vs s55.2),?_,?_,?_,?_,?_⟩
  ·have xt:=xt.trans x54
   have o7:=o7.ext x54
   have o45:=o45.ext x54
   exact ⟨_,xt,(Same.refl _),rfl,⟨_,o7⟩,⟨_,o45⟩⟩
  ·rintro _ S' G' H' ⟨v56,xt,mk57,rfl,⟨vs2,o7⟩,⟨vs58,o45⟩⟩
   exact ⟨mk57,xt.gh⟩
  ·rintro xv59 a60 s55 _ G63 H64 fl61 - ⟨v56,xt,mk57,rfl,⟨vs2,o7⟩,⟨vs58,o45⟩⟩ rx62 hm D' kN65 kC66 kB67 kR68
   have mk28:=(mk28.trans x54.gg).trans mk57
   have AJ:=Rp.mono (x54.gg.trans mk57) AJ
   have AG:=Rp.mono (x54.gg.trans mk57) AG
   have r44:=Rp.mono (x54.gg.trans mk57) r44
   refine BF ?_
   refine bE hm fun b75 h76 hm=>?_
   refine FT o7 (GC (GA (K:=K) (Al (A4 rfl o7.tell) (A4 rfl (Rp.mono (Same.new o7.g) rx62))))) h76 xt.gh fun G77 H78 x79=>?_
   have xt:=xt.trans x79
   have mk28:=mk28.trans x79.gg
   have mk57:=mk57.trans x79.gg
   have AJ:=Rp.mono x79.gg AJ
   have AG:=Rp.mono x79.gg AG
   have o7:=o7.ext x79
   have o45:=o45.ext x79
   have r44:=Rp.mono x79.gg r44
   have rx62:=Rp.mono x79.gg rx62
   cases b75 with
   | true =>
    replace hm:=cT hm
    refine CN ?_
    refine bE hm fun a80 h81 hm=>?_
    refine bE hm fun k82 h83 hm=>?_
    refine bE hm fun z91 h84 hm=>?_
    refine D9 (K:=K) rfl o7 Fp h81 (A4 rfl rx62) h83 h84 xt.gh fun G85 H86 w87 j88 x89 o90=>?_
    have xt:Ext G0 H0 G85 (upd H86 p1 (.lst (vs2.set j88 w87))):=(xt.trans x89).put hz6 o90.g
    have mk28:=mk28.trans x89.gg
    have mk57:=mk57.trans x89.gg
    have AJ:=Rp.mono x89.gg AJ
    have AG:=Rp.mono x89.gg AG
    have o45:=(o45.ext x89).put (q:=p1) (ho:=.lst (vs2.set j88 w87)) (by first|assumption|exact Ne.symm (by assumption))
    have r44:=Rp.mono x89.gg r44
    have rx62:=Rp.mono x89.gg rx62
    refine bE hm fun a92 h93 hm=>?_
    refine bE hm fun z100 h94 hm=>?_
    refine Cu (K:=K) rfl o45 (A4 rfl rx62) h93 h94 xt.gh fun G95 H96 w97 x98 o99=>?_
    have xt:Ext G0 H0 G95 (upd H96 p15 (.lst (vs58++[w97]))):=(xt.trans x98).put hz20 o99.g
    have mk28:=mk28.trans x98.gg
    have mk57:=mk57.trans x98.gg
    have AJ:=Rp.mono x98.gg AJ
    have AG:=Rp.mono x98.gg AG
    have o90:=(o90.ext x98).put (q:=p15) (ho:=.lst (vs58++[w97])) (by first|assumption|exact Ne.symm (by assumption))
    cases hm
    exact kN65 _ _ _ _ rfl ⟨_,xt,mk57,rfl,⟨_,o90⟩,⟨_,o99⟩⟩
   | false =>
    replace hm:=cF hm
    refine CG ?_
    cases hm
    exact kN65 _ _ _ _ rfl ⟨_,xt,mk57,rfl,⟨_,o7⟩,⟨_,o45⟩⟩
  ·rintro s55 _ G104 H105 rfl ⟨v101,xt,mk102,rfl,⟨vs2,o7⟩,⟨vs103,o45⟩⟩
   refine Bp ?_
   have mk28:=(mk28.trans x54.gg).trans mk102
   cases hm
   exact kN37 _ _ _ _ rfl ⟨_,_,xt,mk28,rfl,⟨_,o7⟩,⟨_,o45⟩⟩
  ·rintro r' v' G' H' rfl rl
   cases hm
   exact kR40 _ v' G' H' rfl rl
 ·rintro s25 _ G109 H110 rfl ⟨v106,v107,xt,mk108,rfl,⟨vs2,o7⟩,⟨vs16,o21⟩⟩
  refine Bp ?_
  have AJ:=Rp.mono mk108 AJ
  have AG:=Rp.mono mk108 AG
  have sf:=Same.new (o:=.lst vs2) o7.g
  have xt:=xt.frz hz6 o7.g o7.h
  have r111:=o7.tell
  have AJ:=Rp.mono sf AJ
  have AG:=Rp.mono sf AG
  have o21:=o21.over (o:=.lst vs2) (by first|assumption|exact Ne.symm (by assumption)) o7.g
  exact Ae (K:=K) (A4 rfl r111) hm xt.gh fun v112 G113 H114 x115 r116=>q v112 G113 H114 (xt.trans x115) r116
 ·rintro r' v' G' H' rfl rl
  cases hm
  exact q v' G' H' rl.1 rl.2
theorem ok_missing_marks {f:Addr}{fd:FuncData}(F:Fun K "missing_marks" "missing_marks" Bv f fd)(T:Txt mg):FnOk P w K mg base CX0 1 f fd ["taken","marks"] (spM K Bd):=by
 refine F.ok sc_missing_marks (fun vs H Q E h=>(Au h).trans rfl) (fun cdv A outer s H0 vs Q E hr h=>?_)
 obtain ⟨G0,⟨taken_,⟨CI,⟨⟩⟩⟩,res,sg0,⟨El,_,rfl,Bh,⟨Er,_,rfl,CB,rfl⟩⟩,hm,q⟩:=h
 replace Bh:Rp.rel K G0 El taken_:=Bh
 replace CB:Rp.rel K G0 Er CI:=CB
 replace hm:B4 taken_ CI=some res:=hm
 unfold B4 at hm
 have xt:Ext G0 H0 G0 H0:=Ext.refl sg0
 refine ⟨_,(A5 (Ad (Co (cn:=["taken"]) (cap:=[0]) rfl ⟨by decide +kernel,rfl,by decide +kernel,Ay rfl⟩ rfl (by decide +kernel) ⟨⟨rfl,.inl rfl,rfl⟩,trivial⟩ (B7 rfl T.range_ (A6 (pv 1) AB)) (fun C s0 H0 fp=>⟨(Fj (pt_cmpDN (Gf hr) (pv 0) (pv 1) rfl)),(pv 0)⟩)))
   AA),?_⟩
 exact Ae (K:=K) (FV.ev (Ff (cap:=[0]) (fc:=fun (Ao:Int)=>(some (!hasM taken_.l Ao))) (fe:=fun (Ao:Int)=>(some Ao)) (By (A4 rfl CB)) fun xc5 Ao Gc2 sc3 rc4=>⟨(Ac (K:=K) (ev_notInM (A4 rfl rc4) (A4 rfl (Rp.mono sc3 Bh)))),(A4 rfl rc4)⟩)) hm xt.gh fun v7 G8 H9 x10 r11=>q v7 G8 H9 (xt.trans x10) r11
theorem ok_is_fair {f:Addr}{fd:FuncData}(F:Fun K "is_fair" "is_fair" EC f fd)(T:Txt mg)(D_missing_marks:DefOk P w K mg base "missing_marks" 1 ["taken","marks"] (spM K Bd)):FnOk P w K mg base CX0 2 f fd ["taken","marks"] (spM K De):=by
 refine F.ok sc_is_fair (fun vs H Q E h=>(Au h).trans rfl) (fun cdv A outer s H0 vs Q E hr h=>?_)
 obtain ⟨G0,⟨taken_,⟨CI,⟨⟩⟩⟩,res,sg0,⟨El,_,rfl,Bh,⟨Er,_,rfl,CB,rfl⟩⟩,hm,q⟩:=h
 replace Bh:Rp.rel K G0 El taken_:=Bh
 replace CB:Rp.rel K G0 Er CI:=CB
 replace hm:CV taken_ CI=some res:=hm
 unfold CV at hm
 have xt:Ext G0 H0 G0 H0:=Ext.refl sg0
 refine ⟨_,(A5 (Ad (Gb (C7 op_notN (pv 0) Bm (Ab _)) (pe_one (C7 DY (Ap (As (K:=K) rfl) (by rfl) T.len_ Bk (A6 (Aa D_missing_marks hr (by decide) rfl (A6 (pv 0) (A6 (pv 1) AB))) AB)) AC (Ab _)))))
   AA),?_⟩
 exact Ae (K:=K) (GV (ev_notN nn_map (A4 rfl Bh)) (DB (C4 (B8 (m:=Bd) (BM (A4 rfl Bh)) (A4 rfl CB))) BI)) hm xt.gh fun v7 G8 H9 x10 r11=>q v7 G8 H9 (xt.trans x10) r11
theorem ok_lack_of {f:Addr}{fd:FuncData}(F:Fun K "lack_of" "lack_of" EG f fd)(T:Txt mg)(D_missing_marks:DefOk P w K mg base "missing_marks" 1 ["taken","marks"] (spM K Bd)):FnOk P w K mg base CX0 2 f fd ["taken","marks"] (spM K Ez):=by
 refine F.ok sc_lack_of (fun vs H Q E h=>(Au h).trans rfl) (fun cdv A outer s H0 vs Q E hr h=>?_)
 obtain ⟨G0,⟨taken_,⟨CI,⟨⟩⟩⟩,res,sg0,⟨El,_,rfl,Bh,⟨Er,_,rfl,CB,rfl⟩⟩,hm,q⟩:=h
 replace Bh:Rp.rel K G0 El taken_:=Bh
 replace CB:Rp.rel K G0 Er CI:=CB
 replace hm:Cr taken_ CI=some res:=hm
 unfold Cr at hm
 have xt:Ext G0 H0 G0 H0:=Ext.refl sg0
 refine ⟨_,(A5 (Bc (Ag ET (pv 0) Bm (Ab _)) (A5 (Ad Bm)
   AA) AA)
   (A5 (Ad (AI (A9 (K:=K) rfl) (Aa D_missing_marks hr (by decide) rfl (A6 (pv 0) (A6 (pv 1) AB))) AC (fun _ _=>rfl)))
   AA)),?_⟩
 refine bE hm fun b1 h2 hm=>?_
 refine Cv (Ac (K:=K) (EQ nn_map (A4 rfl Bh))) h2 xt.gh fun G3 H4 x5=>?_
 have xt:=xt.trans x5
 have Bh:=Rp.mono x5.gg Bh
 have CB:=Rp.mono x5.gg CB
 cases b1 with
 | true =>
  replace hm:=cT hm
  refine CN ?_
  exact Ae (K:=K) (rest:=Du) (σ:=[some El,some Er]) (Dw (α:=Int)) hm xt.gh fun v6 G7 H8 x9 r10=>q v6 G7 H8 (xt.trans x9) r10
 | false =>
  replace hm:=cF hm
  refine CG ?_
  exact Ae (K:=K) (Dz (Al (B8 (m:=Bd) (BM (A4 rfl Bh)) (A4 rfl CB)) BI)) hm xt.gh fun v17 G18 H19 x20 r21=>q v17 G18 H19 (xt.trans x20) r21
theorem ok_shut {f:Addr}{fd:FuncData}(F:Fun K "shut" "shut" Gg f fd)(T:Txt mg)(D_knots_of:DefOk P w K mg base "knots_of" 2 ["net"] (spM K DO))(D_marks_within:DefOk P w K mg base "marks_within" 1 ["net","knots"] (spM K Bs))(D_spread:DefOk P w K mg base "spread" 1 ["leads","wanted"] (spM K Fk))(D_begins_of:DefOk P w K mg base "begins_of" 1 ["net"] (spM K Cs))(D_is_fair:DefOk P w K mg base "is_fair" 2 ["taken","marks"] (spM K De))(D_lack_of:DefOk P w K mg base "lack_of" 2 ["taken","marks"] (spM K Ez)):FnOk P w K mg base CX0 3 f fd ["net"] (spM K mm_shut):=by
 refine F.ok sc_shut (fun vs H Q E h=>(Au h).trans rfl) (fun cdv A outer s H0 vs Q E hr h=>?_)
 obtain ⟨G0,⟨net_,⟨⟩⟩,res,sg0,⟨Af,_,rfl,A8,rfl⟩,hm,q⟩:=h
 replace A8:Rp.rel K G0 Af net_:=A8
 replace hm:Gd net_=some res:=hm
 unfold Gd at hm
 have xt:Ext G0 H0 G0 H0:=Ext.refl sg0
 refine ⟨_,(A5 (AN (i:=1) sc_shut.nd rfl (Or.inr rfl) (AI (A9 (K:=K) rfl) (pv 0) AC (fun _ _=>rfl)))
   (A5 (AN (i:=2) sc_shut.nd rfl (Or.inl rfl) (Aa D_knots_of hr (by decide) rfl (A6 (pv 0) AB)))
   (A5 (AN (i:=3) sc_shut.nd rfl (Or.inr rfl) (Aa D_marks_within hr (by decide) rfl (A6 (pv 0) (A6 (pv 2) AB))))
   (A5 (AN (i:=4) sc_shut.nd rfl (Or.inl rfl) (Aa D_spread hr (by decide) rfl (A6 (Aa D_begins_of hr (by decide) rfl (A6 (pv 0) AB)) (A6 (Co (cn:=["marks","within"]) (cap:=[1,3]) rfl ⟨by decide +kernel,rfl,by decide +kernel,Ay rfl⟩ rfl (by decide +kernel) ⟨⟨rfl,.inl rfl,rfl⟩,⟨rfl,.inl rfl,rfl⟩,trivial⟩ (Av (K:=K) rfl (pv 2)) (fun C s0 H0 fp=>⟨BP,(Aa D_is_fair hr (by decide) rfl (A6 (AI (A9 (K:=K) rfl) (pv 2) (pv 0) (fun _ _=>rfl)) (A6 (pv 1) AB)))⟩)) AB))))
   (A5 (AN (i:=5) sc_shut.nd rfl (Or.inl rfl) (CH AB))
   (A5 (BW PassesOwn.never rfl (pi_enum (K:=K) rfl rfl T.enumerate_ (A6 (pv 2) AB)) (pg_tup rfl (CS (Ah (i:=6) sc_shut.nd rfl (Or.inl rfl)) (CS (Ah (i:=7) sc_shut.nd rfl (Or.inl rfl)) GO))) (A5 (Bo (Cg (K:=K) rfl PySem.F.plainAttrs_list PySem.F.slot_list_append PySem.F.type_list_append BK (pv 5) (A6 (pe_ifExp (BN (K:=K) rfl (AI (A9 (K:=K) rfl) (pv 4) (pv 6) (fun _ _=>rfl)) (fun _=>rfl)) Bm (Fb (A6 (pv 7) (A6 (Aa D_lack_of hr (by decide) rfl (A6 (AI (A9 (K:=K) rfl) (pv 3) (pv 7) (fun _ _=>rfl)) (A6 (pv 1) AB))) AB)))) AB)))
   AA))
   (A5 (Ad (pv 5))
   AA))))))),?_⟩
 refine bE hm fun CI h6 hm=>?_
 refine AU (K:=K) (Ek (A4 rfl A8)) h6 xt.gh fun v1 G2 H3 x4 r5=>?_
 have xt:=xt.trans x4
 have A8:=Rp.mono x4.gg A8
 refine bE hm fun Az h13 hm=>?_
 refine AU (K:=K) (Ef (m:=DO) (A4 rfl A8)) h13 xt.gh fun v8 G9 H10 x11 r12=>?_
 have xt:=xt.trans x11
 have A8:=Rp.mono x11.gg A8
 have r5:=Rp.mono x11.gg r5
 refine bE hm fun DQ h21 hm=>?_
 refine AU (K:=K) (B8 (m:=Bs) (A4 rfl A8) (A4 rfl r12)) h21 xt.gh fun v16 G17 H18 x19 r20=>?_
 have xt:=xt.trans x19
 have A8:=Rp.mono x19.gg A8
 have r5:=Rp.mono x19.gg r5
 have r12:=Rp.mono x19.gg r12
 refine bE hm fun free_ h40 hm=>?_
 refine AU (K:=K) (B8 (m:=Fk) (Ef (m:=Cs) (A4 rfl A8)) (FV.ev (D2 (cap:=[1,3]) (fe:=fun (EK:(Option Int))=>(((some DQ).bind fun t28=>((some EK).bind fun t27=>t27).bind fun t29=>atI t28 t29).bind fun t30=>(some CI).bind fun t31=>CV t30 t31)) (Aw (A4 rfl r12)) fun xc26 EK Gc23 sc24 rc25=>(B8 (m:=De) (Al (A4 rfl (Rp.mono sc24 r20)) (BM (A4 rfl rc25))) (A4 rfl (Rp.mono sc24 r5)))))) h40 xt.gh fun v35 G36 H37 x38 r39=>?_
 have xt:=xt.trans x38
 have r5:=Rp.mono x38.gg r5
 have r12:=Rp.mono x38.gg r12
 have r20:=Rp.mono x38.gg r20
 refine bE hm fun rows_ h48 hm=>?_
 refine Cd (K:=K) (Cw (D3 (α:=(Option (Int × (Option Int)))))) h48 xt.gh fun p41 vs42 G43 H44 x45 hz46 o47=>?_
 have hz46:=xt.hh.free hz46
 have xt:=xt.trans x45
 have r5:=Rp.mono x45.gg r5
 have r12:=Rp.mono x45.gg r12
 have r20:=Rp.mono x45.gg r20
 have r39:=Rp.mono x45.gg r39
 refine bE hm fun as49 h50 hm=>?_
 refine bE hm fun fl51 h52 hm=>?_
 refine sv_forE (K:=K) (RR:=fun r v G' H'=>Ext G0 H0 G' H'/\Rp.rel K G' v r) (ie_list (A4 rfl r12)) h50 h52 xt.gh fun G53 H54 x55=>⟨fun s56 S' G' H'=>∃ (v57:Option V) (v58:Option V),Ext G0 H0 G' H'/\Same G53 G'/\S'=[some Af,some v1,some v8,some v16,some v35,some (V.ref p41),v57,v58]/\(∃ vs,Own K G' H' (V.ref p41) p41 vs s56),?_,?_,?_,?_,?_⟩
 ·have xt:=xt.trans x55
  have o47:=o47.ext x55
  exact ⟨_,_,xt,(Same.refl _),rfl,⟨_,o47⟩⟩
 ·rintro _ S' G' H' ⟨v57,v58,xt,mk59,rfl,⟨vs42,o47⟩⟩
  exact ⟨mk59,xt.gh⟩
 ·rintro xv60 te70 a61 s56 _ G64 H65 fl62 ⟨v57,v58,xt,mk59,rfl,⟨vs42,o47⟩⟩ ht71 rx63 hm D' kN66 kC67 kB68 kR69
  have r5:=Rp.mono (x55.gg.trans mk59) r5
  have r20:=Rp.mono (x55.gg.trans mk59) r20
  have r39:=Rp.mono (x55.gg.trans mk59) r39
  have x73:=Ext.new (o:=.tup [.int a61.1,xv60]) xt.gh ht71
  have xt:=xt.trans x73
  have mk59:=mk59.trans x73.gg
  have r5:=Rp.mono x73.gg r5
  have r20:=Rp.mono x73.gg r20
  have r39:=Rp.mono x73.gg r39
  have o47:=o47.ext x73
  have rx63:=Rp.mono x73.gg rx63
  refine sv_turnE (a:=a61) ?_
  have r74:Rp.rel K (upd G64 te70 (.tup [.int a61.1,xv60])) (V.int a61.1) a61.1:=rfl
  refine bE hm fun a87 h88 hm=>?_
  refine bE hm fun z95 h89 hm=>?_
  refine Cu (K:=K) rfl o47 (ev_ifx (GA (K:=K) (Al (A4 rfl r39) (A4 rfl r74))) (Dw (α:=(Int × (Option Int)))) (Dz (ev_tup2 (BM (A4 rfl rx63)) (B8 (m:=Ez) (Al (A4 rfl r20) (BM (A4 rfl rx63))) (A4 rfl r5))))) h88 h89 xt.gh fun G90 H91 w92 x93 o94=>?_
  have xt:Ext G0 H0 G90 (upd H91 p41 (.lst (vs42++[w92]))):=(xt.trans x93).put hz46 o94.g
  have mk59:=mk59.trans x93.gg
  cases hm
  exact kN66 _ _ _ _ rfl ⟨_,_,xt,mk59,rfl,⟨_,o94⟩⟩
 ·rintro s56 _ G99 H100 rfl ⟨v96,v97,xt,mk98,rfl,⟨vs42,o47⟩⟩
  refine Bp ?_
  have sf:=Same.new (o:=.lst vs42) o47.g
  have xt:=xt.frz hz46 o47.g o47.h
  have r101:=o47.tell
  exact Ae (K:=K) (A4 rfl r101) hm xt.gh fun v102 G103 H104 x105 r106=>q v102 G103 H104 (xt.trans x105) r106
 ·rintro r' v' G' H' rfl rl
  cases hm
  exact q v' G' H' rl.1 rl.2
theorem ok_law_way_fits {f:Addr}{fd:FuncData}(F:Fun K "_law_way_fits" "_law_way_fits" CA f fd)(T:Txt mg):FnOk P w K mg base CX0 1 f fd ["_law_way","_law_rows"] (spM K D5):=by
 refine F.ok sc_law_way_fits (fun vs H Q E h=>(Au h).trans rfl) (fun cdv A outer s H0 vs Q E hr h=>?_)
 obtain ⟨G0,⟨way_,⟨rows_,⟨⟩⟩⟩,res,sg0,⟨v_way_,_,rfl,Di,⟨v_rows_,_,rfl,Fh,rfl⟩⟩,hm,q⟩:=h
 replace Di:Rp.rel K G0 v_way_ way_:=Di
 replace Fh:Rp.rel K G0 v_rows_ rows_:=Fh
 replace hm:Bn way_ rows_=some res:=hm
 unfold Bn at hm
 have xt:Ext G0 H0 G0 H0:=Ext.refl sg0
 refine ⟨_,(A5 (AN (i:=2) sc_law_way_fits.nd rfl (Or.inl rfl) (AI (A9 (K:=K) rfl) (pv 1) (AI (A9 (K:=K) rfl) (pv 0) AC (fun _ _=>rfl)) (fun _ _=>rfl)))
   (A5 (AN (i:=3) sc_law_way_fits.nd rfl (Or.inl rfl) (AI (A9 (K:=K) rfl) (pv 1) (AI (A9 (K:=K) rfl) (pv 0) AC (fun _ _=>rfl)) (fun _ _=>rfl)))
   (A5 (Bc (Ag ET (pv 2) Bm (Ab _)) (A5 (Ad Dv)
   AA) AA)
   (A5 (Bc (PW.pt (Gh (Ag ET (pv 3) Bm (Ab _)) (Ge (Ag op_gtU (AI (A9 (K:=K) rfl) (pv 3) AC (fun _ _=>rfl)) (AI (A9 (K:=K) rfl) (pv 2) AC (fun _ _=>rfl)) (Ab _))))) (A5 (Ad Dv)
   AA) AA)
   (A5 (Ad (pe_or (C7 op_ltU (AI (A9 (K:=K) rfl) (pv 3) AC (fun _ _=>rfl)) (AI (A9 (K:=K) rfl) (pv 2) AC (fun _ _=>rfl)) (Ab _)) (pe_one (Gb (C7 op_notN (AI (A9 (K:=K) rfl) (pv 2) AC (fun _ _=>rfl)) Bm (Ab _)) (Gb (C7 DY (AI (A9 (K:=K) rfl) (pv 2) AC (fun _ _=>rfl)) (AI (A9 (K:=K) rfl) (pv 3) AC (fun _ _=>rfl)) (Ab _)) (pe_one (C7 (op_notInK (K:=K) rfl) (AI (A9 (K:=K) rfl) (pv 2) AC (fun _ _=>rfl)) (AI (A9 (K:=K) rfl) (pv 0) AC (fun _ _=>rfl)) rfl)))))))
   AA))))),?_⟩
 refine bE hm fun one_ h8 hm=>?_
 refine AU (K:=K) (Al (A4 rfl Fh) (Cy (A4 rfl Di))) h8 xt.gh fun v3 G4 H5 x6 r7=>?_
 have xt:=xt.trans x6
 have Di:=Rp.mono x6.gg Di
 have Fh:=Rp.mono x6.gg Fh
 refine bE hm fun other_ h16 hm=>?_
 refine AU (K:=K) (Al (A4 rfl Fh) (Bq (A4 rfl Di))) h16 xt.gh fun v11 G12 H13 x14 r15=>?_
 have xt:=xt.trans x14
 have Di:=Rp.mono x14.gg Di
 have r7:=Rp.mono x14.gg r7
 refine bE hm fun b17 h18 hm=>?_
 refine Cv (Ac (K:=K) (EQ GR (A4 rfl r7))) h18 xt.gh fun G19 H20 x21=>?_
 have xt:=xt.trans x21
 have Di:=Rp.mono x21.gg Di
 have r7:=Rp.mono x21.gg r7
 have r15:=Rp.mono x21.gg r15
 cases b17 with
 | true =>
  replace hm:=cT hm
  refine CN ?_
  exact Ae (K:=K) (rest:=Du) (σ:=[some v_way_,some v_rows_,some v3,some v11]) Fp hm xt.gh fun v22 G23 H24 x25 r26=>q v22 G23 H24 (xt.trans x25) r26
 | false =>
  replace hm:=cF hm
  refine CG ?_
  refine bE hm fun b34 h35 hm=>?_
  refine Cv (tv_or (Ac (K:=K) (EQ GR (A4 rfl r15))) (Ac (K:=K) (Dt (GU (BM (A4 rfl r15))) (GU (BM (A4 rfl r7)))))) h35 xt.gh fun G36 H37 x38=>?_
  have xt:=xt.trans x38
  have Di:=Rp.mono x38.gg Di
  have r7:=Rp.mono x38.gg r7
  have r15:=Rp.mono x38.gg r15
  cases b34 with
  | true =>
   replace hm:=cT hm
   refine CN ?_
   exact Ae (K:=K) (rest:=Du) (σ:=[some v_way_,some v_rows_,some v3,some v11]) Fp hm xt.gh fun v39 G40 H41 x42 r43=>q v39 G40 H41 (xt.trans x42) r43
  | false =>
   replace hm:=cF hm
   refine CG ?_
   exact Ae (K:=K) (ev_or (Dt (GU (BM (A4 rfl r15))) (GU (BM (A4 rfl r7)))) (GV (ev_notN nn_int (Fc (BM (A4 rfl r7)))) (GV (ev_eqOI (Fc (BM (A4 rfl r7))) (Fc (BM (A4 rfl r15)))) (ev_notInT (BM (Fc (BM (A4 rfl r7)))) (Ek (A4 rfl Di)))))) hm xt.gh fun v70 G71 H72 x73 r74=>q v70 G71 H72 (xt.trans x73) r74
theorem ok_ways_leaving {f:Addr}{fd:FuncData}(F:Fun K "ways_leaving" "ways_leaving" CC f fd)(T:Txt mg):FnOk P w K mg base CX0 1 f fd ["net","wanted"] (spM K Bw):=by
 refine F.ok sc_ways_leaving (fun vs H Q E h=>(Au h).trans rfl) (fun cdv A outer s H0 vs Q E hr h=>?_)
 obtain ⟨G0,⟨net_,⟨CO,⟨⟩⟩⟩,res,sg0,⟨Af,_,rfl,A8,⟨C8,_,rfl,AG,rfl⟩⟩,hm,q⟩:=h
 replace A8:Rp.rel K G0 Af net_:=A8
 replace AG:Rp.rel K G0 C8 CO:=AG
 replace hm:Bf net_ CO=some res:=hm
 unfold Bf at hm
 have xt:Ext G0 H0 G0 H0:=Ext.refl sg0
 refine ⟨_,(A5 (Bg (i:=2) sc_ways_leaving.nd rfl (Or.inl rfl) (cn:=[]) (cap:=[]) rfl ⟨by decide +kernel,rfl,by decide +kernel,Ay rfl⟩ rfl (by decide +kernel) trivial (B7 rfl T.range_ (A6 (AI (A9 (K:=K) rfl) (pv 0) AC (fun _ _=>rfl)) AB)) (fun C s0 H0 fp=>⟨BP,(CH AB)⟩))
   (A5 (BW PassesOwn.never rfl (pi_enum (K:=K) rfl rfl T.enumerate_ (A6 (AI (A9 (K:=K) rfl) (pv 0) AC (fun _ _=>rfl)) AB)) (pg_tup rfl (CS (Ah (i:=3) sc_ways_leaving.nd rfl (Or.inl rfl)) (CS (Ah (i:=4) sc_ways_leaving.nd rfl (Or.inl rfl)) GO))) (A5 (Bc (BN (K:=K) rfl (AI (A9 (K:=K) rfl) (pv 1) (pv 3) (fun _ _=>rfl)) (fun _=>rfl)) (A5 (Bo (Cg (K:=K) rfl PySem.F.plainAttrs_list PySem.F.slot_list_append PySem.F.type_list_append BK (AI (A9 (K:=K) rfl) (pv 2) (AI (A9 (K:=K) rfl) (pv 4) AC (fun _ _=>rfl)) (fun _ _=>rfl)) (A6 (pv 3) AB)))
   AA) AA)
   AA))
   (A5 (Ad (pv 2))
   AA))),?_⟩
 refine bE hm fun l9 h10 hm=>?_
 refine bE hm fun Bx h8 hm=>?_
 refine sv_ownL (K:=K) (cap:=[]) (By (Cy (A4 rfl A8))) h10 (Option.some.inj h8).symm xt fun p2 cs3 G4 H5 x6 o7=>?_
 have xt:=xt.trans x6
 have A8:=Rp.mono x6.gg A8
 have AG:=Rp.mono x6.gg AG
 refine bE hm fun as11 h12 hm=>?_
 refine bE hm fun fl13 h14 hm=>?_
 refine sv_forE (K:=K) (RR:=fun r v G' H'=>Ext G0 H0 G' H'/\Rp.rel K G' v r) (ie_list (Bq (A4 rfl A8))) h12 h14 xt.gh fun G15 H16 x17=>⟨fun s18 S' G' H'=>∃ (v19:Option V) (v20:Option V),Ext G0 H0 G' H'/\Same G15 G'/\S'=[some Af,some C8,some (V.ref p2),v19,v20]/\(∃ vs,OwnC K H0 G' H' (V.ref p2) p2 vs (s18.map some)),?_,?_,?_,?_,?_⟩
 ·have xt:=xt.trans x17
  have o7:=o7.ext x17
  exact ⟨_,_,xt,(Same.refl _),rfl,⟨_,o7⟩⟩
 ·rintro _ S' G' H' ⟨v19,v20,xt,mk21,rfl,⟨cs3,o7⟩⟩
  exact ⟨mk21,xt.gh⟩
 ·rintro xv22 te32 a23 s18 _ G26 H27 fl24 ⟨v19,v20,xt,mk21,rfl,⟨cs3,o7⟩⟩ ht33 rx25 hm D' kN28 kC29 kB30 kR31
  have AG:=Rp.mono (x17.gg.trans mk21) AG
  have x35:=Ext.new (o:=.tup [.int a23.1,xv22]) xt.gh ht33
  have xt:=xt.trans x35
  have mk21:=mk21.trans x35.gg
  have AG:=Rp.mono x35.gg AG
  have o7:=o7.ext x35
  have rx25:=Rp.mono x35.gg rx25
  refine sv_turnE (a:=a23) ?_
  have r36:Rp.rel K (upd G26 te32 (.tup [.int a23.1,xv22])) (V.int a23.1) a23.1:=rfl
  refine bE hm fun b39 h40 hm=>?_
  refine Cv (GA (K:=K) (Al (A4 rfl AG) (A4 rfl r36))) h40 xt.gh fun G41 H42 x43=>?_
  have xt:=xt.trans x43
  have mk21:=mk21.trans x43.gg
  have o7:=o7.ext x43
  have r36:=Rp.mono x43.gg r36
  have rx25:=Rp.mono x43.gg rx25
  cases b39 with
  | true =>
   replace hm:=cT hm
   refine CN ?_
   refine bE hm fun k44 h45 hm=>?_
   refine bE hm fun a46 h47 hm=>?_
   refine bE hm fun z54 h48 hm=>?_
   refine sv_appAt (K:=K) rfl o7 (Cy (A4 rfl rx25)) h45 (A4 rfl r36) h47 h48 xt fun G49 H50 H51 x52 xt o53=>?_
   have mk21:=mk21.trans x52.gg
   cases hm
   exact kN28 _ _ _ _ rfl ⟨_,_,xt,mk21,rfl,⟨_,o53⟩⟩
  | false =>
   replace hm:=cF hm
   refine CG ?_
   cases hm
   exact kN28 _ _ _ _ rfl ⟨_,_,xt,mk21,rfl,⟨_,o7⟩⟩
 ·rintro s18 _ G58 H59 rfl ⟨v55,v56,xt,mk57,rfl,⟨cs3,o7⟩⟩
  refine Bp ?_
  have sf:=o7.up
  have xt:=o7.frz xt
  have r60:=o7.tellL
  exact Ae (K:=K) (A4 rfl r60) hm xt.gh fun v61 G62 H63 x64 r65=>q v61 G62 H63 (xt.trans x64) r65
 ·rintro r' v' G' H' rfl rl
  cases hm
  exact q v' G' H' rl.1 rl.2
theorem ok_traced {f:Addr}{fd:FuncData}(F:Fun K "traced" "traced" En f fd)(T:Txt mg):FnOk P w K mg base CX0 1 f fd ["ways","came_by","last"] (spM K Fi):=by
 refine F.ok sc_traced (fun vs H Q E h=>(Au h).trans rfl) (fun cdv A outer s H0 vs Q E hr h=>?_)
 obtain ⟨G0,⟨ways_,⟨came_by_,⟨last_,⟨⟩⟩⟩⟩,res,sg0,⟨DU,_,rfl,AQ,⟨v_came_by_,_,rfl,C1,⟨v_last_,_,rfl,r_last_,rfl⟩⟩⟩,hm,q⟩:=h
 replace AQ:Rp.rel K G0 DU ways_:=AQ
 replace C1:Rp.rel K G0 v_came_by_ came_by_:=C1
 replace r_last_:Rp.rel K G0 v_last_ last_:=r_last_
 replace hm:Eo ways_ came_by_ last_=some res:=hm
 unfold Eo at hm
 have xt:Ext G0 H0 G0 H0:=Ext.refl sg0
 refine ⟨_,(A5 (AN (i:=3) sc_traced.nd rfl (Or.inl rfl) (CH (A6 (pv 2) AB)))
   (A5 (FS PassesOwn.never (Ag op_notN (pe_dget (Gf hr) (pv 1) (AI (A9 (K:=K) rfl) (AI (A9 (K:=K) rfl) (pv 0) (AI (A9 (K:=K) rfl) (pv 3) (Gk FU AC) (fun _ _=>rfl)) (fun _ _=>rfl)) AC (fun _ _=>rfl)) (fun _ _=>rfl)) Bm (Ab _)) (A5 (Bo (Cg (K:=K) rfl PySem.F.plainAttrs_list PySem.F.slot_list_append PySem.F.type_list_append BK (pv 3) (A6 (pe_dget (Gf hr) (pv 1) (AI (A9 (K:=K) rfl) (AI (A9 (K:=K) rfl) (pv 0) (AI (A9 (K:=K) rfl) (pv 3) (Gk FU AC) (fun _ _=>rfl)) (fun _ _=>rfl)) AC (fun _ _=>rfl)) (fun _ _=>rfl)) AB)))
   AA))
   (A5 (Ad (pe_slice3 (sl3_list (K:=K) rfl) (pv 3) po_none po_none (po_some (Gk FU AC))))
   AA))),?_⟩
 refine bE hm fun path_ h8 hm=>?_
 refine Cd (K:=K) (Cw (GI (A4 rfl r_last_) (D3 (α:=Int)))) h8 xt.gh fun p1 vs2 G3 H4 x5 hz6 o7=>?_
 have hz6:=xt.hh.free hz6
 have xt:=xt.trans x5
 have AQ:=Rp.mono x5.gg AQ
 have C1:=Rp.mono x5.gg C1
 refine bE hm fun fl9 h10 hm=>?_
 refine FY (K:=K) (G:=G3) (RR:=fun r v G' H'=>Ext G0 H0 G' H'/\Rp.rel K G' v r) h10 (fun s11 S' G' H'=>Ext G0 H0 G' H'/\Same G3 G'/\S'=[some DU,some v_came_by_,some v_last_,some (V.ref p1)]/\(∃ vs,Own K G' H' (V.ref p1) p1 vs s11)) ⟨?_,?_,?_,?_,?_,?_⟩
 ·exact ⟨xt,(Same.refl _),rfl,⟨_,o7⟩⟩
 ·rintro _ S' G' H' ⟨xt,mk12,rfl,⟨vs2,o7⟩⟩
  exact xt.gh
 ·rintro s11 _ G13 H14 b' ⟨xt,mk12,rfl,⟨vs2,o7⟩⟩ hc Q' k'
  have AQ:=Rp.mono mk12 AQ
  have C1:=Rp.mono mk12 C1
  refine TV.runB o7 (Ac (K:=K) (ev_notN nn_int (ev_getM (A4 rfl (Rp.mono (Same.new o7.g) C1)) (Cy (Al (A4 rfl (Rp.mono (Same.new o7.g) AQ)) (Al (A4 rfl o7.tell) (Fz BI))))))) hc xt.gh fun G31 H32 x33=>?_
  have xt:=xt.trans x33
  have mk12:=mk12.trans x33.gg
  have o7:=o7.ext x33
  exact k' _ _ ⟨xt,mk12,rfl,⟨_,o7⟩⟩
 ·rintro s11 _ G35 H36 fl34 ⟨xt,mk12,rfl,⟨vs2,o7⟩⟩ hm - D' kN37 kC38 kB39 kR40
  have AQ:=Rp.mono mk12 AQ
  have C1:=Rp.mono mk12 C1
  refine bE hm fun a57 h58 hm=>?_
  refine bE hm fun z65 h59 hm=>?_
  refine sv_appendB (K:=K) rfl o7 (BM (ev_getM (A4 rfl (Rp.mono (Same.new o7.g) C1)) (Cy (Al (A4 rfl (Rp.mono (Same.new o7.g) AQ)) (Al (A4 rfl o7.tell) (Fz BI)))))) h58 h59 xt.gh fun G60 H61 w62 x63 o64=>?_
  have xt:Ext G0 H0 G60 (upd H61 p1 (.lst (vs2++[w62]))):=(xt.trans x63).put hz6 o64.g
  have mk12:=mk12.trans x63.gg
  cases hm
  exact kN37 _ _ _ _ rfl ⟨xt,mk12,rfl,⟨_,o64⟩⟩
 ·rintro s11 _ G67 H68 rfl ⟨xt,mk66,rfl,⟨vs2,o7⟩⟩
  refine Bp ?_
  have sf:=Same.new (o:=.lst vs2) o7.g
  have xt:=xt.frz hz6 o7.g o7.h
  have r69:=o7.tell
  exact Ae (K:=K) (FV.ev (fv_slice3 (c:=-1) (A4 rfl r69) ov_none ov_none (Fz BI))) hm xt.gh fun v70 G71 H72 x73 r74=>q v70 G71 H72 (xt.trans x73) r74
 ·rintro r' v' G' H' rfl rl
  cases hm
  exact q v' G' H' rl.1 rl.2
theorem ok_shortest_path {f:Addr}{fd:FuncData}(F:Fun K "shortest_path" "shortest_path" Bt f fd)(T:Txt mg)(D_traced:DefOk P w K mg base "traced" 1 ["ways","came_by","last"] (spM K Fi)):FnOk P w K mg base CX0 2 f fd ["ways","leaving","begin","wanted"] (spM K BJ):=by
 refine F.ok sc_shortest_path (fun vs H Q E h=>(Au h).trans rfl) (fun cdv A outer s H0 vs Q E hr h=>?_)
 obtain ⟨G0,⟨ways_,⟨Bx,⟨begin_,⟨CO,⟨⟩⟩⟩⟩⟩,res,sg0,⟨DU,_,rfl,AQ,⟨FG,_,rfl,AT,⟨CQ,_,rfl,AH,⟨C8,_,rfl,AG,rfl⟩⟩⟩⟩,hm,q⟩:=h
 replace AQ:Rp.rel K G0 DU ways_:=AQ
 replace AT:Rp.rel K G0 FG Bx:=AT
 replace AH:Rp.rel K G0 CQ begin_:=AH
 replace AG:Rp.rel K G0 C8 CO:=AG
 replace hm:BE ways_ Bx begin_ CO=some res:=hm
 unfold BE at hm
 have xt:Ext G0 H0 G0 H0:=Ext.refl sg0
 refine ⟨_,(A5 (AN (i:=4) sc_shortest_path.nd rfl (Or.inl rfl) (pe_disp (pps_cons (pv 2) Bm pps_nil) rfl rfl (fun z=>nomatch z) (by decide)))
   (A5 (AN (i:=5) sc_shortest_path.nd rfl (Or.inl rfl) (CH (A6 (pv 2) AB)))
   (A5 (AN (i:=6) sc_shortest_path.nd rfl (Or.inl rfl) AC)
   (A5 (FS PassesOwn.never (Ag op_ltU (pv 6) (Ap (As (K:=K) rfl) (by rfl) T.len_ Bk (A6 (pv 5) AB)) (Ab _)) (A5 (AN (i:=7) sc_shortest_path.nd rfl (Or.inl rfl) (AI (A9 (K:=K) rfl) (pv 5) (pv 6) (fun _ _=>rfl)))
   (A5 (BW PassesOwn.never rfl (Av (K:=K) rfl (AI (A9 (K:=K) rfl) (pv 1) (pv 7) (fun _ _=>rfl))) (Ah (i:=8) sc_shortest_path.nd rfl (Or.inl rfl)) (A5 (Bc (BN (K:=K) rfl (AI (A9 (K:=K) rfl) (pv 3) (pv 8) (fun _ _=>rfl)) (fun _=>rfl)) (A5 (Ad (Aa D_traced hr (by decide) rfl (A6 (pv 0) (A6 (pv 4) (A6 (pv 8) AB)))))
   AA) AA)
   (A5 (AN (i:=9) sc_shortest_path.nd rfl (Or.inl rfl) (AI (A9 (K:=K) rfl) (AI (A9 (K:=K) rfl) (pv 0) (pv 8) (fun _ _=>rfl)) AC (fun _ _=>rfl)))
   (A5 (Bc (pt_cmpDN (Gf hr) (pv 9) (pv 4) rfl) (A5 (ps_dput (Gf hr) (pv 4) (pv 9) (pv 8) rfl)
   (A5 (Bo (Cg (K:=K) rfl PySem.F.plainAttrs_list PySem.F.slot_list_append PySem.F.type_list_append BK (pv 5) (A6 (pv 9) AB)))
   AA)) AA)
   AA))))
   (A5 (AN (i:=6) sc_shortest_path.nd rfl (Or.inl rfl) (AR (Ak (K:=K) rfl) (pv 6) AC))
   AA))))
   (A5 (Ad Bm)
   AA))))),?_⟩
 refine bE hm fun k9 h10 hm=>?_
 refine bE hm fun a11 h12 hm=>?_
 refine bE hm fun came_by_ h8 hm=>?_
 refine sv_ownM1 (K:=K) (A4 rfl AH) h10 (Dw (α:=Int)) h12 h8 xt.gh fun p1 vs2 G3 H4 x5 hz6 o7=>?_
 have hz6:=xt.hh.free hz6
 have xt:=xt.trans x5
 have AQ:=Rp.mono x5.gg AQ
 have AT:=Rp.mono x5.gg AT
 have AH:=Rp.mono x5.gg AH
 have AG:=Rp.mono x5.gg AG
 refine bE hm fun Go h20 hm=>?_
 refine Cd (K:=K) (Cw (GI (A4 rfl AH) (D3 (α:=Int)))) h20 xt.gh fun p13 vs14 G15 H16 x17 hz18 o19=>?_
 have ne_p1_p13:p1≠p13:=Ax o7.h hz18
 have hz18:=xt.hh.free hz18
 have xt:=xt.trans x17
 have AQ:=Rp.mono x17.gg AQ
 have AT:=Rp.mono x17.gg AT
 have AH:=Rp.mono x17.gg AH
 have AG:=Rp.mono x17.gg AG
 have o7:=o7.ext x17
 refine bE hm fun place_ h26 hm=>?_
 refine AU (K:=K) BI h26 xt.gh fun v21 G22 H23 x24 r25=>?_
 have xt:=xt.trans x24
 have AQ:=Rp.mono x24.gg AQ
 have AT:=Rp.mono x24.gg AT
 have AH:=Rp.mono x24.gg AH
 have AG:=Rp.mono x24.gg AG
 have o7:=o7.ext x24
 have o19:=o19.ext x24
 refine bE hm fun fl27 h28 hm=>?_
 refine FY (K:=K) (G:=G22) (RR:=fun r v G' H'=>Ext G0 H0 G' H'/\Rp.rel K G' v r) h28 (fun s29 S' G' H'=>∃ (v30:V) (v31:Option V) (v32:Option V) (v33:Option V),Ext G0 H0 G' H'/\Same G22 G'/\S'=[some DU,some FG,some CQ,some C8,some (V.ref p1),some (V.ref p13),some v30,v31,v32,v33]/\(∃ vs,OwnM K G' H' (V.ref p1) p1 vs s29.1)/\(∃ vs,Own K G' H' (V.ref p13) p13 vs s29.2.1)/\Rp.rel K G' v30 (s29.2.2:Int)) ⟨?_,?_,?_,?_,?_,?_⟩
 ·exact ⟨v21,_,_,_,xt,(Same.refl _),rfl,⟨_,o7⟩,⟨_,o19⟩,r25⟩
 ·rintro _ S' G' H' ⟨v30,v31,v32,v33,xt,mk34,rfl,⟨vs2,o7⟩,⟨vs14,o19⟩,r35⟩
  exact xt.gh
 ·rintro s29 _ G36 H37 b' ⟨v30,v31,v32,v33,xt,mk34,rfl,⟨vs2,o7⟩,⟨vs14,o19⟩,r35⟩ hc Q' k'
  refine TV.runB o19 (Ac (K:=K) (Dt (A4 rfl (Rp.mono (Same.new o19.g) r35)) (C4 (A4 rfl o19.tell)))) hc xt.gh fun G38 H39 x40=>?_
  have xt:=xt.trans x40
  have mk34:=mk34.trans x40.gg
  have o7:=o7.ext x40
  have o19:=o19.ext x40
  have r35:=Rp.mono x40.gg r35
  exact k' _ _ ⟨v30,_,_,_,xt,mk34,rfl,⟨_,o7⟩,⟨_,o19⟩,r35⟩
 ·rintro s29 _ G42 H43 fl41 ⟨v30,v31,v32,v33,xt,mk34,rfl,⟨vs2,o7⟩,⟨vs14,o19⟩,r35⟩ hm - D' kN44 kC45 kB46 kR47
  have AQ:=Rp.mono mk34 AQ
  have AT:=Rp.mono mk34 AT
  have AH:=Rp.mono mk34 AH
  have AG:=Rp.mono mk34 AG
  refine bE hm fun At h57 hm=>?_
  refine sv_setB (K:=K) o19 (Al (A4 rfl o19.tell) (A4 rfl (Rp.mono (Same.new o19.g) r35))) h57 xt.gh fun v52 G53 H54 x55 r56=>?_
  have xt:=xt.trans x55
  have mk34:=mk34.trans x55.gg
  have AQ:=Rp.mono x55.gg AQ
  have AT:=Rp.mono x55.gg AT
  have AH:=Rp.mono x55.gg AH
  have AG:=Rp.mono x55.gg AG
  have o7:=o7.ext x55
  have o19:=o19.ext x55
  have r35:=Rp.mono x55.gg r35
  refine bE hm fun as60 h61 hm=>?_
  refine bE hm fun fl62 h63 hm=>?_
  refine Bi (K:=K) (RR:=fun r v G' H'=>Ext G0 H0 G' H'/\Rp.rel K G' v r) (Aw (Al (A4 rfl AT) (A4 rfl r56))) h61 h63 xt.gh fun G64 H65 x66=>⟨fun s67 S' G' H'=>∃ (v68:Option V) (v69:Option V),Ext G0 H0 G' H'/\Same G64 G'/\S'=[some DU,some FG,some CQ,some C8,some (V.ref p1),some (V.ref p13),some v30,some v52,v68,v69]/\(∃ vs,OwnM K G' H' (V.ref p1) p1 vs s67.1)/\(∃ vs,Own K G' H' (V.ref p13) p13 vs s67.2),?_,?_,?_,?_,?_⟩
  ·have xt:=xt.trans x66
   have o7:=o7.ext x66
   have o19:=o19.ext x66
   exact ⟨_,_,xt,(Same.refl _),rfl,⟨_,o7⟩,⟨_,o19⟩⟩
  ·rintro _ S' G' H' ⟨v68,v69,xt,mk70,rfl,⟨vs2,o7⟩,⟨vs14,o19⟩⟩
   exact ⟨mk70,xt.gh⟩
  ·rintro xv71 a72 s67 _ G75 H76 fl73 - ⟨v68,v69,xt,mk70,rfl,⟨vs2,o7⟩,⟨vs14,o19⟩⟩ rx74 hm D' kN77 kC78 kB79 kR80
   have mk34:=(mk34.trans x66.gg).trans mk70
   have AQ:=Rp.mono (x66.gg.trans mk70) AQ
   have AT:=Rp.mono (x66.gg.trans mk70) AT
   have AH:=Rp.mono (x66.gg.trans mk70) AH
   have AG:=Rp.mono (x66.gg.trans mk70) AG
   have r35:=Rp.mono (x66.gg.trans mk70) r35
   have r56:=Rp.mono (x66.gg.trans mk70) r56
   refine BF ?_
   refine bE hm fun b83 h84 hm=>?_
   refine Cv (GA (K:=K) (Al (A4 rfl AG) (A4 rfl rx74))) h84 xt.gh fun G85 H86 x87=>?_
   have xt:=xt.trans x87
   have mk34:=mk34.trans x87.gg
   have mk70:=mk70.trans x87.gg
   have AQ:=Rp.mono x87.gg AQ
   have AT:=Rp.mono x87.gg AT
   have AH:=Rp.mono x87.gg AH
   have AG:=Rp.mono x87.gg AG
   have o7:=o7.ext x87
   have o19:=o19.ext x87
   have r35:=Rp.mono x87.gg r35
   have r56:=Rp.mono x87.gg r56
   have rx74:=Rp.mono x87.gg rx74
   cases b83 with
   | true =>
    replace hm:=cT hm
    refine CN ?_
    have sf:=Same.new (o:=.dK vs2) o7.g
    have xt:=xt.frz hz6 o7.g o7.h
    have r96:=o7.tell
    have mk34:=mk34.trans sf
    have mk70:=mk70.trans sf
    have AQ:=Rp.mono sf AQ
    have AT:=Rp.mono sf AT
    have AH:=Rp.mono sf AH
    have AG:=Rp.mono sf AG
    have o19:=o19.over (o:=.dK vs2) (by first|assumption|exact Ne.symm (by assumption)) o7.g
    have rx74:=Rp.mono sf rx74
    refine bE hm fun rr106 h107 hm=>?_
    cases hm
    exact Ae (K:=K) (Dz (D6 (m:=Fi) (A4 rfl AQ) (A4 rfl r96) (A4 rfl rx74))) h107 xt.gh fun v101 G102 H103 x104 r105=>kR80 _ v101 G102 H103 rfl ⟨xt.trans x104,r105⟩
   | false =>
    replace hm:=cF hm
    refine CG ?_
    refine bE hm fun end_ h116 hm=>?_
    refine AU (K:=K) (Bq (Al (A4 rfl AQ) (A4 rfl rx74))) h116 xt.gh fun v111 G112 H113 x114 r115=>?_
    have xt:=xt.trans x114
    have mk34:=mk34.trans x114.gg
    have mk70:=mk70.trans x114.gg
    have AQ:=Rp.mono x114.gg AQ
    have AT:=Rp.mono x114.gg AT
    have AH:=Rp.mono x114.gg AH
    have AG:=Rp.mono x114.gg AG
    have o7:=o7.ext x114
    have o19:=o19.ext x114
    have r35:=Rp.mono x114.gg r35
    have r56:=Rp.mono x114.gg r56
    have rx74:=Rp.mono x114.gg rx74
    refine bE hm fun b117 h118 hm=>?_
    refine sv_ifM o7 (Ac (K:=K) (ev_notInM (A4 rfl (Rp.mono (Same.new o7.g) r115)) (A4 rfl o7.tell))) h118 xt.gh fun G119 H120 x121=>?_
    have xt:=xt.trans x121
    have mk34:=mk34.trans x121.gg
    have mk70:=mk70.trans x121.gg
    have AQ:=Rp.mono x121.gg AQ
    have AT:=Rp.mono x121.gg AT
    have AH:=Rp.mono x121.gg AH
    have AG:=Rp.mono x121.gg AG
    have o7:=o7.ext x121
    have o19:=o19.ext x121
    have r35:=Rp.mono x121.gg r35
    have r56:=Rp.mono x121.gg r56
    have rx74:=Rp.mono x121.gg rx74
    have r115:=Rp.mono x121.gg r115
    cases b117 with
    | true =>
     replace hm:=cT hm
     refine CN ?_
     refine bE hm fun a122 h123 hm=>?_
     refine bE hm fun k124 h125 hm=>?_
     refine bE hm fun z132 h126 hm=>?_
     refine sv_dput (K:=K) rfl o7 (Dz (A4 rfl rx74)) h123 (A4 rfl r115) h125 h126 xt.gh fun G127 H128 w129 x130 o131=>?_
     have xt:Ext G0 H0 G127 (upd H128 p1 (.dK (EX vs2 (.inl k124) w129))):=(xt.trans x130).put hz6 o131.g
     have mk34:=mk34.trans x130.gg
     have mk70:=mk70.trans x130.gg
     have AQ:=Rp.mono x130.gg AQ
     have AT:=Rp.mono x130.gg AT
     have AH:=Rp.mono x130.gg AH
     have AG:=Rp.mono x130.gg AG
     have o19:=(o19.ext x130).put (q:=p1) (ho:=.dK (EX vs2 (.inl k124) w129)) (by first|assumption|exact Ne.symm (by assumption))
     have r35:=Rp.mono x130.gg r35
     have r56:=Rp.mono x130.gg r56
     have rx74:=Rp.mono x130.gg rx74
     have r115:=Rp.mono x130.gg r115
     refine bE hm fun a133 h134 hm=>?_
     refine bE hm fun z141 h135 hm=>?_
     refine Cu (K:=K) rfl o19 (A4 rfl r115) h134 h135 xt.gh fun G136 H137 w138 x139 o140=>?_
     have xt:Ext G0 H0 G136 (upd H137 p13 (.lst (vs14++[w138]))):=(xt.trans x139).put hz18 o140.g
     have mk34:=mk34.trans x139.gg
     have mk70:=mk70.trans x139.gg
     have AQ:=Rp.mono x139.gg AQ
     have AT:=Rp.mono x139.gg AT
     have AH:=Rp.mono x139.gg AH
     have AG:=Rp.mono x139.gg AG
     have o131:=(o131.ext x139).put (q:=p13) (ho:=.lst (vs14++[w138])) (by first|assumption|exact Ne.symm (by assumption))
     cases hm
     exact kN77 _ _ _ _ rfl ⟨_,_,xt,mk70,rfl,⟨_,o131⟩,⟨_,o140⟩⟩
    | false =>
     replace hm:=cF hm
     refine CG ?_
     cases hm
     exact kN77 _ _ _ _ rfl ⟨_,_,xt,mk70,rfl,⟨_,o7⟩,⟨_,o19⟩⟩
  ·rintro s67 _ G145 H146 rfl ⟨v142,v143,xt,mk144,rfl,⟨vs2,o7⟩,⟨vs14,o19⟩⟩
   refine Bp ?_
   have mk34:=(mk34.trans x66.gg).trans mk144
   have r35:=Rp.mono (x66.gg.trans mk144) r35
   refine bE hm fun place_ h152 hm=>?_
   refine AU (K:=K) (BO (A4 rfl r35) BI) h152 xt.gh fun v147 G148 H149 x150 r151=>?_
   have xt:=xt.trans x150
   have mk34:=mk34.trans x150.gg
   have o7:=o7.ext x150
   have o19:=o19.ext x150
   cases hm
   exact kN44 _ _ _ _ rfl ⟨v147,_,_,_,xt,mk34,rfl,⟨_,o7⟩,⟨_,o19⟩,r151⟩
  ·rintro r' v' G' H' rfl rl
   cases hm
   exact kR47 _ v' G' H' rfl rl
 ·rintro s29 _ G159 H160 rfl ⟨v153,v154,v155,v156,xt,mk157,rfl,⟨vs2,o7⟩,⟨vs14,o19⟩,r158⟩
  refine Bp ?_
  exact Ae (K:=K) (rest:=Du) (σ:=[some DU,some FG,some CQ,some C8,some (V.ref p1),some (V.ref p13),some v153,v154,v155,v156]) (Dw (α:=(List Int))) hm xt.gh fun v161 G162 H163 x164 r165=>q v161 G162 H163 (xt.trans x164) r165
 ·rintro r' v' G' H' rfl rl
  cases hm
  exact q v' G' H' rl.1 rl.2
theorem ok_is_taken {f:Addr}{fd:FuncData}(F:Fun K "is_taken" "is_taken" Dn f fd)(T:Txt mg):FnOk P w K mg base CX0 1 f fd ["ways","mark","numbers"] (spM K Ea):=by
 refine F.ok sc_is_taken (fun vs H Q E h=>(Au h).trans rfl) (fun cdv A outer s H0 vs Q E hr h=>?_)
 obtain ⟨G0,⟨ways_,⟨Ao,⟨BY,⟨⟩⟩⟩⟩,res,sg0,⟨DU,_,rfl,AQ,⟨v_mark_,_,rfl,r_mark_,⟨Dc,_,rfl,D7,rfl⟩⟩⟩,hm,q⟩:=h
 replace AQ:Rp.rel K G0 DU ways_:=AQ
 replace r_mark_:Rp.rel K G0 v_mark_ Ao:=r_mark_
 replace D7:Rp.rel K G0 Dc BY:=D7
 replace hm:Dk ways_ Ao BY=some res:=hm
 unfold Dk at hm
 have xt:Ext G0 H0 G0 H0:=Ext.refl sg0
 refine ⟨_,(A5 (Ad (Ap (call_anyK (K:=K) rfl rfl) (by rfl) T.any_ bt_any (A6 (Co (cn:=["mark","ways"]) (cap:=[1,0]) rfl ⟨by decide +kernel,rfl,by decide +kernel,Ay rfl⟩ rfl (by decide +kernel) ⟨⟨rfl,.inl rfl,rfl⟩,⟨rfl,.inl rfl,rfl⟩,trivial⟩ (Av (K:=K) rfl (pv 2)) (fun C s0 H0 fp=>⟨BP,(C7 (op_inK (K:=K) rfl) (pv 1) (AI (A9 (K:=K) rfl) (AI (A9 (K:=K) rfl) (pv 2) (pv 0) (fun _ _=>rfl)) AC (fun _ _=>rfl)) rfl)⟩)) AB)))
   AA),?_⟩
 exact Ae (K:=K) (ev_any (FV.ev (D2 (cap:=[1,0]) (fe:=fun (AL:Int)=>((((some ways_).bind fun t5=>(some AL).bind fun t6=>atI t5 t6).bind fun t7=>(some t7.c)).bind fun t8=>(some (decide (Ao∈t8.l))))) (Aw (A4 rfl D7)) fun xc4 AL Gc1 sc2 rc3=>(ev_inT (A4 rfl (Rp.mono sc2 r_mark_)) (Ek (Al (A4 rfl (Rp.mono sc2 AQ)) (A4 rfl rc3))))))) hm xt.gh fun v11 G12 H13 x14 r15=>q v11 G12 H13 (xt.trans x14) r15
theorem ok_ring_within {f:Addr}{fd:FuncData}(F:Fun K "ring_within" "ring_within" CY f fd)(T:Txt mg)(D_ways_leaving:DefOk P w K mg base "ways_leaving" 1 ["net","wanted"] (spM K Bw))(D_is_taken:DefOk P w K mg base "is_taken" 1 ["ways","mark","numbers"] (spM K Ea))(D_shortest_path:DefOk P w K mg base "shortest_path" 2 ["ways","leaving","begin","wanted"] (spM K BJ)):FnOk P w K mg base CX0 3 f fd ["net","knots","begin"] (spM K Ch):=by
 refine F.ok sc_ring_within (fun vs H Q E h=>(Au h).trans rfl) (fun cdv A outer s H0 vs Q E hr h=>?_)
 obtain ⟨G0,⟨net_,⟨Az,⟨begin_,⟨⟩⟩⟩⟩,res,sg0,⟨Af,_,rfl,A8,⟨Dr,_,rfl,BG,⟨CQ,_,rfl,AH,rfl⟩⟩⟩,hm,q⟩:=h
 replace A8:Rp.rel K G0 Af net_:=A8
 replace BG:Rp.rel K G0 Dr Az:=BG
 replace AH:Rp.rel K G0 CQ begin_:=AH
 replace hm:C3 net_ Az begin_=some res:=hm
 unfold C3 at hm
 have xt:Ext G0 H0 G0 H0:=Ext.refl sg0
 refine ⟨_,(A5 (AN (i:=3) sc_ring_within.nd rfl (Or.inl rfl) (AI (A9 (K:=K) rfl) (pv 0) AC (fun _ _=>rfl)))
   (A5 (AN (i:=4) sc_ring_within.nd rfl (Or.inl rfl) (Aa D_ways_leaving hr (by decide) rfl (A6 (pv 0) (A6 (Co (cn:=["knots"]) (cap:=[1]) rfl ⟨by decide +kernel,rfl,by decide +kernel,Ay rfl⟩ rfl (by decide +kernel) ⟨⟨rfl,.inl rfl,rfl⟩,trivial⟩ (Av (K:=K) rfl (pv 3)) (fun C s0 H0 fp=>⟨BP,(C7 DY (AI (A9 (K:=K) rfl) (pv 1) (AI (A9 (K:=K) rfl) (pv 0) AC (fun _ _=>rfl)) (fun _ _=>rfl)) (AI (A9 (K:=K) rfl) (pv 1) (AI (A9 (K:=K) rfl) (pv 0) AC (fun _ _=>rfl)) (fun _ _=>rfl)) (Ab _))⟩)) AB))))
   (A5 (AN (i:=5) sc_ring_within.nd rfl (Or.inl rfl) (CH AB))
   (A5 (AN (i:=6) sc_ring_within.nd rfl (Or.inl rfl) (pv 2))
   (A5 (BW PassesOwn.never rfl (B7 rfl T.range_ (A6 (AI (A9 (K:=K) rfl) (pv 0) AC (fun _ _=>rfl)) AB)) (Ah (i:=7) sc_ring_within.nd rfl (Or.inr rfl)) (A5 (Bc (Fx (BN (K:=K) rfl (Aa D_is_taken hr (by decide) rfl (A6 (pv 3) (A6 (pv 7) (A6 (pv 5) AB)))) (fun _=>rfl))) (A5 (Bo (Cg (K:=K) rfl PySem.F.plainAttrs_list PySem.F.slot_list_extend PySem.F.type_list_extend mt_extendR (pv 5) (A6 (Aa D_shortest_path hr (by decide) rfl (A6 (pv 3) (A6 (pv 4) (A6 (pv 6) (A6 (Co (cn:=["mark"]) (cap:=[7]) rfl ⟨by decide +kernel,rfl,by decide +kernel,Ay rfl⟩ rfl (by decide +kernel) ⟨⟨rfl,.inl rfl,rfl⟩,trivial⟩ (Av (K:=K) rfl (pv 3)) (fun C s0 H0 fp=>⟨BP,(C7 (op_inK (K:=K) rfl) (pv 1) (AI (A9 (K:=K) rfl) (pv 0) AC (fun _ _=>rfl)) rfl)⟩)) AB))))) AB)))
   (A5 (AN (i:=6) sc_ring_within.nd rfl (Or.inl rfl) (AI (A9 (K:=K) rfl) (AI (A9 (K:=K) rfl) (pv 3) (AI (A9 (K:=K) rfl) (pv 5) (Gk FU AC) (fun _ _=>rfl)) (fun _ _=>rfl)) AC (fun _ _=>rfl)))
   AA)) AA)
   AA))
   (A5 (Bc (PW.pt (Gh (Ag DY (Ap (As (K:=K) rfl) (by rfl) T.len_ Bk (A6 (pv 5) AB)) AC (Ab _)) (Ge (Ag op_ne (pv 6) (pv 2) (Ab _))))) (A5 (Bo (Cg (K:=K) rfl PySem.F.plainAttrs_list PySem.F.slot_list_extend PySem.F.type_list_extend mt_extendR (pv 5) (A6 (Aa D_shortest_path hr (by decide) rfl (A6 (pv 3) (A6 (pv 4) (A6 (pv 6) (A6 (Co (cn:=["begin"]) (cap:=[2]) rfl ⟨by decide +kernel,rfl,by decide +kernel,Ay rfl⟩ rfl (by decide +kernel) ⟨⟨rfl,.inl rfl,rfl⟩,trivial⟩ (Av (K:=K) rfl (pv 3)) (fun C s0 H0 fp=>⟨BP,(C7 DY (AI (A9 (K:=K) rfl) (pv 0) AC (fun _ _=>rfl)) (pv 1) (Ab _))⟩)) AB))))) AB)))
   AA) AA)
   (A5 (Ad (pv 5))
   AA))))))),?_⟩
 refine bE hm fun ways_ h6 hm=>?_
 refine AU (K:=K) (Bq (A4 rfl A8)) h6 xt.gh fun v1 G2 H3 x4 r5=>?_
 have xt:=xt.trans x4
 have A8:=Rp.mono x4.gg A8
 have BG:=Rp.mono x4.gg BG
 have AH:=Rp.mono x4.gg AH
 refine bE hm fun Bx h27 hm=>?_
 refine AU (K:=K) (B8 (m:=Bw) (A4 rfl A8) (FV.ev (D2 (cap:=[1]) (fe:=fun (way_:(T3 Int Int (Tp Int)))=>(((some Az).bind fun t11=>(some way_.a).bind fun t12=>atI t11 t12).bind fun t17=>((some Az).bind fun t15=>(some way_.b).bind fun t16=>atI t15 t16).bind fun t18=>(some (decide (t17=t18))))) (Aw (A4 rfl r5)) fun xc10 way_ Gc7 sc8 rc9=>(ev_eqOI (Al (A4 rfl (Rp.mono sc8 BG)) (Cy (A4 rfl rc9))) (Al (A4 rfl (Rp.mono sc8 BG)) (Bq (A4 rfl rc9))))))) h27 xt.gh fun v22 G23 H24 x25 r26=>?_
 have xt:=xt.trans x25
 have A8:=Rp.mono x25.gg A8
 have AH:=Rp.mono x25.gg AH
 have r5:=Rp.mono x25.gg r5
 refine bE hm fun ring_ h35 hm=>?_
 refine Cd (K:=K) (Cw (D3 (α:=Int))) h35 xt.gh fun p28 vs29 G30 H31 x32 hz33 o34=>?_
 have hz33:=xt.hh.free hz33
 have xt:=xt.trans x32
 have A8:=Rp.mono x32.gg A8
 have AH:=Rp.mono x32.gg AH
 have r5:=Rp.mono x32.gg r5
 have r26:=Rp.mono x32.gg r26
 refine bE hm fun here_ h41 hm=>?_
 refine AU (K:=K) (A4 rfl AH) h41 xt.gh fun v36 G37 H38 x39 r40=>?_
 have xt:=xt.trans x39
 have A8:=Rp.mono x39.gg A8
 have AH:=Rp.mono x39.gg AH
 have r5:=Rp.mono x39.gg r5
 have r26:=Rp.mono x39.gg r26
 have o34:=o34.ext x39
 refine bE hm fun as43 h44 hm=>?_
 refine bE hm fun fl45 h46 hm=>?_
 refine Bi (K:=K) (RR:=fun r v G' H'=>Ext G0 H0 G' H'/\Rp.rel K G' v r) (By (Ek (A4 rfl A8))) h44 h46 xt.gh fun G47 H48 x49=>⟨fun s50 S' G' H'=>∃ (v51:V) (v52:Option V),Ext G0 H0 G' H'/\Same G47 G'/\S'=[some Af,some Dr,some CQ,some v1,some v22,some (V.ref p28),some v51,v52]/\(∃ vs,Own K G' H' (V.ref p28) p28 vs s50.1)/\Rp.rel K G' v51 (s50.2:Int),?_,?_,?_,?_,?_⟩
 ·have xt:=xt.trans x49
  have o34:=o34.ext x49
  have r40:=Rp.mono x49.gg r40
  exact ⟨v36,_,xt,(Same.refl _),rfl,⟨_,o34⟩,r40⟩
 ·rintro _ S' G' H' ⟨v51,v52,xt,mk53,rfl,⟨vs29,o34⟩,r54⟩
  exact ⟨mk53,xt.gh⟩
 ·rintro xv55 a56 s50 _ G59 H60 fl57 - ⟨v51,v52,xt,mk53,rfl,⟨vs29,o34⟩,r54⟩ rx58 hm D' kN61 kC62 kB63 kR64
  have r5:=Rp.mono (x49.gg.trans mk53) r5
  have r26:=Rp.mono (x49.gg.trans mk53) r26
  refine BF ?_
  refine bE hm fun b73 h74 hm=>?_
  refine FT o34 (GC (GA (K:=K) (D6 (m:=Ea) (A4 rfl (Rp.mono (Same.new o34.g) r5)) (A4 rfl (Rp.mono (Same.new o34.g) rx58)) (A4 rfl o34.tell)))) h74 xt.gh fun G75 H76 x77=>?_
  have xt:=xt.trans x77
  have mk53:=mk53.trans x77.gg
  have r5:=Rp.mono x77.gg r5
  have r26:=Rp.mono x77.gg r26
  have o34:=o34.ext x77
  have r54:=Rp.mono x77.gg r54
  have rx58:=Rp.mono x77.gg rx58
  cases b73 with
  | true =>
   replace hm:=cT hm
   refine CN ?_
   refine bE hm fun a97 h98 hm=>?_
   refine bE hm fun z105 h99 hm=>?_
   refine sv_extendE (K:=K) rfl o34 (BM (GF (m:=BJ) (A4 rfl r5) (A4 rfl r26) (A4 rfl r54) (FV.ev (D2 (cap:=[7]) (fe:=fun (way_:(T3 Int Int (Tp Int)))=>(some (decide (a56∈way_.c.l)))) (Aw (A4 rfl r5)) fun xc90 way_ Gc87 sc88 rc89=>(ev_inT (A4 rfl (Rp.mono sc88 rx58)) (Ek (A4 rfl rc89))))))) h98 h99 xt.gh fun G100 H101 w102 x103 o104=>?_
   have xt:Ext G0 H0 G100 (upd H101 p28 (.lst (vs29++w102))):=(xt.trans x103).put hz33 o104.g
   have mk53:=mk53.trans x103.gg
   have r5:=Rp.mono x103.gg r5
   refine bE hm fun here_ h121 hm=>?_
   refine sv_setB (K:=K) o104 (Bq (Al (A4 rfl (Rp.mono (Same.new o104.g) r5)) (Al (A4 rfl o104.tell) (Fz BI)))) h121 xt.gh fun v116 G117 H118 x119 r120=>?_
   have xt:=xt.trans x119
   have mk53:=mk53.trans x119.gg
   have o104:=o104.ext x119
   cases hm
   exact kN61 _ _ _ _ rfl ⟨v116,_,xt,mk53,rfl,⟨_,o104⟩,r120⟩
  | false =>
   replace hm:=cF hm
   refine CG ?_
   cases hm
   exact kN61 _ _ _ _ rfl ⟨v51,_,xt,mk53,rfl,⟨_,o34⟩,r54⟩
 ·rintro s50 _ G126 H127 rfl ⟨v122,v123,xt,mk124,rfl,⟨vs29,o34⟩,r125⟩
  refine Bp ?_
  have AH:=Rp.mono (x49.gg.trans mk124) AH
  have r5:=Rp.mono (x49.gg.trans mk124) r5
  have r26:=Rp.mono (x49.gg.trans mk124) r26
  refine bE hm fun b128 h129 hm=>?_
  refine bE hm fun s133 h134 hm=>?_
  refine sv_join (fun S167 H166=>∃ (G165:Hp) ,Ext G0 H0 G165 H166/\Same G126 G165/\S167=[some Af,some Dr,some CQ,some v1,some v22,some (V.ref p28),some v122,v123]/\(∃ vs,Own K G165 H166 (V.ref p28) p28 vs s133)) (fun nx kn136=>?_) ?_
  ·refine FT o34 (tv_orP (Ac (K:=K) (DB (C4 (A4 rfl o34.tell)) BI)) (Ac (K:=K) (ev_neI (A4 rfl (Rp.mono (Same.new o34.g) r125)) (A4 rfl (Rp.mono (Same.new o34.g) AH))))) h129 xt.gh fun G130 H131 x132=>?_
   have xt:=xt.trans x132
   have AH:=Rp.mono x132.gg AH
   have r5:=Rp.mono x132.gg r5
   have r26:=Rp.mono x132.gg r26
   have o34:=o34.ext x132
   have r125:=Rp.mono x132.gg r125
   have mk135:Same G126 G130:=x132.gg
   have hm:=h134
   cases b128 with
   | true =>
    replace hm:=cT hm
    refine CN ?_
    refine bE hm fun a156 h157 hm=>?_
    refine bE hm fun z164 h158 hm=>?_
    refine sv_extendE (K:=K) rfl o34 (BM (GF (m:=BJ) (A4 rfl r5) (A4 rfl r26) (A4 rfl r125) (FV.ev (D2 (cap:=[2]) (fe:=fun (way_:(T3 Int Int (Tp Int)))=>(some (decide (way_.b=begin_)))) (Aw (A4 rfl r5)) fun xc149 way_ Gc146 sc147 rc148=>(DB (Bq (A4 rfl rc148)) (A4 rfl (Rp.mono sc147 AH))))))) h157 h158 xt.gh fun G159 H160 w161 x162 o163=>?_
    have xt:Ext G0 H0 G159 (upd H160 p28 (.lst (vs29++w161))):=(xt.trans x162).put hz33 o163.g
    have mk135:=mk135.trans x162.gg
    cases hm
    exact kn136 _ _ ⟨G159,xt,mk135,rfl,⟨_,o163⟩⟩
   | false =>
    replace hm:=cF hm
    refine CG ?_
    cases hm
    exact kn136 _ _ ⟨G130,xt,mk135,rfl,⟨_,o34⟩⟩
  ·rintro _ H166 ⟨G165,xt,mk135,rfl,⟨vs29,o34⟩⟩
   have sf:=Same.new (o:=.lst vs29) o34.g
   have xt:=xt.frz hz33 o34.g o34.h
   have r168:=o34.tell
   exact Ae (K:=K) (A4 rfl r168) hm xt.gh fun v169 G170 H171 x172 r173=>q v169 G170 H171 (xt.trans x172) r173
 ·rintro r' v' G' H' rfl rl
  cases hm
  exact q v' G' H' rl.1 rl.2
theorem ok_ring_from {f:Addr}{fd:FuncData}(F:Fun K "ring_from" "ring_from" DF f fd)(T:Txt mg)(D_knots_of:DefOk P w K mg base "knots_of" 2 ["net"] (spM K DO))(D_marks_within:DefOk P w K mg base "marks_within" 1 ["net","knots"] (spM K Bs))(D_ways_leaving:DefOk P w K mg base "ways_leaving" 1 ["net","wanted"] (spM K Bw))(D_shortest_path:DefOk P w K mg base "shortest_path" 2 ["ways","leaving","begin","wanted"] (spM K BJ))(D_is_fair:DefOk P w K mg base "is_fair" 2 ["taken","marks"] (spM K De))(D_ring_within:DefOk P w K mg base "ring_within" 3 ["net","knots","begin"] (spM K Ch)):FnOk P w K mg base CX0 4 f fd ["net","node"] (spM K E2):=by
 refine F.ok sc_ring_from (fun vs H Q E h=>(Au h).trans rfl) (fun cdv A outer s H0 vs Q E hr h=>?_)
 obtain ⟨G0,⟨net_,⟨At,⟨⟩⟩⟩,res,sg0,⟨Af,_,rfl,A8,⟨DW,_,rfl,Ai,rfl⟩⟩,hm,q⟩:=h
 replace A8:Rp.rel K G0 Af net_:=A8
 replace Ai:Rp.rel K G0 DW At:=Ai
 replace hm:DM net_ At=some res:=hm
 unfold DM at hm
 have xt:Ext G0 H0 G0 H0:=Ext.refl sg0
 refine ⟨_,(A5 (AN (i:=2) sc_ring_from.nd rfl (Or.inl rfl) (AI (A9 (K:=K) rfl) (pv 0) AC (fun _ _=>rfl)))
   (A5 (AN (i:=3) sc_ring_from.nd rfl (Or.inl rfl) (Aa D_knots_of hr (by decide) rfl (A6 (pv 0) AB)))
   (A5 (AN (i:=4) sc_ring_from.nd rfl (Or.inr rfl) (Aa D_marks_within hr (by decide) rfl (A6 (pv 0) (A6 (pv 3) AB))))
   (A5 (AN (i:=5) sc_ring_from.nd rfl (Or.inr rfl) (Co (cn:=["within","net"]) (cap:=[4,0]) rfl ⟨by decide +kernel,rfl,by decide +kernel,Ay rfl⟩ rfl (by decide +kernel) ⟨⟨rfl,.inl rfl,rfl⟩,⟨rfl,.inl rfl,rfl⟩,trivial⟩ (Av (K:=K) rfl (pv 3)) (fun C s0 H0 fp=>⟨BP,(Aa D_is_fair hr (by decide) rfl (A6 (AI (A9 (K:=K) rfl) (pv 1) (pv 0) (fun _ _=>rfl)) (A6 (AI (A9 (K:=K) rfl) (pv 2) AC (fun _ _=>rfl)) AB)))⟩)))
   (A5 (Bc (BN (K:=K) rfl (AI (A9 (K:=K) rfl) (pv 5) (pv 1) (fun _ _=>rfl)) (fun _=>rfl)) (A5 (Ad (Fb (A6 (CH AB) (A6 (Aa D_ring_within hr (by decide) rfl (A6 (pv 0) (A6 (pv 3) (A6 (pv 1) AB)))) AB))))
   AA) AA)
   (A5 (AN (i:=6) sc_ring_from.nd rfl (Or.inl rfl) (Aa D_ways_leaving hr (by decide) rfl (A6 (pv 0) (A6 (Co (cn:=[]) (cap:=[]) rfl ⟨by decide +kernel,rfl,by decide +kernel,Ay rfl⟩ rfl (by decide +kernel) trivial (Av (K:=K) rfl (pv 2)) (fun C s0 H0 fp=>⟨BP,Dv⟩)) AB))))
   (A5 (AN (i:=7) sc_ring_from.nd rfl (Or.inl rfl) (Aa D_shortest_path hr (by decide) rfl (A6 (pv 2) (A6 (pv 6) (A6 (pv 1) (A6 (Co (cn:=["fair"]) (cap:=[5]) rfl ⟨by decide +kernel,rfl,by decide +kernel,Ay rfl⟩ rfl (by decide +kernel) ⟨⟨rfl,.inl rfl,rfl⟩,trivial⟩ (Av (K:=K) rfl (pv 2)) (fun C s0 H0 fp=>⟨BP,(AI (A9 (K:=K) rfl) (pv 1) (AI (A9 (K:=K) rfl) (pv 0) AC (fun _ _=>rfl)) (fun _ _=>rfl))⟩)) AB))))))
   (A5 (Bc (Ag ET (pv 7) Bm (Ab _)) (A5 (Ad Bm)
   AA) AA)
   (A5 (Ad (Fb (A6 (pv 7) (A6 (Aa D_ring_within hr (by decide) rfl (A6 (pv 0) (A6 (pv 3) (A6 (AI (A9 (K:=K) rfl) (AI (A9 (K:=K) rfl) (pv 2) (AI (A9 (K:=K) rfl) (pv 7) (Gk FU AC) (fun _ _=>rfl)) (fun _ _=>rfl)) AC (fun _ _=>rfl)) AB)))) AB))))
   AA))))))))),?_⟩
 refine bE hm fun ways_ h6 hm=>?_
 refine AU (K:=K) (Bq (A4 rfl A8)) h6 xt.gh fun v1 G2 H3 x4 r5=>?_
 have xt:=xt.trans x4
 have A8:=Rp.mono x4.gg A8
 have Ai:=Rp.mono x4.gg Ai
 refine bE hm fun Az h13 hm=>?_
 refine AU (K:=K) (Ef (m:=DO) (A4 rfl A8)) h13 xt.gh fun v8 G9 H10 x11 r12=>?_
 have xt:=xt.trans x11
 have A8:=Rp.mono x11.gg A8
 have Ai:=Rp.mono x11.gg Ai
 have r5:=Rp.mono x11.gg r5
 refine bE hm fun DQ h21 hm=>?_
 refine AU (K:=K) (B8 (m:=Bs) (A4 rfl A8) (A4 rfl r12)) h21 xt.gh fun v16 G17 H18 x19 r20=>?_
 have xt:=xt.trans x19
 have A8:=Rp.mono x19.gg A8
 have Ai:=Rp.mono x19.gg Ai
 have r5:=Rp.mono x19.gg r5
 have r12:=Rp.mono x19.gg r12
 refine bE hm fun fair_ h37 hm=>?_
 refine AU (K:=K) (FV.ev (D2 (cap:=[4,0]) (fe:=fun (EK:(Option Int))=>(((some DQ).bind fun t27=>((some EK).bind fun t26=>t26).bind fun t28=>atI t27 t28).bind fun t29=>(some net_.c).bind fun t30=>CV t29 t30)) (Aw (A4 rfl r12)) fun xc25 EK Gc22 sc23 rc24=>(B8 (m:=De) (Al (A4 rfl (Rp.mono sc23 r20)) (BM (A4 rfl rc24))) (Ek (A4 rfl (Rp.mono sc23 A8)))))) h37 xt.gh fun v32 G33 H34 x35 r36=>?_
 have xt:=xt.trans x35
 have A8:=Rp.mono x35.gg A8
 have Ai:=Rp.mono x35.gg Ai
 have r5:=Rp.mono x35.gg r5
 have r12:=Rp.mono x35.gg r12
 refine bE hm fun b40 h41 hm=>?_
 refine Cv (GA (K:=K) (Al (A4 rfl r36) (A4 rfl Ai))) h41 xt.gh fun G42 H43 x44=>?_
 have xt:=xt.trans x44
 have A8:=Rp.mono x44.gg A8
 have Ai:=Rp.mono x44.gg Ai
 have r5:=Rp.mono x44.gg r5
 have r12:=Rp.mono x44.gg r12
 have r36:=Rp.mono x44.gg r36
 cases b40 with
 | true =>
  replace hm:=cT hm
  refine CN ?_
  exact Ae (K:=K) (Dz (ev_tup2 (FV.ev (Cw (D3 (α:=Int)))) (D6 (m:=Ch) (A4 rfl A8) (A4 rfl r12) (A4 rfl Ai)))) hm xt.gh fun v52 G53 H54 x55 r56=>q v52 G53 H54 (xt.trans x55) r56
 | false =>
  replace hm:=cF hm
  refine CG ?_
  refine bE hm fun Bx h69 hm=>?_
  refine AU (K:=K) (B8 (m:=Bw) (A4 rfl A8) (FV.ev (D2 (cap:=[]) (fe:=fun (way_:(T3 Int Int (Tp Int)))=>(some true)) (Aw (A4 rfl r5)) fun xc60 way_ Gc57 sc58 rc59=>Fp))) h69 xt.gh fun v64 G65 H66 x67 r68=>?_
  have xt:=xt.trans x67
  have A8:=Rp.mono x67.gg A8
  have Ai:=Rp.mono x67.gg Ai
  have r5:=Rp.mono x67.gg r5
  have r12:=Rp.mono x67.gg r12
  have r36:=Rp.mono x67.gg r36
  refine bE hm fun stem_ h86 hm=>?_
  refine AU (K:=K) (GF (m:=BJ) (A4 rfl r5) (A4 rfl r68) (A4 rfl Ai) (FV.ev (D2 (cap:=[5]) (fe:=fun (way_:(T3 Int Int (Tp Int)))=>((some fair_).bind fun t74=>(some way_.b).bind fun t75=>atI t74 t75)) (Aw (A4 rfl r5)) fun xc73 way_ Gc70 sc71 rc72=>(Al (A4 rfl (Rp.mono sc71 r36)) (Bq (A4 rfl rc72)))))) h86 xt.gh fun v81 G82 H83 x84 r85=>?_
  have xt:=xt.trans x84
  have A8:=Rp.mono x84.gg A8
  have r5:=Rp.mono x84.gg r5
  have r12:=Rp.mono x84.gg r12
  refine bE hm fun b87 h88 hm=>?_
  refine Cv (Ac (K:=K) (EQ nn_list (A4 rfl r85))) h88 xt.gh fun G89 H90 x91=>?_
  have xt:=xt.trans x91
  have A8:=Rp.mono x91.gg A8
  have r5:=Rp.mono x91.gg r5
  have r12:=Rp.mono x91.gg r12
  have r85:=Rp.mono x91.gg r85
  cases b87 with
  | true =>
   replace hm:=cT hm
   refine CN ?_
   exact Ae (K:=K) (rest:=Du) (σ:=[some Af,some DW,some v1,some v8,some v16,some v32,some v64,some v81]) (Dw (α:=((List Int) × (List Int)))) hm xt.gh fun v92 G93 H94 x95 r96=>q v92 G93 H94 (xt.trans x95) r96
  | false =>
   replace hm:=cF hm
   refine CG ?_
   exact Ae (K:=K) (Dz (ev_tup2 (BM (A4 rfl r85)) (D6 (m:=Ch) (A4 rfl A8) (A4 rfl r12) (Bq (Al (A4 rfl r5) (Al (BM (A4 rfl r85)) (Fz BI))))))) hm xt.gh fun v110 G111 H112 x113 r114=>q v110 G111 H112 (xt.trans x113) r114
theorem ok_law_end {f:Addr}{fd:FuncData}(F:Fun K "_law_end" "_law_end" EB f fd)(T:Txt mg):FnOk P w K mg base CX0 1 f fd ["_law_net","_law_node","_law_numbers"] (spM K EO):=by
 refine F.ok sc_law_end (fun vs H Q E h=>(Au h).trans rfl) (fun cdv A outer s H0 vs Q E hr h=>?_)
 obtain ⟨G0,⟨net_,⟨At,⟨BY,⟨⟩⟩⟩⟩,res,sg0,⟨Af,_,rfl,A8,⟨DW,_,rfl,Ai,⟨Dc,_,rfl,D7,rfl⟩⟩⟩,hm,q⟩:=h
 replace A8:Rp.rel K G0 Af net_:=A8
 replace Ai:Rp.rel K G0 DW At:=Ai
 replace D7:Rp.rel K G0 Dc BY:=D7
 replace hm:Dh net_ At BY=some res:=hm
 unfold Dh at hm
 have xt:Ext G0 H0 G0 H0:=Ext.refl sg0
 refine ⟨_,(A5 (BW PassesOwn.never rfl (Av (K:=K) rfl (pv 2)) (Ah (i:=3) sc_law_end.nd rfl (Or.inl rfl)) (A5 (Bc (PW.pt (Gh (Fx (BN (K:=K) rfl (Ap (call_instK (K:=K) rfl) (by rfl) T.isinstance_ bt_isinstance (A6 (pv 3) (A6 (pe_bltn (v:=.ty "int") rfl T.int_ bt_int rfl) AB))) (fun _=>rfl))) (Ge (BN (K:=K) rfl (Ap (call_instK (K:=K) rfl) (by rfl) T.isinstance_ bt_isinstance (A6 (pv 3) (A6 (pe_bltn (v:=.ty "bool") rfl T.bool_ bt_bool rfl) AB))) (fun _=>rfl))))) (A5 (Ad Bm)
   AA) AA)
   (A5 (Bc (PW.pt (Gh (Ag op_ltU (pv 3) AC (Ab _)) (Gh (Ag op_geU (pv 3) (Ap (As (K:=K) rfl) (by rfl) T.len_ Bk (A6 (AI (A9 (K:=K) rfl) (pv 0) AC (fun _ _=>rfl)) AB)) (Ab _)) (Ge (Ag op_ne (AI (A9 (K:=K) rfl) (AI (A9 (K:=K) rfl) (AI (A9 (K:=K) rfl) (pv 0) AC (fun _ _=>rfl)) (pv 3) (fun _ _=>rfl)) AC (fun _ _=>rfl)) (pv 1) (Ab _)))))) (A5 (Ad Bm)
   AA) AA)
   (A5 (AN (i:=1) sc_law_end.nd rfl (Or.inl rfl) (AI (A9 (K:=K) rfl) (AI (A9 (K:=K) rfl) (AI (A9 (K:=K) rfl) (pv 0) AC (fun _ _=>rfl)) (pv 3) (fun _ _=>rfl)) AC (fun _ _=>rfl)))
   AA))))
   (A5 (Ad (pv 1))
   AA)),?_⟩
 refine bE hm fun as1 h2 hm=>?_
 refine bE hm fun fl3 h4 hm=>?_
 refine Bi (K:=K) (RR:=fun r v G' H'=>Ext G0 H0 G' H'/\Rp.rel K G' v r) (Aw (A4 rfl D7)) h2 h4 xt.gh fun G5 H6 x7=>⟨fun s8 S' G' H'=>∃ (v9:V) (v10:Option V),Ext G0 H0 G' H'/\Same G5 G'/\S'=[some Af,some v9,some Dc,v10]/\Rp.rel K G' v9 (s8:Int),?_,?_,?_,?_,?_⟩
 ·have xt:=xt.trans x7
  have Ai:=Rp.mono x7.gg Ai
  exact ⟨DW,_,xt,(Same.refl _),rfl,Ai⟩
 ·rintro _ S' G' H' ⟨v9,v10,xt,mk11,rfl,r12⟩
  exact ⟨mk11,xt.gh⟩
 ·rintro xv13 a14 s8 _ G17 H18 fl15 - ⟨v9,v10,xt,mk11,rfl,r12⟩ rx16 hm D' kN19 kC20 kB21 kR22
  have A8:=Rp.mono (x7.gg.trans mk11) A8
  refine BF ?_
  refine bE hm fun b23 h24 hm=>?_
  refine Cv (tv_orP (GC (GA (K:=K) (ev_inst (b:=true) (by decide +kernel) (A4 rfl rx16)))) (GA (K:=K) (ev_inst (b:=false) (by decide +kernel) (A4 rfl rx16)))) h24 xt.gh fun G25 H26 x27=>?_
  have xt:=xt.trans x27
  have mk11:=mk11.trans x27.gg
  have A8:=Rp.mono x27.gg A8
  have r12:=Rp.mono x27.gg r12
  have rx16:=Rp.mono x27.gg rx16
  cases b23 with
  | true =>
   replace hm:=cT hm
   refine CN ?_
   refine bE hm fun rr33 h34 hm=>?_
   cases hm
   exact Ae (K:=K) (rest:=Du) (σ:=[some Af,some v9,some Dc,some xv13]) (Dw (α:=Int)) h34 xt.gh fun v28 G29 H30 x31 r32=>kR22 _ v28 G29 H30 rfl ⟨xt.trans x31,r32⟩
  | false =>
   replace hm:=cF hm
   refine CG ?_
   refine bE hm fun b41 h42 hm=>?_
   refine Cv (tv_or (Ac (K:=K) (Dt (A4 rfl rx16) BI)) (tv_or (Ac (K:=K) (Dt (A4 rfl rx16) (C4 (Bq (A4 rfl A8))))) (Ac (K:=K) (ev_neI (Cy (Al (Bq (A4 rfl A8)) (A4 rfl rx16))) (A4 rfl r12))))) h42 xt.gh fun G43 H44 x45=>?_
   have xt:=xt.trans x45
   have mk11:=mk11.trans x45.gg
   have A8:=Rp.mono x45.gg A8
   have rx16:=Rp.mono x45.gg rx16
   cases b41 with
   | true =>
    replace hm:=cT hm
    refine CN ?_
    refine bE hm fun rr51 h52 hm=>?_
    cases hm
    exact Ae (K:=K) (rest:=Du) (σ:=[some Af,some v9,some Dc,some xv13]) (Dw (α:=Int)) h52 xt.gh fun v46 G47 H48 x49 r50=>kR22 _ v46 G47 H48 rfl ⟨xt.trans x49,r50⟩
   | false =>
    replace hm:=cF hm
    refine CG ?_
    refine bE hm fun At h61 hm=>?_
    refine AU (K:=K) (Bq (Al (Bq (A4 rfl A8)) (A4 rfl rx16))) h61 xt.gh fun v56 G57 H58 x59 r60=>?_
    have xt:=xt.trans x59
    have mk11:=mk11.trans x59.gg
    cases hm
    exact kN19 _ _ _ _ rfl ⟨v56,_,xt,mk11,rfl,r60⟩
 ·rintro s8 _ G66 H67 rfl ⟨v62,v63,xt,mk64,rfl,r65⟩
  refine Bp ?_
  exact Ae (K:=K) (Dz (A4 rfl r65)) hm xt.gh fun v68 G69 H70 x71 r72=>q v68 G69 H70 (xt.trans x71) r72
 ·rintro r' v' G' H' rfl rl
  cases hm
  exact q v' G' H' rl.1 rl.2
theorem ok_law_fair {f:Addr}{fd:FuncData}(F:Fun K "_law_fair" "_law_fair" Db f fd)(T:Txt mg)(D_law_end:DefOk P w K mg base "_law_end" 1 ["_law_net","_law_node","_law_numbers"] (spM K EO)):FnOk P w K mg base CX0 2 f fd ["_law_net","_law_node","_law_told_here"] (spM K EZ):=by
 refine F.ok sc_law_fair (fun vs H Q E h=>(Au h).trans rfl) (fun cdv A outer s H0 vs Q E hr h=>?_)
 obtain ⟨G0,⟨net_,⟨At,⟨told_here_,⟨⟩⟩⟩⟩,res,sg0,⟨Af,_,rfl,A8,⟨DW,_,rfl,Ai,⟨FE,_,rfl,B5,rfl⟩⟩⟩,hm,q⟩:=h
 replace A8:Rp.rel K G0 Af net_:=A8
 replace Ai:Rp.rel K G0 DW At:=Ai
 replace B5:Rp.rel K G0 FE told_here_:=B5
 replace hm:Da net_ At told_here_=some res:=hm
 unfold Da at hm
 have xt:Ext G0 H0 G0 H0:=Ext.refl sg0
 refine ⟨_,(A5 (AN (i:=3) sc_law_fair.nd rfl (Or.inl rfl) (Aa D_law_end hr (by decide) rfl (A6 (pv 0) (A6 (pv 1) (A6 (AI (A9 (K:=K) rfl) (pv 2) AC (fun _ _=>rfl)) AB)))))
   (A5 (Bc (PW.pt (Gh (Ag ET (pv 3) Bm (Ab _)) (Gh (Ag DY (Ap (As (K:=K) rfl) (by rfl) T.len_ Bk (A6 (AI (A9 (K:=K) rfl) (pv 2) AC (fun _ _=>rfl)) AB)) AC (Ab _)) (Ge (Ag op_ne (Aa D_law_end hr (by decide) rfl (A6 (pv 0) (A6 (pv 3) (A6 (AI (A9 (K:=K) rfl) (pv 2) AC (fun _ _=>rfl)) AB)))) (pv 3) (Ab _)))))) (A5 (Ad Dv)
   AA) AA)
   (A5 (AN (i:=4) sc_law_fair.nd rfl (Or.inl rfl) (CH AB))
   (A5 (BW PassesOwn.never rfl (Av (K:=K) rfl (AI (A9 (K:=K) rfl) (pv 2) AC (fun _ _=>rfl))) (Ah (i:=5) sc_law_fair.nd rfl (Or.inl rfl)) (A5 (Bo (Cg (K:=K) rfl PySem.F.plainAttrs_list PySem.F.slot_list_extend PySem.F.type_list_extend (mt_extendT (K:=K) rfl) (pv 4) (A6 (AI (A9 (K:=K) rfl) (AI (A9 (K:=K) rfl) (AI (A9 (K:=K) rfl) (pv 0) AC (fun _ _=>rfl)) (pv 5) (fun _ _=>rfl)) AC (fun _ _=>rfl)) AB)))
   AA))
   (A5 (Ad (C7 DY (Ap (call_lenSet (w:=w) rfl) (by rfl) T.len_ Bk (A6 (Dd (call_setL (K:=K) (w:=w) rfl rfl rfl) (by rfl) T.set_ EM (A6 (pv 4) AB)) AB)) (AI (A9 (K:=K) rfl) (pv 0) AC (fun _ _=>rfl)) (Ab _)))
   AA))))),?_⟩
 refine bE hm fun begin_ h9 hm=>?_
 refine AU (K:=K) (D6 (m:=EO) (A4 rfl A8) (A4 rfl Ai) (GU (A4 rfl B5))) h9 xt.gh fun v4 G5 H6 x7 r8=>?_
 have xt:=xt.trans x7
 have A8:=Rp.mono x7.gg A8
 have B5:=Rp.mono x7.gg B5
 refine bE hm fun b17 h18 hm=>?_
 refine Cv (tv_or (Ac (K:=K) (EQ nn_int (A4 rfl r8))) (tv_or (Ac (K:=K) (DB (C4 (Fc (A4 rfl B5))) BI)) (Ac (K:=K) (ev_neOI (D6 (m:=EO) (A4 rfl A8) (BM (A4 rfl r8)) (Fc (A4 rfl B5))) (A4 rfl r8))))) h18 xt.gh fun G19 H20 x21=>?_
 have xt:=xt.trans x21
 have A8:=Rp.mono x21.gg A8
 have B5:=Rp.mono x21.gg B5
 cases b17 with
 | true =>
  replace hm:=cT hm
  refine CN ?_
  exact Ae (K:=K) (rest:=Du) (σ:=[some Af,some DW,some FE,some v4,none,none]) Fp hm xt.gh fun v22 G23 H24 x25 r26=>q v22 G23 H24 (xt.trans x25) r26
 | false =>
  replace hm:=cF hm
  refine CG ?_
  refine bE hm fun taken_ h34 hm=>?_
  refine Cd (K:=K) (Cw (D3 (α:=Int))) h34 xt.gh fun p27 vs28 G29 H30 x31 hz32 o33=>?_
  have hz32:=xt.hh.free hz32
  have xt:=xt.trans x31
  have A8:=Rp.mono x31.gg A8
  have B5:=Rp.mono x31.gg B5
  refine bE hm fun as35 h36 hm=>?_
  refine bE hm fun fl37 h38 hm=>?_
  refine Bi (K:=K) (RR:=fun r v G' H'=>Ext G0 H0 G' H'/\Rp.rel K G' v r) (Aw (Fc (A4 rfl B5))) h36 h38 xt.gh fun G39 H40 x41=>⟨fun s42 S' G' H'=>∃ (v43:Option V),Ext G0 H0 G' H'/\Same G39 G'/\S'=[some Af,some DW,some FE,some v4,some (V.ref p27),v43]/\(∃ vs,Own K G' H' (V.ref p27) p27 vs s42),?_,?_,?_,?_,?_⟩
  ·have xt:=xt.trans x41
   have o33:=o33.ext x41
   exact ⟨_,xt,(Same.refl _),rfl,⟨_,o33⟩⟩
  ·rintro _ S' G' H' ⟨v43,xt,mk44,rfl,⟨vs28,o33⟩⟩
   exact ⟨mk44,xt.gh⟩
  ·rintro xv45 a46 s42 _ G49 H50 fl47 - ⟨v43,xt,mk44,rfl,⟨vs28,o33⟩⟩ rx48 hm D' kN51 kC52 kB53 kR54
   have A8:=Rp.mono (x41.gg.trans mk44) A8
   refine BF ?_
   refine bE hm fun a58 h59 hm=>?_
   refine bE hm fun z66 h60 hm=>?_
   refine sv_extendT (K:=K) rfl o33 (Ek (Al (Bq (A4 rfl A8)) (A4 rfl rx48))) h59 h60 xt.gh fun G61 H62 w63 x64 o65=>?_
   have xt:Ext G0 H0 G61 (upd H62 p27 (.lst (vs28++w63))):=(xt.trans x64).put hz32 o65.g
   have mk44:=mk44.trans x64.gg
   cases hm
   exact kN51 _ _ _ _ rfl ⟨_,xt,mk44,rfl,⟨_,o65⟩⟩
  ·rintro s42 _ G69 H70 rfl ⟨v67,xt,mk68,rfl,⟨vs28,o33⟩⟩
   refine Bp ?_
   have A8:=Rp.mono (x41.gg.trans mk68) A8
   have sf:=Same.new (o:=.lst vs28) o33.g
   have xt:=xt.frz hz32 o33.g o33.h
   have r73:=o33.tell
   have A8:=Rp.mono sf A8
   exact Ae (K:=K) (DB (ev_lenSet (w:=w) (A4 rfl r73)) (Ek (A4 rfl A8))) hm xt.gh fun v76 G77 H78 x79 r80=>q v76 G77 H78 (xt.trans x79) r80
  ·rintro r' v' G' H' rfl rl
   cases hm
   exact q v' G' H' rl.1 rl.2
theorem ok_law_told {f:Addr}{fd:FuncData}(F:Fun K "_law_told" "_law_told" Dg f fd)(T:Txt mg)(D_ring_from:DefOk P w K mg base "ring_from" 4 ["net","node"] (spM K E2))(D_law_fair:DefOk P w K mg base "_law_fair" 2 ["_law_net","_law_node","_law_told_here"] (spM K EZ)):FnOk P w K mg base CX0 5 f fd ["_law_net","_law_node","_law_due"] (spM K Ee):=by
 refine F.ok sc_law_told (fun vs H Q E h=>(Au h).trans rfl) (fun cdv A outer s H0 vs Q E hr h=>?_)
 obtain ⟨G0,⟨net_,⟨At,⟨due_,⟨⟩⟩⟩⟩,res,sg0,⟨Af,_,rfl,A8,⟨DW,_,rfl,Ai,⟨v_due_,_,rfl,FM,rfl⟩⟩⟩,hm,q⟩:=h
 replace A8:Rp.rel K G0 Af net_:=A8
 replace Ai:Rp.rel K G0 DW At:=Ai
 replace FM:Rp.rel K G0 v_due_ due_:=FM
 replace hm:Dj net_ At due_=some res:=hm
 unfold Dj at hm
 have xt:Ext G0 H0 G0 H0:=Ext.refl sg0
 refine ⟨_,(A5 (AN (i:=3) sc_law_told.nd rfl (Or.inl rfl) (Aa D_ring_from hr (by decide) rfl (A6 (pv 0) (A6 (pv 1) AB))))
   (A5 (Bc (PW.pt (Gh (Ag ET (pv 3) Bm (Ab _)) (Ge (Fx (BN (K:=K) rfl (pv 2) (fun _=>rfl)))))) (A5 (Ad (Gb (C7 ET (pv 3) Bm (Ab _)) (pe_one (pe_not (pv 2)))))
   AA) AA)
   (A5 (Ad (Gb (Aa D_law_fair hr (by decide) rfl (A6 (pv 0) (A6 (pv 1) (A6 (pv 3) AB)))) (Gb (C7 op_ltU (Ap (As (K:=K) rfl) (by rfl) T.len_ Bk (A6 (AI (A9 (K:=K) rfl) (pv 3) AC (fun _ _=>rfl)) AB)) (AI (A9 (K:=K) rfl) (pv 0) AC (fun _ _=>rfl)) (Ab _)) (pe_one (C7 op_leU (Ap (As (K:=K) rfl) (by rfl) T.len_ Bk (A6 (AI (A9 (K:=K) rfl) (pv 3) AC (fun _ _=>rfl)) AB)) (AR (Eb (K:=K) rfl) (AI (A9 (K:=K) rfl) (pv 0) AC (fun _ _=>rfl)) (AR (Ak (K:=K) rfl) (AI (A9 (K:=K) rfl) (pv 0) AC (fun _ _=>rfl)) AC)) (Ab _))))))
   AA))),?_⟩
 refine bE hm fun told_here_ h8 hm=>?_
 refine AU (K:=K) (B8 (m:=E2) (A4 rfl A8) (A4 rfl Ai)) h8 xt.gh fun v3 G4 H5 x6 r7=>?_
 have xt:=xt.trans x6
 have A8:=Rp.mono x6.gg A8
 have Ai:=Rp.mono x6.gg Ai
 have FM:=Rp.mono x6.gg FM
 refine bE hm fun b9 h10 hm=>?_
 refine Cv (tv_orP (Ac (K:=K) (EQ GR (A4 rfl r7))) (GC (GA (K:=K) (A4 rfl FM)))) h10 xt.gh fun G11 H12 x13=>?_
 have xt:=xt.trans x13
 have A8:=Rp.mono x13.gg A8
 have Ai:=Rp.mono x13.gg Ai
 have FM:=Rp.mono x13.gg FM
 have r7:=Rp.mono x13.gg r7
 cases b9 with
 | true =>
  replace hm:=cT hm
  refine CN ?_
  exact Ae (K:=K) (ev_andP (EQ GR (A4 rfl r7)) (ev_not (A4 rfl FM))) hm xt.gh fun v14 G15 H16 x17 r18=>q v14 G15 H16 (xt.trans x17) r18
 | false =>
  replace hm:=cF hm
  refine CG ?_
  exact Ae (K:=K) (GV (D6 (m:=EZ) (A4 rfl A8) (A4 rfl Ai) (BM (A4 rfl r7))) (GV (Dt (C4 (GU (BM (A4 rfl r7)))) (Cy (A4 rfl A8))) (Dt (C4 (Fc (BM (A4 rfl r7)))) (ev_mul (Cy (A4 rfl A8)) (BO (Ek (A4 rfl A8)) BI))))) hm xt.gh fun v36 G37 H38 x39 r40=>q v36 G37 H38 (xt.trans x39) r40
theorem ok_law_all {f:Addr}{fd:FuncData}(F:Fun K "_law_all" "_law_all" E9 f fd)(T:Txt mg)(D_shut:DefOk P w K mg base "shut" 3 ["net"] (spM K mm_shut))(D_law_way_fits:DefOk P w K mg base "_law_way_fits" 1 ["_law_way","_law_rows"] (spM K D5))(D_law_told:DefOk P w K mg base "_law_told" 5 ["_law_net","_law_node","_law_due"] (spM K Ee)):FnOk P w K mg base CX0 6 f fd ["_law_net","_law_fair_here","_law_nodes"] (spM K FH):=by
 refine F.ok sc_law_all (fun vs H Q E h=>(Au h).trans rfl) (fun cdv A outer s H0 vs Q E hr h=>?_)
 obtain ⟨G0,⟨net_,⟨Bl,⟨Fu,⟨⟩⟩⟩⟩,res,sg0,⟨Af,_,rfl,A8,⟨Ba,_,rfl,Ar,⟨DS,_,rfl,Cf,rfl⟩⟩⟩,hm,q⟩:=h
 replace A8:Rp.rel K G0 Af net_:=A8
 replace Ar:Rp.rel K G0 Ba Bl:=Ar
 replace Cf:Rp.rel K G0 DS Fu:=Cf
 replace hm:EA net_ Bl Fu=some res:=hm
 unfold EA at hm
 have xt:Ext G0 H0 G0 H0:=Ext.refl sg0
 refine ⟨_,(A5 (AN (i:=3) sc_law_all.nd rfl (Or.inl rfl) (Aa D_shut hr (by decide) rfl (A6 (pv 0) AB)))
   (A5 (Bc (Ag op_ne (Ap (As (K:=K) rfl) (by rfl) T.len_ Bk (A6 (pv 3) AB)) (AI (A9 (K:=K) rfl) (pv 0) AC (fun _ _=>rfl)) (Ab _)) (A5 (Ad Dv)
   AA) AA)
   (A5 (BW PassesOwn.never rfl (B7 rfl T.range_ (A6 (AI (A9 (K:=K) rfl) (pv 0) AC (fun _ _=>rfl)) AB)) (Ah (i:=4) sc_law_all.nd rfl (Or.inl rfl)) (A5 (Bc (Ag op_ne (C7 ET (AI (A9 (K:=K) rfl) (pv 3) (pv 4) (fun _ _=>rfl)) Bm (Ab _)) (AI (A9 (K:=K) rfl) (pv 1) (pv 4) (fun _ _=>rfl)) (Ab _)) (A5 (Ad Dv)
   AA) AA)
   AA))
   (A5 (BW PassesOwn.never rfl (Av (K:=K) rfl (AI (A9 (K:=K) rfl) (pv 0) AC (fun _ _=>rfl))) (Ah (i:=5) sc_law_all.nd rfl (Or.inl rfl)) (A5 (Bc (Fx (BN (K:=K) rfl (Aa D_law_way_fits hr (by decide) rfl (A6 (pv 5) (A6 (pv 3) AB))) (fun _=>rfl))) (A5 (Ad Dv)
   AA) AA)
   AA))
   (A5 (BW PassesOwn.never rfl (Av (K:=K) rfl (pv 2)) (Ah (i:=4) sc_law_all.nd rfl (Or.inl rfl)) (A5 (Bc (Fx (BN (K:=K) rfl (Aa D_law_told hr (by decide) rfl (A6 (pv 0) (A6 (pv 4) (A6 (AI (A9 (K:=K) rfl) (pv 1) (pv 4) (fun _ _=>rfl)) AB)))) (fun _=>rfl))) (A5 (Ad Dv)
   AA) AA)
   AA))
   (A5 (Ad Dv)
   AA)))))),?_⟩
 refine bE hm fun rows_ h7 hm=>?_
 refine AU (K:=K) (Ef (m:=mm_shut) (A4 rfl A8)) h7 xt.gh fun v2 G3 H4 x5 r6=>?_
 have xt:=xt.trans x5
 have A8:=Rp.mono x5.gg A8
 have Ar:=Rp.mono x5.gg Ar
 have Cf:=Rp.mono x5.gg Cf
 refine bE hm fun b8 h9 hm=>?_
 refine Cv (Ac (K:=K) (ev_neI (C4 (A4 rfl r6)) (Cy (A4 rfl A8)))) h9 xt.gh fun G10 H11 x12=>?_
 have xt:=xt.trans x12
 have A8:=Rp.mono x12.gg A8
 have Ar:=Rp.mono x12.gg Ar
 have Cf:=Rp.mono x12.gg Cf
 have r6:=Rp.mono x12.gg r6
 cases b8 with
 | true =>
  replace hm:=cT hm
  refine CN ?_
  exact Ae (K:=K) (rest:=Du) (σ:=[some Af,some Ba,some DS,some v2,none,none]) Fp hm xt.gh fun v13 G14 H15 x16 r17=>q v13 G14 H15 (xt.trans x16) r17
 | false =>
  replace hm:=cF hm
  refine CG ?_
  refine bE hm fun as19 h20 hm=>?_
  refine bE hm fun fl21 h22 hm=>?_
  refine Bi (K:=K) (RR:=fun r v G' H'=>Ext G0 H0 G' H'/\Rp.rel K G' v r) (By (Cy (A4 rfl A8))) h20 h22 xt.gh fun G23 H24 x25=>⟨fun s26 S' G' H'=>∃ (v27:Option V),Ext G0 H0 G' H'/\Same G23 G'/\S'=[some Af,some Ba,some DS,some v2,v27,none],?_,?_,?_,?_,?_⟩
  ·have xt:=xt.trans x25
   exact ⟨_,xt,(Same.refl _),rfl⟩
  ·rintro _ S' G' H' ⟨v27,xt,mk28,rfl⟩
   exact ⟨mk28,xt.gh⟩
  ·rintro xv29 a30 s26 _ G33 H34 fl31 - ⟨v27,xt,mk28,rfl⟩ rx32 hm D' kN35 kC36 kB37 kR38
   have Ar:=Rp.mono (x25.gg.trans mk28) Ar
   have r6:=Rp.mono (x25.gg.trans mk28) r6
   refine BF ?_
   refine bE hm fun b48 h49 hm=>?_
   refine Cv (Ac (K:=K) (ev_neB (EQ GR (Al (A4 rfl r6) (A4 rfl rx32))) (Al (A4 rfl Ar) (A4 rfl rx32)))) h49 xt.gh fun G50 H51 x52=>?_
   have xt:=xt.trans x52
   have mk28:=mk28.trans x52.gg
   cases b48 with
   | true =>
    replace hm:=cT hm
    refine CN ?_
    refine bE hm fun rr58 h59 hm=>?_
    cases hm
    exact Ae (K:=K) (rest:=Du) (σ:=[some Af,some Ba,some DS,some v2,some xv29,none]) Fp h59 xt.gh fun v53 G54 H55 x56 r57=>kR38 _ v53 G54 H55 rfl ⟨xt.trans x56,r57⟩
   | false =>
    replace hm:=cF hm
    refine CG ?_
    cases hm
    exact kN35 _ _ _ _ rfl ⟨_,xt,mk28,rfl⟩
  ·rintro s26 _ G62 H63 rfl ⟨v60,xt,mk61,rfl⟩
   refine Bp ?_
   have A8:=Rp.mono (x25.gg.trans mk61) A8
   have Ar:=Rp.mono (x25.gg.trans mk61) Ar
   have Cf:=Rp.mono (x25.gg.trans mk61) Cf
   have r6:=Rp.mono (x25.gg.trans mk61) r6
   refine bE hm fun as64 h65 hm=>?_
   refine bE hm fun fl66 h67 hm=>?_
   refine Bi (K:=K) (RR:=fun r v G' H'=>Ext G0 H0 G' H'/\Rp.rel K G' v r) (Aw (Bq (A4 rfl A8))) h65 h67 xt.gh fun G68 H69 x70=>⟨fun s71 S' G' H'=>∃ (v72:Option V),Ext G0 H0 G' H'/\Same G68 G'/\S'=[some Af,some Ba,some DS,some v2,v60,v72],?_,?_,?_,?_,?_⟩
   ·have xt:=xt.trans x70
    exact ⟨_,xt,(Same.refl _),rfl⟩
   ·rintro _ S' G' H' ⟨v72,xt,mk73,rfl⟩
    exact ⟨mk73,xt.gh⟩
   ·rintro xv74 a75 s71 _ G78 H79 fl76 - ⟨v72,xt,mk73,rfl⟩ rx77 hm D' kN80 kC81 kB82 kR83
    have r6:=Rp.mono (x70.gg.trans mk73) r6
    refine BF ?_
    refine bE hm fun b87 h88 hm=>?_
    refine Cv (GC (GA (K:=K) (B8 (m:=D5) (A4 rfl rx77) (A4 rfl r6)))) h88 xt.gh fun G89 H90 x91=>?_
    have xt:=xt.trans x91
    have mk73:=mk73.trans x91.gg
    cases b87 with
    | true =>
     replace hm:=cT hm
     refine CN ?_
     refine bE hm fun rr97 h98 hm=>?_
     cases hm
     exact Ae (K:=K) (rest:=Du) (σ:=[some Af,some Ba,some DS,some v2,v60,some xv74]) Fp h98 xt.gh fun v92 G93 H94 x95 r96=>kR83 _ v92 G93 H94 rfl ⟨xt.trans x95,r96⟩
    | false =>
     replace hm:=cF hm
     refine CG ?_
     cases hm
     exact kN80 _ _ _ _ rfl ⟨_,xt,mk73,rfl⟩
   ·rintro s71 _ G101 H102 rfl ⟨v99,xt,mk100,rfl⟩
    refine Bp ?_
    have A8:=Rp.mono (x70.gg.trans mk100) A8
    have Ar:=Rp.mono (x70.gg.trans mk100) Ar
    have Cf:=Rp.mono (x70.gg.trans mk100) Cf
    refine bE hm fun as103 h104 hm=>?_
    refine bE hm fun fl105 h106 hm=>?_
    refine Bi (K:=K) (RR:=fun r v G' H'=>Ext G0 H0 G' H'/\Rp.rel K G' v r) (Aw (A4 rfl Cf)) h104 h106 xt.gh fun G107 H108 x109=>⟨fun s110 S' G' H'=>∃ (v111:Option V),Ext G0 H0 G' H'/\Same G107 G'/\S'=[some Af,some Ba,some DS,some v2,v111,v99],?_,?_,?_,?_,?_⟩
    ·have xt:=xt.trans x109
     exact ⟨_,xt,(Same.refl _),rfl⟩
    ·rintro _ S' G' H' ⟨v111,xt,mk112,rfl⟩
     exact ⟨mk112,xt.gh⟩
    ·rintro xv113 a114 s110 _ G117 H118 fl115 - ⟨v111,xt,mk112,rfl⟩ rx116 hm D' kN119 kC120 kB121 kR122
     have A8:=Rp.mono (x109.gg.trans mk112) A8
     have Ar:=Rp.mono (x109.gg.trans mk112) Ar
     refine BF ?_
     refine bE hm fun b129 h130 hm=>?_
     refine Cv (GC (GA (K:=K) (D6 (m:=Ee) (A4 rfl A8) (A4 rfl rx116) (Al (A4 rfl Ar) (A4 rfl rx116))))) h130 xt.gh fun G131 H132 x133=>?_
     have xt:=xt.trans x133
     have mk112:=mk112.trans x133.gg
     cases b129 with
     | true =>
      replace hm:=cT hm
      refine CN ?_
      refine bE hm fun rr139 h140 hm=>?_
      cases hm
      exact Ae (K:=K) (rest:=Du) (σ:=[some Af,some Ba,some DS,some v2,some xv113,v99]) Fp h140 xt.gh fun v134 G135 H136 x137 r138=>kR122 _ v134 G135 H136 rfl ⟨xt.trans x137,r138⟩
     | false =>
      replace hm:=cF hm
      refine CG ?_
      cases hm
      exact kN119 _ _ _ _ rfl ⟨_,xt,mk112,rfl⟩
    ·rintro s110 _ G143 H144 rfl ⟨v141,xt,mk142,rfl⟩
     refine Bp ?_
     exact Ae (K:=K) (rest:=Du) (σ:=[some Af,some Ba,some DS,some v2,v141,v99]) Fp hm xt.gh fun v145 G146 H147 x148 r149=>q v145 G146 H147 (xt.trans x148) r149
    ·rintro r' v' G' H' rfl rl
     cases hm
     exact q v' G' H' rl.1 rl.2
   ·rintro r' v' G' H' rfl rl
    cases hm
    exact q v' G' H' rl.1 rl.2
  ·rintro r' v' G' H' rfl rl
   cases hm
   exact q v' G' H' rl.1 rl.2
theorem ok_law_marks {f:Addr}{fd:FuncData}(F:Fun K "_law_marks" "_law_marks" DK f fd)(T:Txt mg)(D_law_cell_at:DefOk P w K mg base "_law_cell_at" 1 ["_law_script","_law_k"] (spM K AZ)):FnOk P w K mg base CX0 2 f fd ["_law_script","_law_k","_law_marks_here"] (spM K E3):=by
 refine F.ok sc_law_marks (fun vs H Q E h=>(Au h).trans rfl) (fun cdv A outer s H0 vs Q E hr h=>?_)
 obtain ⟨G0,⟨script_,⟨k_,⟨Aj,⟨⟩⟩⟩⟩,res,sg0,⟨BL,_,rfl,AD,⟨v_k_,_,rfl,Gv,⟨Dq,_,rfl,AK,rfl⟩⟩⟩,hm,q⟩:=h
 replace AD:Rp.rel K G0 BL script_:=AD
 replace Gv:Rp.rel K G0 v_k_ k_:=Gv
 replace AK:Rp.rel K G0 Dq Aj:=AK
 replace hm:DD script_ k_ Aj=some res:=hm
 unfold DD at hm
 have xt:Ext G0 H0 G0 H0:=Ext.refl sg0
 refine ⟨_,(A5 (AN (i:=3) sc_law_marks.nd rfl (Or.inr rfl) (Aa D_law_cell_at hr (by decide) rfl (A6 (pv 0) (A6 (AR (Ak (K:=K) rfl) AC (pv 1)) AB))))
   (A5 (Bc (Ag DY (AR BX (pv 3) AC) AC (Ab _)) (A5 (Ad (Dd (call_lstR rfl) (by rfl) T.list_ bt_list (A6 (Dd call_rng1 (by rfl) T.range_ boot_range (A6 (pv 2) AB)) AB)))
   AA) AA)
   (A5 (Bc (Ag DY (AR BX (pv 3) AC) AC (Ab _)) (A5 (Ad (Co (cn:=["_law_marks_here","_law_number"]) (cap:=[2,3]) rfl ⟨by decide +kernel,rfl,by decide +kernel,Ay rfl⟩ rfl (by decide +kernel) ⟨⟨rfl,.inl rfl,rfl⟩,⟨rfl,.inl rfl,rfl⟩,trivial⟩ (B7 rfl T.range_ (A6 (pv 2) AB)) (fun C s0 H0 fp=>⟨(Fj (Ag op_ne (pv 0) (AR BX (AR E6 (pv 2) AC) (pv 1)) (Ab _))),(pv 0)⟩)))
   AA) AA)
   (A5 (Ad (Co (cn:=["_law_number"]) (cap:=[3]) rfl ⟨by decide +kernel,rfl,by decide +kernel,Ay rfl⟩ rfl (by decide +kernel) ⟨⟨rfl,.inl rfl,rfl⟩,trivial⟩ (B7 rfl T.range_ (A6 (pv 2) AB)) (fun C s0 H0 fp=>⟨(Fj (Ag DY (AR BX (AR op_shr (pv 1) (AR (Ak (K:=K) rfl) (pv 0) AC)) AC) AC (Ab _))),(pv 0)⟩)))
   AA)))),?_⟩
 refine bE hm fun AL h8 hm=>?_
 refine AU (K:=K) (B8 (m:=AZ) (A4 rfl AD) (BO BI (A4 rfl Gv))) h8 xt.gh fun v3 G4 H5 x6 r7=>?_
 have xt:=xt.trans x6
 have AK:=Rp.mono x6.gg AK
 refine bE hm fun b9 h10 hm=>?_
 refine Cv (Ac (K:=K) (DB (Cn (A4 rfl r7)) BI)) h10 xt.gh fun G11 H12 x13=>?_
 have xt:=xt.trans x13
 have AK:=Rp.mono x13.gg AK
 have r7:=Rp.mono x13.gg r7
 cases b9 with
 | true =>
  replace hm:=cT hm
  refine CN ?_
  exact Ae (K:=K) (FV.ev (fv_lstR1 (A4 rfl AK))) hm xt.gh fun v15 G16 H17 x18 r19=>q v15 G16 H17 (xt.trans x18) r19
 | false =>
  replace hm:=cF hm
  refine CG ?_
  refine bE hm fun b20 h21 hm=>?_
  refine Cv (Ac (K:=K) (DB (Cn (A4 rfl r7)) BI)) h21 xt.gh fun G22 H23 x24=>?_
  have xt:=xt.trans x24
  have AK:=Rp.mono x24.gg AK
  have r7:=Rp.mono x24.gg r7
  cases b20 with
  | true =>
   replace hm:=cT hm
   refine CN ?_
   exact Ae (K:=K) (FV.ev (Ff (cap:=[2,3]) (fc:=fun (Ao:Int)=>(((some (AL / (4:Int))).bind fun t32=>(some Aj).bind fun t33=>Dm t32 t33).bind fun t34=>(some (!decide (Ao=t34))))) (fe:=fun (Ao:Int)=>(some Ao)) (By (A4 rfl AK)) fun xc29 Ao Gc26 sc27 rc28=>⟨(Ac (K:=K) (ev_neI (A4 rfl rc28) (Dl (E8 (A4 rfl (Rp.mono sc27 r7))) (A4 rfl (Rp.mono sc27 AK))))),(A4 rfl rc28)⟩)) hm xt.gh fun v36 G37 H38 x39 r40=>q v36 G37 H38 (xt.trans x39) r40
  | false =>
   replace hm:=cF hm
   refine CG ?_
   exact Ae (K:=K) (FV.ev (Ff (cap:=[3]) (fc:=fun (Ao:Int)=>((((some AL).bind fun t46=>(some (Ao+(2:Int))).bind fun t47=>shrO t46 t47).bind fun t48=>(some (t48 % (2:Int)))).bind fun t49=>(some (decide (t49=(1:Int)))))) (fe:=fun (Ao:Int)=>(some Ao)) (By (A4 rfl AK)) fun xc45 Ao Gc42 sc43 rc44=>⟨(Ac (K:=K) (DB (Cn (ev_shr (A4 rfl (Rp.mono sc43 r7)) (BO (A4 rfl rc44) BI))) BI)),(A4 rfl rc44)⟩)) hm xt.gh fun v51 G52 H53 x54 r55=>q v51 G52 H53 (xt.trans x54) r55
theorem ok_law_round {f:Addr}{fd:FuncData}(F:Fun K "_law_round" "_law_round" DL f fd)(T:Txt mg):FnOk P w K mg base CX0 1 f fd ["_law_base","_law_size","_law_some","_law_number"] (spM K E5):=by
 refine F.ok sc_law_round (fun vs H Q E h=>(Au h).trans rfl) (fun cdv A outer s H0 vs Q E hr h=>?_)
 obtain ⟨G0,⟨base_,⟨size_,⟨some_,⟨AL,⟨⟩⟩⟩⟩⟩,res,sg0,⟨v_base_,_,rfl,Do,⟨v_size_,_,rfl,DP,⟨v_some_,_,rfl,FB,⟨EE,_,rfl,An,rfl⟩⟩⟩⟩,hm,q⟩:=h
 replace Do:Rp.rel K G0 v_base_ base_:=Do
 replace DP:Rp.rel K G0 v_size_ size_:=DP
 replace FB:Rp.rel K G0 v_some_ some_:=FB
 replace An:Rp.rel K G0 EE AL:=An
 replace hm:DI base_ size_ some_ AL=some res:=hm
 unfold DI at hm
 have xt:Ext G0 H0 G0 H0:=Ext.refl sg0
 refine ⟨_,(A5 (AN (i:=4) sc_law_round.nd rfl (Or.inl rfl) (CH AB))
   (A5 (BW PassesOwn.never rfl (B7 rfl T.range_ (A6 (pv 1) AB)) (Ah (i:=5) sc_law_round.nd rfl (Or.inr rfl)) (A5 (Bg (i:=6) sc_law_round.nd rfl (Or.inl rfl) (cn:=["_law_at","_law_size","_law_number"]) (cap:=[5,1,3]) rfl ⟨by decide +kernel,rfl,by decide +kernel,Ay rfl⟩ rfl (by decide +kernel) ⟨⟨rfl,.inl rfl,rfl⟩,⟨rfl,.inl rfl,rfl⟩,⟨rfl,.inl rfl,rfl⟩,trivial⟩ (Av (K:=K) rfl (pv 2)) (fun C s0 H0 fp=>⟨(Fj (Ag DY (AR BX (AR (Ak (K:=K) rfl) (pv 3) (AR (Eb (K:=K) rfl) (AR (Eb (K:=K) rfl) (pv 0) (pv 0)) AC)) (pv 2)) (pv 1) (Ab _))),(pv 0)⟩))
   (A5 (Bo (Cg (K:=K) rfl PySem.F.plainAttrs_list PySem.F.slot_list_append PySem.F.type_list_append BK (pv 4) (A6 (Fb (A6 (AR (Ak (K:=K) rfl) (pv 0) (pv 5)) (A6 (AR (Ak (K:=K) rfl) (pv 0) (AR BX (AR (Ak (K:=K) rfl) (pv 5) AC) (pv 1))) (A6 (Dd (call_tupK (K:=K) rfl) (by rfl) T.tuple_ bt_tuple (A6 (pv 6) AB)) AB)))) AB)))
   AA)))
   (A5 (Ad (pv 4))
   AA))),?_⟩
 refine bE hm fun ways_ h8 hm=>?_
 refine Cd (K:=K) (Cw (D3 (α:=(T3 Int Int (Tp Int))))) h8 xt.gh fun p1 vs2 G3 H4 x5 hz6 o7=>?_
 have hz6:=xt.hh.free hz6
 have xt:=xt.trans x5
 have Do:=Rp.mono x5.gg Do
 have DP:=Rp.mono x5.gg DP
 have FB:=Rp.mono x5.gg FB
 have An:=Rp.mono x5.gg An
 refine bE hm fun as10 h11 hm=>?_
 refine bE hm fun fl12 h13 hm=>?_
 refine Bi (K:=K) (RR:=fun r v G' H'=>Ext G0 H0 G' H'/\Rp.rel K G' v r) (By (A4 rfl DP)) h11 h13 xt.gh fun G14 H15 x16=>⟨fun s17 S' G' H'=>∃ (v18:Option V) (v19:Option V),Ext G0 H0 G' H'/\Same G14 G'/\S'=[some v_base_,some v_size_,some v_some_,some EE,some (V.ref p1),v18,v19]/\(∃ vs,Own K G' H' (V.ref p1) p1 vs s17),?_,?_,?_,?_,?_⟩
 ·have xt:=xt.trans x16
  have o7:=o7.ext x16
  exact ⟨_,_,xt,(Same.refl _),rfl,⟨_,o7⟩⟩
 ·rintro _ S' G' H' ⟨v18,v19,xt,mk20,rfl,⟨vs2,o7⟩⟩
  exact ⟨mk20,xt.gh⟩
 ·rintro xv21 a22 s17 _ G25 H26 fl23 - ⟨v18,v19,xt,mk20,rfl,⟨vs2,o7⟩⟩ rx24 hm D' kN27 kC28 kB29 kR30
  have Do:=Rp.mono (x16.gg.trans mk20) Do
  have DP:=Rp.mono (x16.gg.trans mk20) DP
  have FB:=Rp.mono (x16.gg.trans mk20) FB
  have An:=Rp.mono (x16.gg.trans mk20) An
  refine BF ?_
  refine bE hm fun taken_ h48 hm=>?_
  refine AU (K:=K) (FV.ev (Ff (cap:=[5,1,3]) (fc:=fun (Ao:Int)=>((((((some Ao).bind fun t35=>(some Ao).bind fun t36=>Gc t35 t36).bind fun t37=>(some (t37 * (7:Int)))).bind fun t38=>(some (AL+t38))).bind fun t39=>(some size_).bind fun t40=>Dm t39 t40).bind fun t41=>(some (decide (t41=a22))))) (fe:=fun (Ao:Int)=>(some Ao)) (Aw (A4 rfl FB)) fun xc34 Ao Gc31 sc32 rc33=>⟨(Ac (K:=K) (DB (Dl (BO (A4 rfl (Rp.mono sc32 An)) (ev_mulR (ev_mul (A4 rfl rc33) (A4 rfl rc33)))) (A4 rfl (Rp.mono sc32 DP))) (A4 rfl (Rp.mono sc32 rx24)))),(A4 rfl rc33)⟩)) h48 xt.gh fun v43 G44 H45 x46 r47=>?_
  have xt:=xt.trans x46
  have mk20:=mk20.trans x46.gg
  have Do:=Rp.mono x46.gg Do
  have DP:=Rp.mono x46.gg DP
  have o7:=o7.ext x46
  have rx24:=Rp.mono x46.gg rx24
  refine bE hm fun a53 h54 hm=>?_
  refine bE hm fun z61 h55 hm=>?_
  refine Cu (K:=K) rfl o7 (GE (BO (A4 rfl Do) (A4 rfl rx24)) (BO (A4 rfl Do) (Dl (BO (A4 rfl rx24) BI) (A4 rfl DP))) (ev_tuple (A4 rfl r47))) h54 h55 xt.gh fun G56 H57 w58 x59 o60=>?_
  have xt:Ext G0 H0 G56 (upd H57 p1 (.lst (vs2++[w58]))):=(xt.trans x59).put hz6 o60.g
  have mk20:=mk20.trans x59.gg
  cases hm
  exact kN27 _ _ _ _ rfl ⟨_,_,xt,mk20,rfl,⟨_,o60⟩⟩
 ·rintro s17 _ G65 H66 rfl ⟨v62,v63,xt,mk64,rfl,⟨vs2,o7⟩⟩
  refine Bp ?_
  have sf:=Same.new (o:=.lst vs2) o7.g
  have xt:=xt.frz hz6 o7.g o7.h
  have r67:=o7.tell
  exact Ae (K:=K) (A4 rfl r67) hm xt.gh fun v68 G69 H70 x71 r72=>q v68 G69 H70 (xt.trans x71) r72
 ·rintro r' v' G' H' rfl rl
  cases hm
  exact q v' G' H' rl.1 rl.2
theorem ok_law_turned {f:Addr}{fd:FuncData}(F:Fun K "_law_turned" "_law_turned" Cq f fd)(T:Txt mg):FnOk P w K mg base CX0 1 f fd ["_law_ways","_law_count","_law_shift"] (spM K Dp):=by
 refine F.ok sc_law_turned (fun vs H Q E h=>(Au h).trans rfl) (fun cdv A outer s H0 vs Q E hr h=>?_)
 obtain ⟨G0,⟨ways_,⟨D8,⟨EJ,⟨⟩⟩⟩⟩,res,sg0,⟨DU,_,rfl,AQ,⟨v_count_,_,rfl,r_count_,⟨v_shift_,_,rfl,r_shift_,rfl⟩⟩⟩,hm,q⟩:=h
 replace AQ:Rp.rel K G0 DU ways_:=AQ
 replace r_count_:Rp.rel K G0 v_count_ D8:=r_count_
 replace r_shift_:Rp.rel K G0 v_shift_ EJ:=r_shift_
 replace hm:Ct ways_ D8 EJ=some res:=hm
 unfold Ct at hm
 have xt:Ext G0 H0 G0 H0:=Ext.refl sg0
 refine ⟨_,(A5 (Ad (pe_compN (xn:=["_law_one","_law_other","_law_taken"]) (g:=gThree K) (cn:=["_law_count","_law_shift"]) (cap:=[1,2]) rfl ⟨by decide +kernel,rfl,by decide +kernel,Ay rfl⟩ gat3 (fun C s0 H0 fp=>pg3 rfl rfl rfl rfl (by decide +kernel)) (by decide +kernel) ⟨⟨rfl,.inl rfl,rfl⟩,⟨rfl,.inl rfl,rfl⟩,trivial⟩ (Av (K:=K) rfl (pv 0)) (fun C s0 H0 fp=>⟨BP,(Fb (A6 (AR BX (AR (Ak (K:=K) rfl) (AR (Eb (K:=K) rfl) AC (pv 0)) (pv 4)) (pv 3)) (A6 (AR BX (AR (Ak (K:=K) rfl) (AR (Eb (K:=K) rfl) AC (pv 1)) (pv 4)) (pv 3)) (A6 (pv 2) AB))))⟩)))
   AA),?_⟩
 exact Ae (K:=K) (FV.ev (fv_map3 (cap:=[1,2]) (fe:=fun (pc3:(T3 Int Int (Tp Int)))=>(((some (((607:Int) * pc3.a)+EJ)).bind fun t10=>(some D8).bind fun t11=>Dm t10 t11).bind fun t14=>((some (((607:Int) * pc3.b)+EJ)).bind fun t12=>(some D8).bind fun t13=>Dm t12 t13).bind fun t15=>(some (T3.mk t14 t15 pc3.c)))) (Aw (A4 rfl AQ)) fun xc4 xc5 xc6 pc3 Gc1 sc2 rc7 rc8 rc9=>(GE (Dl (BO (ev_mulL (A4 rfl rc7)) (A4 rfl (Rp.mono sc2 r_shift_))) (A4 rfl (Rp.mono sc2 r_count_))) (Dl (BO (ev_mulL (A4 rfl rc8)) (A4 rfl (Rp.mono sc2 r_shift_))) (A4 rfl (Rp.mono sc2 r_count_))) (A4 rfl rc9)))) hm xt.gh fun v17 G18 H19 x20 r21=>q v17 G18 H19 (xt.trans x20) r21
theorem ok_law {f:Addr}{fd:FuncData}(F:Fun K "law" "law" GN f fd)(T:Txt mg)(D_law_sizes:DefOk P w K mg base "_law_sizes" 2 ["_law_script"] (spM K E1))(D_law_leads:DefOk P w K mg base "_law_leads" 2 ["_law_script","_law_bases","_law_sizes_here","_law_marks_here"] (spM K E7))(D_law_fair_rounds:DefOk P w K mg base "_law_fair_rounds" 1 ["_law_many","_law_whole","_law_leads_here"] (spM K CL))(D_law_all:DefOk P w K mg base "_law_all" 6 ["_law_net","_law_fair_here","_law_nodes"] (spM K FH))(D_law_cell_at:DefOk P w K mg base "_law_cell_at" 1 ["_law_script","_law_k"] (spM K AZ))(D_law_marks:DefOk P w K mg base "_law_marks" 2 ["_law_script","_law_k","_law_marks_here"] (spM K E3))(D_law_round:DefOk P w K mg base "_law_round" 1 ["_law_base","_law_size","_law_some","_law_number"] (spM K E5))(D_law_stream:DefOk P w K mg base "_law_stream" 1 ["_law_cell","_law_many"] (spM K CZ))(D_law_turned:DefOk P w K mg base "_law_turned" 1 ["_law_ways","_law_count","_law_shift"] (spM K Dp)):FnOk P w K mg base CX0 7 f fd ["_law_script"] (spM K mm_law):=by
 refine F.ok sc_law (fun vs H Q E h=>(Au h).trans rfl) (fun cdv A outer s H0 vs Q E hr h=>?_)
 obtain ⟨G0,⟨script_,⟨⟩⟩,res,sg0,⟨BL,_,rfl,AD,rfl⟩,hm,q⟩:=h
 replace AD:Rp.rel K G0 BL script_:=AD
 replace hm:m_law script_=some res:=hm
 unfold m_law at hm
 have xt:Ext G0 H0 G0 H0:=Ext.refl sg0
 refine ⟨_,(A5 (AN (i:=1) sc_law.nd rfl (Or.inr rfl) (Aa D_law_sizes hr (by decide) rfl (A6 (pv 0) AB)))
   (A5 (AN (i:=2) sc_law.nd rfl (Or.inl rfl) (AR BX (Aa D_law_cell_at hr (by decide) rfl (A6 (pv 0) (A6 AC AB))) AC))
   (A5 (Bg (i:=3) sc_law.nd rfl (Or.inl rfl) (cn:=["_law_sizes_here"]) (cap:=[1]) rfl ⟨by decide +kernel,rfl,by decide +kernel,Ay rfl⟩ rfl (by decide +kernel) ⟨⟨rfl,.inl rfl,rfl⟩,trivial⟩ (B7 rfl T.range_ (A6 (Ap (As (K:=K) rfl) (by rfl) T.len_ Bk (A6 (pv 1) AB)) AB)) (fun C s0 H0 fp=>⟨BP,(Ap (call_sumK (K:=K) rfl rfl) (by rfl) T.sum_ bt_sum (A6 (pe_slice (sl_anyK (K:=K) rfl) (pv 1) po_none (po_some (pv 0))) AB))⟩))
   (A5 (AN (i:=4) sc_law.nd rfl (Or.inr rfl) (Ap (call_sumK (K:=K) rfl rfl) (by rfl) T.sum_ bt_sum (A6 (pv 1) AB)))
   (A5 (AN (i:=5) sc_law.nd rfl (Or.inl rfl) (CH AB))
   (A5 (AN (i:=6) sc_law.nd rfl (Or.inl rfl) (CH AB))
   (A5 (BW PassesOwn.never rfl (B7 rfl T.range_ (A6 (Ap (As (K:=K) rfl) (by rfl) T.len_ Bk (A6 (pv 1) AB)) AB)) (Ah (i:=7) sc_law.nd rfl (Or.inl rfl)) (A5 (AN (i:=8) sc_law.nd rfl (Or.inl rfl) (Aa D_law_marks hr (by decide) rfl (A6 (pv 0) (A6 (pv 7) (A6 (pv 2) AB)))))
   (A5 (Bo (Cg (K:=K) rfl PySem.F.plainAttrs_list PySem.F.slot_list_append PySem.F.type_list_append BK (pv 6) (A6 (C7 DY (Ap (As (K:=K) rfl) (by rfl) T.len_ Bk (A6 (pv 8) AB)) (pv 2) (Ab _)) AB)))
   (A5 (AN (i:=5) sc_law.nd rfl (Or.inl rfl) (AR (Ak (K:=K) rfl) (pv 5) (Aa D_law_round hr (by decide) rfl (A6 (AI (A9 (K:=K) rfl) (pv 3) (pv 7) (fun _ _=>rfl)) (A6 (AI (A9 (K:=K) rfl) (pv 1) (pv 7) (fun _ _=>rfl)) (A6 (pv 8) (A6 (AR E6 (Aa D_law_cell_at hr (by decide) rfl (A6 (pv 0) (A6 (AR (Ak (K:=K) rfl) AC (pv 7)) AB))) AC) AB)))))))
   AA))))
   (A5 (AN (i:=9) sc_law.nd rfl (Or.inl rfl) (Aa D_law_leads hr (by decide) rfl (A6 (pv 0) (A6 (pv 3) (A6 (pv 1) (A6 (pv 2) AB))))))
   (A5 (AN (i:=10) sc_law.nd rfl (Or.inl rfl) (Aa D_law_fair_rounds hr (by decide) rfl (A6 (Ap (As (K:=K) rfl) (by rfl) T.len_ Bk (A6 (pv 1) AB)) (A6 (pv 6) (A6 (pv 9) AB)))))
   (A5 (AN (i:=5) sc_law.nd rfl (Or.inl rfl) (AR (Ak (K:=K) rfl) (pv 5) (pe_compN (xn:=["_law_one","_law_other","_law_way"]) (g:=gThree K) (cn:=[]) (cap:=[]) rfl ⟨by decide +kernel,rfl,by decide +kernel,Ay rfl⟩ gat3 (fun C s0 H0 fp=>pg3 rfl rfl rfl rfl (by decide +kernel)) (by decide +kernel) trivial (Av (K:=K) rfl (pv 9)) (fun C s0 H0 fp=>⟨BP,(pv 2)⟩))))
   (A5 (AN (i:=11) sc_law.nd rfl (Or.inl rfl) (AR BX (AR E6 (Aa D_law_cell_at hr (by decide) rfl (A6 (pv 0) (A6 AC AB))) AC) AC))
   (A5 (Bc (Ag DY (AR BX (AR E6 (Aa D_law_cell_at hr (by decide) rfl (A6 (pv 0) (A6 AC AB))) AC) AC) AC (Ab _)) (A5 (AN (i:=5) sc_law.nd rfl (Or.inl rfl) (pe_listRev (K:=K) rfl rfl (by rfl) T.list_ (by rfl) T.reversed_ (A6 (pv 5) AB)))
   AA) AA)
   (A5 (AN (i:=12) sc_law.nd rfl (Or.inl rfl) (AR op_repR (CH (A6 Dv AB)) (pv 4)))
   (A5 (BW PassesOwn.never rfl (B7 rfl T.range_ (A6 (Ap (As (K:=K) rfl) (by rfl) T.len_ Bk (A6 (pv 1) AB)) AB)) (Ah (i:=7) sc_law.nd rfl (Or.inl rfl)) (A5 (BW PassesOwn.never rfl (B7 rfl T.range_ (A6 (AI (A9 (K:=K) rfl) (pv 1) (pv 7) (fun _ _=>rfl)) AB)) (Ah (i:=13) sc_law.nd rfl (Or.inl rfl)) (A5 (Et (AI (A9 (K:=K) rfl) (pv 10) (pv 7) (fun _ _=>rfl)) (Ey (pv 12) (AR BX (AR (Ak (K:=K) rfl) (AR (Eb (K:=K) rfl) AC (AR (Ak (K:=K) rfl) (AI (A9 (K:=K) rfl) (pv 3) (pv 7) (fun _ _=>rfl)) (pv 13))) (pv 11)) (pv 4)) DR))
   AA))
   AA))
   (A5 (Bg (i:=14) sc_law.nd rfl (Or.inl rfl) (cn:=["_law_count"]) (cap:=[4]) rfl ⟨by decide +kernel,rfl,by decide +kernel,Ay rfl⟩ rfl (by decide +kernel) ⟨⟨rfl,.inl rfl,rfl⟩,trivial⟩ (Av (K:=K) rfl (Aa D_law_stream hr (by decide) rfl (A6 (Aa D_law_cell_at hr (by decide) rfl (A6 (pv 0) (A6 AC AB))) (A6 AC AB)))) (fun C s0 H0 fp=>⟨BP,(AR BX (pv 0) (pv 1))⟩))
   (A5 (Ad (Aa D_law_all hr (by decide) rfl (A6 (Fb (A6 (pv 4) (A6 (Aa D_law_turned hr (by decide) rfl (A6 (pv 5) (A6 (pv 4) (A6 (pv 11) AB)))) (A6 (pv 2) AB)))) (A6 (pv 12) (A6 (pv 14) AB)))))
   AA)))))))))))))))),?_⟩
 refine bE hm fun sizes_here_ h7 hm=>?_
 refine AU (K:=K) (Ef (m:=E1) (A4 rfl AD)) h7 xt.gh fun v2 G3 H4 x5 r6=>?_
 have xt:=xt.trans x5
 have AD:=Rp.mono x5.gg AD
 refine bE hm fun Aj h16 hm=>?_
 refine AU (K:=K) (Cn (B8 (m:=AZ) (A4 rfl AD) BI)) h16 xt.gh fun v11 G12 H13 x14 r15=>?_
 have xt:=xt.trans x14
 have AD:=Rp.mono x14.gg AD
 have r6:=Rp.mono x14.gg r6
 refine bE hm fun Ej h29 hm=>?_
 refine AU (K:=K) (FV.ev (D2 (cap:=[1]) (fe:=fun (k_:Int)=>((some (cutA sizes_here_ none (some k_))).bind fun t22=>sumO t22)) (By (C4 (A4 rfl r6))) fun xc21 k_ Gc18 sc19 rc20=>(ev_sum (FV.ev (fv_slice (A4 rfl (Rp.mono sc19 r6)) ov_none (ov_some (K:=K) (A4 rfl rc20))))))) h29 xt.gh fun v24 G25 H26 x27 r28=>?_
 have xt:=xt.trans x27
 have AD:=Rp.mono x27.gg AD
 have r6:=Rp.mono x27.gg r6
 have r15:=Rp.mono x27.gg r15
 refine bE hm fun D8 h36 hm=>?_
 refine AU (K:=K) (ev_sum (A4 rfl r6)) h36 xt.gh fun v31 G32 H33 x34 r35=>?_
 have xt:=xt.trans x34
 have AD:=Rp.mono x34.gg AD
 have r6:=Rp.mono x34.gg r6
 have r15:=Rp.mono x34.gg r15
 have r28:=Rp.mono x34.gg r28
 refine bE hm fun ways_ h42 hm=>?_
 refine AU (K:=K) (FV.ev (Cw (D3 (α:=(T3 Int Int (Tp Int)))))) h42 xt.gh fun v37 G38 H39 x40 r41=>?_
 have xt:=xt.trans x40
 have AD:=Rp.mono x40.gg AD
 have r6:=Rp.mono x40.gg r6
 have r15:=Rp.mono x40.gg r15
 have r28:=Rp.mono x40.gg r28
 have r35:=Rp.mono x40.gg r35
 refine bE hm fun GB h50 hm=>?_
 refine Cd (K:=K) (Cw (D3 (α:=Bool))) h50 xt.gh fun p43 vs44 G45 H46 x47 hz48 o49=>?_
 have hz48:=xt.hh.free hz48
 have xt:=xt.trans x47
 have AD:=Rp.mono x47.gg AD
 have r6:=Rp.mono x47.gg r6
 have r15:=Rp.mono x47.gg r15
 have r28:=Rp.mono x47.gg r28
 have r35:=Rp.mono x47.gg r35
 have r41:=Rp.mono x47.gg r41
 refine bE hm fun as52 h53 hm=>?_
 refine bE hm fun fl54 h55 hm=>?_
 refine Bi (K:=K) (RR:=fun r v G' H'=>Ext G0 H0 G' H'/\Rp.rel K G' v r) (By (C4 (A4 rfl r6))) h53 h55 xt.gh fun G56 H57 x58=>⟨fun s59 S' G' H'=>∃ (v60:V) (v61:Option V) (v62:Option V),Ext G0 H0 G' H'/\Same G56 G'/\S'=[some BL,some v2,some v11,some v24,some v31,some v60,some (V.ref p43),v61,v62,none,none,none,none,none,none]/\Rp.rel K G' v60 (s59.1:(List (T3 Int Int (Tp Int))))/\(∃ vs,Own K G' H' (V.ref p43) p43 vs s59.2),?_,?_,?_,?_,?_⟩
 ·have xt:=xt.trans x58
  have r41:=Rp.mono x58.gg r41
  have o49:=o49.ext x58
  exact ⟨v37,_,_,xt,(Same.refl _),rfl,r41,⟨_,o49⟩⟩
 ·rintro _ S' G' H' ⟨v60,v61,v62,xt,mk63,rfl,r64,⟨vs44,o49⟩⟩
  exact ⟨mk63,xt.gh⟩
 ·rintro xv65 a66 s59 _ G69 H70 fl67 - ⟨v60,v61,v62,xt,mk63,rfl,r64,⟨vs44,o49⟩⟩ rx68 hm D' kN71 kC72 kB73 kR74
  have AD:=Rp.mono (x58.gg.trans mk63) AD
  have r6:=Rp.mono (x58.gg.trans mk63) r6
  have r15:=Rp.mono (x58.gg.trans mk63) r15
  have r28:=Rp.mono (x58.gg.trans mk63) r28
  refine BF ?_
  refine bE hm fun some_ h83 hm=>?_
  refine AU (K:=K) (D6 (m:=E3) (A4 rfl AD) (A4 rfl rx68) (A4 rfl r15)) h83 xt.gh fun v78 G79 H80 x81 r82=>?_
  have xt:=xt.trans x81
  have mk63:=mk63.trans x81.gg
  have AD:=Rp.mono x81.gg AD
  have r6:=Rp.mono x81.gg r6
  have r15:=Rp.mono x81.gg r15
  have r28:=Rp.mono x81.gg r28
  have r64:=Rp.mono x81.gg r64
  have o49:=o49.ext x81
  have rx68:=Rp.mono x81.gg rx68
  refine bE hm fun a84 h85 hm=>?_
  refine bE hm fun z92 h86 hm=>?_
  refine Cu (K:=K) rfl o49 (DB (C4 (A4 rfl r82)) (A4 rfl r15)) h85 h86 xt.gh fun G87 H88 w89 x90 o91=>?_
  have xt:Ext G0 H0 G87 (upd H88 p43 (.lst (vs44++[w89]))):=(xt.trans x90).put hz48 o91.g
  have mk63:=mk63.trans x90.gg
  have AD:=Rp.mono x90.gg AD
  have r6:=Rp.mono x90.gg r6
  have r28:=Rp.mono x90.gg r28
  have r64:=Rp.mono x90.gg r64
  have rx68:=Rp.mono x90.gg rx68
  have r82:=Rp.mono x90.gg r82
  refine bE hm fun ways_ h111 hm=>?_
  refine AU (K:=K) (FV.ev (fv_cat (A4 rfl r64) (GF (m:=E5) (Al (A4 rfl r28) (A4 rfl rx68)) (Al (A4 rfl r6) (A4 rfl rx68)) (A4 rfl r82) (E8 (B8 (m:=AZ) (A4 rfl AD) (BO BI (A4 rfl rx68))))))) h111 xt.gh fun v106 G107 H108 x109 r110=>?_
  have xt:=xt.trans x109
  have mk63:=mk63.trans x109.gg
  have o91:=o91.ext x109
  cases hm
  exact kN71 _ _ _ _ rfl ⟨v106,_,_,xt,mk63,rfl,r110,⟨_,o91⟩⟩
 ·rintro s59 _ G117 H118 rfl ⟨v112,v113,v114,xt,mk115,rfl,r116,⟨vs44,o49⟩⟩
  refine Bp ?_
  have AD:=Rp.mono (x58.gg.trans mk115) AD
  have r6:=Rp.mono (x58.gg.trans mk115) r6
  have r15:=Rp.mono (x58.gg.trans mk115) r15
  have r28:=Rp.mono (x58.gg.trans mk115) r28
  have r35:=Rp.mono (x58.gg.trans mk115) r35
  refine bE hm fun BR h128 hm=>?_
  refine AU (K:=K) (GF (m:=E7) (A4 rfl AD) (A4 rfl r28) (A4 rfl r6) (A4 rfl r15)) h128 xt.gh fun v123 G124 H125 x126 r127=>?_
  have xt:=xt.trans x126
  have AD:=Rp.mono x126.gg AD
  have r6:=Rp.mono x126.gg r6
  have r15:=Rp.mono x126.gg r15
  have r28:=Rp.mono x126.gg r28
  have r35:=Rp.mono x126.gg r35
  have r116:=Rp.mono x126.gg r116
  have o49:=o49.ext x126
  have sf:=Same.new (o:=.lst vs44) o49.g
  have xt:=xt.frz hz48 o49.g o49.h
  have r132:=o49.tell
  have AD:=Rp.mono sf AD
  have r6:=Rp.mono sf r6
  have r15:=Rp.mono sf r15
  have r28:=Rp.mono sf r28
  have r35:=Rp.mono sf r35
  have r116:=Rp.mono sf r116
  have r127:=Rp.mono sf r127
  refine bE hm fun rounds_ h141 hm=>?_
  refine AU (K:=K) (D6 (m:=CL) (C4 (A4 rfl r6)) (A4 rfl r132) (A4 rfl r127)) h141 xt.gh fun v136 G137 H138 x139 r140=>?_
  have xt:=xt.trans x139
  have AD:=Rp.mono x139.gg AD
  have r6:=Rp.mono x139.gg r6
  have r15:=Rp.mono x139.gg r15
  have r28:=Rp.mono x139.gg r28
  have r35:=Rp.mono x139.gg r35
  have r116:=Rp.mono x139.gg r116
  have r127:=Rp.mono x139.gg r127
  refine bE hm fun ways_ h159 hm=>?_
  refine AU (K:=K) (FV.ev (fv_cat (A4 rfl r116) (FV.ev (fv_map3 (cap:=[]) (fe:=fun (pc144:(T3 Int Int (T3 Int Int (Tp Int))))=>(some pc144.c)) (Aw (A4 rfl r127)) fun xc145 xc146 xc147 pc144 Gc142 sc143 rc148 rc149 rc150=>(A4 rfl rc150))))) h159 xt.gh fun v154 G155 H156 x157 r158=>?_
  have xt:=xt.trans x157
  have AD:=Rp.mono x157.gg AD
  have r6:=Rp.mono x157.gg r6
  have r15:=Rp.mono x157.gg r15
  have r28:=Rp.mono x157.gg r28
  have r35:=Rp.mono x157.gg r35
  have r140:=Rp.mono x157.gg r140
  refine bE hm fun EJ h169 hm=>?_
  refine AU (K:=K) (Cn (E8 (B8 (m:=AZ) (A4 rfl AD) BI))) h169 xt.gh fun v164 G165 H166 x167 r168=>?_
  have xt:=xt.trans x167
  have AD:=Rp.mono x167.gg AD
  have r6:=Rp.mono x167.gg r6
  have r15:=Rp.mono x167.gg r15
  have r28:=Rp.mono x167.gg r28
  have r35:=Rp.mono x167.gg r35
  have r158:=Rp.mono x167.gg r158
  have r140:=Rp.mono x167.gg r140
  refine bE hm fun b175 h176 hm=>?_
  refine bE hm fun s180 h181 hm=>?_
  refine sv_join (fun S194 H193=>∃ (G192:Hp) (v183:V),Ext G0 H0 G192 H193/\Same G165 G192/\S194=[some BL,some v2,some v11,some v24,some v31,some v183,some (V.ref p43),v113,v114,some v123,some v136,some v164,none,none,none]/\Rp.rel K G192 v183 (s180:(List (T3 Int Int (Tp Int))))) (fun nx kn185=>?_) ?_
  ·refine Cv (Ac (K:=K) (DB (Cn (E8 (B8 (m:=AZ) (A4 rfl AD) BI))) BI)) h176 xt.gh fun G177 H178 x179=>?_
   have xt:=xt.trans x179
   have r158:=Rp.mono x179.gg r158
   have mk182:Same G165 G177:=x179.gg
   have hm:=h181
   cases b175 with
   | true =>
    replace hm:=cT hm
    refine CN ?_
    refine bE hm fun ways_ h191 hm=>?_
    refine AU (K:=K) (FV.ev (fv_listRev (A4 rfl r158))) h191 xt.gh fun v186 G187 H188 x189 r190=>?_
    have xt:=xt.trans x189
    have mk182:=mk182.trans x189.gg
    cases hm
    exact kn185 _ _ ⟨G187,v186,xt,mk182,rfl,r190⟩
   | false =>
    replace hm:=cF hm
    refine CG ?_
    cases hm
    exact kn185 _ _ ⟨G177,v154,xt,mk182,rfl,r158⟩
  ·rintro _ H193 ⟨G192,v183,xt,mk182,rfl,r184⟩
   have AD:=Rp.mono mk182 AD
   have r6:=Rp.mono mk182 r6
   have r15:=Rp.mono mk182 r15
   have r28:=Rp.mono mk182 r28
   have r35:=Rp.mono mk182 r35
   have r140:=Rp.mono mk182 r140
   have r168:=Rp.mono mk182 r168
   refine bE hm fun Bl h204 hm=>?_
   refine Cd (K:=K) (fv_rep (FV.ev (Cw (GI Fp (D3 (α:=Bool))))) (A4 rfl r35)) h204 xt.gh fun p197 vs198 G199 H200 x201 hz202 o203=>?_
   have hz202:=xt.hh.free hz202
   have xt:=xt.trans x201
   have AD:=Rp.mono x201.gg AD
   have r6:=Rp.mono x201.gg r6
   have r15:=Rp.mono x201.gg r15
   have r28:=Rp.mono x201.gg r28
   have r35:=Rp.mono x201.gg r35
   have r184:=Rp.mono x201.gg r184
   have r140:=Rp.mono x201.gg r140
   have r168:=Rp.mono x201.gg r168
   refine bE hm fun as206 h207 hm=>?_
   refine bE hm fun fl208 h209 hm=>?_
   refine Bi (K:=K) (RR:=fun r v G' H'=>Ext G0 H0 G' H'/\Rp.rel K G' v r) (By (C4 (A4 rfl r6))) h207 h209 xt.gh fun G210 H211 x212=>⟨fun s213 S' G' H'=>∃ (v214:Option V) (v215:Option V),Ext G0 H0 G' H'/\Same G210 G'/\S'=[some BL,some v2,some v11,some v24,some v31,some v183,some (V.ref p43),v214,v114,some v123,some v136,some v164,some (V.ref p197),v215,none]/\(∃ vs,Own K G' H' (V.ref p197) p197 vs s213),?_,?_,?_,?_,?_⟩
   ·have xt:=xt.trans x212
    have o203:=o203.ext x212
    exact ⟨_,_,xt,(Same.refl _),rfl,⟨_,o203⟩⟩
   ·rintro _ S' G' H' ⟨v214,v215,xt,mk216,rfl,⟨vs198,o203⟩⟩
    exact ⟨mk216,xt.gh⟩
   ·rintro xv217 a218 s213 _ G221 H222 fl219 - ⟨v214,v215,xt,mk216,rfl,⟨vs198,o203⟩⟩ rx220 hm D' kN223 kC224 kB225 kR226
    have r6:=Rp.mono (x212.gg.trans mk216) r6
    have r28:=Rp.mono (x212.gg.trans mk216) r28
    have r35:=Rp.mono (x212.gg.trans mk216) r35
    have r140:=Rp.mono (x212.gg.trans mk216) r140
    have r168:=Rp.mono (x212.gg.trans mk216) r168
    refine BF ?_
    refine bE hm fun as230 h231 hm=>?_
    refine bE hm fun fl232 h233 hm=>?_
    refine Bi (K:=K) (RR:=fun r v G' H'=>Ext G0 H0 G' H'/\Rp.rel K G' v r) (By (Al (A4 rfl r6) (A4 rfl rx220))) h231 h233 xt.gh fun G234 H235 x236=>⟨fun s237 S' G' H'=>∃ (v238:Option V),Ext G0 H0 G' H'/\Same G234 G'/\S'=[some BL,some v2,some v11,some v24,some v31,some v183,some (V.ref p43),some xv217,v114,some v123,some v136,some v164,some (V.ref p197),v238,none]/\(∃ vs,Own K G' H' (V.ref p197) p197 vs s237),?_,?_,?_,?_,?_⟩
    ·have xt:=xt.trans x236
     have o203:=o203.ext x236
     exact ⟨_,xt,(Same.refl _),rfl,⟨_,o203⟩⟩
    ·rintro _ S' G' H' ⟨v238,xt,mk239,rfl,⟨vs198,o203⟩⟩
     exact ⟨mk239,xt.gh⟩
    ·rintro xv240 a241 s237 _ G244 H245 fl242 - ⟨v238,xt,mk239,rfl,⟨vs198,o203⟩⟩ rx243 hm D' kN246 kC247 kB248 kR249
     have r28:=Rp.mono (x236.gg.trans mk239) r28
     have r35:=Rp.mono (x236.gg.trans mk239) r35
     have r140:=Rp.mono (x236.gg.trans mk239) r140
     have r168:=Rp.mono (x236.gg.trans mk239) r168
     have rx220:=Rp.mono (x236.gg.trans mk239) rx220
     refine BF ?_
     refine bE hm fun a259 h260 hm=>?_
     refine bE hm fun k261 h262 hm=>?_
     refine bE hm fun z270 h263 hm=>?_
     refine D9 (K:=K) rfl o203 (Al (A4 rfl r140) (A4 rfl rx220)) h260 (Dl (BO (ev_mulL (BO (Al (A4 rfl r28) (A4 rfl rx220)) (A4 rfl rx243))) (A4 rfl r168)) (A4 rfl r35)) h262 h263 xt.gh fun G264 H265 w266 j267 x268 o269=>?_
     have xt:Ext G0 H0 G264 (upd H265 p197 (.lst (vs198.set j267 w266))):=(xt.trans x268).put hz202 o269.g
     have mk239:=mk239.trans x268.gg
     cases hm
     exact kN246 _ _ _ _ rfl ⟨_,xt,mk239,rfl,⟨_,o269⟩⟩
    ·rintro s237 _ G273 H274 rfl ⟨v271,xt,mk272,rfl,⟨vs198,o203⟩⟩
     refine Bp ?_
     have mk216:=(mk216.trans x236.gg).trans mk272
     cases hm
     exact kN223 _ _ _ _ rfl ⟨_,_,xt,mk216,rfl,⟨_,o203⟩⟩
    ·rintro r' v' G' H' rfl rl
     cases hm
     exact kR226 _ v' G' H' rfl rl
   ·rintro s213 _ G278 H279 rfl ⟨v275,v276,xt,mk277,rfl,⟨vs198,o203⟩⟩
    refine Bp ?_
    have AD:=Rp.mono (x212.gg.trans mk277) AD
    have r15:=Rp.mono (x212.gg.trans mk277) r15
    have r35:=Rp.mono (x212.gg.trans mk277) r35
    have r184:=Rp.mono (x212.gg.trans mk277) r184
    have r168:=Rp.mono (x212.gg.trans mk277) r168
    refine bE hm fun Fu h296 hm=>?_
    refine AU (K:=K) (FV.ev (D2 (cap:=[4]) (fe:=fun (AL:Int)=>((some AL).bind fun t288=>(some D8).bind fun t289=>Dm t288 t289)) (Aw (B8 (m:=CZ) (B8 (m:=AZ) (A4 rfl AD) BI) BI)) fun xc287 AL Gc284 sc285 rc286=>(Dl (A4 rfl rc286) (A4 rfl (Rp.mono sc285 r35))))) h296 xt.gh fun v291 G292 H293 x294 r295=>?_
    have xt:=xt.trans x294
    have r15:=Rp.mono x294.gg r15
    have r35:=Rp.mono x294.gg r35
    have r184:=Rp.mono x294.gg r184
    have r168:=Rp.mono x294.gg r168
    have o203:=o203.ext x294
    have sf:=Same.new (o:=.lst vs198) o203.g
    have xt:=xt.frz hz202 o203.g o203.h
    have r304:=o203.tell
    have r15:=Rp.mono sf r15
    have r35:=Rp.mono sf r35
    have r184:=Rp.mono sf r184
    have r168:=Rp.mono sf r168
    have r295:=Rp.mono sf r295
    exact Ae (K:=K) (D6 (m:=FH) (GE (A4 rfl r35) (D6 (m:=Dp) (A4 rfl r184) (A4 rfl r35) (A4 rfl r168)) (A4 rfl r15)) (A4 rfl r304) (A4 rfl r295)) hm xt.gh fun v312 G313 H314 x315 r316=>q v312 G313 H314 (xt.trans x315) r316
   ·rintro r' v' G' H' rfl rl
    cases hm
    exact q v' G' H' rl.1 rl.2
 ·rintro r' v' G' H' rfl rl
  cases hm
  exact q v' G' H' rl.1 rl.2
end
theorem cut_hi {α:Type}(xs:List α)(k:Nat):cutA xs none (some (k:Int))=xs.take k:=by
 unfold cutA
 rw [HT.sIx_none,HT.sIx_nat,List.drop_zero,Nat.sub_zero]
 by_cases h:k<=xs.length
 ·rw [Nat.min_eq_left h]
 ·rw [Nat.min_eq_right (by omega),List.take_length,List.take_of_length_le (by omega)]
noncomputable abbrev Way:=T3 Int Int (Tp Int)
noncomputable abbrev Net:=T3 Int (List (T3 Int Int (Tp Int))) Int
noncomputable def WayIn (k:Int)(w:Way):Prop:=(0<=w.a/\w.a<k)/\0<=w.b/\w.b<k
inductive Rch (E:Int->Int->Prop):Int->Int->Prop where
 | refl (u:Int):Rch E u u
 | tail {u v w:Int}:Rch E u v->E v w->Rch E u w
theorem Rch.trans {E:Int->Int->Prop}{u v w:Int}(h1:Rch E u v)(h2:Rch E v w):Rch E u w:=by
 induction h2 with
 | refl=>exact h1
 | tail _ e ih=>exact .tail ih e
theorem Rch.one {E:Int->Int->Prop}{u v:Int}(h:E u v):Rch E u v:=.tail (.refl _) h
theorem Rch.head {E:Int->Int->Prop}{u v w:Int}(h1:E u v)(h2:Rch E v w):Rch E u w:=(Rch.one h1).trans h2
theorem Rch.rev {E F:Int->Int->Prop}(hf:∀ a b,E a b->F b a){u v:Int}(h:Rch E u v):Rch F v u:=by
 induction h with
 | refl=>exact .refl _
 | tail _ e ih=>exact .head (hf _ _ e) ih
theorem Rch.closed {E:Int->Int->Prop}{A:Int->Prop}(hc:∀ u v,A u->E u v->A v){u v:Int}(h:Rch E u v)(hu:A u):A v:=by
 induction h with
 | refl=>exact hu
 | tail _ e ih=>exact hc _ _ ih e
theorem Rch.exit {E:Int->Int->Prop}{A:Int->Prop}{x b:Int}(h:Rch E x b)(hx:A x)(hb:¬A b):∃ u v,Rch E x u/\A u/\E u v/\¬A v/\Rch E v b:=by
 induction h with
 | refl=>exact absurd hx hb
 | @tail v w h e ih =>
  by_cases hv:A v
  ·exact ⟨v,w,h,hv,e,hb,.refl _⟩
  ·obtain ⟨u,v',h1,h2,h3,h4,h5⟩:=ih hv
   exact ⟨u,v',h1,h2,h3,h4,.tail h5 e⟩
structure Adj (l:List (List Int))(N:Nat)(E:Int->Int->Prop)(M:Nat):Prop where
 len:l.length=N
 mem:∀ (k:Nat) r,l[k]? = some r->∀ v,v∈r ↔ E k v
 rng:∀ (k:Nat) r,l[k]? = some r->∀ v∈r,0<=v/\v<N
 sum:(l.map List.length).sum<=M
noncomputable def Ed (ws:List Way)(u v:Int):Prop:=∃ w∈ws,w.a=u/\w.b=v
noncomputable def Be (ws:List Way)(u v:Int):Prop:=∃ w∈ws,w.b=u/\w.a=v
structure NetW (n:Net):Prop where
 a0:0<=n.a
 a1:n.a<=10000
 c0:0<=n.c
 c1:n.c<=1000
 ac:n.a * (n.c+1)<=1000000
 l:n.b.length<=100000
 w:∀ x∈n.b,WayIn n.a x
 z:(n.b.map fun w=>w.c.l.length).sum<=10000000
theorem ixN_nat {n j:Nat}(h:j<n):ixN n (j:Int)=some j:=by
 unfold ixN
 rw [if_pos (by omega),if_pos (by omega)]
 simp
theorem ok_app {α:Type}{ls:List (List α)}{j:Nat}{l:List α}{a:α}{P:List (List α)->Prop}(hj:ls[j]? = some l)(hl:l.length<sizeLine)(h:P (ls.set j (l++[a]))):OK (appAt ls (j:Int) a) P:=by
 have hlt:=(List.getElem?_eq_some_iff.mp hj).1
 unfold appAt
 rw [ixN_nat hlt]
 simp only [AX]
 rw [hj]
 simp only [AX]
 exact A7 (D4 hl (AE h))
theorem Dy {α:Type}{as:List α}{j:Nat}{a:α}{P:List α->Prop}(hj:j<as.length)(h:P (as.set j a)):OK (Fw as (j:Int) a) P:=by
 unfold Fw
 rw [ixN_nat hj]
 exact AE h
theorem sum_set {ls:List (List Int)}{j:Nat}{l l':List Int}(hj:ls[j]? = some l):((ls.set j l').map List.length).sum+l.length=(ls.map List.length).sum+l'.length:=by
 induction ls generalizing j with
 | nil=>simp at hj
 | cons x ls ih =>
  cases j with
  | zero=>simp at hj;subst hj;simp;omega
  | succ j =>
   have:=ih (j:=j) (by simpa using hj)
   simp only [List.set_cons_succ,List.map_cons,List.sum_cons]
   omega
structure Laid {α:Type}(ls:List (List Int))(N:Nat)(xs:List α)(i:Nat)(p:α->Bool)(f g:α->Int):Prop where
 len:ls.length=N
 mem:∀ (k:Nat) r,ls[k]? = some r->∀ v,v∈r ↔ ∃ x∈xs.take i,p x=true/\f x=k/\g x=v
 sum:(ls.map List.length).sum<=i
theorem Laid.skip {α:Type}{ls:List (List Int)}{N i:Nat}{xs:List α}{p:α->Bool}{f g:α->Int}{x:α}(h:Laid ls N xs i p f g)(hx:xs[i]? = some x)(hp:p x=false):Laid ls N xs (i+1) p f g:=by
 refine ⟨h.len,fun k r hr v=>?_,Nat.le_succ_of_le h.sum⟩
 rw [h.mem k r hr v,List.take_add_one,hx]
 constructor
 ·rintro ⟨y,hy,e⟩
  exact ⟨y,List.mem_append_left _ hy,e⟩
 ·rintro ⟨y,hy,e⟩
  rcases List.mem_append.mp hy with hy|hy
  ·exact ⟨y,hy,e⟩
  ·cases List.mem_singleton.mp hy
   rw [hp] at e
   cases e.1
theorem Laid.step {α:Type}{ls:List (List Int)}{N i:Nat}{xs:List α}{p:α->Bool}{f g:α->Int}{x:α}(h:Laid ls N xs i p f g)(hx:xs[i]? = some x)(hp:p x=true)(h0:0<=f x)(h1:f x<N)(hi:i<1000000) :
  OK (appAt ls (f x) (g x)) fun ls'=>Laid ls' N xs (i+1) p f g:=by
 have hs:sizeLine=16777216:=sizeLine_eq
 obtain ⟨j,hj⟩:=Int.eq_ofNat_of_zero_le h0
 have hlt:j<ls.length:=by have:=h.len;omega
 have hl:ls[j]? = some ls[j]:=List.getElem?_eq_getElem hlt
 have hsz:ls[j].length<=i:=by
  have:=sum_set (l':=[]) hl
  have:=h.sum
  simp at *
  omega
 rw [hj]
 refine ok_app hl (by omega) ⟨by rw [List.length_set];exact h.len,fun k r hr v=>?_,?_⟩
 ·rw [List.getElem?_set] at hr
  rw [List.take_add_one,hx]
  by_cases hk:j=k
  ·subst hk
   rw [if_pos rfl,if_pos hlt] at hr
   cases hr
   rw [List.mem_append,h.mem j _ hl v,List.mem_singleton]
   constructor
   ·rintro (⟨y,hy,e⟩|e)
    ·exact ⟨y,List.mem_append_left _ hy,e⟩
    ·exact ⟨x,List.mem_append_right _ (by simp),hp,hj,e.symm⟩
   ·rintro ⟨y,hy,e⟩
    rcases List.mem_append.mp hy with hy|hy
    ·exact .inl ⟨y,hy,e⟩
    ·cases List.mem_singleton.mp hy
     exact .inr e.2.2.symm
  ·rw [if_neg hk] at hr
   rw [h.mem k r hr v]
   constructor
   ·rintro ⟨y,hy,e⟩
    exact ⟨y,List.mem_append_left _ hy,e⟩
   ·rintro ⟨y,hy,e⟩
    rcases List.mem_append.mp hy with hy|hy
    ·exact ⟨y,hy,e⟩
    ·cases List.mem_singleton.mp hy
     have:=e.2.1
     omega
 ·have:=sum_set (l':=ls[j]++[g x]) hl
  have:=h.sum
  simp only [List.length_append,List.length_singleton] at *
  omega
theorem laid0 {α:Type}{N:Nat}{xs:List α}{p:α->Bool}{f g:α->Int}:Laid ((List.range N).map fun _=>([]:List Int)) N xs 0 p f g:=by
 refine ⟨by simp,fun k r hr v=>?_,?_⟩
 ·have:r=[]:=by
   have:=List.mem_of_getElem? hr
   obtain ⟨_,_,e⟩:=List.mem_map.mp this
   exact e.symm
  subst this
  simp
 ·have:∀ l:List Nat,((l.map fun _=>([]:List Int)).map List.length).sum=0:=by
   intro l
   induction l with
   | nil=>rfl
   | cons a l ih=>simpa using ih
  rw [this]
  exact Nat.le_refl 0
theorem range_map0 {N:Nat}:((List.range N).map fun (i:Nat)=>(0:Int)+(i:Int)).map (fun _=>([]:List Int))=(List.range N).map fun _=>([]:List Int):=by
 rw [List.map_map]
 rfl
theorem ends_ok {n:Net}(hn:NetW n):OK (EF n) fun l=>Adj l n.a.toNat (Ed n.b) n.b.length:=by
 have hs:sizeLine=16777216:=sizeLine_eq
 have h0:=hn.a0
 have h1:=hn.a1
 have hl:=hn.l
 obtain ⟨N,hN⟩:=Int.eq_ofNat_of_zero_le h0
 unfold EF
 simp only [Option.bind_assoc,AX,AS]
 refine A7 (DV (n:=N) (by omega) (by omega) (by omega) ?_)
 rw [range_map0]
 refine A7 (BA (fun i ls=>Laid ls N n.b i (fun _=>true) (fun w=>w.a) (fun w=>w.b)) laid0 (fun i w ls hw h=>?_) fun ls h=>AE ⟨by rw [h.len];omega,fun k r hr v=>?_,fun k r hr v hv=>?_,h.sum⟩)
 ·have hi:=(List.getElem?_eq_some_iff.mp hw).1
  have:=(hn.w w (List.mem_of_getElem? hw)).1
  exact A7 ((h.step hw rfl this.1 (by omega) (by omega)).mono fun ls' h'=>AE ⟨ls',rfl,h'⟩)
 ·rw [h.mem k r hr v,List.take_length]
  constructor
  ·rintro ⟨w,hw,_,e1,e2⟩
   exact ⟨w,hw,e1,e2⟩
  ·rintro ⟨w,hw,e1,e2⟩
   exact ⟨w,hw,rfl,e1,e2⟩
 ·rw [h.mem k r hr v,List.take_length] at hv
  obtain ⟨w,hw,_,e1,e2⟩:=hv
  have:=(hn.w w hw).2
  omega
theorem begins_ok {n:Net}(hn:NetW n):OK (Ci n) fun l=>Adj l n.a.toNat (Be n.b) n.b.length:=by
 have hs:sizeLine=16777216:=sizeLine_eq
 have h0:=hn.a0
 have h1:=hn.a1
 have hl:=hn.l
 obtain ⟨N,hN⟩:=Int.eq_ofNat_of_zero_le h0
 unfold Ci
 simp only [Option.bind_assoc,AX,AS]
 refine A7 (DV (n:=N) (by omega) (by omega) (by omega) ?_)
 rw [range_map0]
 refine A7 (BA (fun i ls=>Laid ls N n.b i (fun _=>true) (fun w=>w.b) (fun w=>w.a)) laid0 (fun i w ls hw h=>?_) fun ls h=>AE ⟨by rw [h.len];omega,fun k r hr v=>?_,fun k r hr v hv=>?_,h.sum⟩)
 ·have hi:=(List.getElem?_eq_some_iff.mp hw).1
  have:=(hn.w w (List.mem_of_getElem? hw)).2
  exact A7 ((h.step hw rfl this.1 (by omega) (by omega)).mono fun ls' h'=>AE ⟨ls',rfl,h'⟩)
 ·rw [h.mem k r hr v,List.take_length]
  constructor
  ·rintro ⟨w,hw,_,e1,e2⟩
   exact ⟨w,hw,e1,e2⟩
  ·rintro ⟨w,hw,e1,e2⟩
   exact ⟨w,hw,rfl,e1,e2⟩
 ·rw [h.mem k r hr v,List.take_length] at hv
  obtain ⟨w,hw,_,e1,e2⟩:=hv
  have:=(hn.w w hw).1
  omega
theorem ok_atZ {α:Type}{l:List α}{i:Int}{P:α->Prop}(h0:0<=i)(h1:i<l.length)(h:∀ (k:Nat) x,i=k->l[k]? = some x->P x):OK (atI l i) P:=by
 obtain ⟨k,rfl⟩:=Int.eq_ofNat_of_zero_le h0
 exact BZ (by omega) fun x hx=>h k x rfl hx
theorem BD {α:Type}[DecidableEq α]:∀ {l m:List α},l.Nodup->(∀ x∈l,x∈m)->l.length<=m.length
 | [],_,_,_=>Nat.zero_le _
 | a::l,m,nd,h=>by
  have ⟨h1,h2⟩:=List.nodup_cons.mp nd
  have:=BD (l:=l) (m:=m.erase a) h2 fun x hx=>by
   have ne:x≠a:=fun e=>h1 (e ▸ hx)
   exact (List.mem_erase_of_ne ne).mpr (h x (List.mem_cons_of_mem _ hx))
  have hm:a∈m:=h a (List.mem_cons_self ..)
  rw [List.length_erase_of_mem hm] at this
  have:=List.length_pos_of_mem hm
  rw [List.length_cons]
  omega
noncomputable def lft:List (List Int)->List Int->Nat
 | r::ls,t::ts=>(r.length - t.toNat)+lft ls ts
 | _,_=>0
theorem lft_set:∀ {ls:List (List Int)}{ts:List Int}{j:Nat}{r:List Int}{t:Int},ls[j]? = some r->ts[j]? = some t->0<=t->t<r.length->lft ls (ts.set j (t+1))+1=lft ls ts
 | [],_,_,_,_,h,_,_,_=>by simp at h
 | _::_,[],_,_,_,_,h,_,_=>by simp at h
 | x::ls,y::ts,0,r,t,h1,h2,h3,h4=>by
  simp at h1 h2
  subst h1;subst h2
  rw [List.set_cons_zero]
  unfold lft
  omega
 | x::ls,y::ts,j+1,r,t,h1,h2,h3,h4=>by
  have:=lft_set (ls:=ls) (ts:=ts) (j:=j) (by simpa using h1) (by simpa using h2) h3 h4
  rw [List.set_cons_succ]
  unfold lft
  omega
theorem lft_le:∀ (ls:List (List Int)) (ts:List Int),lft ls ts<=(ls.map List.length).sum
 | [],_=>Nat.zero_le _
 | _::_,[]=>Nat.zero_le _
 | r::ls,t::ts=>by
  have:=lft_le ls ts
  unfold lft
  rw [List.map_cons,List.sum_cons]
  omega
noncomputable def Fin (E:Int->Int->Prop)(order:List Int):Prop:=∀ p x s,order=p++x::s->∀ u v,(u∈p\/u=x)->E u v->v∈p\/v=x\/Rch E v x
structure Dfs (ls:List (List Int))(N:Nat)(E:Int->Int->Prop)(seen:List Bool)(tried:List Int)(order path:List Int):Prop where
 sl:seen.length=N
 tl:tried.length=N
 tr:∀ (k:Nat) t,tried[k]? = some t->0<=t/\∀ r,ls[k]? = some r->t<=r.length
 rg:∀ u,u∈order\/u∈path->0<=u/\u<N
 sn:∀ (k:Nat) b,seen[k]? = some b->(b=true ↔ ((k:Int)∈order\/(k:Int)∈path))
 nd:(order++path).Nodup
 od:∀ u∈order,∀ v,E u v->v∈order\/v∈path
 pt:∀ (k:Nat) r t,(k:Int)∈path->ls[k]? = some r->tried[k]? = some t->∀ v∈r.take t.toNat,v∈order\/v∈path
 ch:path.Pairwise (Rch E)
 fn:Fin E order
section
variable {ls:List (List Int)}{N M:Nat}{E:Int->Int->Prop}{seen:List Bool}{tried order path:List Int}
theorem Dfs.pop {k:Nat}{r:List Int}(A:Adj ls N E M)(h:Dfs ls N E seen tried order (path++[(k:Int)]))(hr:ls[k]? = some r)(ht:tried[k]? = some (r.length:Int)):Dfs ls N E seen tried (order++[(k:Int)]) path:=by
 have out:∀ u,u∈order\/u=(k:Int)->∀ v,E u v->v∈order\/v∈path++[(k:Int)]:=by
  rintro u (hu|rfl) v e
  ·exact h.od u hu v e
  ·refine h.pt k r _ (by simp) hr ht v ?_
   rw [Int.toNat_natCast,List.take_length]
   exact (A.mem k r hr v).mpr e
 have mv:∀ u,(u∈order\/u∈path++[(k:Int)]) ↔ (u∈order++[(k:Int)]\/u∈path):=fun u=>by
  simp only [List.mem_append,List.mem_singleton]
  constructor
  ·rintro (h|h|h)
   ·exact .inl (.inl h)
   ·exact .inr h
   ·exact .inl (.inr h)
  ·rintro ((h|h)|h)
   ·exact .inl h
   ·exact .inr (.inr h)
   ·exact .inr (.inl h)
 refine ⟨h.sl,h.tl,h.tr,fun u hu=>h.rg u ((mv u).mpr hu),fun j b hj=>(h.sn j b hj).trans (mv j),?_,?_,?_,(List.pairwise_append.mp h.ch).1,?_⟩
 ·have:=h.nd
  have pm:(order++[(k:Int)]++path).Perm (order++(path++[(k:Int)])):=by
   rw [List.append_assoc]
   exact List.Perm.append_left _ List.perm_append_comm
  exact pm.nodup_iff.mpr this
 ·intro u hu v e
  refine (mv v).mp (out u ?_ v e)
  rcases List.mem_append.mp hu with hu|hu
  ·exact .inl hu
  ·exact .inr (List.mem_singleton.mp hu)
 ·intro j r' t hj hr' ht' v hv
  exact (mv v).mp (h.pt j r' t (List.mem_append_left _ hj) hr' ht' v hv)
 ·intro p x s hs u v hu e
  rcases List.eq_nil_or_concat s with rfl | ⟨s',y,rfl⟩
  ·obtain ⟨rfl,hx⟩:=List.append_inj' hs rfl
   cases hx
   rcases out u hu v e with hv|hv
   ·exact .inl hv
   ·rcases List.mem_append.mp hv with hv|hv
    ·exact .inr (.inr ((List.pairwise_append.mp h.ch).2.2 v hv _ (by simp)))
    ·exact .inr (.inl (List.mem_singleton.mp hv))
  ·have hs':order++[(k:Int)]=(p++x::s')++[y]:=by rw [hs,List.append_assoc,List.concat_eq_append];rfl
   obtain ⟨ho,_⟩:=List.append_inj' hs' rfl
   exact h.fn p x s' ho u v hu e
theorem Dfs.step {k:Nat}{r:List Int}{t:Nat}{o:Int}(A:Adj ls N E M)(h:Dfs ls N E seen tried order (path++[(k:Int)]))(hr:ls[k]? = some r)(ht:tried[k]? = some (t:Int))(ho:r[t]? = some o)(hs:o∈order\/o∈path++[(k:Int)]) :
  Dfs ls N E seen (tried.set k ((t:Int)+1)) order (path++[(k:Int)]):=by
 have hlt:=(List.getElem?_eq_some_iff.mp ho).1
 have hk:=(List.getElem?_eq_some_iff.mp ht).1
 refine ⟨h.sl,by rw [List.length_set];exact h.tl,fun j t' hj=>?_,h.rg,h.sn,h.nd,h.od,fun j r' t' hj hr' ht' v hv=>?_,h.ch,h.fn⟩
 ·rw [List.getElem?_set] at hj
  by_cases e:k=j
  ·subst e
   rw [if_pos rfl,if_pos hk] at hj
   cases hj
   refine ⟨by omega,fun r' hr'=>?_⟩
   rw [hr] at hr'
   cases hr'
   omega
  ·rw [if_neg e] at hj
   exact h.tr j t' hj
 ·rw [List.getElem?_set] at ht'
  by_cases e:k=j
  ·subst e
   rw [if_pos rfl,if_pos hk] at ht'
   cases ht'
   rw [hr] at hr'
   cases hr'
   have:((t:Int)+1).toNat=t+1:=by omega
   rw [this,List.take_add_one,ho] at hv
   rcases List.mem_append.mp hv with hv|hv
   ·exact h.pt k r t (by simp) hr ht v (by rw [Int.toNat_natCast];exact hv)
   ·cases List.mem_singleton.mp hv
    exact hs
  ·rw [if_neg e] at ht'
   exact h.pt j r' t' hj hr' ht' v hv
theorem Dfs.push {k:Nat}{o:Nat}(A:Adj ls N E M)(h:Dfs ls N E seen tried order path)(hp:∀ x,path.getLast? = some x->E x (o:Int))(ho:seen[o]? = some false)(ht:tried[o]? = some 0):Dfs ls N E (seen.set o true) tried order (path++[(o:Int)]):=by
 have hlt:=(List.getElem?_eq_some_iff.mp ho).1
 have hno:¬((o:Int)∈order\/(o:Int)∈path):=fun z=>by
  have:=(h.sn o false ho).mpr z
  cases this
 have mv:∀ u,(u∈order\/u∈path)->(u∈order\/u∈path++[(o:Int)]):=fun u hu=>hu.imp id (List.mem_append_left _)
 refine ⟨by rw [List.length_set];exact h.sl,h.tl,h.tr,?_,fun j b hj=>?_,?_,fun u hu v e=>mv v (h.od u hu v e),?_,?_,h.fn⟩
 ·rintro u (hu|hu)
  ·exact h.rg u (.inl hu)
  ·rcases List.mem_append.mp hu with hu|hu
   ·exact h.rg u (.inr hu)
   ·cases List.mem_singleton.mp hu
    have:=h.sl
    omega
 ·rw [List.getElem?_set] at hj
  by_cases e:o=j
  ·subst e
   rw [if_pos rfl,if_pos hlt] at hj
   cases hj
   simp
  ·rw [if_neg e] at hj
   rw [h.sn j b hj,List.mem_append,List.mem_singleton]
   constructor
   ·exact fun hu=>hu.imp id .inl
   ·rintro (hu|hu|hu)
    ·exact .inl hu
    ·exact .inr hu
    ·omega
 ·rw [<- List.append_assoc]
  refine List.nodup_append.mpr ⟨h.nd,by simp,fun a ha b hb z=>?_⟩
  cases List.mem_singleton.mp hb
  subst z
  exact hno (List.mem_append.mp ha)
 ·intro j r t hj hr ht' v hv
  rcases List.mem_append.mp hj with hj|hj
  ·exact mv v (h.pt j r t hj hr ht' v hv)
  ·have hj:=List.mem_singleton.mp hj
   have e:j=o:=by omega
   subst e
   rw [ht] at ht'
   cases ht'
   simp at hv
 ·refine List.pairwise_append.mpr ⟨h.ch,by simp,fun a ha b hb=>?_⟩
  cases List.mem_singleton.mp hb
  rcases List.eq_nil_or_concat path with hn | ⟨q,x,hq⟩
  ·rw [hn] at ha
   cases ha
  ·rw [List.concat_eq_append] at hq
   subst hq
   have e:=hp x (by simp)
   rcases List.mem_append.mp ha with ha|ha
   ·exact .tail ((List.pairwise_append.mp h.ch).2.2 a ha x (by simp)) e
   ·cases List.mem_singleton.mp ha
    exact .one e
end
theorem leaving_ok {ls:List (List Int)}{N M:Nat}{E:Int->Int->Prop}(A:Adj ls N E M)(hN:N<=10000)(hM:M<=100000):OK (Bu ls) fun order=>order.Nodup/\(∀ u,u∈order ↔ 0<=u/\u<N)/\Fin E order:=by
 have hs:sizeLine=16777216:=sizeLine_eq
 have hlen:=A.len
 unfold Bu
 simp only [Option.bind_assoc,AX,AS]
 refine A7 (DZ (g:=fun _=>false) (fun _ _=>rfl) (A7 (DZ (g:=fun _=>(0:Int)) (fun _ _=>rfl) ?_)))
 refine A7 (DV (n:=N) (by omega) (by omega) (by omega) ?_)
 refine A7 (BA (fun i (s:List Bool × List Int × List Int)=>Dfs ls N E s.1 s.2.1 s.2.2 []/\(∀ j:Nat,j<i->(j:Int)∈s.2.2)/\∀ j:Nat,s.1[j]? = some false->s.2.1[j]? = some 0) ⟨⟨by simp [hlen],by simp [hlen],?_,?_,?_,by simp,?_,?_,by simp,?_⟩,?_,?_⟩ (fun i a s ha hI=>?_) fun s hI=>AE ⟨?_,?_,hI.1.fn⟩)
 ·intro k t hk
  obtain ⟨_,_,e⟩:=List.mem_map.mp (List.mem_of_getElem? hk)
  subst e
  exact ⟨by omega,fun r _=>by omega⟩
 ·rintro u (h|h)<;>cases h
 ·intro k b hk
  obtain ⟨_,_,e⟩:=List.mem_map.mp (List.mem_of_getElem? hk)
  subst e
  simp
 ·intro u hu
  cases hu
 ·intro k r t hk
  cases hk
 ·intro p x s h
  have:=congrArg List.length h
  simp at this
 ·intro j hj
  omega
 ·intro j hj
  have:=(List.getElem?_eq_some_iff.mp hj).1
  rw [List.length_map] at this
  rw [List.getElem?_map,List.getElem?_eq_getElem this]
  rfl
 ·obtain ⟨hi,rfl⟩:i<N/\(0:Int)+(i:Int)=a:=by
   have:=List.getElem?_eq_some_iff.mp ha
   simpa using this
  obtain ⟨hD,hdone,hfr⟩:=hI
  rw [Int.zero_add]
  have hsl:=hD.sl
  refine A7 (BZ (by omega) fun b hb=>?_)
  have start:OK (cond b (some ([]:List Int)) (some [(i:Int)])) fun path=>Dfs ls N E (s.1.set i true) s.2.1 s.2.2 path/\(∀ j:Nat,(s.1.set i true)[j]? = some false->s.2.1[j]? = some 0)/\path.length<=1/\((i:Int)∈s.2.2\/(i:Int)∈path):=by
   have fr2:∀ j:Nat,(s.1.set i true)[j]? = some false->s.2.1[j]? = some 0:=fun j hj=>by
    rw [List.getElem?_set] at hj
    by_cases e:i=j
    ·rw [if_pos e,if_pos (by omega)] at hj
     cases hj
    ·rw [if_neg e] at hj
     exact hfr j hj
   cases b with
   | true =>
    refine AE ⟨?_,fr2,by simp,?_⟩
    ·have:s.1.set i true=s.1:=by
      apply List.ext_getElem?
      intro j
      rw [List.getElem?_set]
      by_cases e:i=j
      ·subst e
       rw [if_pos rfl,if_pos (by omega),hb]
      ·rw [if_neg e]
     rw [this]
     exact hD
    ·have:=(hD.sn i true hb).mp rfl
     exact this.elim .inl fun z=>nomatch z
   | false =>
    refine AE ⟨?_,fr2,by simp,.inr (by simp)⟩
    have:=hD.push (k:=0) A (o:=i) (fun x hx=>by simp at hx) hb (hfr i hb)
    simpa using this
  refine A7 (start.mono fun path hst=>?_)
  obtain ⟨hD1,hfr1,hpl,hip⟩:=hst
  refine A7 (Dy (by omega) ?_)
  refine A7 (FZ (fun (z:List Bool × List Int × List Int × List Int)=>Dfs ls N E z.1 z.2.1 z.2.2.1 z.2.2.2/\(∀ j:Nat,z.1[j]? = some false->z.2.1[j]? = some 0)/\((i:Int)∈z.2.2.1\/(i:Int)∈z.2.2.2)/\∀ u∈s.2.2,u∈z.2.2.1) (fun _=>False) (fun _=>False) (fun z=>2 * lft ls z.2.1+z.2.2.2.length) ⟨hD1,hfr1,hip,fun u hu=>hu⟩ ?_ (fun z hz=>?_) (fun _ h=>h.elim) fun _ h=>h.elim)
  ·have h1:=lft_le ls s.2.1
   have h2:=A.sum
   try dsimp only
   omega
  ·obtain ⟨hz,hzf,hzi,hzo⟩:=hz
   refine AE ?_
   by_cases hp0:z.2.2.2=[]
   ·rw [if_neg (by rw [hp0];simp)]
    refine AE ⟨_,rfl,by rw [hp0] at hz;exact hz,fun j hj=>?_,hzf⟩
    by_cases e:j=i
    ·subst e
     rw [hp0] at hzi
     exact hzi.elim id fun z=>nomatch z
    ·exact hzo _ (hdone j (by omega))
   ·rw [if_pos (by rw [decide_eq_true_iff];have:=List.length_pos_iff.mpr hp0;omega)]
    have pe:z.2.2.2=z.2.2.2.dropLast++[z.2.2.2.getLast hp0]:=(List.dropLast_concat_getLast hp0).symm
    refine A7 (ok_last hp0 ?_)
    have hrx:=hz.rg (z.2.2.2.getLast hp0) (.inr (List.getLast_mem hp0))
    generalize z.2.2.2.getLast hp0=x at pe hrx
    generalize z.2.2.2.dropLast=q at pe
    obtain ⟨k,rfl⟩:=Int.eq_ofNat_of_zero_le hrx.1
    have hk:k<N:=by omega
    have htl:=hz.tl
    have hzl:=hz.sl
    refine A7 (BZ (by omega) fun t ht=>A7 (BZ (by omega) fun r hr=>?_))
    have ⟨ht0,htr⟩:=hz.tr k t ht
    have htr:=htr r hr
    obtain ⟨t,rfl⟩:=Int.eq_ofNat_of_zero_le ht0
    rw [pe] at hz
    refine BV (fun hb=>?_) fun hb=>?_
    ·have e:(t:Int)=(r.length:Int):=of_decide_eq_true hb
     rw [e] at ht
     have hpop:Gs z.2.2.2=some ((k:Int),q):=by
      rw [pe,popO_eq (by simp)]
      simp
     rw [hpop]
     simp only [AX]
     have ho:z.2.2.1.length<sizeLine:=by
      have:=hz.nd
      have hb:z.2.2.1.length<=N:=by
       have nd1:=(List.nodup_append.mp this).1
       have sub:∀ u∈z.2.2.1,u∈(List.range N).map fun (i:Nat)=>(i:Int):=fun u hu=>by
        have:=hz.rg u (.inl hu)
        exact List.mem_map.mpr ⟨u.toNat,by rw [List.mem_range];omega,by omega⟩
       have:=BD nd1 sub
       simpa using this
      omega
     refine A7 (D4 ho (AE ⟨⟨hz.pop A hr ht,hzf,?_,fun u hu=>List.mem_append_left _ (hzo u hu)⟩,?_⟩))
     ·try dsimp only
      rcases hzi with h|h
      ·exact .inl (List.mem_append_left _ h)
      ·rw [pe] at h
       rcases List.mem_append.mp h with h|h
       ·exact .inr h
       ·exact .inl (List.mem_append_right _ h)
     ·try dsimp only
      rw [pe,List.length_append,List.length_singleton]
      omega
    ·have ne:¬(t:Int)=(r.length:Int):=of_decide_eq_false hb
     have hlt:t<r.length:=by omega
     refine A7 (BZ (by omega) fun r' hr'=>A7 (BZ (by omega) fun t' ht'=>?_))
     rw [hr] at hr';cases hr'
     rw [ht] at ht';cases ht'
     refine A7 (BZ hlt fun o ho=>?_)
     have hor:=A.rng k r hr o (List.mem_of_getElem? ho)
     have hoe:E k o:=(A.mem k r hr o).mp (List.mem_of_getElem? ho)
     obtain ⟨o,rfl⟩:=Int.eq_ofNat_of_zero_le hor.1
     refine A7 (BZ (by omega) fun t' ht'=>A7 (Dy (by omega) ?_))
     rw [ht] at ht';cases ht'
     refine A7 (BZ (by omega) fun sb hsb=>?_)
     have hl:=lft_set (ls:=ls) (ts:=z.2.1) hr ht (by omega) (by omega)
     refine BV (fun hb=>?_) fun hb=>?_
     ·have sb0:sb=false:=by cases sb<;>simp at hb ⊢
      subst sb0
      refine A7 (Dy (by omega) (A7 (D4 ?_ (AE ⟨⟨?_,?_,?_,hzo⟩,?_⟩))))
      ·have nd1:=(List.nodup_append.mp hz.nd).2.1
       have sub:∀ u∈q++[(k:Int)],u∈(List.range N).map fun (i:Nat)=>(i:Int):=fun u hu=>by
        have:=hz.rg u (.inr hu)
        exact List.mem_map.mpr ⟨u.toNat,by rw [List.mem_range];omega,by omega⟩
       have:=BD nd1 sub
       rw [pe]
       simp only [List.length_map,List.length_range] at this
       omega
      ·
       have kn:k≠o:=fun e=>by
        subst e
        have:=(hz.sn k false hsb).mpr (.inr (by simp))
        cases this
       have h1:=hz.push (k:=0) A (o:=o) (fun x hx=>by
        rw [List.getLast?_concat] at hx
        cases hx
        exact hoe) hsb (hzf o hsb)
       rw [pe]
       try dsimp only
       refine ⟨h1.sl,by rw [List.length_set];exact h1.tl,fun j t' hj=>?_,h1.rg,h1.sn,h1.nd,h1.od,fun j r' t' hj hr' ht' v hv=>?_,h1.ch,h1.fn⟩
       ·rw [List.getElem?_set] at hj
        by_cases e:k=j
        ·subst e
         rw [if_pos rfl,if_pos (by omega)] at hj
         cases hj
         refine ⟨by omega,fun r' hr'=>?_⟩
         rw [hr] at hr'
         cases hr'
         omega
        ·rw [if_neg e] at hj
         exact h1.tr j t' hj
       ·rw [List.getElem?_set] at ht'
        by_cases e:k=j
        ·subst e
         rw [if_pos rfl,if_pos (by omega)] at ht'
         cases ht'
         rw [hr] at hr'
         cases hr'
         have e1:((t:Int)+1).toNat=t+1:=by omega
         rw [e1,List.take_add_one,ho] at hv
         rcases List.mem_append.mp hv with hv|hv
         ·exact h1.pt k r t hj hr ht v (by rw [Int.toNat_natCast];exact hv)
         ·cases List.mem_singleton.mp hv
          exact .inr (by simp)
        ·rw [if_neg e] at ht'
         exact h1.pt j r' t' hj hr' ht' v hv
      ·intro j hj
       try dsimp only at hj ⊢
       rw [List.getElem?_set] at hj
       by_cases e:o=j
       ·rw [if_pos e,if_pos (by omega)] at hj
        cases hj
       ·rw [if_neg e] at hj
        have:=hzf j hj
        rw [List.getElem?_set]
        by_cases e2:k=j
        ·subst e2
         exfalso
         have:=(hz.sn k false hj).mpr (.inr (by simp))
         cases this
        ·rw [if_neg e2]
         exact this
      ·try dsimp only
       exact hzi.imp id (List.mem_append_left _)
      ·try dsimp only
       rw [List.length_append,List.length_singleton]
       omega
     ·have sb1:sb=true:=by cases sb<;>simp at hb ⊢
      subst sb1
      refine AE ⟨⟨?_,?_,hzi,hzo⟩,?_⟩
      ·try dsimp only
       rw [pe]
       exact hz.step A hr ht ho ((hz.sn o true hsb).mp rfl)
      ·intro j hj
       try dsimp only at hj ⊢
       rw [List.getElem?_set]
       by_cases e2:k=j
       ·subst e2
        exfalso
        have:=(hz.sn k false hj).mpr (.inr (by simp))
        cases this
       ·rw [if_neg e2]
        exact hzf j hj
      ·try dsimp only
       omega
 ·have:=hI.1.nd
  rwa [List.append_nil] at this
 ·intro u
  constructor
  ·intro hu
   exact hI.1.rg u (.inl hu)
  ·intro hu
   have h2:=hI.2.1
   simp only [List.length_map,List.length_range] at h2
   have:=h2 u.toNat (by omega)
   rwa [Int.toNat_of_nonneg hu.1] at this
noncomputable def kt (kn:List (Option Int))(u:Int):Option Int:=if 0<=u then (kn[u.toNat]?).bind id else none
theorem kt_in {kn:List (Option Int)}{u:Int}(h:kt kn u≠none):0<=u/\u<kn.length:=by
 unfold kt at h
 by_cases h0:0<=u
 ·rw [if_pos h0] at h
  refine ⟨h0,?_⟩
  apply Classical.byContradiction
  intro hc
  rw [List.getElem?_eq_none (by omega)] at h
  exact h rfl
 ·rw [if_neg h0] at h
  exact absurd rfl h
theorem kt_some {kn:List (Option Int)}{u x:Int}(h:kt kn u=some x):0<=u/\u<kn.length:=kt_in (by rw [h];exact fun z=>nomatch z)
theorem FC {kn:List (Option Int)}{k:Nat}{x:Option Int}(h:kn[k]? = some x):kt kn (k:Int)=x:=by
 unfold kt
 rw [if_pos (by omega),Int.toNat_natCast,h]
 rfl
theorem EL {kn:List (Option Int)}{j:Nat}{x:Option Int}{u:Int}(hj:j<kn.length):kt (kn.set j x) u=if u=j then x else kt kn u:=by
 unfold kt
 rw [List.getElem?_set]
 by_cases e:u=j
 ·subst e
  rw [Int.toNat_natCast,if_pos (by omega),if_pos rfl,if_pos hj,if_pos rfl]
  rfl
 ·rw [if_neg e]
  by_cases h0:0<=u
  ·rw [if_pos h0,if_pos h0,if_neg (by omega)]
  ·rw [if_neg h0,if_neg h0]
noncomputable def FW (kn:List (Option Int)):Nat:=(kn.filter Option.isNone).length
theorem nones_set {kn:List (Option Int)}{j:Nat}{c:Int}(h:kn[j]? = some none):FW (kn.set j (some c))+1=FW kn:=by
 induction kn generalizing j with
 | nil=>simp at h
 | cons x kn ih =>
  cases j with
  | zero =>
   simp at h
   subst h
   simp [FW]
  | succ j =>
   have:=ih (j:=j) (by simpa using h)
   unfold FW at this ⊢
   rw [List.set_cons_succ,List.filter_cons,List.filter_cons]
   split<;>(try simp only [List.length_cons])<;>omega
theorem nones_le (kn:List (Option Int)):FW kn<=kn.length:=List.length_filter_le _ _
structure Numb (N:Nat)(E:Int->Int->Prop)(k0:List (Option Int))(b c:Int)(kn:List (Option Int))(P:Int->Prop):Prop where
 len:kn.length=N
 old:∀ (u x:Int),kt k0 u=some x->kt kn u=some x
 new:∀ u:Int,0<=u->u<N->kt k0 u=none->kt kn u=none\/(kt kn u=some c/\Rch E b u)
 beg:kt kn b≠none
 cl:∀ u v:Int,kt kn u≠none->E u v->kt kn v≠none\/P u
theorem numb_ok {ls:List (List Int)}{N M:Nat}{E:Int->Int->Prop}(A:Adj ls N E M)(hN:N<=10000){k0:List (Option Int)}(h0:k0.length=N){b c:Int}(hb:0<=b/\b<N)(hbn:kt k0 b=none)(hc:∀ u v:Int,kt k0 u≠none->E u v->kt k0 v≠none) :
  OK (CU k0 ls b c) fun kn=>Numb N E k0 b c kn fun _=>False:=by
 have hs:sizeLine=16777216:=sizeLine_eq
 have hlen:=A.len
 obtain ⟨b,rfl⟩:=Int.eq_ofNat_of_zero_le hb.1
 unfold CU
 simp only [Option.bind_assoc,AX,AS]
 have hbl:b<k0.length:=by omega
 have hb0:k0[b]? = some none:=by
  have e:=List.getElem?_eq_getElem hbl
  rw [FC e] at hbn
  rw [e,hbn]
 refine A7 (Dy hbl ?_)
 refine A7 (FZ (fun (z:List (Option Int) × List Int)=>Numb N E k0 b c z.1 (fun u=>u∈z.2)/\(∀ u∈z.2,0<=u/\u<N/\Rch E b u)/\z.2.length+FW z.1<=N) (fun _=>False) (fun _=>False) (fun z=>2 * FW z.1+z.2.length) ⟨⟨by rw [List.length_set];exact h0,?_,?_,?_,?_⟩,?_,?_⟩ ?_ (fun z hz=>?_) (fun _ h=>h.elim) fun _ h=>h.elim)
 ·intro u x e
  try dsimp only
  rw [EL hbl]
  by_cases hub:u=(b:Int)
  ·rw [hub,hbn] at e
   cases e
  ·rw [if_neg hub]
   exact e
 ·intro u hu _ e
  try dsimp only
  rw [EL hbl]
  by_cases hub:u=(b:Int)
  ·rw [if_pos hub,hub]
   exact .inr ⟨rfl,.refl _⟩
  ·rw [if_neg hub]
   exact .inl e
 ·try dsimp only
  rw [EL hbl,if_pos rfl]
  exact fun z=>nomatch z
 ·intro u v e ev
  try dsimp only at e ⊢
  by_cases hub:u=(b:Int)
  ·exact .inr (by simp [hub])
  ·rw [EL hbl,if_neg hub] at e
   have hv:=hc u v e ev
   refine .inl ?_
   rw [EL hbl]
   split
   ·exact fun z=>nomatch z
   ·exact hv
 ·intro u hu
  cases List.mem_singleton.mp hu
  exact ⟨by omega,by omega,.refl _⟩
 ·have h1:=nones_set (c:=c) hb0
  have h2:=nones_le k0
  try dsimp only
  rw [List.length_singleton]
  omega
 ·have:=nones_le (k0.set b (some c))
  rw [List.length_set] at this
  try dsimp only
  rw [List.length_singleton]
  omega
 ·obtain ⟨hz,hl,hll⟩:=hz
  refine AE ?_
  by_cases hp0:z.2=[]
  ·rw [if_neg (by rw [hp0];simp)]
   refine AE ⟨hz.len,hz.old,hz.new,hz.beg,fun u v h3 h4=>?_⟩
   have:=hz.cl u v h3 h4
   rw [hp0] at this
   exact this.imp id fun z=>nomatch z
  ·rw [if_pos (by rw [decide_eq_true_iff];have:=List.length_pos_iff.mpr hp0;omega)]
   have pe:z.2=z.2.dropLast++[z.2.getLast hp0]:=(List.dropLast_concat_getLast hp0).symm
   rw [popO_eq hp0]
   simp only [AX]
   have hx:=hl (z.2.getLast hp0) (List.getLast_mem hp0)
   generalize z.2.getLast hp0=x at pe hx
   generalize z.2.dropLast=q at pe
   obtain ⟨hx0,hx1,hxr⟩:=hx
   obtain ⟨k,rfl⟩:=Int.eq_ofNat_of_zero_le hx0
   refine A7 (BZ (by omega) fun r hr=>?_)
   have hql:q.length+1=z.2.length:=by rw [pe];simp
   refine A7 (BA (fun i (y:List (Option Int) × List Int)=>Numb N E k0 b c y.1 (fun u=>u∈y.2\/u=(k:Int))/\(∀ u∈y.2,0<=u/\u<N/\Rch E b u)/\(∀ v∈r.take i,kt y.1 v≠none)/\2 * FW y.1+y.2.length<=2 * FW z.1+q.length/\y.2.length+FW y.1=q.length+FW z.1) ⟨⟨hz.len,hz.old,hz.new,hz.beg,fun u v h3 h4=>?_⟩,fun u hu=>hl u (by rw [pe];exact List.mem_append_left _ hu),fun v hv=>by simp at hv,Nat.le_refl _,rfl⟩ (fun i a y ha hI=>?_) fun y hI=>AE ⟨⟨⟨hI.1.len,hI.1.old,hI.1.new,hI.1.beg,fun u v h3 h4=>?_⟩,hI.2.1,?_⟩,?_⟩)
   ·have:=hz.cl u v h3 h4
    rw [pe] at this
    refine this.imp id fun hu=>?_
    rcases List.mem_append.mp hu with hu|hu
    ·exact .inl hu
    ·exact .inr (List.mem_singleton.mp hu)
   ·obtain ⟨hy,hyl,hyt,hym,hys⟩:=hI
    have har:=A.rng k r hr a (List.mem_of_getElem? ha)
    have hae:=(A.mem k r hr a).mp (List.mem_of_getElem? ha)
    obtain ⟨a,rfl⟩:=Int.eq_ofNat_of_zero_le har.1
    have hyll:=hy.len
    have hal:a<y.1.length:=by omega
    refine A7 (BZ hal fun t ht=>?_)
    refine BV (fun hb'=>?_) fun hb'=>?_
    ·have:t=none:=by cases t<;>simp at hb' ⊢
     subst this
     have hnn:=nones_set (c:=c) ht
     have hqn:y.2.length<sizeLine:=by
      have:=nones_le z.1
      have:=hz.len
      omega
     refine A7 (Dy hal (A7 (D4 hqn (AE ⟨_,rfl,⟨by rw [List.length_set];exact hyll,?_,?_,?_,?_⟩,?_,?_,?_,?_⟩))))
     ·intro u x e
      try dsimp only
      rw [EL hal]
      by_cases hua:u=(a:Int)
      ·have:=hy.old u x e
       rw [hua,FC ht] at this
       cases this
      ·rw [if_neg hua]
       exact hy.old u x e
     ·intro u hu hu2 e
      try dsimp only
      rw [EL hal]
      by_cases hua:u=(a:Int)
      ·rw [if_pos hua,hua]
       exact .inr ⟨rfl,.tail hxr hae⟩
      ·rw [if_neg hua]
       exact hy.new u hu hu2 e
     ·try dsimp only
      rw [EL hal]
      split
      ·exact fun z=>nomatch z
      ·exact hy.beg
     ·intro u v h3 h4
      try dsimp only at h3 ⊢
      by_cases hua:u=(a:Int)
      ·exact .inr (.inl (by rw [hua];simp))
      ·rw [EL hal,if_neg hua] at h3
       rcases hy.cl u v h3 h4 with h|h|h
       ·refine .inl ?_
        rw [EL hal]
        split
        ·exact fun z=>nomatch z
        ·exact h
       ·exact .inr (.inl (List.mem_append_left _ h))
       ·exact .inr (.inr h)
     ·intro u hu
      rcases List.mem_append.mp hu with hu|hu
      ·exact hyl u hu
      ·cases List.mem_singleton.mp hu
       exact ⟨by omega,by omega,.tail hxr hae⟩
     ·intro v hv
      try dsimp only
      rw [EL hal]
      split
      ·exact fun z=>nomatch z
      ·rw [List.take_add_one,ha] at hv
       rcases List.mem_append.mp hv with hv|hv
       ·exact hyt v hv
       ·cases List.mem_singleton.mp hv
        contradiction
     ·try dsimp only
      rw [List.length_append,List.length_singleton]
      omega
     ·try dsimp only
      rw [List.length_append,List.length_singleton]
      omega
    ·refine AE ⟨_,rfl,hy,hyl,fun v hv=>?_,hym,hys⟩
     rw [List.take_add_one,ha] at hv
     rcases List.mem_append.mp hv with hv|hv
     ·exact hyt v hv
     ·cases List.mem_singleton.mp hv
      try dsimp only
      rw [FC ht]
      cases t with
      | none=>simp at hb'
      | some t=>exact fun z=>nomatch z
   ·rcases hI.1.cl u v h3 h4 with h|h|h
    ·exact .inl h
    ·exact .inr h
    ·subst h
     refine .inl (hI.2.2.1 v ?_)
     rw [List.take_length]
     exact (A.mem k r hr v).mpr h4
   ·try dsimp only
    have:=hI.2.2.2.2
    omega
   ·try dsimp only
    have:=hI.2.2.2.1
    omega
theorem ed_be {ws:List Way}{u v:Int}:Ed ws u v ↔ Be ws v u :=
 ⟨fun ⟨w,hw,e1,e2⟩=>⟨w,hw,e2,e1⟩,fun ⟨w,hw,e1,e2⟩=>⟨w,hw,e2,e1⟩⟩
theorem fin_back {E:Int->Int->Prop}{U:Int->Prop}{p s:List Int}{b:Int}(hf:Fin E (p++b::s))(nd:(p++b::s).Nodup)(hU:∀ u v,U u->E u v->U v)(hin:∀ u,U u->u∈p\/u=b) :
  ∀ (m:Nat) (p1 p2:List Int) x,p2.length<m->p=p1++x::p2->U x->Rch E x b->Rch E b x:=by
 intro m
 induction m with
 | zero=>intro p1 p2 x h;exact absurd h (Nat.not_lt_zero _)
 | succ m ih =>
  intro p1 p2 x hl hp hx hr
  have hbn:¬(b∈p1\/b=x):=fun h=>by
   subst hp
   have hb:b∈p1++x::p2:=by
    rcases h with h|h
    ·exact List.mem_append_left _ h
    ·rw [h];exact List.mem_append_right _ (List.mem_cons_self ..)
   exact (List.nodup_append.mp nd).2.2 b hb b (List.mem_cons_self ..) rfl
  obtain ⟨u,v,h1,h2,h3,h4,h5⟩:=hr.exit (A:=fun u=>u∈p1\/u=x) (.inr rfl) hbn
  have hv:U v:=hU u v (h1.closed hU hx) h3
  have hvx:Rch E v x:=by
   have:=hf p1 x (p2++b::s) (by rw [hp];simp) u v h2 h3
   rcases this with h|h|h
   ·exact absurd (.inl h) h4
   ·exact absurd (.inr h) h4
   ·exact h
  rcases hin v hv with hvp|rfl
  ·rw [hp] at hvp
   rcases List.mem_append.mp hvp with h|h
   ·exact absurd (.inl h) h4
   ·rcases List.mem_cons.mp h with h|h
    ·exact absurd (.inr h) h4
    ·obtain ⟨q1,q2,hq⟩:=List.append_of_mem h
     have:=ih (p1++x::q1) q2 v (by rw [hq,List.length_append,List.length_cons] at hl;omega) (by rw [hp,hq];simp) hv h5
     exact this.trans hvx
  ·exact hvx
structure Knots (n:Net)(kn:List (Option Int)):Prop where
 len:kn.length=n.a.toNat
 num:∀ u:Int,0<=u->u<n.a->∃ k:Nat,kt kn u=some (k:Int)/\(k:Int)<n.a
 fall:∀ w∈n.b,∀ i j,kt kn w.a=some i->kt kn w.b=some j->j<=i
 same:∀ u v k,kt kn u=some k->kt kn v=some k->Rch (Ed n.b) u v
structure KnI (n:Net)(N:Nat)(order:List Int)(i:Nat)(kn:List (Option Int))(m:Int):Prop where
 len:kn.length=N
 m0:0<=m
 m1:m<=i
 dn:∀ u∈order.reverse.take i,kt kn u≠none
 cl:∀ u v,kt kn u≠none->Ed n.b u v->kt kn v≠none
 lt:∀ u k,kt kn u=some k->0<=k/\k<m
 fall:∀ w∈n.b,∀ i j,kt kn w.a=some i->kt kn w.b=some j->j<=i
 same:∀ u v k,kt kn u=some k->kt kn v=some k->Rch (Ed n.b) u v
theorem knots_ok {n:Net}(hn:NetW n):OK (DC n) (Knots n):=by
 have hs:sizeLine=16777216:=sizeLine_eq
 have h0:=hn.a0
 have h1:=hn.a1
 have hl:=hn.l
 obtain ⟨N,hN⟩:=Int.eq_ofNat_of_zero_le h0
 have hNt:n.a.toNat=N:=by omega
 unfold DC
 simp only [Option.bind_assoc,AX,AS]
 refine CF (begins_ok hn) fun bl B=>?_
 rw [hNt] at B
 refine CF (leaving_ok B (by omega) hl) fun order ⟨nd,hmem,hfin⟩=>?_
 refine CF (ends_ok hn) fun el A=>?_
 rw [hNt] at A
 have hol:order.length=N:=by
  have nr:((List.range N).map fun (i:Nat)=>(i:Int)).Nodup:=by
   refine List.Pairwise.map _ ?_ List.nodup_range
   intro a b h
   show (a:Int)≠b
   omega
  have l1:order.length<=((List.range N).map fun (i:Nat)=>(i:Int)).length:=BD nd fun u hu=>by
   have h:=(hmem u).mp hu
   exact List.mem_map.mpr ⟨u.toNat,by rw [List.mem_range];omega,by omega⟩
  have l2:((List.range N).map fun (i:Nat)=>(i:Int)).length<=order.length:=BD nr fun u hu=>by
   obtain ⟨i,hi,rfl⟩:=List.mem_map.mp hu
   rw [List.mem_range] at hi
   exact (hmem _).mpr (by omega)
  simp only [List.length_map,List.length_range] at l1 l2
  omega
 have edr:∀ u v,Ed n.b u v->(0<=u/\u<N)/\0<=v/\v<N:=by
  rintro u v ⟨w,hw,rfl,rfl⟩
  have:=hn.w w hw
  unfold WayIn at this
  omega
 refine A7 (DZ (g:=fun _=>(none:Option Int)) (fun _ _=>rfl) ?_)
 have kz:∀ u,kt (order.map fun _=>(none:Option Int)) u=none:=fun u=>by
  unfold kt
  split
  ·rw [List.getElem?_map]
   cases order[u.toNat]?<;>rfl
  ·rfl
 refine A7 (BA (fun i (s:List (Option Int) × Int)=>KnI n N order i s.1 s.2) ⟨by simp [hol],Int.le_refl _,Int.le_refl _,fun u hu=>by simp at hu,fun u v h=>absurd (kz u) h,fun u k h=>(by rw [kz u] at h;cases h),fun w _ i j h=>(by rw [kz] at h;cases h),fun u v k h=>(by rw [kz] at h;cases h)⟩ (fun i b s hb hI=>?_) fun s hI=>AE ⟨by rw [hI.len];exact hNt.symm,fun u hu hu2=>?_,hI.fall,hI.same⟩)
 ·have hbm:b∈order:=by
   have:=List.mem_of_getElem? hb
   simpa using this
  have hbr:=(hmem b).mp hbm
  obtain ⟨b,rfl⟩:=Int.eq_ofNat_of_zero_le hbr.1
  have q1:=hI.len
  have hbl:b<s.1.length:=by omega
  have hm0:=hI.m0
  have hm1:=hI.m1
  refine A7 (BZ hbl fun t ht=>?_)
  have taken:∀ (s':List (Option Int)),(∀ u,kt s.1 u≠none->kt s' u≠none)->kt s' (b:Int)≠none->∀ u∈order.reverse.take (i+1),kt s' u≠none:=fun s' hk hbk u hu=>by
   rw [List.take_add_one,hb] at hu
   rcases List.mem_append.mp hu with hu|hu
   ·exact hk u (hI.dn u hu)
   ·cases List.mem_singleton.mp hu
    exact hbk
  refine BV (fun hbn=>?_) fun hbn=>?_
  ·have:t=none:=by cases t<;>simp at hbn ⊢
   subst this
   have ktb:=FC ht
   refine A7 ((numb_ok A (by omega) q1 (c:=s.2) ⟨by omega,by omega⟩ ktb hI.cl).mono fun kn R=>?_)
   have what:∀ u k,kt kn u=some k->kt s.1 u=some k\/(kt s.1 u=none/\k=s.2/\Rch (Ed n.b) b u):=fun u k h=>by
    have hin:=kt_some h
    have:=R.len
    cases e:kt s.1 u with
    | some x =>
     have:=R.old u x e
     rw [h] at this
     exact .inl (by rw [this])
    | none =>
     rcases R.new u hin.1 (by omega) e with z | ⟨z,hr⟩
     ·rw [h] at z
      cases z
     ·rw [h] at z
      cases z
      exact .inr ⟨rfl,rfl,hr⟩
   have keep:∀ u,kt s.1 u≠none->kt kn u≠none:=fun u h=>by
    cases e:kt s.1 u with
    | none=>exact absurd e h
    | some x =>
     rw [R.old u x e]
     exact fun z=>nomatch z
   have back:∀ x,kt s.1 x=none->0<=x->x<N->Rch (Ed n.b) b x->Rch (Ed n.b) x b:=by
    intro x hx hx0 hx1 hr
    by_cases hxb:x=(b:Int)
    ·rw [hxb]
     exact .refl _
    have hsplit:∃ p s',order=p++(b:Int)::s'/\∀ u∈s',kt s.1 u≠none:=by
     have hi:=(List.getElem?_eq_some_iff.mp hb).1
     have hd:order.reverse=order.reverse.take i++(b:Int)::order.reverse.drop (i+1):=by
      have h1:=List.take_append_drop i order.reverse
      have h2:=List.drop_eq_getElem_cons hi
      have h3:=(List.getElem?_eq_some_iff.mp hb).2
      rw [h3] at h2
      rw [<- h2,h1]
     refine ⟨(order.reverse.drop (i+1)).reverse,(order.reverse.take i).reverse,?_,fun u hu=>hI.dn u (List.mem_reverse.mp hu)⟩
     have:=congrArg List.reverse hd
     rw [List.reverse_reverse,List.reverse_append,List.reverse_cons,List.append_assoc] at this
     exact this
    obtain ⟨p,s',ho,hs'⟩:=hsplit
    have hin:∀ u,(kt s.1 u=none/\0<=u/\u<N)->u∈p\/u=(b:Int):=fun u ⟨hu,h0,h1⟩=>by
     have hu':=(hmem u).mpr ⟨h0,h1⟩
     rw [ho] at hu'
     rcases List.mem_append.mp hu' with h|h
     ·exact .inl h
     ·rcases List.mem_cons.mp h with h|h
      ·exact .inr h
      ·exact absurd hu (hs' u h)
    have hU:∀ u v,(kt s.1 u=none/\0<=u/\u<N)->Be n.b u v->(kt s.1 v=none/\0<=v/\v<N):=fun u v hu e=>by
     have e':=ed_be.mpr e
     have:=edr _ _ e'
     refine ⟨?_,this.1⟩
     apply Classical.byContradiction
     intro hc
     exact hI.cl v u hc e' hu.1
    have hxp:x∈p:=(hin x ⟨hx,hx0,hx1⟩).elim id fun z=>absurd z hxb
    obtain ⟨p1,p2,hp⟩:=List.append_of_mem hxp
    rw [ho] at hfin nd
    have r1:Rch (Be n.b) x b:=hr.rev fun a b e=>ed_be.mp e
    have:=fin_back hfin nd hU hin (p2.length+1) p1 p2 x (Nat.lt_succ_self _) hp ⟨hx,hx0,hx1⟩ r1
    exact this.rev fun a b e=>ed_be.mpr e
   have lt':∀ u k,kt kn u=some k->0<=k/\k<s.2+1:=fun u k e=>by
    rcases what u k e with h | ⟨_,h,_⟩
    ·have:=hI.lt u k h
     omega
    ·omega
   refine AE ⟨_,rfl,R.len,by dsimp only;omega,by dsimp only;omega,taken kn keep R.beg,fun u v h e=>(R.cl u v h e).elim id fun z=>z.elim,lt',?_,?_⟩
   ·intro w hw i' j hi hj
    try dsimp only at hi hj
    rcases what _ _ hi with hi' | ⟨_,hi',_⟩
    ·rcases what _ _ hj with hj' | ⟨hj',_,_⟩
     ·exact hI.fall w hw i' j hi' hj'
     ·exact absurd hj' (hI.cl w.a w.b (by rw [hi'];exact fun z=>nomatch z) ⟨w,hw,rfl,rfl⟩)
    ·have:=lt' _ _ hj
     omega
   ·intro u v k hu hv
    try dsimp only at hu hv
    have iu:=kt_some hu
    have iv:=kt_some hv
    have:=R.len
    rcases what _ _ hu with hu' | ⟨hu',hk,ru⟩
    ·rcases what _ _ hv with hv' | ⟨_,hk,_⟩
     ·exact hI.same u v k hu' hv'
     ·have:=hI.lt u k hu'
      omega
    ·rcases what _ _ hv with hv' | ⟨_,_,rv⟩
     ·have:=hI.lt v k hv'
      omega
     ·exact (back u hu' iu.1 (by omega) ru).trans rv
  ·refine AE ⟨_,rfl,q1,hm0,by dsimp only;omega,taken s.1 (fun _ h=>h) ?_,hI.cl,hI.lt,hI.fall,hI.same⟩
   rw [FC ht]
   cases t with
   | none=>simp at hbn
   | some t=>exact fun z=>nomatch z
 ·have hu':u∈order.reverse.take order.reverse.length:=by
   rw [List.take_length,List.mem_reverse]
   exact (hmem u).mpr ⟨hu,by omega⟩
  have:=hI.dn u hu'
  cases e:kt s.1 u with
  | none=>exact absurd e this
  | some k =>
   have h2:=hI.lt u k e
   have h3:=hI.m1
   rw [List.length_reverse,hol] at h3
   obtain ⟨k,rfl⟩:=Int.eq_ofNat_of_zero_le h2.1
   exact ⟨k,rfl,by omega⟩
noncomputable def bt (l:List Bool)(u:Int):Bool:=if 0<=u then (l[u.toNat]?).getD false else false
theorem bt_in {l:List Bool}{u:Int}(h:bt l u=true):0<=u/\u<l.length:=by
 unfold bt at h
 by_cases h0:0<=u
 ·rw [if_pos h0] at h
  refine ⟨h0,?_⟩
  apply Classical.byContradiction
  intro hc
  rw [List.getElem?_eq_none (by omega)] at h
  cases h
 ·rw [if_neg h0] at h
  cases h
theorem CD {l:List Bool}{k:Nat}{x:Bool}(h:l[k]? = some x):bt l (k:Int)=x:=by
 unfold bt
 rw [if_pos (by omega),Int.toNat_natCast,h]
 rfl
theorem EM {l:List Bool}{j:Nat}{x:Bool}{u:Int}(hj:j<l.length):bt (l.set j x) u=if u=j then x else bt l u:=by
 unfold bt
 rw [List.getElem?_set]
 by_cases e:u=j
 ·subst e
  rw [Int.toNat_natCast,if_pos (by omega),if_pos rfl,if_pos hj,if_pos rfl]
  rfl
 ·rw [if_neg e]
  by_cases h0:0<=u
  ·rw [if_pos h0,if_pos h0,if_neg (by omega)]
  ·rw [if_neg h0,if_neg h0]
noncomputable def fls (l:List Bool):Nat:=(l.filter fun b=>!b).length
theorem fls_set {l:List Bool}{j:Nat}(h:l[j]? = some false):fls (l.set j true)+1=fls l:=by
 induction l generalizing j with
 | nil=>simp at h
 | cons x l ih =>
  cases j with
  | zero =>
   simp at h
   subst h
   simp [fls]
  | succ j =>
   have:=ih (j:=j) (by simpa using h)
   unfold fls at this ⊢
   rw [List.set_cons_succ,List.filter_cons,List.filter_cons]
   split<;>(try simp only [List.length_cons])<;>omega
theorem fls_le (l:List Bool):fls l<=l.length:=List.length_filter_le _ _
theorem fls_tru (l:List Bool):((l.filter fun b=>b).length)+fls l=l.length:=by
 induction l with
 | nil=>rfl
 | cons x l ih =>
  unfold fls at ih ⊢
  cases x<;>simp<;>omega
theorem enum_true:∀ (l:List Bool) (n:Nat),((C6 n l).filter fun p=>p.2).length=(l.filter fun b=>b).length
 | [],_=>rfl
 | x::l,n=>by
  have:=enum_true l (n+1)
  show (List.filter (fun p=>p.2) (((n:Int),x)::C6 (n+1) l)).length=_
  cases x<;>simp [this]
structure Spr (N:Nat)(E:Int->Int->Prop)(w found:List Bool)(P:Int->Prop):Prop where
 len:found.length=N
 old:∀ u,bt w u=true->bt found u=true
 new:∀ u,bt found u=true->∃ v,bt w v=true/\Rch E v u
 cl:∀ u v:Int,bt found u=true->E u v->bt found v=true\/P u
theorem spread_ok {ls:List (List Int)}{N M:Nat}{E:Int->Int->Prop}(A:Adj ls N E M)(hN:N<=10000){w:List Bool}(hw:w.length=N) :
  OK (Em ls w) fun found=>found.length=N/\∀ u,bt found u=true ↔ ∃ v,bt w v=true/\Rch E v u:=by
 have hs:sizeLine=16777216:=sizeLine_eq
 have hlen:=A.len
 unfold Em
 simp only [Option.bind_assoc,AX,AS]
 refine A7 (Fd (c:=fun p:Int × Bool=>p.2) (g:=fun p=>p.1) (fun _ _=>rfl) (fun _ _ _=>rfl) ?_)
 have hline:∀ u,u∈((C6 0 w).filter fun p=>p.2).map (fun p=>p.1) ↔ bt w u=true:=fun u=>by
  rw [List.mem_map]
  constructor
  ·rintro ⟨p,hp,rfl⟩
   obtain ⟨h1,h2⟩:=List.mem_filter.mp hp
   obtain ⟨i,hi⟩:=List.mem_iff_getElem?.mp h1
   rw [Cj] at hi
   obtain ⟨b,hb,e⟩:=Option.map_eq_some_iff.mp hi
   subst e
   try dsimp only at h2 ⊢
   rw [Nat.zero_add,CD hb]
   exact h2
  ·intro h
   have hin:=bt_in h
   obtain ⟨k,rfl⟩:=Int.eq_ofNat_of_zero_le hin.1
   have hk:k<w.length:=by omega
   have e:=List.getElem?_eq_getElem hk
   rw [CD e] at h
   refine ⟨((k:Int),true),List.mem_filter.mpr ⟨?_,rfl⟩,rfl⟩
   refine List.mem_iff_getElem?.mpr ⟨k,?_⟩
   rw [Cj,e,h,Nat.zero_add]
   rfl
 refine A7 (FZ (fun (z:List Bool × List Int)=>Spr N E w z.1 (fun u=>u∈z.2)/\(∀ u∈z.2,bt z.1 u=true)/\z.2.length+fls z.1<=N) (fun _=>False) (fun _=>False) (fun z=>2 * fls z.1+z.2.length) ⟨⟨hw,fun u h=>h,fun u h=>⟨u,h,.refl _⟩,fun u v h _=>.inr ((hline u).mpr h)⟩,fun u hu=>(hline u).mp hu,?_⟩ ?_ (fun z hz=>?_) (fun _ h=>h.elim) fun _ h=>h.elim)
 ·try dsimp only
  rw [List.length_map,enum_true]
  have:=fls_tru w
  omega
 ·try dsimp only
  rw [List.length_map,enum_true]
  have:=fls_tru w
  have:=fls_le w
  omega
 ·obtain ⟨hz,hl,hll⟩:=hz
  refine AE ?_
  by_cases hp0:z.2=[]
  ·rw [if_neg (by rw [hp0];simp)]
   refine AE ⟨hz.len,fun u=>⟨hz.new u,fun ⟨v,hv,hr⟩=>?_⟩⟩
   refine hr.closed (A:=fun u=>bt z.1 u=true) (fun a b ha e=>?_) (hz.old v hv)
   have:=hz.cl a b ha e
   rw [hp0] at this
   exact this.elim id fun z=>nomatch z
  ·rw [if_pos (by rw [decide_eq_true_iff];have:=List.length_pos_iff.mpr hp0;omega)]
   have pe:z.2=z.2.dropLast++[z.2.getLast hp0]:=(List.dropLast_concat_getLast hp0).symm
   rw [popO_eq hp0]
   simp only [AX]
   have hx:=hl (z.2.getLast hp0) (List.getLast_mem hp0)
   generalize z.2.getLast hp0=x at pe hx
   generalize z.2.dropLast=q at pe
   have hxi:=bt_in hx
   have hzl:=hz.len
   obtain ⟨k,rfl⟩:=Int.eq_ofNat_of_zero_le hxi.1
   refine A7 (BZ (by omega) fun r hr=>?_)
   have hql:q.length+1=z.2.length:=by rw [pe];simp
   refine A7 (BA (fun i (y:List Bool × List Int)=>Spr N E w y.1 (fun u=>u∈y.2\/u=(k:Int))/\(∀ u∈y.2,bt y.1 u=true)/\(∀ v∈r.take i,bt y.1 v=true)/\(bt y.1 (k:Int)=true)/\fls y.1<=fls z.1/\y.2.length+fls y.1=q.length+fls z.1) ⟨⟨hz.len,hz.old,hz.new,fun u v h3 h4=>?_⟩,fun u hu=>hl u (by rw [pe];exact List.mem_append_left _ hu),fun v hv=>by simp at hv,hx,Nat.le_refl _,rfl⟩ (fun i a y ha hI=>?_) fun y hI=>AE ⟨⟨⟨hI.1.len,hI.1.old,hI.1.new,fun u v h3 h4=>?_⟩,hI.2.1,?_⟩,?_⟩)
   ·have:=hz.cl u v h3 h4
    rw [pe] at this
    refine this.imp id fun hu=>?_
    rcases List.mem_append.mp hu with hu|hu
    ·exact .inl hu
    ·exact .inr (List.mem_singleton.mp hu)
   ·obtain ⟨hy,hyl,hyt,hyk,hym,hys⟩:=hI
    have har:=A.rng k r hr a (List.mem_of_getElem? ha)
    have hae:=(A.mem k r hr a).mp (List.mem_of_getElem? ha)
    obtain ⟨a,rfl⟩:=Int.eq_ofNat_of_zero_le har.1
    have hyll:=hy.len
    have hal:a<y.1.length:=by omega
    refine A7 (BZ hal fun t ht=>?_)
    refine BV (fun hb'=>?_) fun hb'=>?_
    ·have:t=false:=by cases t<;>simp at hb' ⊢
     subst this
     have hnn:=fls_set ht
     have up:∀ u,bt y.1 u=true->bt (y.1.set a true) u=true:=fun u h=>by
      rw [EM hal]
      split
      ·rfl
      ·exact h
     refine A7 (Dy hal (A7 (D4 (by omega) (AE ⟨_,rfl,⟨by rw [List.length_set];exact hyll,fun u h=>up u (hy.old u h),?_,?_⟩,?_,?_,up _ hyk,?_,?_⟩))))
     ·intro u h
      try dsimp only at h
      rw [EM hal] at h
      by_cases hua:u=(a:Int)
      ·obtain ⟨v,h1,h2⟩:=hy.new _ hyk
       rw [hua]
       exact ⟨v,h1,.tail h2 hae⟩
      ·rw [if_neg hua] at h
       exact hy.new u h
     ·intro u v h3 h4
      try dsimp only at h3 ⊢
      by_cases hua:u=(a:Int)
      ·exact .inr (.inl (by rw [hua];simp))
      ·rw [EM hal,if_neg hua] at h3
       rcases hy.cl u v h3 h4 with h|h|h
       ·exact .inl (up v h)
       ·exact .inr (.inl (List.mem_append_left _ h))
       ·exact .inr (.inr h)
     ·intro u hu
      rcases List.mem_append.mp hu with hu|hu
      ·exact up u (hyl u hu)
      ·cases List.mem_singleton.mp hu
       try dsimp only
       rw [EM hal,if_pos rfl]
     ·intro v hv
      try dsimp only
      rw [List.take_add_one,ha] at hv
      rcases List.mem_append.mp hv with hv|hv
      ·exact up v (hyt v hv)
      ·cases List.mem_singleton.mp hv
       rw [EM hal,if_pos rfl]
     ·try dsimp only
      omega
     ·try dsimp only
      rw [List.length_append,List.length_singleton]
      omega
    ·refine AE ⟨_,rfl,hy,hyl,fun v hv=>?_,hyk,hym,hys⟩
     rw [List.take_add_one,ha] at hv
     rcases List.mem_append.mp hv with hv|hv
     ·exact hyt v hv
     ·cases List.mem_singleton.mp hv
      try dsimp only
      rw [CD ht]
      cases t with
      | false=>simp at hb'
      | true=>rfl
   ·rcases hI.1.cl u v h3 h4 with h|h|h
    ·exact .inl h
    ·exact .inr h
    ·subst h
     refine .inl (hI.2.2.1 v ?_)
     rw [List.take_length]
     exact (A.mem k r hr v).mpr h4
   ·try dsimp only
    have:=hI.2.2.2.2.2
    omega
   ·try dsimp only
    have:=hI.2.2.2.2
    omega
noncomputable def In (kn:List (Option Int))(k:Int)(w:Way):Prop:=kt kn w.a=some k/\kt kn w.b=some k
theorem hasM_put {l:List (Int × Bool)}{k m:Int}:hasM (Gq l k true) m=(decide (m=k) || hasM l m):=by
 unfold Gq hasM
 split
 ·rename_i h
  rw [List.any_map]
  have e:((fun q:Int × Bool=>decide (q.1=m))∘fun q=>if q.1=k then (q.1,true) else q)=fun q=>decide (q.1=m):=by
   funext q
   show decide ((if q.1=k then (q.1,true) else q).1=m)=_
   split<;>rfl
  rw [e]
  by_cases hm:m=k
  ·subst hm
   rw [h]
   simp
  ·simp [hm]
 ·rw [List.any_append]
  by_cases hm:m=k
  ·subst hm
   simp
  ·have:¬k=m:=fun e=>hm e.symm
   simp [hm,this]
theorem putM_len {α:Type}{l:List (Int × α)}{k:Int}{a:α}:(Gq l k a).length<=l.length+1:=by
 unfold Gq
 split
 ·rw [List.length_map];omega
 ·rw [List.length_append,List.length_singleton];omega
noncomputable def wi (ws:List (Option (Mp Bool)))(k:Nat):Option (Mp Bool):=(ws[k]?).bind id
structure Wn (n:Net)(kn:List (Option Int))(i:Nat)(ws:List (Option (Mp Bool)))(S:Nat):Prop where
 len:ws.length=n.a.toNat
 non:∀ k:Nat,ws[k]? = some none->∀ w∈n.b.take i,¬In kn k w
 som:∀ (k:Nat) d,ws[k]? = some (some d)->(∃ w∈n.b.take i,In kn k w)/\∀ m,hasM d.l m=true ↔ ∃ w∈n.b.take i,In kn k w/\m∈w.c.l
 sz:∀ (k:Nat) d,ws[k]? = some (some d)->d.l.length<=S
theorem within_ok {n:Net}(hn:NetW n){kn:List (Option Int)}(K:Knots n kn):OK (Bj n kn) fun ws=>∃ S,Wn n kn n.b.length ws S:=by
 have hs:sizeLine=16777216:=sizeLine_eq
 have hkl:=K.len
 have hz:=hn.z
 unfold Bj
 simp only [Option.bind_assoc,AX,AS]
 have tk:∀ {i:Nat}{w:Way},n.b[i]? = some w->(n.b.map fun w=>w.c.l.length).sum=((n.b.take i).map fun w=>w.c.l.length).sum+w.c.l.length+((n.b.drop (i+1)).map fun w=>w.c.l.length).sum:=fun {i w} h=>by
  obtain ⟨h1,h2⟩:=List.getElem?_eq_some_iff.mp h
  have e:n.b=n.b.take i++w::n.b.drop (i+1):=by
   have:=List.drop_eq_getElem_cons h1
   rw [h2] at this
   rw [<- this,List.take_append_drop]
  have e2:(n.b.map fun w=>w.c.l.length).sum=((n.b.take i++w::n.b.drop (i+1)).map fun w=>w.c.l.length).sum:=by rw [<- e]
  rw [e2,List.map_append,List.sum_append,List.map_cons,List.sum_cons,Nat.add_assoc]
 refine A7 (BA (fun i (ws:List (Option (Mp Bool)))=>Wn n kn i ws ((n.b.take i).map fun w=>w.c.l.length).sum) ⟨by rw [List.length_map,hkl],fun k _ w hw=>by simp at hw,fun k d hd=>?_,fun k d hd=>?_⟩ (fun i w ws hw hI=>?_) fun ws hI=>AE ⟨_,hI⟩)
 ·obtain ⟨_,_,e⟩:=List.mem_map.mp (List.mem_of_getElem? hd)
  cases e
 ·obtain ⟨_,_,e⟩:=List.mem_map.mp (List.mem_of_getElem? hd)
  cases e
 ·have hwi:=hn.w w (List.mem_of_getElem? hw)
  have h0:=hn.a0
  obtain ⟨ka,hka,hka1⟩:=K.num w.a hwi.1.1 hwi.1.2
  obtain ⟨kb,hkb,hkb1⟩:=K.num w.b hwi.2.1 hwi.2.2
  have sum1:=tk hw
  have hsum:((n.b.take (i+1)).map fun w=>w.c.l.length).sum=((n.b.take i).map fun w=>w.c.l.length).sum+w.c.l.length:=by
   rw [List.take_add_one,hw,List.map_append,List.sum_append]
   simp
  have mtk:∀ x,x∈n.b.take (i+1) ↔ x∈n.b.take i\/x=w:=fun x=>by
   rw [List.take_add_one,hw,List.mem_append]
   simp
  have at_:∀ {u:Int}{k:Nat},0<=u->u<n.a->kt kn u=some (k:Int)->atI kn u=some (some (k:Int)):=fun {u k} h0 h1 e=>by
   obtain ⟨j,rfl⟩:=Int.eq_ofNat_of_zero_le h0
   have hj:j<kn.length:=by omega
   have g:=List.getElem?_eq_getElem hj
   rw [FC g] at e
   rw [e] at g
   exact CK g
  rw [at_ hwi.1.1 hwi.1.2 hka,at_ hwi.2.1 hwi.2.2 hkb]
  simp only [AX]
  refine BV (fun hb=>?_) fun hb=>?_
  ·have hk:ka=kb:=by
    have:=of_decide_eq_true hb
    have:=Option.some.inj this
    omega
   subst hk
   have hin:In kn ka w:=⟨hka,hkb⟩
   have hlen:=hI.len
   have hkl':ka<ws.length:=by omega
   have step1:OK ((atI ws (ka:Int)).bind fun t=>cond t.isNone ((Fw ws (ka:Int) (some (Mp.mk []))).bind fun z=>some z) (some ws)) fun ws1=>ws1.length=n.a.toNat/\(∃ d,ws1[ka]? = some (some d)/\d.l.length<=((n.b.take i).map fun w=>w.c.l.length).sum/\∀ m,hasM d.l m=true ↔ ∃ w∈n.b.take i,In kn ka w/\m∈w.c.l)/\∀ j:Nat,j≠ka->ws1[j]? = ws[j]?:=by
    refine A7 (BZ hkl' fun t ht=>?_)
    refine BV (fun hb=>?_) fun hb=>?_
    ·have:t=none:=by cases t<;>simp at hb ⊢
     subst this
     refine A7 (Dy hkl' (AE ⟨by rw [List.length_set];exact hlen,⟨⟨[]⟩,by rw [List.getElem?_set,if_pos rfl,if_pos hkl'],Nat.zero_le _,fun m=>⟨fun h=>(by simp [hasM] at h),fun ⟨x,hx,h1,_⟩=>absurd h1 (hI.non ka ht x hx)⟩⟩,fun j hj=>by rw [List.getElem?_set,if_neg (Ne.symm hj)]⟩))
    ·cases t with
     | none=>simp at hb
     | some d=>exact AE ⟨hlen,⟨d,ht,hI.sz ka d ht,(hI.som ka d ht).2⟩,fun j _=>rfl⟩
   simp only [AS] at step1
   obtain ⟨ws1,hws1,hl1,⟨d1,hd1,hz1,hm1⟩,hoth⟩:=step1
   obtain ⟨t,ht,hws1⟩:=Option.bind_eq_some_iff.mp hws1
   rw [ht]
   simp only [AX]
   rw [hws1]
   simp only [AX]
   refine A7 (BA (fun j (y:List (Option (Mp Bool)))=>y.length=n.a.toNat/\(∃ d,y[ka]? = some (some d)/\d.l.length<=((n.b.take i).map fun w=>w.c.l.length).sum+j/\∀ m,hasM d.l m=true ↔ ((∃ w∈n.b.take i,In kn ka w/\m∈w.c.l)\/m∈w.c.l.take j))/\∀ j:Nat,j≠ka->y[j]? = ws[j]?) ⟨hl1,⟨d1,hd1,hz1,fun m=>by rw [hm1 m];simp⟩,hoth⟩ (fun j m y hm hy=>?_) fun y hy=>AE ⟨_,rfl,hy.1,fun k hk x hx=>?_,fun k d hd=>?_,fun k d hd=>?_⟩)
   ·obtain ⟨y1,⟨d,y2,y3,y4⟩,y5⟩:=hy
    have hj:=(List.getElem?_eq_some_iff.mp hm).1
    have hyk:ka<y.length:=by omega
    have hput:putDA y (ka:Int) m true=some (y.set ka (some ⟨Gq d.l m true⟩)):=by
     unfold putDA
     rw [ixN_nat hyk]
     simp only [AX]
     rw [y2]
     simp only [AX]
     unfold putO
     rw [if_pos (by omega)]
     rfl
    rw [hput]
    simp only [AX]
    refine AE ⟨_,rfl,by rw [List.length_set];exact y1,⟨_,by rw [List.getElem?_set,if_pos rfl,if_pos hyk],?_,fun m'=>?_⟩,fun j' hj'=>by rw [List.getElem?_set,if_neg (Ne.symm hj')];exact y5 j' hj'⟩
    ·have:=putM_len (l:=d.l) (k:=m) (a:=true)
     try dsimp only
     omega
    ·try dsimp only
     rw [hasM_put,Bool.or_eq_true,decide_eq_true_iff,y4 m',List.take_add_one,hm]
     rw [List.mem_append]
     constructor
     ·rintro (h|h|h)
      ·exact .inr (.inr (by rw [h];simp))
      ·exact .inl h
      ·exact .inr (.inl h)
     ·rintro (h|h|h)
      ·exact .inr (.inl h)
      ·exact .inr (.inr h)
      ·exact .inl (by simpa using h)
   ·obtain ⟨y1,⟨d,y2,y3,y4⟩,y5⟩:=hy
    by_cases e:k=ka
    ·subst e
     rw [y2] at hk
     cases hk
    ·rw [y5 k e] at hk
     rcases (mtk x).mp hx with hx|rfl
     ·exact hI.non k hk x hx
     ·intro hin'
      have:=hin'.1
      rw [hka] at this
      have:=Option.some.inj this
      omega
   ·obtain ⟨y1,⟨d',y2,y3,y4⟩,y5⟩:=hy
    by_cases e:k=ka
    ·subst e
     rw [y2] at hd
     cases hd
     refine ⟨⟨w,(mtk w).mpr (.inr rfl),hin⟩,fun m=>?_⟩
     rw [y4 m,List.take_length]
     constructor
     ·rintro (⟨x,hx,h⟩|h)
      ·exact ⟨x,(mtk x).mpr (.inl hx),h⟩
      ·exact ⟨w,(mtk w).mpr (.inr rfl),hin,h⟩
     ·rintro ⟨x,hx,h⟩
      rcases (mtk x).mp hx with hx|rfl
      ·exact .inl ⟨x,hx,h⟩
      ·exact .inr h.2
    ·rw [y5 k e] at hd
     have no:¬In kn k w:=fun hin'=>by
      have:=hin'.1
      rw [hka] at this
      have:=Option.some.inj this
      omega
     obtain ⟨⟨x,hx,h⟩,hm⟩:=hI.som k d hd
     refine ⟨⟨x,(mtk x).mpr (.inl hx),h⟩,fun m=>(hm m).trans ⟨fun ⟨x,hx,h⟩=>⟨x,(mtk x).mpr (.inl hx),h⟩,fun ⟨x,hx,h⟩=>?_⟩⟩
     rcases (mtk x).mp hx with hx|rfl
     ·exact ⟨x,hx,h⟩
     ·exact absurd h.1 no
   ·obtain ⟨y1,⟨d',y2,y3,y4⟩,y5⟩:=hy
    rw [hsum]
    by_cases e:k=ka
    ·subst e
     rw [y2] at hd
     cases hd
     exact y3
    ·rw [y5 k e] at hd
     have:=hI.sz k d hd
     omega
  ·have hk:ka≠kb:=fun e=>by
    have:=of_decide_eq_false hb
    exact this (by rw [e])
   have no:∀ k:Nat,¬In kn k w:=fun k hin'=>by
    have h1:=hin'.1
    have h2:=hin'.2
    rw [hka] at h1
    rw [hkb] at h2
    have:=Option.some.inj h1
    have:=Option.some.inj h2
    omega
   refine AE ⟨_,rfl,hI.len,fun k hk' x hx=>?_,fun k d hd=>?_,fun k d hd=>?_⟩
   ·rcases (mtk x).mp hx with hx|rfl
    ·exact hI.non k hk' x hx
    ·exact no k
   ·obtain ⟨⟨x,hx,h⟩,hm⟩:=hI.som k d hd
    refine ⟨⟨x,(mtk x).mpr (.inl hx),h⟩,fun m=>(hm m).trans ⟨fun ⟨x,hx,h⟩=>⟨x,(mtk x).mpr (.inl hx),h⟩,fun ⟨x,hx,h⟩=>?_⟩⟩
    rcases (mtk x).mp hx with hx|rfl
    ·exact ⟨x,hx,h⟩
    ·exact absurd h.1 (no k)
   ·have:=hI.sz k d hd
    rw [hsum]
    omega
noncomputable abbrev Lk:=Option (Int × Option Int)
noncomputable def Hub (n:Net)(v:Int):Prop:=(∃ w∈n.b,Rch (Ed n.b) v w.a/\Rch (Ed n.b) w.b v)/\∀ m,0<=m->m<n.c->∃ w∈n.b,Rch (Ed n.b) v w.a/\Rch (Ed n.b) w.b v/\m∈w.c.l
noncomputable def Eh (n:Net)(u:Int):Prop:=∃ v,Rch (Ed n.b) u v/\Hub n v
theorem ed_rng {n:Net}(hn:NetW n){u v:Int}(h:Ed n.b u v):(0<=u/\u<n.a)/\0<=v/\v<n.a:=by
 obtain ⟨w,hw,rfl,rfl⟩:=h
 exact hn.w w hw
theorem rch_rng {n:Net}(hn:NetW n){u v:Int}(h:Rch (Ed n.b) u v)(hu:0<=u/\u<n.a):0<=v/\v<n.a:=by
 cases h with
 | refl=>exact hu
 | tail _ e=>exact (ed_rng hn e).2
theorem rch_fall {n:Net}(hn:NetW n){kn:List (Option Int)}(K:Knots n kn){u v:Int}(h:Rch (Ed n.b) u v):∀ i j,kt kn u=some i->kt kn v=some j->j<=i:=by
 induction h with
 | refl =>
  intro i j h1 h2
  rw [h1] at h2
  cases h2
  exact Int.le_refl _
 | @tail v w h e ih =>
  intro i j h1 h2
  have r:=(ed_rng hn e).1
  obtain ⟨k,hk,_⟩:=K.num v r.1 r.2
  have:=ih i k h1 hk
  obtain ⟨x,hx,rfl,rfl⟩:=e
  have:=K.fall x hx k j hk h2
  omega
theorem E4 {n:Net}(hn:NetW n){kn:List (Option Int)}(K:Knots n kn){u k:Int}(hu:kt kn u=some k){w:Way}(hw:w∈n.b):In kn k w ↔ Rch (Ed n.b) u w.a/\Rch (Ed n.b) w.b u:=by
 constructor
 ·rintro ⟨h1,h2⟩
  exact ⟨K.same _ _ k hu h1,K.same _ _ k h2 hu⟩
 ·rintro ⟨h1,h2⟩
  have r:=hn.w w hw
  obtain ⟨a,ha,_⟩:=K.num w.a r.1.1 r.1.2
  obtain ⟨b,hb,_⟩:=K.num w.b r.2.1 r.2.2
  have e1:=rch_fall hn K h1 _ _ hu ha
  have e2:=K.fall w hw _ _ ha hb
  have e3:=rch_fall hn K h2 _ _ hb hu
  have ea:(a:Int)=k:=by omega
  have eb:(b:Int)=k:=by omega
  exact ⟨by rw [ha,ea],by rw [hb,eb]⟩
theorem missing_ok (d:Mp Bool){c:Int}(h0:0<=c)(h1:c<=1000):OK (B4 d c) fun l=>∀ m,m∈l ↔ (0<=m/\m<c)/\hasM d.l m=false:=by
 have hs:sizeLine=16777216:=sizeLine_eq
 obtain ⟨N,rfl⟩:=Int.eq_ofNat_of_zero_le h0
 unfold B4
 simp only [Option.bind_assoc,AX,AS]
 refine A7 (DV (n:=N) (by omega) (by omega) (by omega) ?_)
 refine Fd (c:=fun m=>!hasM d.l m) (g:=id) (fun _ _=>rfl) (fun _ _ _=>rfl) ?_
 intro m
 rw [List.map_id,List.mem_filter,List.mem_map]
 constructor
 ·rintro ⟨⟨i,hi,rfl⟩,h⟩
  rw [List.mem_range] at hi
  exact ⟨by omega,by simpa using h⟩
 ·rintro ⟨hm,h⟩
  exact ⟨⟨m.toNat,by rw [List.mem_range];omega,by omega⟩,by simpa using h⟩
theorem fair_ok {n:Net}(hn:NetW n){kn:List (Option Int)}(K:Knots n kn){ws:List (Option (Mp Bool))}{S:Nat}(W:Wn n kn n.b.length ws S){u:Int}{k:Nat}(hu:kt kn u=some (k:Int)){x:Option (Mp Bool)}(hx:ws[k]? = some x) :
  OK (CV x n.c) fun b=>b=true ↔ Hub n u:=by
 unfold CV
 simp only [Option.bind_assoc,AX,AS]
 cases x with
 | none =>
  refine AE ⟨fun h=>(nomatch h),fun h=>?_⟩
  obtain ⟨⟨w,hw,h1,h2⟩,_⟩:=h
  exact absurd ((E4 hn K hu hw).mpr ⟨h1,h2⟩) (W.non k hx w (by rw [List.take_length];exact hw))
 | some d =>
  show OK ((B4 d n.c).bind fun t=>some (decide ((t.length:Int)=0))) _
  refine CF (missing_ok d hn.c0 hn.c1) fun l hl=>AE ?_
  obtain ⟨⟨w,hw,hi⟩,hm⟩:=W.som k d hx
  rw [List.take_length] at hw
  have e:decide ((l.length:Int)=0)=true ↔ ∀ m,m ∉ l:=by
   rw [decide_eq_true_iff]
   constructor
   ·intro h m hm
    have:=List.length_pos_of_mem hm
    omega
   ·intro h
    cases l with
    | nil=>rfl
    | cons a l=>exact absurd (List.mem_cons_self ..) (h a)
  rw [e]
  constructor
  ·intro h
   refine ⟨⟨w,hw,(E4 hn K hu hw).mp hi⟩,fun m h0 h1=>?_⟩
   have:hasM d.l m=true:=by
    cases hh:hasM d.l m with
    | true=>rfl
    | false=>exact absurd ((hl m).mpr ⟨⟨h0,h1⟩,hh⟩) (h m)
   obtain ⟨w',hw',hi',hm'⟩:=(hm m).mp this
   rw [List.take_length] at hw'
   have:=(E4 hn K hu hw').mp hi'
   exact ⟨w',hw',this.1,this.2,hm'⟩
  ·intro h m hml
   obtain ⟨⟨h0,h1⟩,hh⟩:=(hl m).mp hml
   obtain ⟨w',hw',a1,a2,hm'⟩:=h.2 m h0 h1
   have:=(hm m).mpr ⟨w',by rw [List.take_length];exact hw',(E4 hn K hu hw').mpr ⟨a1,a2⟩,hm'⟩
   rw [this] at hh
   cases hh
theorem lack_ok {n:Net}(hn:NetW n){kn:List (Option Int)}(K:Knots n kn){ws:List (Option (Mp Bool))}{S:Nat}(W:Wn n kn n.b.length ws S){u:Int}{k:Nat}(hu:kt kn u=some (k:Int)){x:Option (Mp Bool)}(hx:ws[k]? = some x)(hf:¬Hub n u) :
  OK (Cr x n.c) fun l=>(l=none->∀ w∈n.b,¬In kn k w)/\∀ m,l=some m->(0<=m/\m<n.c)/\∀ w∈n.b,In kn k w->m ∉ w.c.l:=by
 unfold Cr
 simp only [Option.bind_assoc,AX,AS]
 cases x with
 | none=>exact AE ⟨fun _ w hw=>W.non k hx w (by rw [List.take_length];exact hw),fun m h=>nomatch h⟩
 | some d =>
  show OK ((B4 d n.c).bind fun t=>(atI t 0).bind fun z=>some (some z)) _
  refine CF (missing_ok d hn.c0 hn.c1) fun l hl=>?_
  obtain ⟨⟨w,hw,hi⟩,hm⟩:=W.som k d hx
  rw [List.take_length] at hw
  have hne:l ≠ []:=fun e=>hf ⟨⟨w,hw,(E4 hn K hu hw).mp hi⟩,fun m h0 h1=>by
   have:hasM d.l m=true:=by
    cases hh:hasM d.l m with
    | true=>rfl
    | false =>
     have:=(hl m).mpr ⟨⟨h0,h1⟩,hh⟩
     rw [e] at this
     cases this
   obtain ⟨w',hw',hi',hm'⟩:=(hm m).mp this
   rw [List.take_length] at hw'
   have:=(E4 hn K hu hw').mp hi'
   exact ⟨w',hw',this.1,this.2,hm'⟩⟩
  refine A7 (ok_at (by omega) (by have:=List.length_pos_iff.mpr hne;omega) fun z hz=>AE ⟨fun h=>(nomatch h),fun m h=>?_⟩)
  cases h
  have:=(hl z).mp (List.mem_of_getElem? hz)
  refine ⟨this.1,fun w' hw' hi' hm'=>?_⟩
  have h2:=(hm z).mpr ⟨w',by rw [List.take_length];exact hw',hi',hm'⟩
  rw [this.2] at h2
  cases h2
structure Shut (n:Net)(kn:List (Option Int))(rows:List Lk):Prop where
 len:(rows.length:Int)=n.a
 fr:∀ (u:Nat) r,rows[u]? = some r->(r=none ↔ Eh n u)
 sh:∀ (u:Nat) k l,rows[u]? = some (some (k,l))->kt kn u=some k/\(l=none->∀ w∈n.b,¬In kn k w)/\∀ m,l=some m->(0<=m/\m<n.c)/\∀ w∈n.b,In kn k w->m ∉ w.c.l
 lk:∃ f:Int->Option Int,∀ (u:Nat) k l,rows[u]? = some (some (k,l))->l=f k
theorem fairs_ok {n:Net}(hn:NetW n){kn:List (Option Int)}(K:Knots n kn){ws:List (Option (Mp Bool))}{S:Nat}(W:Wn n kn n.b.length ws S){f:Option Int->Option Bool}(hf:∀ k:Nat,f (some (k:Int))=(atI ws (k:Int)).bind fun t=>CV t n.c) :
  OK (D1 f kn) fun l=>l.length=n.a.toNat/\∀ u,0<=u->u<n.a->(bt l u=true ↔ Hub n u):=by
 have hkl:=K.len
 have hwl:=W.len
 have key:∀ (i:Nat) x,kn[i]? = some x->OK (f x) fun b=>b=true ↔ Hub n i:=fun i x hx=>by
  have hi:=(List.getElem?_eq_some_iff.mp hx).1
  obtain ⟨k,hk,hk1⟩:=K.num i (by omega) (by omega)
  have e:=FC hx
  rw [hk] at e
  rw [<- e,hf]
  exact A7 (BZ (by omega) fun t ht=>fair_ok hn K W hk ht)
 have gen:∀ (l:List (Option Int)) (j:Nat),(∀ (i:Nat) x,l[i]? = some x->kn[j+i]? = some x)->OK (D1 f l) fun bs=>bs.length=l.length/\∀ (i:Nat) b,bs[i]? = some b->(b=true ↔ Hub n ((j+i:Nat):Int)):=by
  intro l
  induction l with
  | nil=>intro j _;exact AE ⟨rfl,fun i b h=>by simp at h⟩
  | cons a l ih =>
   intro j hl
   have ha:=hl 0 a rfl
   refine CF (key j a (by simpa using ha)) fun b hb=>CF (ih (j+1) fun i x hx=>by
    have:=hl (i+1) x (by simpa using hx)
    rw [<- this]
    congr 1
    omega) fun bs ⟨h1,h2⟩=>AE ⟨by simp [h1],fun i x hx=>?_⟩
   cases i with
   | zero=>simp at hx;subst hx;exact hb
   | succ i =>
    have:=h2 i x (by simpa using hx)
    rw [this]
    have e:j+1+i=j+(i+1):=by omega
    rw [e]
 refine (gen kn 0 fun i x hx=>by rw [Nat.zero_add];exact hx).mono fun l ⟨h1,h2⟩=>⟨by omega,fun u h0 hu=>?_⟩
 obtain ⟨i,rfl⟩:=Int.eq_ofNat_of_zero_le h0
 have hi:i<l.length:=by omega
 have e:=List.getElem?_eq_getElem hi
 rw [CD e,h2 i _ e,Nat.zero_add]
theorem hub_rng {n:Net}(hn:NetW n){v:Int}(h:Hub n v):0<=v/\v<n.a:=by
 obtain ⟨⟨w,hw,h1,h2⟩,_⟩:=h
 exact rch_rng hn h2 (hn.w w hw).2
theorem shut_ok {n:Net}(hn:NetW n):OK (Gd n) fun rows=>∃ kn,Knots n kn/\Shut n kn rows:=by
 have hs:sizeLine=16777216:=sizeLine_eq
 have h0:=hn.a0
 have h1:=hn.a1
 unfold Gd
 simp only [Option.bind_assoc,AX,AS]
 refine CF (knots_ok hn) fun kn K=>CF (within_ok hn K) fun ws ⟨S,W⟩=>?_
 have hkl:=K.len
 have hwl:=W.len
 refine CF (begins_ok hn) fun bl B=>?_
 refine CF (fairs_ok hn K W (fun k=>rfl)) fun l ⟨l1,l2⟩=>?_
 refine CF (spread_ok B (by omega) l1) fun free ⟨f1,f2⟩=>?_
 have free_iff:∀ u:Int,0<=u->u<n.a->(bt free u=true ↔ Eh n u):=fun u hu0 hu1=>by
  rw [f2 u]
  constructor
  ·rintro ⟨v,hv,hr⟩
   have hvr:=bt_in hv
   exact ⟨v,hr.rev fun a b e=>ed_be.mpr e,(l2 v hvr.1 (by omega)).mp hv⟩
  ·rintro ⟨v,hr,hh⟩
   have hvr:=hub_rng hn hh
   exact ⟨v,(l2 v hvr.1 hvr.2).mpr hh,hr.rev fun a b e=>ed_be.mp e⟩
 have hlf:∃ lf:Int->Option Int,∀ (k:Nat) x l,ws[k]? = some x->Cr x n.c=some l->l=lf k:=⟨fun k=>((ws[k.toNat]?).bind fun x=>Cr x n.c).getD none,fun k x l hx hl=>by
  try dsimp only
  rw [Int.toNat_natCast,hx]
  show l=(Cr x n.c).getD none
  rw [hl]
  rfl⟩
 obtain ⟨lf,hlf⟩:=hlf
 refine A7 (BA (fun i (rows:List Lk)=>rows.length=i/\(∀ (u:Nat) r,rows[u]? = some r->(r=none ↔ Eh n u))/\∀ (u:Nat) k l,rows[u]? = some (some (k,l))->(kt kn u=some k/\(l=none->∀ w∈n.b,¬In kn k w)/\∀ m,l=some m->(0<=m/\m<n.c)/\∀ w∈n.b,In kn k w->m ∉ w.c.l)/\l=lf k) ⟨rfl,fun u r h=>by simp at h,fun u k l h=>by simp at h⟩ (fun i p rows hp hI=>?_) fun rows hI=>AE ⟨kn,K,⟨by rw [hI.1,Dx];omega,hI.2.1,fun u k l h=>(hI.2.2 u k l h).1,lf,fun u k l h=>(hI.2.2 u k l h).2⟩⟩)
 rw [Cj] at hp
 obtain ⟨x,hx,rfl⟩:=Option.map_eq_some_iff.mp hp
 have hi:=(List.getElem?_eq_some_iff.mp hx).1
 obtain ⟨r1,r2,r3⟩:=hI
 simp only [Nat.zero_add]
 obtain ⟨k,hk,hk1⟩:=K.num i (by omega) (by omega)
 have e:=FC hx
 rw [hk] at e
 subst e
 refine A7 (BZ (by omega) fun b hb=>?_)
 have hbf:=free_iff i (by omega) (by omega)
 rw [CD hb] at hbf
 have fin:∀ (a:Lk),(a=none ↔ Eh n i)->(∀ k l,a=some (k,l)->(kt kn i=some k/\(l=none->∀ w∈n.b,¬In kn k w)/\∀ m,l=some m->(0<=m/\m<n.c)/\∀ w∈n.b,In kn k w->m ∉ w.c.l)/\l=lf k)->OK ((Ds rows a).bind fun z=>some (Fl.nx z:Fl (List Lk) (List Lk))) fun fl=>∃ s',fl = .nx s'/\s'.length=i+1/\(∀ (u:Nat) r,s'[u]? = some r->(r=none ↔ Eh n u))/\∀ (u:Nat) k l,s'[u]? = some (some (k,l))->(kt kn u=some k/\(l=none->∀ w∈n.b,¬In kn k w)/\∀ m,l=some m->(0<=m/\m<n.c)/\∀ w∈n.b,In kn k w->m ∉ w.c.l)/\l=lf k:=fun a ha1 ha2=>by
  refine A7 (D4 (by omega) (AE ⟨_,rfl,by rw [List.length_append,r1];rfl,fun u r hr=>?_,fun u k l hr=>?_⟩))
  ·rw [List.getElem?_append] at hr
   split at hr
   ·exact r2 u r hr
   ·have hm:=List.mem_singleton.mp (List.mem_of_getElem? hr)
    have hl:=(List.getElem?_eq_some_iff.mp hr).1
    rw [List.length_singleton] at hl
    have:u=i:=by omega
    subst this
    rw [hm]
    exact ha1
  ·rw [List.getElem?_append] at hr
   split at hr
   ·exact r3 u k l hr
   ·have hm:=List.mem_singleton.mp (List.mem_of_getElem? hr)
    have hl:=(List.getElem?_eq_some_iff.mp hr).1
    rw [List.length_singleton] at hl
    have:u=i:=by omega
    subst this
    exact ha2 k l hm.symm
 cases b with
 | true=>exact fin none ⟨fun _=>hbf.mp rfl,fun _=>rfl⟩ fun k l h=>nomatch h
 | false =>
  have nf:¬Eh n i:=fun h=>by have:=hbf.mpr h;cases this
  have nh:¬Hub n i:=fun h=>nf ⟨i,.refl _,h⟩
  simp only [cond_false,AX]
  refine A7 (A7 (BZ (by omega) fun t ht=>?_))
  obtain ⟨l,el,hl⟩:=lack_ok hn K W hk ht nh
  refine A7 (OK.of el (AE ?_))
  exact fin (some ((k:Int),l)) ⟨fun h=>(nomatch h),fun h=>absurd h nf⟩ fun k' l' h=>by cases h;exact ⟨⟨hk,hl⟩,hlf k t l ht el⟩
noncomputable def wy (ws:List Way)(k:Int):Option Way:=if 0<=k then ws[k.toNat]? else none
theorem wy_at {ws:List Way}{k:Int}(h0:0<=k)(h1:k<ws.length):∃ w,atI ws k=some w/\wy ws k=some w:=by
 obtain ⟨w,e,hw⟩:=ok_at (P:=fun w=>ws[k.toNat]? = some w) h0 h1 fun w hw=>hw
 exact ⟨w,e,by unfold wy;rw [if_pos h0,hw]⟩
theorem at_wy {ws:List Way}{k:Int}{w:Way}(h:wy ws k=some w):atI ws k=some w/\0<=k/\k<ws.length:=by
 unfold wy at h
 by_cases h0:0<=k
 ·rw [if_pos h0] at h
  have hl:=(List.getElem?_eq_some_iff.mp h).1
  obtain ⟨w',e,hw⟩:=ok_at (P:=fun w=>ws[k.toNat]? = some w) h0 (by omega) fun w hw=>hw
  rw [h] at hw
  cases hw
  exact ⟨e,h0,by omega⟩
 ·rw [if_neg h0] at h
  cases h
noncomputable def wk (ws:List Way):Int->List Int->Option Int
 | n,[]=>some n
 | n,k::r=>match wy ws k with
  | some w=>if w.a=n then wk ws w.b r else none
  | none=>none
theorem CP (ws:List Way)(n k:Int)(r:List Int):wk ws n (k::r)=match wy ws k with
  | some w=>if w.a=n then wk ws w.b r else none
  | none=>none:=rfl
theorem GD (ws:List Way):∀ (a b:List Int) (n:Int),wk ws n (a++b)=(wk ws n a).bind fun m=>wk ws m b
 | [],_,_=>rfl
 | k::a,b,n=>by
  rw [List.cons_append,CP,CP]
  cases wy ws k with
  | none=>rfl
  | some w =>
   dsimp only
   split
   ·exact GD ws a b w.b
   ·rfl
theorem GW (ws:List Way):∀ (a:List Int) (n e:Int),wk ws n a=some e->∀ k∈a,∃ w,wy ws k=some w
 | [],_,_,_=>fun k hk=>nomatch hk
 | k::a,n,e,h=>fun j hj=>by
  rw [CP] at h
  cases hw:wy ws k with
  | none=>rw [hw] at h;cases h
  | some w =>
   rw [hw] at h
   dsimp only at h
   split at h
   ·rcases List.mem_cons.mp hj with z|z
    ·rw [z];exact ⟨w,hw⟩
    ·exact GW ws a w.b e h j z
   ·cases h
theorem walk_for {ρ:Type}{ws:List Way}(R:ρ){f:Int->Int->Option (Fl Int ρ)}(hf:∀ k n,f k n=some (match wy ws k with|some w=>if w.a=n then Fl.nx w.b else Fl.rt R|none=>Fl.rt R)):∀ (as:List Int) (n:Int),Cc f as n=some (match wk ws n as with|some e=>.nx e|none=>.rt R)
 | [],n=>rfl
 | k::as,n=>by
  show ((f k n).bind _)=_
  rw [hf,CP]
  cases wy ws k with
  | none=>rfl
  | some w =>
   dsimp only
   by_cases hw:w.a=n
   ·rw [if_pos hw,if_pos hw]
    exact walk_for R hf as w.b
   ·rw [if_neg hw,if_neg hw]
    rfl
theorem step_eq {ρ:Type}{ws:List Way}(R:ρ)(k n:Int):((cond (decide (k<0)) (some true) (cond (decide ((ws.length:Int)<=k)) (some true) ((atI ws k).bind fun t=>some (!decide (t.a=n))))).bind fun b=>cond b (some (Fl.rt R)) ((atI ws k).bind fun t=>some (Fl.nx t.b)))=some (match wy ws k with|some w=>if w.a=n then Fl.nx w.b else (Fl.rt R:Fl Int ρ)|none=>Fl.rt R):=by
 by_cases h0:k<0
 ·have e:wy ws k=none:=by unfold wy;rw [if_neg (by omega)]
  rw [decide_eq_true h0,e]
  rfl
 ·rw [decide_eq_false h0]
  by_cases h1:(ws.length:Int)<=k
  ·have e:wy ws k=none:=by unfold wy;rw [if_pos (by omega)];exact List.getElem?_eq_none (by omega)
   rw [decide_eq_true h1,e]
   rfl
  ·rw [decide_eq_false h1]
   obtain ⟨w,e1,e2⟩:=wy_at (ws:=ws) (k:=k) (by omega) (by omega)
   rw [e1,e2]
   by_cases hw:w.a=n
   ·simp [hw]
   ·simp [hw]
noncomputable def tk (ws:List Way)(m k:Int):Bool:=match wy ws k with|some w=>decide (m∈w.c.l)|none=>false
theorem tk_at {ws:List Way}{m k:Int}(h:∃ w,wy ws k=some w):((atI ws k).bind fun t=>some (decide (m∈t.c.l)))=some (tk ws m k):=by
 obtain ⟨w,hw⟩:=h
 rw [(at_wy hw).1]
 unfold tk
 rw [hw]
 rfl
theorem taken_eq {ws:List Way}{ring:List Int}(h:∀ k∈ring,∃ w,wy ws k=some w)(m:Int):Dk ws m ring=some (ring.any (tk ws m)):=by
 refine OK.eq ?_
 unfold Dk
 simp only [Option.bind_assoc,AX,AS]
 refine A7 (DZ (g:=tk ws m) (fun k hk=>tk_at (h k hk)) (AE ?_))
 rw [List.any_map]
 rfl
theorem pick_rev {α:Type}(l:List α):EN l none none (-1)=l.reverse:=by
 have e1:(sliceBounds none none (some (-1)) l.length)=((l.length:Int) - 1,-1,-1):=rfl
 unfold EN
 rw [e1]
 dsimp only
 unfold sliceRange
 rw [if_neg (by decide)]
 have e2:(if (l.length:Int) - 1 > -1 then ((l.length:Int) - 1 - -1 - -1 - 1) / (- -1) else 0).toNat=l.length:=by
  split
  ·rw [show (- (-1:Int))=1 from rfl,Int.ediv_one]
   omega
  ·omega
 dsimp only
 rw [e2]
 have mp:((List.range l.length).map fun (k:Nat)=>((l.length:Int) - 1 + -1 * (k:Int)).toNat)=(List.range l.length).map fun k=>l.length - 1 - k:=List.map_congr_left fun k hk=>by
  have:=List.mem_range.mp hk
  show ((l.length:Int) - 1 + -1 * (k:Int)).toNat=l.length - 1 - k
  omega
 rw [mp,List.filterMap_map]
 show (List.range l.length).filterMap (fun k=>l[l.length - 1 - k]?)=_
 have fm2:(List.range l.length).filterMap (fun k=>l[l.length - 1 - k]?)=l.reverse:=by
  have key:∀ n,n<=l.length->(List.range n).filterMap (fun k=>l[l.length - 1 - k]?)=l.reverse.take n:=fun n=>by
   induction n with
   | zero=>intro _;rfl
   | succ n ih =>
    intro hn
    rw [List.range_succ,List.filterMap_append,ih (by omega),List.take_succ]
    congr 1
    have h1:l[l.length - 1 - n]? = some (l[l.length - 1 - n]'(by omega)):=List.getElem?_eq_getElem (by omega)
    have h2:l.reverse[n]? = l[l.length - 1 - n]?:=List.getElem?_reverse (by omega)
    rw [h2,h1]
    simp [h1]
  have:=key l.length (Nat.le_refl _)
  rw [this,List.take_of_length_le (by rw [List.length_reverse];exact Nat.le_refl _)]
 rw [fm2]
theorem getM_app {α:Type}{k u:Int}{a:α}:∀ {l:List (Int × α)},Fo (l++[(k,a)]) u=if hasM l u=true then Fo l u else if k=u then some a else none
 | []=>by simp [Fo,hasM]
 | (j,b)::l=>by
  have ih:=getM_app (k:=k) (u:=u) (a:=a) (l:=l)
  show (if j=u then some b else Fo (l++[(k,a)]) u)=if ((decide (j=u)) || hasM l u)=true then (if j=u then some b else Fo l u) else if k=u then some a else none
  by_cases e:j=u
  ·simp [e]
  ·rw [if_neg e,ih]
   simp [e]
theorem hasM_app {α:Type}{k u:Int}{a:α}{l:List (Int × α)}:hasM (l++[(k,a)]) u=(hasM l u || decide (k=u)):=by
 unfold hasM
 rw [List.any_append]
 simp
theorem putM_new {α:Type}{k:Int}{a:α}{l:List (Int × α)}(h:hasM l k=false):Gq l k a=l++[(k,a)]:=by
 unfold Gq
 unfold hasM at h
 rw [h,if_neg Bool.false_ne_true]
theorem EU {ws:List Way}{k:Int}{w:Way}(h:wy ws k=some w):w∈ws:=by
 unfold wy at h
 by_cases h0:0<=k
 ·rw [if_pos h0] at h
  exact List.mem_of_getElem? h
 ·rw [if_neg h0] at h
  cases h
structure Lvg (ws:List Way)(N:Nat)(A:Int->Prop)(lv:List (List Int)):Prop where
 len:lv.length=N
 mem:∀ (k:Nat) r,lv[k]? = some r->∀ j,j∈r ↔ A j/\∃ w,wy ws j=some w/\w.a=k
noncomputable def st (ws:List Way)(p:List Int):List Int:=p.filterMap fun j=>(wy ws j).map fun w=>w.a
theorem Fe {ws:List Way}{j:Int}{w:Way}{p:List Int}(h:wy ws j=some w):st ws (j::p)=w.a::st ws p:=by
 unfold st
 rw [List.filterMap_cons_some (b:=w.a) (by rw [h];rfl)]
structure Bfs (ws:List Way)(N:Nat)(A:Int->Prop)(wd:List Bool)(b:Int)(cb:List (Int × Option Int))(line:List Int):Prop where
 nd:line.Nodup
 rg:∀ u∈line,0<=u/\u<N
 hd:line[0]? = some b
 hb:Fo cb b=some none
 key:∀ u,hasM cb u=true ↔ u∈line
 tr:∀ (j:Nat) u,line[j]? = some u->0<j->∃ k w,Fo cb u=some (some k)/\wy ws k=some w/\w.b=u/\A k/\bt wd k=false/\∃ i,i<j/\line[i]? = some w.a
 sz:cb.length=line.length
structure Pth (ws:List Way)(N:Nat)(A:Int->Prop)(wd:List Bool)(b:Int)(p:List Int):Prop where
 w:∃ q j x,p=q++[j]/\wy ws j=some x/\wk ws b p=some x.b/\bt wd j=true/\∀ i∈q,bt wd i=false
 a:∀ i∈p,A i
 nd:(st ws p).Nodup
 len:(st ws p).length=p.length
 rg:∀ u∈st ws p,0<=u/\u<N
 le:p.length<=N
theorem nodup_ix {l:List Int}(nd:l.Nodup){i j:Nat}{u:Int}(h1:l[i]? = some u)(h2:l[j]? = some u):i=j:=by
 obtain ⟨a1,b1⟩:=List.getElem?_eq_some_iff.mp h1
 obtain ⟨a2,b2⟩:=List.getElem?_eq_some_iff.mp h2
 exact (List.getElem_inj nd).mp (b1.trans b2.symm)
theorem traced_ok {ws:List Way}{N:Nat}{A:Int->Prop}{wd:List Bool}{b:Int}{cb:Mp (Option Int)}{line:List Int}(hN:N<=10000)(B:Bfs ws N A wd b cb.l line){last:Int}{w0:Way}(h0:wy ws last=some w0)(ha:A last)(hwd:bt wd last=true){i0:Nat}(hi0:line[i0]? = some w0.a) :
  OK (Eo ws cb last) (Pth ws N A wd b):=by
 have hs:sizeLine=16777216:=sizeLine_eq
 have hline:line.length<=N:=by
  have:=BD B.nd (m:=(List.range N).map fun (i:Nat)=>(i:Int)) fun u hu=>by
   have h:=B.rg u hu
   exact List.mem_map.mpr ⟨u.toNat,by rw [List.mem_range];omega,by omega⟩
  simpa using this
 unfold Eo
 simp only [Option.bind_assoc,AX,AS]
 refine A7 (FZ (fun s:List Int=>∃ (i:Nat) (x:Int),line[i]? = some x/\(∃ q j w,s=q++[j]/\wy ws j=some w/\w.a=x)/\wk ws x s.reverse=some w0.b/\(∃ t,s=last::t/\∀ j∈t,bt wd j=false)/\(∀ j∈s,A j)/\(st ws s.reverse).Nodup/\(st ws s.reverse).length=s.length/\∀ u∈st ws s.reverse,∃ k:Nat,i<=k/\line[k]? = some u) (fun _=>False) (fun _=>False) (fun s=>N - s.length) ?_ ?_ (fun s hS=>?_) (fun _ h=>h.elim) fun _ h=>h.elim)
 ·refine ⟨i0,w0.a,hi0,⟨[],last,w0,rfl,h0,rfl⟩,?_,⟨[],rfl,fun j h=>nomatch h⟩,fun j hj=>?_,?_,?_,fun u hu=>?_⟩
  ·show wk ws w0.a [last]=some w0.b
   rw [CP,h0]
   try dsimp only
   rw [if_pos rfl]
   rfl
  ·rw [List.mem_singleton.mp hj]
   exact ha
  ·show (st ws [last]).Nodup
   rw [Fe h0]
   simp [st]
  ·show (st ws [last]).length=1
   rw [Fe h0]
   rfl
  ·have hu:u∈st ws [last]:=hu
   rw [Fe h0] at hu
   have:u=w0.a:=by
    rcases List.mem_cons.mp hu with h|h
    ·exact h
    ·cases h
   rw [this]
   exact ⟨i0,Nat.le_refl _,hi0⟩
 ·try dsimp only
  omega
 ·obtain ⟨i,x,hx,⟨q,j,w,hsj,hwj,hwx⟩,hwk,⟨t,hst,ht⟩,hA,hnd,hln,hge⟩:=hS
  have hxl:x∈line:=List.mem_of_getElem? hx
  have hatl:atI s (-1)=some j:=by rw [hsj];exact atI_last q j
  have hsl:s.length<=N:=by
   have:=BD hnd (m:=line) fun u hu=>by
    obtain ⟨k,_,hk⟩:=hge u hu
    exact List.mem_of_getElem? hk
   omega
  have rd:∀ (β:Type) (f:Option Int->Option β),((atI s (-1)).bind fun t=>(atI ws t).bind fun t=>(Fo cb.l t.a).bind f)=(Fo cb.l x).bind f:=fun β f=>by
   rw [hatl]
   simp only [AX]
   rw [(at_wy hwj).1]
   simp only [AX]
   rw [hwx]
  rw [rd]
  by_cases hi:i=0
  ·subst hi
   rw [B.hd] at hx
   cases hx
   rw [B.hb]
   refine AE ?_
   rw [if_neg (by simp)]
   refine AE ?_
   show Pth ws N A wd b (EN s none none (-1))
   rw [pick_rev]
   refine ⟨⟨t.reverse,last,w0,by rw [hst];simp,h0,hwk,hwd,fun i hi=>ht i (List.mem_reverse.mp hi)⟩,fun i hi=>hA i (List.mem_reverse.mp hi),hnd,by rw [hln,List.length_reverse],fun u hu=>?_,by rw [List.length_reverse];exact hsl⟩
   obtain ⟨k,_,hk⟩:=hge u hu
   exact B.rg u (List.mem_of_getElem? hk)
  ·obtain ⟨k,w',hg,hw',hwb,hAk,hwk',i',hi',hl'⟩:=B.tr i x hx (by omega)
   rw [hg]
   refine AE ?_
   rw [if_pos (by rfl)]
   rw [rd,hg]
   simp only [AX]
   have hrev:(s++[k]).reverse=k::s.reverse:=by simp
   have hst':st ws (s++[k]).reverse=w'.a::st ws s.reverse:=by rw [hrev,Fe hw']
   have hnew:w'.a ∉ st ws s.reverse:=fun hm=>by
    obtain ⟨k2,hk2,hl2⟩:=hge _ hm
    have:=nodup_ix B.nd hl' hl2
    omega
   have hnd':(st ws (s++[k]).reverse).Nodup:=by
    rw [hst']
    exact List.nodup_cons.mpr ⟨hnew,hnd⟩
   have hge':∀ u∈st ws (s++[k]).reverse,∃ k:Nat,i'<=k/\line[k]? = some u:=fun u hu=>by
    rw [hst'] at hu
    rcases List.mem_cons.mp hu with h|h
    ·rw [h]
     exact ⟨i',Nat.le_refl _,hl'⟩
    ·obtain ⟨k2,hk2,hl2⟩:=hge u h
     exact ⟨k2,by omega,hl2⟩
   have hlen':(st ws (s++[k]).reverse).length=(s++[k]).length:=by
    rw [hst',List.length_cons,hln,List.length_append,List.length_singleton]
   have hsl':(s++[k]).length<=N:=by
    have:=BD hnd' (m:=line) fun u hu=>by
     obtain ⟨k,_,hk⟩:=hge' u hu
     exact List.mem_of_getElem? hk
    omega
   refine A7 (D4 (by omega) (AE ⟨⟨i',w'.a,hl',⟨s,k,w',rfl,hw',rfl⟩,?_,⟨t++[k],by rw [hst];rfl,fun j hj=>?_⟩,fun j hj=>?_,hnd',hlen',hge'⟩,?_⟩))
   ·rw [hrev,CP,hw']
    try dsimp only
    rw [if_pos rfl,hwb]
    exact hwk
   ·rcases List.mem_append.mp hj with h|h
    ·exact ht j h
    ·rw [List.mem_singleton.mp h]
     exact hwk'
   ·rcases List.mem_append.mp hj with h|h
    ·exact hA j h
    ·rw [List.mem_singleton.mp h]
     exact hAk
   ·try dsimp only
    rw [List.length_append,List.length_singleton] at hsl' ⊢
    omega
noncomputable def Nowh (ws:List Way)(A:Int->Prop)(wd:List Bool)(b:Int):Prop:=∀ p e,wk ws b p=some e->(∀ j∈p,A j)->∀ j∈p,bt wd j=false
theorem path_ok {ws:List Way}{N:Nat}{A:Int->Prop}{wd:List Bool}{b:Int}{lv:List (List Int)}(hN:N<=10000)(hw:∀ w∈ws,WayIn N w)(L:Lvg ws N A lv)(hb:0<=b/\b<N)(hwd:wd.length=ws.length) :
  OK (BE ws lv b wd) fun r=>match r with|none=>Nowh ws A wd b|some p=>Pth ws N A wd b p:=by
 have hs:sizeLine=16777216:=sizeLine_eq
 have hlv:=L.len
 have lineN:∀ line:List Int,line.Nodup->(∀ u∈line,0<=u/\u<N)->line.length<=N:=fun line nd rg=>by
  have:=BD nd (m:=(List.range N).map fun (i:Nat)=>(i:Int)) fun u hu=>by
   have h:=rg u hu
   exact List.mem_map.mpr ⟨u.toNat,by rw [List.mem_range];omega,by omega⟩
  simpa using this
 unfold BE
 simp only [Option.bind_assoc,AX,AS]
 refine A7 (FZ (fun (z:Mp (Option Int) × List Int × Int)=>Bfs ws N A wd b z.1.l z.2.1/\(0<=z.2.2/\z.2.2<=z.2.1.length)/\∀ (i:Nat) u,(i:Int)<z.2.2->z.2.1[i]? = some u->∀ j w,A j->wy ws j=some w->w.a=u->bt wd j=false/\w.b∈z.2.1) (fun _=>False) (fun r:Option (List Int)=>match r with|none=>False|some p=>Pth ws N A wd b p) (fun z=>N - z.2.2.toNat) ⟨⟨by simp,fun u hu=>?_,rfl,?_,fun u=>?_,fun j u hj h=>?_,rfl⟩,⟨Int.le_refl _,by simp⟩,fun i u h=>?_⟩ ?_ (fun z hz=>?_) (fun _ h=>h.elim) fun r hr=>?_)
 ·rw [List.mem_singleton.mp hu]
  exact hb
 ·simp [Fo]
 ·simp [hasM,eq_comm]
 ·cases j with
  | zero=>omega
  | succ j=>simp at hj
 ·dsimp only at h
  omega
 ·try dsimp only
  omega
 ·obtain ⟨B,⟨p0,p1⟩,pr⟩:=hz
  refine AE ?_
  by_cases hlt:z.2.2<(z.2.1.length:Int)
  ·rw [if_pos (decide_eq_true hlt)]
   obtain ⟨pl,hpl⟩:=Int.eq_ofNat_of_zero_le p0
   rw [hpl] at hlt pr ⊢
   refine A7 (BZ (by omega) fun node hnode=>?_)
   have hnr:=B.rg node (List.mem_of_getElem? hnode)
   obtain ⟨nk,rfl⟩:=Int.eq_ofNat_of_zero_le hnr.1
   refine A7 (BZ (by omega) fun r hr=>?_)
   refine A7 (ok_for (fun i (y:Mp (Option Int) × List Int)=>Bfs ws N A wd b y.1.l y.2/\(∃ ext,y.2=z.2.1++ext)/\∀ j∈r.take i,bt wd j=false/\∀ w,wy ws j=some w->w.b∈y.2) (fun _=>False) (fun r:Option (List Int)=>match r with|none=>False|some p=>Pth ws N A wd b p) ⟨B,⟨[],by simp⟩,fun j hj=>by simp at hj⟩ (fun i a y ha hy=>?_) (fun y hy=>?_) (fun _ h=>h.elim) fun r hr=>AE hr)
   ·obtain ⟨Y,⟨ext,hext⟩,yt⟩:=hy
    obtain ⟨hAa,w,hwa,hwn⟩:=(L.mem nk r hr a).mp (List.mem_of_getElem? ha)
    obtain ⟨hat,ha0,ha1⟩:=at_wy hwa
    obtain ⟨a,rfl⟩:=Int.eq_ofNat_of_zero_le ha0
    refine A7 (BZ (by omega) fun t ht=>?_)
    have hnode':y.2[pl]? = some (nk:Int):=by
     rw [hext,List.getElem?_append_left (by omega)]
     exact hnode
    refine BV (fun hb'=>?_) fun hb'=>?_
    ·subst hb'
     refine A7 ((traced_ok (cb:=y.1) hN Y hwa hAa (CD ht) (by rw [hwn];exact hnode')).mono fun p hp=>?_)
     exact AE hp
    ·subst hb'
     rw [hat]
     simp only [AX]
     have hwi:=hw w (EU hwa)
     refine BV (fun hc=>?_) fun hc=>?_
     ·have hno:hasM y.1.l w.b=false:=by simpa using hc
      have hnl:w.b ∉ y.2:=fun h=>by
       rw [(Y.key w.b).mpr h] at hno
       cases hno
      have hyl:=lineN y.2 Y.nd Y.rg
      have hsz:=Y.sz
      have hput:putO y.1 w.b (some (a:Int))=some ⟨y.1.l++[(w.b,some (a:Int))]⟩:=by
       unfold putO
       rw [if_pos (by omega),putM_new hno]
      rw [hput]
      simp only [AX]
      have Y':Bfs ws N A wd b (y.1.l++[(w.b,some (a:Int))]) (y.2++[w.b]):=by
       have hbl:b∈y.2:=List.mem_of_getElem? Y.hd
       refine ⟨?_,fun u hu=>?_,?_,?_,fun u=>?_,fun j u hj h0=>?_,by simp [hsz]⟩
       ·exact List.nodup_append.mpr ⟨Y.nd,by simp,fun u hu v hv e=>by
         rw [List.mem_singleton.mp hv] at e
         exact hnl (e ▸ hu)⟩
       ·rcases List.mem_append.mp hu with h|h
        ·exact Y.rg u h
        ·rw [List.mem_singleton.mp h]
         exact hwi.2
       ·rw [List.getElem?_append_left (by have:=List.length_pos_of_mem hbl;omega)]
        exact Y.hd
       ·rw [getM_app,if_pos ((Y.key b).mpr hbl)]
        exact Y.hb
       ·rw [hasM_app,Bool.or_eq_true,Y.key u,List.mem_append,List.mem_singleton,decide_eq_true_iff]
        constructor
        ·exact fun h=>h.imp id Eq.symm
        ·exact fun h=>h.imp id Eq.symm
       ·rw [List.getElem?_append] at hj
        split at hj
        ·obtain ⟨k,w',g1,g2,g3,g4,g5,i',g6,g7⟩:=Y.tr j u hj h0
         refine ⟨k,w',?_,g2,g3,g4,g5,i',g6,?_⟩
         ·rw [getM_app,if_pos ((Y.key u).mpr (List.mem_of_getElem? hj))]
          exact g1
         ·rw [List.getElem?_append_left (by omega)]
          exact g7
        ·have hu:=List.mem_singleton.mp (List.mem_of_getElem? hj)
         subst hu
         refine ⟨a,w,?_,hwa,rfl,hAa,CD ht,pl,?_,?_⟩
         ·rw [getM_app,if_neg (by rw [hno];exact Bool.false_ne_true),if_pos rfl]
         ·have:=(List.getElem?_eq_some_iff.mp hnode').1
          omega
         ·rw [hwn,List.getElem?_append_left (List.getElem?_eq_some_iff.mp hnode').1]
          exact hnode'
      refine A7 (D4 (by omega) (AE ⟨Y',⟨ext++[w.b],by rw [hext];simp⟩,fun j hj=>?_⟩))
      rw [List.take_add_one,ha] at hj
      rcases List.mem_append.mp hj with h|h
      ·obtain ⟨g1,g2⟩:=yt j h
       exact ⟨g1,fun w' hw'=>List.mem_append_left _ (g2 w' hw')⟩
      ·cases List.mem_singleton.mp h
       refine ⟨CD ht,fun w' hw'=>?_⟩
       rw [hwa] at hw'
       cases hw'
       exact List.mem_append_right _ (List.mem_singleton.mpr rfl)
     ·have hyes:hasM y.1.l w.b=true:=by simpa using hc
      refine AE ⟨Y,⟨ext,hext⟩,fun j hj=>?_⟩
      rw [List.take_add_one,ha] at hj
      rcases List.mem_append.mp hj with h|h
      ·exact yt j h
      ·cases List.mem_singleton.mp h
       refine ⟨CD ht,fun w' hw'=>?_⟩
       rw [hwa] at hw'
       cases hw'
       exact (Y.key w.b).mp hyes
   ·obtain ⟨Y,⟨ext,hext⟩,yt⟩:=hy
    rw [List.take_length] at yt
    have hle:(z.2.1.length:Int)<=y.2.length:=by rw [hext,List.length_append];omega
    have hyl:=lineN y.2 Y.nd Y.rg
    refine AE ⟨⟨Y,⟨by dsimp only;omega,by dsimp only;omega⟩,fun i u hi hu j w hA hj hwa=>?_⟩,?_⟩
    ·dsimp only at hi hu ⊢
     have hil:i<z.2.1.length:=by omega
     rw [hext,List.getElem?_append_left hil] at hu
     by_cases e:i=pl
     ·subst e
      rw [hnode] at hu
      cases hu
      obtain ⟨g1,g2⟩:=yt j ((L.mem nk r hr j).mpr ⟨hA,w,hj,hwa⟩)
      exact ⟨g1,g2 w hj⟩
     ·obtain ⟨g1,g2⟩:=pr i u (by omega) hu j w hA hj hwa
      exact ⟨g1,by rw [hext];exact List.mem_append_left _ g2⟩
    ·try dsimp only
     omega
  ·rw [if_neg (by rw [decide_eq_true_iff];exact hlt)]
   refine AE ?_
   show Nowh ws A wd b
   have hbl:b∈z.2.1:=List.mem_of_getElem? B.hd
   have key:∀ (p:List Int) (u e:Int),u∈z.2.1->wk ws u p=some e->(∀ j∈p,A j)->∀ j∈p,bt wd j=false:=by
    intro p
    induction p with
    | nil=>intro u e _ _ _ j hj;cases hj
    | cons k p ih =>
     intro u e hu hk hA j hj
     rw [CP] at hk
     cases hwk:wy ws k with
     | none=>rw [hwk] at hk;cases hk
     | some w =>
      rw [hwk] at hk
      try dsimp only at hk
      split at hk
      ·rename_i hwa
       obtain ⟨i,hi⟩:=List.mem_iff_getElem?.mp hu
       have hil:=(List.getElem?_eq_some_iff.mp hi).1
       obtain ⟨g1,g2⟩:=pr i u (by omega) hi k w (hA k (List.mem_cons_self ..)) hwk hwa
       rcases List.mem_cons.mp hj with h|h
       ·rw [h];exact g1
       ·exact ih w.b e g2 hk (fun j hj=>hA j (List.mem_cons_of_mem _ hj)) j h
      ·cases hk
   exact fun p e hk hA=>key p b e hbl hk hA
 ·cases r with
  | none=>exact hr.elim
  | some p=>exact AE hr
theorem FK {n:Net}(hn:NetW n){wd:List Bool}(hwd:wd.length=n.b.length):OK (Bf n wd) fun lv=>Lvg n.b n.a.toNat (fun j=>bt wd j=true) lv:=by
 have hs:sizeLine=16777216:=sizeLine_eq
 have h0:=hn.a0
 have h1:=hn.a1
 have hl:=hn.l
 obtain ⟨N,hN⟩:=Int.eq_ofNat_of_zero_le h0
 unfold Bf
 simp only [Option.bind_assoc,AX,AS]
 refine A7 (DV (n:=N) (by omega) (by omega) (by omega) ?_)
 rw [range_map0]
 refine A7 (BA (fun i ls=>Laid ls N (C6 0 n.b) i (fun x:Int × Way=>bt wd x.1) (fun x=>x.2.a) (fun x=>x.1)) laid0 (fun i x ls hx h=>?_) fun ls h=>AE ⟨by rw [h.len];omega,fun k r hr j=>?_⟩)
 ·have hx':=hx
  rw [Cj] at hx'
  obtain ⟨w,hw,rfl⟩:=Option.map_eq_some_iff.mp hx'
  have hi:=(List.getElem?_eq_some_iff.mp hw).1
  have hwi:=(hn.w w (List.mem_of_getElem? hw)).1
  simp only [Nat.zero_add] at hx ⊢
  refine A7 (BZ (by omega) fun b hb=>?_)
  cases b with
  | true=>exact A7 ((h.step hx (by dsimp only;exact CD hb) hwi.1 (by dsimp only;omega) (by omega)).mono fun ls' h'=>AE ⟨ls',rfl,h'⟩)
  | false=>exact AE ⟨ls,rfl,h.skip hx (by dsimp only;exact CD hb)⟩
 ·rw [h.mem k r hr j,List.take_length]
  constructor
  ·rintro ⟨x,hx,hb,e1,rfl⟩
   obtain ⟨i,hi⟩:=List.mem_iff_getElem?.mp hx
   rw [Cj] at hi
   obtain ⟨w,hw,rfl⟩:=Option.map_eq_some_iff.mp hi
   simp only [Nat.zero_add] at hb e1 ⊢
   refine ⟨hb,w,?_,e1⟩
   unfold wy
   rw [if_pos (by omega),Int.toNat_natCast]
   exact hw
  ·rintro ⟨hb,w,hw,e⟩
   unfold wy at hw
   by_cases hj:0<=j
   ·rw [if_pos hj] at hw
    obtain ⟨i,rfl⟩:=Int.eq_ofNat_of_zero_le hj
    rw [Int.toNat_natCast] at hw
    refine ⟨((i:Int),w),List.mem_iff_getElem?.mpr ⟨i,?_⟩,hb,e,rfl⟩
    rw [Cj,hw,Nat.zero_add]
    rfl
   ·rw [if_neg hj] at hw
    cases hw
theorem rch_wk {ws:List Way}:∀ (p:List Int) (u e:Int),wk ws u p=some e->Rch (Ed ws) u e
 | [],u,e,h=>by cases h;exact .refl _
 | k::p,u,e,h=>by
  rw [CP] at h
  cases hw:wy ws k with
  | none=>rw [hw] at h;cases h
  | some w =>
   rw [hw] at h
   dsimp only at h
   split at h
   ·rename_i ha
    exact .head ⟨w,EU hw,ha,rfl⟩ (rch_wk p w.b e h)
   ·cases h
theorem wy_of {ws:List Way}{w:Way}(h:w∈ws):∃ i:Nat,i<ws.length/\wy ws (i:Int)=some w:=by
 obtain ⟨i,hi⟩:=List.mem_iff_getElem?.mp h
 exact ⟨i,(List.getElem?_eq_some_iff.mp hi).1,by unfold wy;rw [if_pos (by omega),Int.toNat_natCast];exact hi⟩
theorem wk_rch {ws:List Way}{u e:Int}(h:Rch (Ed ws) u e):∃ p,wk ws u p=some e:=by
 induction h with
 | refl=>exact ⟨[],rfl⟩
 | @tail v w h e ih =>
  obtain ⟨p,hp⟩:=ih
  obtain ⟨x,hx,rfl,rfl⟩:=e
  obtain ⟨i,_,hi⟩:=wy_of hx
  refine ⟨p++[(i:Int)],?_⟩
  rw [GD,hp]
  show wk ws x.a [(i:Int)]=_
  rw [CP,hi]
  dsimp only
  rw [if_pos rfl]
  rfl
theorem wk_in {n:Net}(hn:NetW n){kn:List (Option Int)}(K:Knots n kn){k:Int}:∀ (p:List Int) (u e:Int),wk n.b u p=some e->kt kn u=some k->kt kn e=some k->∀ j∈p,∃ w,wy n.b j=some w/\In kn k w
 | [],_,_,_,_,_=>fun j hj=>nomatch hj
 | i::p,u,e,h,hu,he=>by
  rw [CP] at h
  cases hw:wy n.b i with
  | none=>rw [hw] at h;cases h
  | some w =>
   rw [hw] at h
   dsimp only at h
   split at h
   ·rename_i ha
    have hm:=EU hw
    have r:=(hn.w w hm).2
    obtain ⟨b,hb,_⟩:=K.num w.b r.1 r.2
    rw [<- ha] at hu
    have e1:=K.fall w hm _ _ hu hb
    have e2:=rch_fall hn K (rch_wk p w.b e h) _ _ hb he
    have eb:(b:Int)=k:=by omega
    rw [eb] at hb
    have ih:=wk_in hn K p w.b e h hb he
    intro j hj
    rcases List.mem_cons.mp hj with z|z
    ·rw [z];exact ⟨w,hw,hu,hb⟩
    ·exact ih j z
   ·cases h
theorem Ei {ws:List Way}{j:Int}{w:Way}(h:wy ws j=some w):∃ i:Nat,j=i/\ws[i]? = some w:=by
 unfold wy at h
 by_cases hj:0<=j
 ·rw [if_pos hj] at h
  exact ⟨j.toNat,by omega,h⟩
 ·rw [if_neg hj] at h
  cases h
noncomputable def mks (ws:List Way)(ring:List Int):List Int:=ring.flatMap fun k=>match wy ws k with|some w=>w.c.l|none=>[]
theorem GH {ws:List Way}(a b:List Int):mks ws (a++b)=mks ws a++mks ws b:=by
 unfold mks
 rw [List.flatMap_append]
theorem nsum_set {f:List Nat}{j:Nat}{x:Nat}(hj:f[j]? = some x):(f.set j 0).sum+x=f.sum:=by
 induction f generalizing j with
 | nil=>simp at hj
 | cons y f ih =>
  cases j with
  | zero=>simp at hj;subst hj;simp;omega
  | succ j =>
   have:=ih (j:=j) (by simpa using hj)
   simp only [List.set_cons_succ,List.sum_cons]
   omega
theorem sum_nodup:∀ {L:List Nat}{f:List Nat},L.Nodup->(∀ i∈L,i<f.length)->(L.map fun i=>f[i]?.getD 0).sum<=f.sum
 | [],_,_,_=>Nat.zero_le _
 | i::L,f,nd,h=>by
  have ⟨h1,h2⟩:=List.nodup_cons.mp nd
  have hi:=h i (List.mem_cons_self ..)
  have g:=List.getElem?_eq_getElem hi
  have ih:=sum_nodup (L:=L) (f:=f.set i 0) h2 fun k hk=>by rw [List.length_set];exact h k (List.mem_cons_of_mem _ hk)
  have e:(L.map fun k=>(f.set i 0)[k]?.getD 0)=L.map fun k=>f[k]?.getD 0:=List.map_congr_left fun k hk=>by
   rw [List.getElem?_set,if_neg (fun z:i=k=>h1 (by rw [z];exact hk))]
  rw [e] at ih
  have:=nsum_set g
  rw [List.map_cons,List.sum_cons,g]
  show f[i]+_<=_
  omega
theorem mks_one {ws:List Way}{k:Int}{w:Way}(h:wy ws k=some w):mks ws [k]=w.c.l:=by
 unfold mks
 rw [List.flatMap_cons,List.flatMap_nil,List.append_nil,h]
theorem st_mem {ws:List Way}{j:Int}{w:Way}{p:List Int}(h:wy ws j=some w)(hj:j∈p):w.a∈st ws p:=List.mem_filterMap.mpr ⟨j,hj,by rw [h];rfl⟩
theorem mks_st {ws:List Way}:∀ (p:List Int),(∀ j∈p,∃ w,wy ws j=some w)->(st ws p).Nodup->∃ L:List Nat,L.Nodup/\(∀ i∈L,i<ws.length/\(i:Int)∈p)/\(mks ws p).length=(L.map fun i=>(ws.map fun w=>w.c.l.length)[i]?.getD 0).sum
 | [],_,_=>⟨[],by simp,fun i h=>(nomatch h),rfl⟩
 | j::p,h,nd=>by
  obtain ⟨w,hw⟩:=h j (List.mem_cons_self ..)
  rw [Fe hw] at nd
  obtain ⟨n1,n2⟩:=List.nodup_cons.mp nd
  obtain ⟨L,l1,l2,l3⟩:=mks_st p (fun k hk=>h k (List.mem_cons_of_mem _ hk)) n2
  obtain ⟨i,rfl,hi⟩:=Ei hw
  refine ⟨i::L,List.nodup_cons.mpr ⟨fun hm=>n1 (st_mem hw (l2 i hm).2),l1⟩,fun k hk=>?_,?_⟩
  ·rcases List.mem_cons.mp hk with rfl|hk
   ·exact ⟨(List.getElem?_eq_some_iff.mp hi).1,List.mem_cons_self ..⟩
   ·exact ⟨(l2 k hk).1,List.mem_cons_of_mem _ (l2 k hk).2⟩
  ·have e:mks ws ((i:Int)::p)=mks ws [(i:Int)]++mks ws p:=GH [(i:Int)] p
   rw [e,List.length_append,mks_one hw,l3,List.map_cons,List.sum_cons,List.getElem?_map,hi]
   rfl
theorem mks_le {ws:List Way}{p:List Int}(h:∀ j∈p,∃ w,wy ws j=some w)(nd:(st ws p).Nodup):(mks ws p).length<=(ws.map fun w=>w.c.l.length).sum:=by
 obtain ⟨L,l1,l2,l3⟩:=mks_st p h nd
 rw [l3]
 exact sum_nodup l1 fun i hi=>by rw [List.length_map];exact (l2 i hi).1
structure Ring (n:Net)(b:Int)(ring:List Int):Prop where
 w:wk n.b b ring=some b
 ne:ring ≠ []
 m:∀ m,0<=m->m<n.c->ring.any (tk n.b m)=true
 le:(ring.length:Int)<=n.a * (n.c+1)
 mkl:(mks n.b ring).length<=(n.c.toNat+1) * (n.b.map fun w=>w.c.l.length).sum
theorem Ew {α:Type}{l:List α}{f:α->Bool}{i:Nat}{x:α}(h:l[i]? = some x):bt (l.map f) (i:Int)=f x:=CD (by rw [List.getElem?_map,h];rfl)
theorem FQ {n:Net}(hn:NetW n){kn:List (Option Int)}(K:Knots n kn){b:Int}(hH:Hub n b):OK (C3 n kn b) (Ring n b):=by
 have hs:sizeLine=16777216:=sizeLine_eq
 have hbr:=hub_rng hn hH
 have h0:=hn.a0
 have h1:=hn.a1
 have hc0:=hn.c0
 have hc1:=hn.c1
 have hac:=hn.ac
 have hkl:=K.len
 obtain ⟨N,hN⟩:=Int.eq_ofNat_of_zero_le h0
 have hNt:n.a.toNat=N:=by omega
 obtain ⟨C,hC⟩:=Int.eq_ofNat_of_zero_le hc0
 obtain ⟨k,hk,_⟩:=K.num b hbr.1 hbr.2
 unfold C3
 simp only [Option.bind_assoc,AX,AS]
 have at_:∀ {u:Int},0<=u->u<n.a->atI kn u=some (kt kn u):=fun {u} h0 h1=>by
  obtain ⟨j,rfl⟩:=Int.eq_ofNat_of_zero_le h0
  have hj:j<kn.length:=by omega
  have g:=List.getElem?_eq_getElem hj
  rw [FC g]
  exact CK g
 refine A7 (DZ (g:=fun w:Way=>decide (kt kn w.a=kt kn w.b)) (fun w hw=>?_) ?_)
 ·have r:=hn.w w hw
  rw [at_ r.1.1 r.1.2,at_ r.2.1 r.2.2]
  rfl
 refine CF (FK hn (by rw [List.length_map])) fun lv L=>?_
 rw [hNt] at L
 have hwN:∀ w∈n.b,WayIn N w:=fun w hw=>by rw [<- hN];exact hn.w w hw
 have allow:∀ {j:Int}{w:Way},wy n.b j=some w->(bt (n.b.map fun w:Way=>decide (kt kn w.a=kt kn w.b)) j=true ↔ kt kn w.a=kt kn w.b):=fun {j w} h=>by
  obtain ⟨i,rfl,hi⟩:=Ei h
  rw [Ew hi,decide_eq_true_iff]
 have found:∀ {wd:List Bool}{here:Int}{w:Way},kt kn here=some (k:Int)->w∈n.b->In kn k w->(∀ j,wy n.b j=some w->bt wd j=true)->¬Nowh n.b (fun j=>bt (n.b.map fun w:Way=>decide (kt kn w.a=kt kn w.b)) j=true) wd here:=fun {wd here w} hh hw hi hb hno=>by
  obtain ⟨p,hp⟩:=wk_rch (K.same here w.a k hh hi.1)
  obtain ⟨i,_,hi2⟩:=wy_of hw
  have hpw:wk n.b here (p++[(i:Int)])=some w.b:=by
   rw [GD,hp]
   show wk n.b w.a [(i:Int)]=_
   rw [CP,hi2]
   dsimp only
   rw [if_pos rfl]
   rfl
  have hin:=wk_in hn K _ _ _ hpw hh hi.2
  have:=hno _ _ hpw (fun j hj=>by
   obtain ⟨w',hw',hi'⟩:=hin j hj
   exact (allow hw').mpr (hi'.1.trans hi'.2.symm)) i (by simp)
  rw [hb i hi2] at this
  cases this
 have inK:∀ (p:List Int) (u e:Int),wk n.b u p=some e->kt kn u=some (k:Int)->(∀ j∈p,bt (n.b.map fun w:Way=>decide (kt kn w.a=kt kn w.b)) j=true)->kt kn e=some (k:Int):=by
  intro p
  induction p with
  | nil=>intro u e h hu _;cases h;exact hu
  | cons j p ih =>
   intro u e h hu ha
   rw [CP] at h
   cases hw:wy n.b j with
   | none=>rw [hw] at h;cases h
   | some w =>
    rw [hw] at h
    dsimp only at h
    split at h
    ·rename_i hwa
     have:=(allow hw).mp (ha j (List.mem_cons_self ..))
     exact ih w.b e h (by rw [<- this,hwa];exact hu) fun i hi=>ha i (List.mem_cons_of_mem _ hi)
    ·cases h
 rw [hC]
 refine A7 (DV (n:=C) (by omega) (by omega) (by omega) ?_)
 have bound:∀ {i:Nat},i<=C->N * i+N<=1000000:=fun {i} hi=>by
  have e1:N * i<=N * C:=Nat.mul_le_mul_left N hi
  have e2:n.a * (n.c+1)=((N * C+N:Nat):Int):=by
   rw [hN,hC]
   have:((N:Int)) * ((C:Int)+1)=(N:Int) * C+N:=by rw [Int.mul_add,Int.mul_one]
   rw [this]
   omega
  omega
 refine A7 (BA (fun i (s:List Int × Int)=>wk n.b b s.1=some s.2/\kt kn s.2=some (k:Int)/\(0<=s.2/\s.2<n.a)/\s.1.length<=N * i/\(∀ m:Nat,m<i->s.1.any (tk n.b m)=true)/\(mks n.b s.1).length<=i * (n.b.map fun w=>w.c.l.length).sum) ⟨rfl,hk,hbr,Nat.zero_le _,fun m hm=>by omega,Nat.zero_le _⟩ (fun i m s hm hI=>?_) fun s hI=>?_)
 ·obtain ⟨hi,rfl⟩:i<C/\(0:Int)+(i:Int)=m:=by
   have:=List.getElem?_eq_some_iff.mp hm
   simpa using this
  obtain ⟨s1,s2,s3,s4,s5,s6⟩:=hI
  rw [Int.zero_add]
  have e6:(i+1) * (n.b.map fun w=>w.c.l.length).sum=i * (n.b.map fun w=>w.c.l.length).sum+(n.b.map fun w=>w.c.l.length).sum:=Nat.succ_mul ..
  rw [taken_eq (fun k hk=>GW n.b s.1 b s.2 s1 k hk)]
  simp only [AX]
  have bd:=bound (i:=i) (by omega)
  have e3:N * (i+1)=N * i+N:=Nat.mul_succ N i
  refine BV (fun hb=>?_) fun hb=>?_
  ·obtain ⟨w,hw,g1,g2,g3⟩:=hH.2 i (by omega) (by omega)
   have hin:=(E4 hn K hk hw).mpr ⟨g1,g2⟩
   refine A7 (DZ (g:=fun w:Way=>decide ((i:Int)∈w.c.l)) (fun _ _=>rfl) ?_)
   refine A7 ((path_ok (by omega) hwN L (by omega) (by rw [List.length_map])).mono fun r hr=>?_)
   cases r with
   | none =>
    exact (found s2 hw hin (fun j hj=>by
     obtain ⟨i',rfl,hi'⟩:=Ei hj
     rw [Ew hi',decide_eq_true_iff]
     exact g3) hr).elim
   | some p =>
    obtain ⟨q,j,x,hp,hj,hwk,hwd,_⟩:=hr.w
    have hpl:=hr.le
    simp only [AX]
    refine A7 (OK.of (if_pos (by omega)) ?_)
    have hlast:(s.1++p)=(s.1++q)++[j]:=by rw [hp,List.append_assoc]
    have hat:atI (s.1++p) (-1)=some j:=by rw [hlast];exact atI_last _ j
    rw [hat]
    simp only [AX]
    rw [(at_wy hj).1]
    simp only [AX]
    have hwk2:wk n.b b (s.1++p)=some x.b:=by rw [GD,s1];exact hwk
    refine AE ⟨_,rfl,hwk2,inK p s.2 x.b hwk s2 hr.a,(hn.w x (EU hj)).2,?_,fun m hm=>?_,?_⟩
    ·try dsimp only
     rw [List.length_append]
     omega
    ·try dsimp only
     rw [List.any_append,Bool.or_eq_true]
     by_cases e:m=i
     ·subst e
      refine .inr (List.any_eq_true.mpr ⟨j,by rw [hp];simp,?_⟩)
      obtain ⟨i',rfl,hi'⟩:=Ei hj
      rw [Ew hi',decide_eq_true_iff] at hwd
      unfold tk
      rw [hj]
      exact decide_eq_true hwd
     ·exact .inl (s5 m (by omega))
    ·have:=mks_le (fun k hk=>GW n.b p s.2 x.b hwk k hk) hr.nd
     rw [GH,List.length_append,e6]
     exact Nat.add_le_add s6 this
  ·have ht:s.1.any (tk n.b (i:Int))=true:=by
    cases hh:s.1.any (tk n.b (i:Int)) with
    | true=>rfl
    | false=>rw [hh] at hb;cases hb
   refine AE ⟨_,rfl,s1,s2,s3,by try dsimp only;omega,fun m hm=>?_,by rw [e6];exact Nat.le_trans s6 (Nat.le_add_right _ _)⟩
   by_cases e:m=i
   ·subst e;exact ht
   ·exact s5 m (by omega)
 ·obtain ⟨s1,s2,s3,s4,s5,s6⟩:=hI
  simp only [List.length_map,List.length_range] at s4 s5
  rw [List.length_map,List.length_range] at s6
  have eC:n.c.toNat=C:=by omega
  have e6:(C+1) * (n.b.map fun w=>w.c.l.length).sum=C * (n.b.map fun w=>w.c.l.length).sum+(n.b.map fun w=>w.c.l.length).sum:=Nat.succ_mul ..
  have bd:=bound (i:=C) (Nat.le_refl _)
  have e2:n.a * (n.c+1)=((N * C+N:Nat):Int):=by
   rw [hN,hC]
   have:((N:Int)) * ((C:Int)+1)=(N:Int) * C+N:=by rw [Int.mul_add,Int.mul_one]
   rw [this]
   omega
  have marks:∀ (l:List Int),(∀ m,s.1.any (tk n.b m)=true->l.any (tk n.b m)=true)->∀ m,0<=m->m<n.c->l.any (tk n.b m)=true:=fun l hl m m0 m1=>by
   refine hl m ?_
   have:=s5 m.toNat (by omega)
   rwa [Int.toNat_of_nonneg m0] at this
  refine BV (fun hb=>?_) fun hb=>?_
  ·
   obtain ⟨w,hw,g1,g2⟩:=hH.1
   have hin:=(E4 hn K hk hw).mpr ⟨g1,g2⟩
   have lastw:∃ w',w'∈n.b/\In kn k w'/\w'.b=b:=by
    cases g2 with
    | refl=>exact ⟨w,hw,hin,rfl⟩
    | @tail v _ hr e =>
     obtain ⟨x,hx,hxa,hxb⟩:=e
     refine ⟨x,hx,(E4 hn K hk hx).mpr ⟨?_,by rw [hxb];exact .refl _⟩,hxb⟩
     rw [hxa]
     exact (g1.trans (.one ⟨w,hw,rfl,rfl⟩)).trans hr
   obtain ⟨w',hw',hin',hwb⟩:=lastw
   refine A7 (DZ (g:=fun w:Way=>decide (w.b=b)) (fun _ _=>rfl) ?_)
   refine A7 ((path_ok (by omega) hwN L (by omega) (by rw [List.length_map])).mono fun r hr=>?_)
   cases r with
   | none =>
    exact (found s2 hw' hin' (fun j hj=>by
     obtain ⟨i',rfl,hi'⟩:=Ei hj
     rw [Ew hi',decide_eq_true_iff]
     exact hwb) hr).elim
   | some p =>
    obtain ⟨q,j,x,hp,hj,hwk,hwd,_⟩:=hr.w
    have hpl:=hr.le
    have hxb:x.b=b:=by
     obtain ⟨i',rfl,hi'⟩:=Ei hj
     rw [Ew hi',decide_eq_true_iff] at hwd
     exact hwd
    refine OK.of (if_pos (by omega)) ⟨by rw [GD,s1];exact hwk.trans (by rw [hxb]),by rw [hp];simp,marks _ fun m hm=>by rw [List.any_append,hm];rfl,?_,?_⟩
    ·rw [e2,List.length_append]
     omega
    ·have:=mks_le (fun k hk=>GW n.b p s.2 x.b hwk k hk) hr.nd
     rw [GH,List.length_append,eC,e6]
     exact Nat.add_le_add s6 this
  ·rw [Bool.or_eq_false_iff] at hb
   have e4:s.2=b:=by simpa using hb.2
   have e5:s.1 ≠ []:=fun e=>by rw [e] at hb;simp at hb
   refine AE ⟨by rw [s1,e4],e5,marks _ fun m hm=>hm,?_,by rw [eC,e6];exact Nat.le_trans s6 (Nat.le_add_right _ _)⟩
   rw [e2]
   omega
theorem ring_hub {n:Net}(hn:NetW n){b:Int}{ring:List Int}(h:wk n.b b ring=some b)(ne:ring ≠ [])(hm:∀ m,0<=m->m<n.c->ring.any (tk n.b m)=true):Hub n b:=by
 have part:∀ j∈ring,∃ w,wy n.b j=some w/\Rch (Ed n.b) b w.a/\Rch (Ed n.b) w.b b:=by
  intro j hj
  obtain ⟨p,q,hpq⟩:=List.append_of_mem hj
  rw [hpq,GD] at h
  obtain ⟨u,hu,h⟩:=Option.bind_eq_some_iff.mp h
  rw [CP] at h
  cases hw:wy n.b j with
  | none=>rw [hw] at h;cases h
  | some w =>
   rw [hw] at h
   dsimp only at h
   split at h
   ·rename_i ha
    exact ⟨w,rfl,by rw [ha];exact rch_wk p b u hu,rch_wk q w.b b h⟩
   ·cases h
 refine ⟨?_,fun m m0 m1=>?_⟩
 ·cases ring with
  | nil=>exact absurd rfl ne
  | cons j r =>
   obtain ⟨w,hw,h1,h2⟩:=part j (List.mem_cons_self ..)
   exact ⟨w,EU hw,h1,h2⟩
 ·obtain ⟨j,hj,ht⟩:=List.any_eq_true.mp (hm m m0 m1)
  obtain ⟨w,hw,h1,h2⟩:=part j hj
  unfold tk at ht
  rw [hw] at ht
  exact ⟨w,EU hw,h1,h2,of_decide_eq_true ht⟩
structure FairR (n:Net)(u:Int)(stem ring:List Int):Prop where
 ex:∃ v,wk n.b u stem=some v/\Ring n v ring
 le:(stem.length:Int)<n.a
theorem ring_from_ok {n:Net}(hn:NetW n){u:Int}(hu:0<=u/\u<n.a):OK (DM n u) fun r=>match r with|none=>¬Eh n u|some p=>FairR n u p.1 p.2:=by
 have hs:sizeLine=16777216:=sizeLine_eq
 have h0:=hn.a0
 have h1:=hn.a1
 obtain ⟨N,hN⟩:=Int.eq_ofNat_of_zero_le h0
 have hNt:n.a.toNat=N:=by omega
 have hwN:∀ w∈n.b,WayIn N w:=fun w hw=>by rw [<- hN];exact hn.w w hw
 unfold DM
 simp only [Option.bind_assoc,AX,AS]
 refine CF (knots_ok hn) fun kn K=>CF (within_ok hn K) fun ws ⟨S,W⟩=>?_
 refine CF (fairs_ok hn K W (fun k=>rfl)) fun fr ⟨l1,l2⟩=>?_
 refine A7 (ok_atZ hu.1 (by omega) fun k x hk hx=>?_)
 have hxe:=CD hx
 rw [<- hk] at hxe
 have hux:=l2 u hu.1 hu.2
 rw [hxe] at hux
 refine BV (fun hb=>?_) fun hb=>?_
 ·subst hb
  refine A7 ((FQ hn K (hux.mp rfl)).mono fun ring hr=>?_)
  exact AE ⟨⟨u,rfl,hr⟩,by show ((0:Nat):Int)<n.a;omega⟩
 ·subst hb
  have nh:¬Hub n u:=fun h=>by have:=hux.mpr h;cases this
  refine A7 (DZ (g:=fun _:Way=>true) (fun _ _=>rfl) ?_)
  refine CF (FK hn (by rw [List.length_map])) fun lv L=>?_
  rw [hNt] at L
  have at_:∀ {v:Int},0<=v->v<n.a->atI fr v=some (bt fr v):=fun {v} h0 h1=>by
   obtain ⟨j,rfl⟩:=Int.eq_ofNat_of_zero_le h0
   have hj:j<fr.length:=by omega
   have g:=List.getElem?_eq_getElem hj
   rw [CD g]
   exact CK g
  refine A7 (DZ (g:=fun w:Way=>bt fr w.b) (fun w hw=>?_) ?_)
  ·have r:=hn.w w hw
   exact at_ r.2.1 r.2.2
  refine A7 ((path_ok (by omega) hwN L (by omega) (by rw [List.length_map])).mono fun r hr=>?_)
  have allow:∀ {j:Int}{w:Way},wy n.b j=some w->bt (n.b.map fun _:Way=>true) j=true:=fun {j w} h=>by
   obtain ⟨i,rfl,hi⟩:=Ei h
   rw [Ew hi]
  cases r with
  | none =>
   refine AE ?_
   show ¬Eh n u
   rintro ⟨v,hr',hh⟩
   cases hr' with
   | refl=>exact nh hh
   | @tail v' _ hp e =>
    obtain ⟨x,hx,rfl,rfl⟩:=e
    obtain ⟨p,hp⟩:=wk_rch hp
    obtain ⟨i,_,hi⟩:=wy_of hx
    have hpw:wk n.b u (p++[(i:Int)])=some x.b:=by
     rw [GD,hp]
     show wk n.b x.a [(i:Int)]=_
     rw [CP,hi]
     dsimp only
     rw [if_pos rfl]
     rfl
    have:=hr _ _ hpw (fun j hj=>by
     obtain ⟨w,hw⟩:=GW n.b _ _ _ hpw j hj
     exact allow hw) i (by simp)
    obtain ⟨i',e',hi'⟩:=Ei hi
    rw [e',Ew hi'] at this
    have rx:=(hn.w x hx).2
    rw [(l2 x.b rx.1 rx.2).mpr hh] at this
    cases this
  | some p =>
   obtain ⟨q,j,x,hp,hj,hwk,hwd,hq⟩:=hr.w
   obtain ⟨i',e',hi'⟩:=Ei hj
   rw [e',Ew hi'] at hwd
   have rx:=(hn.w x (EU hj)).2
   have hub:=(l2 x.b rx.1 rx.2).mp hwd
   have hat:atI p (-1)=some j:=by rw [hp];exact atI_last _ j
   simp only [AX,Option.isNone_some,cond_false]
   rw [hat]
   simp only [AX]
   rw [(at_wy hj).1]
   simp only [AX]
   refine A7 ((FQ hn K hub).mono fun ring hring=>AE ⟨⟨x.b,hwk,hring⟩,?_⟩)
   have starts:∀ (p:List Int) (u e:Int),wk n.b u p=some e->¬Hub n u->(∀ q j,p=q++[j]->∀ i∈q,bt (n.b.map fun w:Way=>bt fr w.b) i=false)->∀ v∈st n.b p,¬Hub n v:=by
    intro p
    induction p with
    | nil=>intro u e _ _ _ v hv;cases hv
    | cons k p ih =>
     intro u e h hu hq v hv
     rw [CP] at h
     cases hw:wy n.b k with
     | none=>rw [hw] at h;cases h
     | some w =>
      rw [hw] at h
      dsimp only at h
      split at h
      ·rename_i ha
       rw [Fe hw] at hv
       rcases List.mem_cons.mp hv with z|z
       ·rw [z,ha];exact hu
       ·cases p with
        | nil=>cases z
        | cons k2 p2 =>
         refine ih w.b e h ?_ ?_ v z
         ·obtain ⟨q',j',hqj⟩:∃ q' j',k2::p2=q'++[j']:=⟨_,_,(List.dropLast_concat_getLast (List.cons_ne_nil k2 p2)).symm⟩
          have:=hq (k::q') j' (by rw [hqj];rfl) k (List.mem_cons_self ..)
          obtain ⟨i2,e2,hi2⟩:=Ei hw
          rw [e2,Ew hi2] at this
          intro hh
          have rw_:=(hn.w w (EU hw)).2
          rw [(l2 w.b rw_.1 rw_.2).mpr hh] at this
          cases this
         ·intro q' j' hqj i hi
          exact hq (k::q') j' (by rw [hqj];rfl) i (List.mem_cons_of_mem _ hi)
      ·cases h
   have nhs:=starts p u x.b hwk nh fun q' j' hqj i hi=>by
    rw [hp] at hqj
    have:=(List.append_inj' hqj rfl).1
    rw [<- this] at hi
    exact hq i hi
   have nd2:(x.b::st n.b p).Nodup:=List.nodup_cons.mpr ⟨fun hm=>nhs _ hm hub,hr.nd⟩
   have:=BD nd2 (m:=(List.range N).map fun (i:Nat)=>(i:Int)) fun v hv=>by
    have hv':0<=v/\v<N:=by
     rcases List.mem_cons.mp hv with z|z
     ·rw [z];omega
     ·exact hr.rg v z
    exact List.mem_map.mpr ⟨v.toNat,by rw [List.mem_range];omega,by omega⟩
   simp only [List.length_cons,List.length_map,List.length_range] at this
   have:=hr.len
   show (p.length:Int)<n.a
   omega
theorem fairr_free {n:Net}(hn:NetW n){u:Int}{stem ring:List Int}(h:FairR n u stem ring):Eh n u:=by
 obtain ⟨v,h1,h2⟩:=h.ex
 exact ⟨v,rch_wk stem u v h1,ring_hub hn h2.w h2.ne h2.m⟩
theorem C0 (s:Scr)(k:Int)(h0:0<=k){P:Int->Prop}(hp:∀ n,P n):OK (Am s k) P:=by
 unfold Am
 simp only [Option.bind_assoc,AX,AS]
 exact BV (fun h=>ok_at h0 (of_decide_eq_true h) fun x _=>hp x) fun _=>AE (hp _)
theorem stream_ok (c many:Int)(hm:0<=many/\many<=251){P:List Int->Prop}(hp:∀ l:List Int,(l.length:Int)=many->P l):OK (CJ c many) P:=by
 have hs:sizeLine=16777216:=sizeLine_eq
 obtain ⟨n,rfl⟩:=Int.eq_ofNat_of_zero_le hm.1
 unfold CJ
 simp only [Option.bind_assoc,AX,AS]
 refine A7 (DV (n:=n) (by omega) (by omega) (by omega) ?_)
 refine A7 (BA (fun i (s:List Int × Int)=>s.1.length=i/\0<=s.2/\s.2<4294967296) ⟨rfl,by dsimp only;omega,by dsimp only;omega⟩ (fun i a s ha hI=>?_) fun s hI=>?_)
 ·have hi:i<n:=by simpa using (List.getElem?_eq_some_iff.mp ha).1
  refine A7 (ok_mul (.inl ⟨by omega,by omega⟩) (A7 (D4 (by omega) (AE ⟨_,rfl,by rw [List.length_append,hI.1];rfl,?_,?_⟩))))
  ·exact Int.emod_nonneg _ (by decide)
  ·have:=Int.emod_lt_of_pos (s.2 * s.2+48271 * s.2+a) (b:=2147483647) (by decide)
   try dsimp only
   omega
 ·refine AE (hp _ ?_)
  have:=hI.1
  simp at this
  omega
noncomputable def MkIn (c:Int)(w:Way):Prop:=w.c.l.length<=12/\w.c.l.Nodup/\∀ m∈w.c.l,0<=m/\m<c
theorem sum_len12:∀ {ws:List Way},(∀ x∈ws,x.c.l.length<=12)->(ws.map fun w=>w.c.l.length).sum<=12 * ws.length
 | [],_=>Nat.le_refl _
 | w::ws,h=>by
  have h1:=h w (List.mem_cons_self ..)
  have h2:=sum_len12 (ws:=ws) fun x hx=>h x (List.mem_cons_of_mem _ hx)
  rw [List.map_cons,List.sum_cons,List.length_cons]
  omega
noncomputable def rf (m:Int):Lk->Bool
 | none=>true
 | some (r,none)=>decide (0<=r)
 | some (r,some k)=>decide (0<=r) && (decide (0<=k) && decide (k<m))
noncomputable def wf (t:List Int):Lk->Lk->Bool
 | none,_=>true
 | some _,none=>false
 | some (r,none),some (r',_)=>!decide (r<r') && decide (r'<r)
 | some (r,some k),some (r',l')=>!decide (r<r') && (decide (r'<r) || (decide (some k=l') && !decide (k∈t)))
noncomputable def gt (rows:List Lk)(i:Int):Lk:=(atI rows i).getD none
theorem gt_ok {rows:List Lk}{i:Int}(h0:0<=i)(h1:i<rows.length):atI rows i=some (gt rows i):=by
 obtain ⟨x,e,_⟩:=ok_at (P:=fun _=>True) h0 h1 fun _ _=>trivial
 unfold gt
 rw [e]
 rfl
theorem gt_nat {rows:List Lk}{u:Nat}{x:Lk}(h:rows[u]? = some x):gt rows (u:Int)=x:=by
 unfold gt
 rw [CK h]
 rfl
theorem gt_get {rows:List Lk}{u:Int}(h0:0<=u)(h1:u<rows.length):∃ i:Nat,u=i/\rows[i]? = some (gt rows u):=by
 obtain ⟨i,rfl⟩:=Int.eq_ofNat_of_zero_le h0
 have hi:i<rows.length:=by omega
 have e:=List.getElem?_eq_getElem hi
 exact ⟨i,rfl,by rw [gt_nat e];exact e⟩
theorem free_back {n:Net}{u v:Int}(e:Ed n.b u v)(h:Eh n v):Eh n u:=by
 obtain ⟨x,h1,h2⟩:=h
 exact ⟨x,.head e h1,h2⟩
theorem Shut.non {n:Net}{kn:List (Option Int)}{rows:List Lk}(S:Shut n kn rows){u:Int}(h0:0<=u)(h1:u<n.a):gt rows u=none ↔ Eh n u:=by
 have hl:=S.len
 obtain ⟨i,rfl,hi⟩:=gt_get (rows:=rows) h0 (by omega)
 exact S.fr i _ hi
theorem Shut.fit {n:Net}(hn:NetW n){kn:List (Option Int)}(K:Knots n kn){rows:List Lk}(S:Shut n kn rows){w:Way}(hw:w∈n.b):wf w.c.l (gt rows w.a) (gt rows w.b)=true:=by
 have hl:=S.len
 have r:=hn.w w hw
 obtain ⟨i,hia,hi⟩:=gt_get (rows:=rows) r.1.1 (by have:=r.1.2;omega)
 obtain ⟨j,hjb,hj⟩:=gt_get (rows:=rows) r.2.1 (by have:=r.2.2;omega)
 cases ha:My.gt rows w.a with
 | none=>rfl
 | some p =>
  rw [ha] at hi
  have nf:¬Eh n w.a:=fun h=>by
   rw [hia] at h
   have:=(S.fr i _ hi).mpr h
   cases this
  cases hb:My.gt rows w.b with
  | none =>
   rw [hb] at hj
   have hf:=(S.fr j _ hj).mp rfl
   rw [<- hjb] at hf
   exact absurd (free_back ⟨w,hw,rfl,rfl⟩ hf) nf
  | some q =>
   rw [hb] at hj
   obtain ⟨k,l⟩:=p
   obtain ⟨k',l'⟩:=q
   obtain ⟨s1,s2,s3⟩:=S.sh i k l hi
   obtain ⟨t1,t2,t3⟩:=S.sh j k' l' hj
   obtain ⟨f,hf⟩:=S.lk
   rw [<- hia] at s1
   rw [<- hjb] at t1
   have hle:=K.fall w hw _ _ s1 t1
   have e1:decide (k<k')=false:=decide_eq_false (by omega)
   by_cases hlt:k'<k
   ·cases l with
    | none =>
     show (!decide (k<k') && decide (k'<k))=true
     rw [e1,decide_eq_true hlt]
     rfl
    | some m =>
     show (!decide (k<k') && (decide (k'<k) || _))=true
     rw [e1,decide_eq_true hlt]
     rfl
   ·have ek:k'=k:=by omega
    subst ek
    have hin:In kn k' w:=⟨s1,t1⟩
    have ll:l=l':=(hf i k' l hi).trans (hf j k' l' hj).symm
    subst ll
    cases l with
    | none=>exact absurd hin (s2 rfl w hw)
    | some m =>
     show (!decide (k'<k') && (decide (k'<k') || (decide (some m=some m) && !decide (m∈w.c.l))))=true
     have hm:=(s3 m rfl).2 w hw hin
     rw [decide_eq_false (Int.lt_irrefl k'),decide_eq_true rfl,decide_eq_false hm]
     rfl
theorem end_eq (n:Net)(s:Int)(as:List Int):Dh n s as=some (wk n.b s as):=by
 unfold Dh
 simp only [Option.bind_assoc,AX,AS,Bool.not_true,Bool.or_false,cond_false]
 rw [walk_for (ws:=n.b) (none:Option Int) (fun k m=>step_eq none k m)]
 cases wk n.b s as<;>rfl
theorem mks_mem {ws:List Way}{m:Int}{ring:List Int}:m∈mks ws ring ↔ ring.any (tk ws m)=true:=by
 unfold mks
 rw [List.mem_flatMap,List.any_eq_true]
 constructor
 ·rintro ⟨k,hk,hm⟩
  refine ⟨k,hk,?_⟩
  unfold tk
  cases hw:wy ws k with
  | none=>rw [hw] at hm;cases hm
  | some w=>rw [hw] at hm;exact decide_eq_true hm
 ·rintro ⟨k,hk,hm⟩
  refine ⟨k,hk,?_⟩
  unfold tk at hm
  cases hw:wy ws k with
  | none=>rw [hw] at hm;cases hm
  | some w=>rw [hw] at hm;exact of_decide_eq_true hm
theorem mks_len {ws:List Way}(hm:∀ x∈ws,x.c.l.length<=12):∀ ring:List Int,(mks ws ring).length<=12 * ring.length
 | []=>Nat.le_refl _
 | k::r=>by
  have ih:=mks_len hm r
  have e:mks ws (k::r)=mks ws [k]++mks ws r:=GH [k] r
  rw [e,List.length_append,List.length_cons]
  have:(mks ws [k]).length<=12:=by
   unfold mks
   rw [List.flatMap_cons,List.flatMap_nil,List.append_nil]
   cases hw:wy ws k with
   | none=>exact Nat.zero_le _
   | some w=>exact hm w (EU hw)
  omega
theorem ded_all {l:List Int}{C:Nat}(h1:∀ m∈l,0<=m/\m<C)(h2:∀ m:Int,0<=m->m<C->m∈l):(Gp l).length=C:=by
 have nr:((List.range C).map fun (i:Nat)=>(i:Int)).Nodup:=by
  refine List.Pairwise.map _ ?_ List.nodup_range
  intro a b h
  show (a:Int)≠b
  omega
 have l1:(Gp l).length<=((List.range C).map fun (i:Nat)=>(i:Int)).length:=BD (nodup_dedA l) fun u hu=>by
  have h:=h1 u (mem_dedA.mp hu)
  exact List.mem_map.mpr ⟨u.toNat,by rw [List.mem_range];omega,by omega⟩
 have l2:((List.range C).map fun (i:Nat)=>(i:Int)).length<=(Gp l).length:=BD nr fun u hu=>by
  obtain ⟨i,hi,rfl⟩:=List.mem_map.mp hu
  rw [List.mem_range] at hi
  exact mem_dedA.mpr (h2 _ (by omega) (by omega))
 simp only [List.length_map,List.length_range] at l1 l2
 omega
theorem marks_for {ws:List Way}{ring:List Int}(hall:∀ k∈ring,∃ w,wy ws k=some w)(hm:∀ x∈ws,x.c.l.length<=12)(hl:ring.length<=1000000){f:Int->List Int->Option (Fl (List Int) Bool)}(hf:∀ k s,f k s=(atI ws k).bind fun t=>(extO s t.c.l).bind fun z=>some (Fl.nx z)) :
  Cc f ring []=some (.nx (mks ws ring)):=by
 have hs:sizeLine=16777216:=sizeLine_eq
 refine OK.eq ?_
 refine BA (fun i s=>s=mks ws (ring.take i)) rfl (fun i k s hk hI=>?_) fun s hI=>by rw [hI,List.take_length]
 subst hI
 obtain ⟨w,hw⟩:=hall k (List.mem_of_getElem? hk)
 have hi:=(List.getElem?_eq_some_iff.mp hk).1
 have h1:=mks_len hm (ring.take i)
 have h2:=hm w (EU hw)
 have h3:(ring.take i).length<=i:=by rw [List.length_take];omega
 rw [hf,(at_wy hw).1]
 simp only [AX]
 refine A7 (OK.of (if_pos (by omega)) (AE ⟨_,rfl,?_⟩))
 rw [List.take_add_one,hk,GH]
 congr 1
 show _=mks ws [k]
 unfold mks
 rw [List.flatMap_cons,List.flatMap_nil,List.append_nil,hw]
theorem fits_prog {w:Way}{rows:List Lk}{x y:Lk}(hx:atI rows w.a=some x)(hy:atI rows w.b=some y):Bn w rows=some (wf w.c.l x y):=by
 unfold Bn
 simp only [Option.bind_assoc,AX,AS,hx,hy]
 match x,y with
 | none,_=>rfl
 | some (r,l),none=>cases l<;>rfl
 | some (r,none),some (r',l') =>
  show (cond (decide (r<r')) (some false) (cond (decide (r'<r)) (some true) (some false)))=some (!decide (r<r') && decide (r'<r))
  cases decide (r<r')<;>cases decide (r'<r)<;>rfl
 | some (r,some k),some (r',l') =>
  show (cond (decide (r<r')) (some false) (cond (decide (r'<r)) (some true) (cond (decide (some k=l')) (some (!decide (k∈w.c.l))) (some false))))=some (!decide (r<r') && (decide (r'<r) || (decide (some k=l') && !decide (k∈w.c.l))))
  cases decide (r<r')<;>cases decide (r'<r)<;>cases decide (some k=l')<;>rfl
theorem Shut.fits {n:Net}(hn:NetW n){kn:List (Option Int)}(K:Knots n kn){rows:List Lk}(S:Shut n kn rows){w:Way}(hw:w∈n.b):Bn w rows=some true:=by
 have hl:=S.len
 have r:=hn.w w hw
 have:=r.1.2
 have:=r.2.2
 rw [fits_prog (gt_ok r.1.1 (by omega)) (gt_ok r.2.1 (by omega)),S.fit hn K hw]
theorem free_map {n m:Net}{φ:Int->Int}{u:Int}(h:Eh n u)(hw:∀ w∈n.b,∃ w'∈m.b,w'.a=φ w.a/\w'.b=φ w.b/\∀ k∈w.c.l,k∈w'.c.l)(hc:m.c=n.c):Eh m (φ u):=by
 have hr:∀ {a b:Int},Rch (Ed n.b) a b->Rch (Ed m.b) (φ a) (φ b):=fun {a b} r=>by
  induction r with
  | refl=>exact .refl _
  | tail _ e ih =>
   obtain ⟨w,hw',rfl,rfl⟩:=e
   obtain ⟨w2,h2,e1,e2,_⟩:=hw w hw'
   exact .tail ih ⟨w2,h2,e1,e2⟩
 obtain ⟨v,h1,⟨w,hw1,h2,h3⟩,h4⟩:=h
 refine ⟨φ v,hr h1,?_,fun k k0 k1=>?_⟩
 ·obtain ⟨w2,g2,e1,e2,_⟩:=hw w hw1
  exact ⟨w2,g2,by rw [e1];exact hr h2,by rw [e2];exact hr h3⟩
 ·rw [hc] at k1
  obtain ⟨w,hw1,h5,h6,h7⟩:=h4 k k0 k1
  obtain ⟨w2,g2,e1,e2,e3⟩:=hw w hw1
  exact ⟨w2,g2,by rw [e1];exact hr h5,by rw [e2];exact hr h6,e3 k h7⟩
theorem ok_rngD {lo hi:Int}{n:Nat}{P:List Int->Prop}(hn:(lo - hi).toNat=n)(h0:-1000000000<=lo/\lo<=1000000000)(h2:-1000000000<=hi/\hi<=1000000000)(h1:n<=sizeLine)(h:P ((List.range n).map fun (i:Nat)=>lo - (i:Int))):OK (rngD lo hi) P:=by
 have hs:sizeLine=16777216:=sizeLine_eq
 refine ⟨_,if_pos ⟨⟨by omega,by omega,by omega,by omega⟩,by omega⟩,?_⟩
 rw [hn]
 exact h
noncomputable def sz (s:List Int)(k:Nat):Int:=(s[k]?).getD 0
noncomputable def bs (s:List Int)(k:Nat):Int:=(s.take k).sum
structure Szs (s:List Int):Prop where
 l1:1<=s.length
 l8:s.length<=8
 z:∀ x∈s,1<=x/\x<=75
noncomputable def InR (s:List Int)(k:Nat)(u:Int):Prop:=k<s.length/\bs s k<=u/\u<bs s k+sz s k
section
variable {s:List Int}
theorem Szs.at (h:Szs s){k:Nat}(hk:k<s.length):s[k]? = some (sz s k)/\1<=sz s k/\sz s k<=75:=by
 have g:=List.getElem?_eq_getElem hk
 have e:sz s k=s[k]:=by unfold sz;rw [g];rfl
 rw [e]
 have:=h.z _ (List.getElem_mem hk)
 exact ⟨g,this⟩
theorem GL {k:Nat}(hk:k<s.length):bs s (k+1)=bs s k+sz s k:=by
 unfold bs sz
 rw [List.take_add_one,List.sum_append,List.getElem?_eq_getElem hk]
 simp
theorem bs_all:bs s s.length=s.sum:=by unfold bs;rw [List.take_length]
theorem Szs.mono (h:Szs s):∀ (d j:Nat),j+d<=s.length->bs s j<=bs s (j+d)
 | 0,_,_=>Int.le_refl _
 | d+1,j,hl=>by
  have:=h.mono d j (by omega)
  have e:=GL (s:=s) (k:=j+d) (by omega)
  have:=(h.at (k:=j+d) (by omega)).2.1
  have e2:j+(d+1)=j+d+1:=rfl
  rw [e2,e]
  omega
theorem Szs.le (h:Szs s){i j:Nat}(hij:i<=j)(hj:j<=s.length):bs s i<=bs s j:=by
 have:=h.mono (j - i) i (by omega)
 have e:i+(j - i)=j:=by omega
 rwa [e] at this
theorem bs0:bs s 0=0:=rfl
theorem Szs.cnt (h:Szs s):∀ k,k<=s.length->bs s k<=75 * k/\(k:Int)<=bs s k
 | 0,_=>by rw [bs0];omega
 | k+1,hk=>by
  have ih:=h.cnt k (by omega)
  have:=(h.at (k:=k) (by omega)).2
  rw [GL (by omega)]
  omega
theorem Szs.count (h:Szs s):1<=s.sum/\s.sum<=600:=by
 have:=h.cnt s.length (Nat.le_refl _)
 have:=h.l1
 have:=h.l8
 rw [bs_all] at *
 omega
theorem InR.rng (h:Szs s){k:Nat}{u:Int}(hu:InR s k u):0<=u/\u<s.sum:=by
 have h1:=h.le (Nat.zero_le k) (Nat.le_of_lt hu.1)
 have h2:=h.le (show k+1<=s.length from hu.1) (Nat.le_refl _)
 rw [GL hu.1,bs_all] at h2
 rw [bs0] at h1
 have:=hu.2
 omega
theorem InR.uniq (h:Szs s){i j:Nat}{u:Int}(h1:InR s i u)(h2:InR s j u):i=j:=by
 have key:∀ {a b:Nat},InR s a u->InR s b u->¬a<b:=fun {a b} ha hb hab=>by
  have e:=h.le (show a+1<=b from hab) (Nat.le_of_lt hb.1)
  rw [GL ha.1] at e
  have:=ha.2.2
  have:=hb.2.1
  omega
 have a1:=key h1 h2
 have a2:=key h2 h1
 omega
theorem InR.ex (h:Szs s){u:Int}:∀ k,k<=s.length->0<=u->u<bs s k->∃ i,i<k/\InR s i u
 | 0,_,h0,h1=>by rw [bs0] at h1;omega
 | k+1,hk,h0,h1=>by
  by_cases hlt:u<bs s k
  ·obtain ⟨i,hi,hr⟩:=InR.ex h k (by omega) h0 hlt
   exact ⟨i,by omega,hr⟩
  ·rw [GL (by omega)] at h1
   exact ⟨k,by omega,by omega,by omega,h1⟩
theorem InR.of (h:Szs s){u:Int}(h0:0<=u)(h1:u<s.sum):∃ i,InR s i u:=by
 obtain ⟨i,_,hi⟩:=InR.ex h s.length (Nat.le_refl _) h0 (by rw [bs_all];exact h1)
 exact ⟨i,hi⟩
end
noncomputable abbrev GG:=T3 Int Int (T3 Int Int (Tp Int))
structure Pl (s:List Int)(M:Int)(so:Nat->List Int)(lds:List GG)(W:List Way):Prop where
 w1:∀ w∈W,(∃ k,InR s k w.a/\InR s k w.b/\∀ m∈w.c.l,m∈so k)\/∃ l∈lds,w=l.c
 w2:∀ k u,InR s k u->∃ w∈W,w.a=u/\w.b=bs s k+(u - bs s k+1) % sz s k
 w3:∀ k,k<s.length->∀ m∈so k,∃ w∈W,InR s k w.a/\InR s k w.b/\m∈w.c.l
 w4:∀ l∈lds,l.c∈W
 ld:∀ l∈lds,∃ i j:Nat,l.a=i/\l.b=j/\i<j/\InR s i l.c.a/\InR s j l.c.b
section
variable {s:List Int}{M:Int}{so:Nat->List Int}{lds:List GG}{W:List Way}
theorem Pl.cyc (h:Szs s)(P:Pl s M so lds W){k:Nat}{u:Int}(hu:InR s k u):∀ t:Nat,Rch (Ed W) u (bs s k+(u - bs s k+t) % sz s k)
 | 0=>by
  have z:=(h.at hu.1).2
  have e:(u - bs s k+((0:Nat):Int)) % sz s k=u - bs s k:=by
   have:u - bs s k+((0:Nat):Int)=u - bs s k:=by omega
   rw [this]
   exact Int.emod_eq_of_lt (by have:=hu.2.1;omega) (by have:=hu.2.2;omega)
  rw [e]
  have:bs s k+(u - bs s k)=u:=by omega
  rw [this]
  exact .refl _
 | t+1=>by
  have z:=(h.at hu.1).2
  have ih:=P.cyc h hu t
  have b0:0<=(u - bs s k+(t:Int)) % sz s k:=Int.emod_nonneg _ (by omega)
  have b1:(u - bs s k+(t:Int)) % sz s k<sz s k:=Int.emod_lt_of_pos _ (by omega)
  obtain ⟨w,hw,e1,e2⟩:=P.w2 k (bs s k+(u - bs s k+(t:Int)) % sz s k) ⟨hu.1,by omega,by omega⟩
  refine .tail ih ⟨w,hw,e1,?_⟩
  rw [e2]
  congr 1
  have e3:bs s k+(u - bs s k+(t:Int)) % sz s k - bs s k=(u - bs s k+(t:Int)) % sz s k:=by omega
  rw [e3,Int.emod_add_emod]
  congr 1
  omega
theorem Pl.reach (h:Szs s)(P:Pl s M so lds W){k:Nat}{u v:Int}(hu:InR s k u)(hv:InR s k v):Rch (Ed W) u v:=by
 have z:=(h.at hu.1).2
 have:=P.cyc h hu (v - u+sz s k).toNat
 have e:(u - bs s k+((v - u+sz s k).toNat:Int)) % sz s k=v - bs s k:=by
  have a1:u - bs s k+((v - u+sz s k).toNat:Int)=v - bs s k+sz s k:=by
   have:=hu.2
   have:=hv.2
   omega
  rw [a1,Int.add_emod_right]
  exact Int.emod_eq_of_lt (by have:=hv.2.1;omega) (by have:=hv.2.2;omega)
 rw [e] at this
 have e2:bs s k+(v - bs s k)=v:=by omega
 rwa [e2] at this
theorem Pl.edge (h:Szs s)(P:Pl s M so lds W){u v:Int}(e:Ed W u v):∃ i j,InR s i u/\InR s j v/\i<=j:=by
 obtain ⟨w,hw,rfl,rfl⟩:=e
 rcases P.w1 w hw with ⟨k,h1,h2,_⟩ | ⟨l,hl,rfl⟩
 ·exact ⟨k,k,h1,h2,Nat.le_refl _⟩
 ·obtain ⟨i,j,_,_,hij,h1,h2⟩:=P.ld l hl
  exact ⟨i,j,h1,h2,Nat.le_of_lt hij⟩
theorem Pl.up (h:Szs s)(P:Pl s M so lds W){u v:Int}(r:Rch (Ed W) u v):∀ i j,InR s i u->InR s j v->i<=j:=by
 induction r with
 | refl=>intro i j h1 h2;exact Nat.le_of_eq (h1.uniq h h2)
 | @tail x y r e ih =>
  intro i j h1 h2
  obtain ⟨a,b,ha,hb,hab⟩:=P.edge h e
  have e1:=ih i a h1 ha
  have e2:=hb.uniq h h2
  omega
structure Rnd (s:List Int)(M:Int)(so:Nat->List Int)(lds:List GG)(r:Nat->Bool):Prop where
 r:∀ k,k<s.length->(r k=true ↔ (∀ m,0<=m->m<M->m∈so k)\/∃ l∈lds,l.a=k/\r l.b.toNat=true)
theorem Pl.free (h:Szs s)(P:Pl s M so lds W){r:Nat->Bool}(R:Rnd s M so lds r){N:Int}{k:Nat}{u:Int}(hu:InR s k u):Eh (T3.mk N W M) u ↔ r k=true:=by
 constructor
 ·rintro ⟨v,hr0,hh⟩
  have hr:Rch (Ed W) u v:=hr0
  clear hr0
  have hv:∃ j,InR s j v:=by
   cases hr with
   | refl=>exact ⟨k,hu⟩
   | tail _ e =>
    obtain ⟨_,j,_,hj,_⟩:=P.edge h e
    exact ⟨j,hj⟩
  obtain ⟨j,hj⟩:=hv
  have rj:r j=true:=by
   refine (R.r j hj.1).mpr (.inl fun m m0 m1=>?_)
   obtain ⟨w,hw,h1,h2,h3⟩:=hh.2 m m0 m1
   have h1:Rch (Ed W) v w.a:=h1
   have h2:Rch (Ed W) w.b v:=h2
   have hw:w∈W:=hw
   rcases P.w1 w hw with ⟨i,i1,i2,i3⟩ | ⟨l,hl,rfl⟩
   ·have a1:=P.up h h1 j i hj i1
    have a2:=P.up h h2 i j i2 hj
    have:i=j:=by omega
    subst this
    exact i3 m h3
   ·obtain ⟨a,b,_,_,hab,h4,h5⟩:=P.ld l hl
    have a1:=P.up h h1 j a hj h4
    have a2:=P.up h h2 b j h5 hj
    omega
  clear hh
  induction hr generalizing j with
  | refl=>rw [hu.uniq h hj];exact rj
  | @tail x y r' e ih =>
   obtain ⟨w,hw,rfl,rfl⟩:=e
   rcases P.w1 w hw with ⟨i,i1,i2,_⟩ | ⟨l,hl,rfl⟩
   ·exact ih i i1 (by rw [i2.uniq h hj];exact rj)
   ·obtain ⟨a,b,ea,eb,hab,h4,h5⟩:=P.ld l hl
    refine ih a h4 ((R.r a h4.1).mpr (.inr ⟨l,hl,ea,?_⟩))
    rw [eb,Int.toNat_natCast,h5.uniq h hj]
    exact rj
 ·have key:∀ (d k:Nat),s.length - k<=d->∀ u,InR s k u->r k=true->Eh (T3.mk N W M) u:=by
   intro d
   induction d with
   | zero=>intro k hd u hu;have:=hu.1;omega
   | succ d ih =>
    intro k hd u hu hr
    rcases (R.r k hu.1).mp hr with hall | ⟨l,hl,e,hr2⟩
    ·obtain ⟨w,hw,e1,e2⟩:=P.w2 k u hu
     have z:=(h.at hu.1).2
     have hb:InR s k w.b:=by
      rw [e2]
      have b0:0<=(u - bs s k+1) % sz s k:=Int.emod_nonneg _ (by omega)
      have b1:(u - bs s k+1) % sz s k<sz s k:=Int.emod_lt_of_pos _ (by omega)
      exact ⟨hu.1,by omega,by omega⟩
     refine ⟨u,.refl _,⟨w,hw,by rw [e1];exact .refl _,P.reach h hb hu⟩,fun m m0 m1=>?_⟩
     obtain ⟨w,hw,i1,i2,i3⟩:=P.w3 k hu.1 m (hall m m0 m1)
     exact ⟨w,hw,P.reach h hu i1,P.reach h i2 hu,i3⟩
    ·obtain ⟨a,b,ea,eb,hab,h4,h5⟩:=P.ld l hl
     have:a=k:=by omega
     subst this
     rw [eb,Int.toNat_natCast] at hr2
     have f2:=ih b (by have:=h5.1;omega) _ h5 hr2
     obtain ⟨v,g1,g2⟩:=f2
     exact ⟨v,(P.reach h hu h4).trans (.head ⟨l.c,P.w4 l hl,rfl,rfl⟩ g1),g2⟩
  exact key (s.length - k) k (Nat.le_refl _) u hu
end
theorem cop607:∀ c:_root_.Fin 601,0<c.1->Nat.gcd c.1 607=1:=by decide +kernel
noncomputable def ph (c sh u:Int):Int:=(607 * u+sh) % c
theorem ph_inj {C:Nat}(h0:0<C)(h1:C<=600){sh a b:Int}(ha:0<=a/\a<C)(hb:0<=b/\b<C)(e:ph C sh a=ph C sh b):a=b:=by
 unfold ph at e
 have e1:=Int.emod_eq_emod_iff_emod_sub_eq_zero.mp e
 have e2:(607 * a+sh) - (607 * b+sh)=607 * (a - b):=by omega
 rw [e2] at e1
 have d:=Int.dvd_of_emod_eq_zero e1
 have d2:=Int.natAbs_dvd_natAbs.mpr d
 rw [Int.natAbs_natCast,Int.natAbs_mul] at d2
 have g:Nat.Coprime C 607:=cop607 ⟨C,by omega⟩ h0
 have d3:C ∣ (a - b).natAbs:=g.dvd_of_dvd_mul_left d2
 have:(a - b).natAbs<C:=by omega
 have:=Nat.eq_zero_of_dvd_of_lt d3 this
 omega
theorem ph_rng {c sh u:Int}(h:0<c):0<=ph c sh u/\ph c sh u<c:=⟨Int.emod_nonneg _ (by omega),Int.emod_lt_of_pos _ h⟩
theorem ph_onto {C:Nat}(h0:0<C)(h1:C<=600){sh x:Int}(hx:0<=x/\x<C):∃ u:Int,(0<=u/\u<C)/\ph C sh u=x:=by
 apply Classical.byContradiction
 intro hc
 have nd:(x::(List.range C).map fun (i:Nat)=>ph C sh i).Nodup:=by
  refine List.nodup_cons.mpr ⟨fun hm=>?_,?_⟩
  ·obtain ⟨i,hi,e⟩:=List.mem_map.mp hm
   rw [List.mem_range] at hi
   exact hc ⟨i,by omega,e⟩
  ·have:∀ l:List Nat,l.Nodup->(∀ i∈l,i<C)->(l.map fun (i:Nat)=>ph C sh i).Nodup:=fun l=>by
    induction l with
    | nil=>intro _ _;simp
    | cons i l ih =>
     intro n1 n2
     obtain ⟨m1,m2⟩:=List.nodup_cons.mp n1
     rw [List.map_cons]
     refine List.nodup_cons.mpr ⟨fun hm=>?_,ih m2 fun k hk=>n2 k (List.mem_cons_of_mem _ hk)⟩
     obtain ⟨j,hj,e⟩:=List.mem_map.mp hm
     have q1:=n2 i (List.mem_cons_self ..)
     have q2:=n2 j (List.mem_cons_of_mem _ hj)
     have:=ph_inj h0 h1 (by omega) (by omega) e
     have:j=i:=by omega
     exact m1 (this ▸ hj)
   exact this _ List.nodup_range fun i hi=>List.mem_range.mp hi
 have:=BD nd (m:=(List.range C).map fun (i:Nat)=>(i:Int)) fun y hy=>by
  have hr:0<=y/\y<C:=by
   rcases List.mem_cons.mp hy with rfl|hy
   ·exact hx
   ·obtain ⟨i,_,rfl⟩:=List.mem_map.mp hy
    exact ph_rng (by omega)
  exact List.mem_map.mpr ⟨y.toNat,by rw [List.mem_range];omega,by omega⟩
 simp only [List.length_cons,List.length_map,List.length_range] at this
 omega
theorem sizes_ok (x:Scr):OK (DG x) Szs:=by
 unfold DG
 simp only [Option.bind_assoc,AX,AS]
 refine A7 (C0 _ _ (by decide) fun c0=>A7 (C0 _ _ (by decide) fun c1=>A7 (stream_ok _ _ (by omega) fun l hl=>?_)))
 refine BV (fun _=>DZ (g:=fun z:Int=>20+z % 56) (fun _ _=>rfl) ⟨by rw [List.length_map];omega,by rw [List.length_map];omega,fun z hz=>?_⟩) fun _=>DZ (g:=fun z:Int=>1+z % 8) (fun _ _=>rfl) ⟨by rw [List.length_map];omega,by rw [List.length_map];omega,fun z hz=>?_⟩
 all_goals
  obtain ⟨y,_,rfl⟩:=List.mem_map.mp hz
  omega
noncomputable def Mks (M:Int)(l:List Int):Prop:=l.Nodup/\∀ m∈l,0<=m/\m<M
theorem Mks.len {M:Int}{l:List Int}(h:Mks M l)(h0:0<=M)(h1:M<=12):l.length<=M.toNat:=by
 have:=BD h.1 (m:=(List.range M.toNat).map fun (i:Nat)=>(i:Int)) fun y hy=>by
  have:=h.2 y hy
  exact List.mem_map.mpr ⟨y.toNat,by rw [List.mem_range];omega,by omega⟩
 simpa using this
theorem Mks.all {M:Int}{l:List Int}(h:Mks M l)(h0:0<=M)(h1:M<=12):(l.length:Int)=M ↔ ∀ m,0<=m->m<M->m∈l:=by
 constructor
 ·intro e m m0 m1
  apply Classical.byContradiction
  intro hc
  have:=BD (List.nodup_cons.mpr ⟨hc,h.1⟩) (m:=(List.range M.toNat).map fun (i:Nat)=>(i:Int)) fun y hy=>by
   have:0<=y/\y<M:=by
    rcases List.mem_cons.mp hy with rfl|hy
    ·exact ⟨m0,m1⟩
    ·exact h.2 y hy
   exact List.mem_map.mpr ⟨y.toNat,by rw [List.mem_range];omega,by omega⟩
  simp only [List.length_cons,List.length_map,List.length_range] at this
  omega
 ·intro hall
  have l1:=h.len h0 h1
  have nr:((List.range M.toNat).map fun (i:Nat)=>(i:Int)).Nodup:=by
   refine List.Pairwise.map _ ?_ List.nodup_range
   intro a b h
   show (a:Int)≠b
   omega
  have l2:=BD nr (m:=l) fun y hy=>by
   obtain ⟨i,hi,rfl⟩:=List.mem_map.mp hy
   rw [List.mem_range] at hi
   exact hall _ (by omega) (by omega)
  simp only [List.length_map,List.length_range] at l2
  omega
theorem Fg {M:Int}(h0:0<=M)(p:Int->Bool):Mks M (((List.range M.toNat).map fun (i:Nat)=>(0:Int)+(i:Int)).filter p):=by
 refine ⟨List.Pairwise.filter _ (List.Pairwise.map _ ?_ List.nodup_range),fun m hm=>?_⟩
 ·intro a b h
  show (0:Int)+a≠0+b
  omega
 ·obtain ⟨i,hi,rfl⟩:=List.mem_map.mp (List.mem_filter.mp hm).1
  rw [List.mem_range] at hi
  omega
theorem marks_ok (x:Scr){k M:Int}(hk:0<=k)(h0:0<=M)(h1:M<=12):OK (DD x k M) (Mks M):=by
 have hs:sizeLine=16777216:=sizeLine_eq
 unfold DD
 simp only [Option.bind_assoc,AX,AS]
 refine A7 (C0 _ _ (by omega) fun c=>?_)
 have rng:∀ {P:List Int->Prop},P ((List.range M.toNat).map fun (i:Nat)=>(0:Int)+(i:Int))->OK (EH 0 M) P:=fun {P} h=>DV (n:=M.toNat) (by omega) (by omega) (by omega) h
 refine BV (fun _=>rng ?_) fun _=>BV (fun _=>A7 (rng ?_)) fun _=>A7 (rng ?_)
 ·have:=Fg h0 fun _=>true
  rwa [List.filter_eq_self.mpr fun _ _=>rfl] at this
 ·refine Fd (c:=fun m=>!decide (m=c / 4 % M)) (g:=id) (fun m hm=>?_) (fun _ _ _=>rfl) (by rw [List.map_id];exact Fg h0 _)
  obtain ⟨i,hi,_⟩:=List.mem_map.mp hm
  rw [List.mem_range] at hi
  unfold Dm
  rw [if_pos (by omega)]
  rfl
 ·refine Fd (c:=fun m=>decide (c / 2 ^ (m+2).toNat % 2=1)) (g:=id) (fun m hm=>?_) (fun _ _ _=>rfl) (by rw [List.map_id];exact Fg h0 _)
  obtain ⟨i,hi,rfl⟩:=List.mem_map.mp hm
  unfold shrO
  rw [if_pos (by omega)]
  rfl
theorem FL (f:Int->Int)(k:Int):∀ l:List Int,(l.filter fun m=>decide (f m<k+1)).length=(l.filter fun m=>decide (f m<k)).length+(l.filter fun m=>decide (f m=k)).length
 | []=>rfl
 | a::l=>by
  have ih:=FL f k l
  rw [List.filter_cons,List.filter_cons,List.filter_cons]
  by_cases h1:f a<k
  ·rw [decide_eq_true h1,decide_eq_true (show f a<k+1 by omega),decide_eq_false (show ¬f a=k by omega)]
   simp
   omega
  ·rw [decide_eq_false h1]
   by_cases h2:f a=k
   ·rw [decide_eq_true h2,decide_eq_true (show f a<k+1 by omega)]
    simp
    omega
   ·rw [decide_eq_false h2,decide_eq_false (show ¬f a<k+1 by omega)]
    simp
    omega
theorem round_ok {b z M num:Int}{so:List Int}(hz:1<=z/\z<=75)(hm:Mks M so)(h0:0<=M)(h1:M<=12):OK (DI b z so num) fun R=>(R.length:Int)=z/\(∀ (i:Nat) w,R[i]? = some w->w.a=b+i/\w.b=b+((i:Int)+1) % z/\(∀ m,m∈w.c.l ↔ m∈so/\(num+m * m * 7) % z=i)/\w.c.l.Nodup)/\(R.map fun w=>w.c.l.length).sum<=12:=by
 have hs:sizeLine=16777216:=sizeLine_eq
 obtain ⟨Z,hZ⟩:=Int.eq_ofNat_of_zero_le (show 0<=z by omega)
 have hsl:=hm.len h0 h1
 unfold DI
 simp only [Option.bind_assoc,AX,AS]
 refine A7 (DV (n:=Z) (by omega) (by omega) (by omega) ?_)
 refine A7 (BA (fun i (R:List Way)=>R.length=i/\(∀ (i:Nat) w,R[i]? = some w->w.a=b+i/\w.b=b+((i:Int)+1) % z/\(∀ m,m∈w.c.l ↔ m∈so/\(num+m * m * 7) % z=i)/\w.c.l.Nodup)/\(R.map fun w=>w.c.l.length).sum=(so.filter fun m=>decide ((num+m * m * 7) % z<(i:Int))).length) ⟨rfl,fun i w h=>by simp at h,?_⟩ (fun i a R ha hI=>?_) fun R hI=>AE ⟨?_,hI.2.1,?_⟩)
 ·show 0=_
  rw [List.filter_eq_nil_iff.mpr fun m _=>?_]
  ·rfl
  ·have:0<=(num+m * m * 7) % z:=Int.emod_nonneg _ (by omega)
   simp
   omega
 ·obtain ⟨hi,rfl⟩:i<Z/\(0:Int)+(i:Int)=a:=by
   have:=List.getElem?_eq_some_iff.mp ha
   simpa using this
  rw [Int.zero_add]
  refine A7 (Fd (c:=fun m=>decide ((num+m * m * 7) % z=(i:Int))) (g:=id) (fun m hm'=>?_) (fun _ _ _=>rfl) ?_)
  ·have hr:=hm.2 m hm'
   unfold Gc Dm
   rw [if_pos (.inl ⟨by omega,by omega⟩)]
   simp only [AX]
   rw [if_pos (by omega)]
   rfl
  rw [List.map_id]
  refine A7 (Fv (by omega) (A7 (D4 (by omega) (AE ⟨_,rfl,by rw [List.length_append,hI.1];rfl,fun j w hw=>?_,?_⟩))))
  ·rw [List.getElem?_append] at hw
   split at hw
   ·exact hI.2.1 j w hw
   ·have hmw:=List.mem_singleton.mp (List.mem_of_getElem? hw)
    have hl:=(List.getElem?_eq_some_iff.mp hw).1
    rw [List.length_singleton] at hl
    have:j=i:=by have:=hI.1;omega
    subst this
    subst hmw
    refine ⟨rfl,rfl,fun m=>?_,List.Pairwise.filter _ hm.1⟩
    try dsimp only
    rw [List.mem_filter,decide_eq_true_iff]
  ·rw [List.map_append,List.sum_append,hI.2.2]
   have e:((i+1:Nat):Int)=(i:Int)+1:=by omega
   rw [e,FL (fun m=>(num+m * m * 7) % z) (i:Int) so]
   simp
 ·have:=hI.1
  simp only [List.length_map,List.length_range] at this
  omega
 ·rw [hI.2.2]
  have:=List.length_filter_le (fun m=>decide ((num+m * m * 7) % z<((((List.range Z).map fun (i:Nat)=>(0:Int)+(i:Int)).length:Nat):Int))) so
  omega
theorem leads_ok (x:Scr){s:List Int}(hz:Szs s){ba:List Int}(hbl:ba.length=s.length)(hb:∀ k:Nat,k<s.length->ba[k]? = some (bs s k)){M:Int}(h0:0<=M)(h1:M<=12) :
  OK (DE x ba s M) fun L=>L.length<=12/\(∀ l∈L,∃ i j:Nat,l.a=i/\l.b=j/\i<j/\InR s i l.c.a/\InR s j l.c.b)/\∀ l∈L,Mks M l.c.c.l:=by
 have hs:sizeLine=16777216:=sizeLine_eq
 have l8:=hz.l8
 unfold DE
 simp only [Option.bind_assoc,AX,AS]
 refine A7 (C0 _ _ (by decide) fun c3=>?_)
 refine A7 (DV (n:=(c3 % 13).toNat) (by omega) (by omega) (by omega) ?_)
 refine A7 (BA (fun i (L:List GG)=>L.length<=i/\(∀ l∈L,∃ i j:Nat,l.a=i/\l.b=j/\i<j/\InR s i l.c.a/\InR s j l.c.b)/\∀ l∈L,Mks M l.c.c.l) ⟨Nat.le_refl _,fun l h=>(nomatch h),fun l h=>(nomatch h)⟩ (fun i a L ha hI=>?_) fun L hI=>AE ⟨?_,hI.2⟩)
 ·obtain ⟨hi,rfl⟩:i<(c3 % 13).toNat/\(0:Int)+(i:Int)=a:=by
   have:=List.getElem?_eq_some_iff.mp ha
   simpa using this
  obtain ⟨q1,q2,q3⟩:=hI
  refine A7 (C0 _ _ (by omega) fun c=>?_)
  refine BV (fun hk=>?_) fun _=>AE ⟨_,rfl,by omega,q2,q3⟩
  have hk:(1:Int)<s.length:=of_decide_eq_true hk
  refine A7 (Fv (by omega) ?_)
  have o0:0<=c % ((s.length:Int) - 1):=Int.emod_nonneg _ (by omega)
  have o1:c % ((s.length:Int) - 1)<(s.length:Int) - 1:=Int.emod_lt_of_pos _ (by omega)
  generalize c % ((s.length:Int) - 1)=one at o0 o1
  obtain ⟨p,rfl⟩:=Int.eq_ofNat_of_zero_le o0
  refine A7 (Fv (by omega) ?_)
  have t0:0<=c / 8 % ((s.length:Int) - 1 - (p:Int)):=Int.emod_nonneg _ (by omega)
  have t1:c / 8 % ((s.length:Int) - 1 - (p:Int))<(s.length:Int) - 1 - (p:Int):=Int.emod_lt_of_pos _ (by omega)
  generalize hoth:(p:Int)+1+c / 8 % ((s.length:Int) - 1 - (p:Int))=oth
  obtain ⟨q,rfl⟩:=Int.eq_ofNat_of_zero_le (show 0<=oth by omega)
  have hp:p<s.length:=by omega
  have hq:q<s.length:=by omega
  have zp:=hz.at hp
  have zq:=hz.at hq
  rw [CK (hb p hp),CK (hb q hq),CK zp.1,CK zq.1]
  simp only [AX]
  refine A7 (Fv (by omega) (A7 (Fv (by omega) ?_)))
  have u0:0<=c / 64 % sz s p:=Int.emod_nonneg _ (by omega)
  have u1:c / 64 % sz s p<sz s p:=Int.emod_lt_of_pos _ (by omega)
  have v0:0<=c / 4800 % sz s q:=Int.emod_nonneg _ (by omega)
  have v1:c / 4800 % sz s q<sz s q:=Int.emod_lt_of_pos _ (by omega)
  refine A7 (DV (n:=M.toNat) (by omega) (by omega) (by omega) ?_)
  refine A7 (Fd (c:=fun m=>decide (c / 360000 % (m+2)=1)) (g:=id) (fun m hm=>?_) (fun _ _ _=>rfl) ?_)
  ·obtain ⟨i,hi,rfl⟩:=List.mem_map.mp hm
   unfold Dm
   rw [if_pos (by omega)]
   rfl
  rw [List.map_id]
  refine A7 (D4 (by omega) (AE ⟨_,rfl,by rw [List.length_append,List.length_singleton];omega,fun l hl=>?_,fun l hl=>?_⟩))
  ·rcases List.mem_append.mp hl with h|h
   ·exact q2 l h
   ·rw [List.mem_singleton.mp h]
    exact ⟨p,q,rfl,rfl,by omega,⟨hp,by dsimp only;omega,by dsimp only;omega⟩,⟨hq,by dsimp only;omega,by dsimp only;omega⟩⟩
  ·rcases List.mem_append.mp hl with h|h
   ·exact q3 l h
   ·rw [List.mem_singleton.mp h]
    exact Fg h0 _
 ·have:=hI.1
  simp only [List.length_map,List.length_range] at this
  omega
theorem fair_rounds_ok {s:List Int}(hz:Szs s){wh:List Bool}(hwl:wh.length=s.length){lds:List GG}(hld:∀ l∈lds,∃ i j:Nat,l.a=i/\l.b=j/\i<j/\j<s.length) :
  OK (BS (s.length:Int) wh lds) fun r=>r.length=s.length/\∀ k:Nat,k<s.length->(bt r k=true ↔ bt wh k=true\/∃ l∈lds,l.a=k/\bt r l.b=true):=by
 have hs:sizeLine=16777216:=sizeLine_eq
 have l8:=hz.l8
 unfold BS
 simp only [Option.bind_assoc,AX,AS]
 refine A7 (ok_rngD (n:=s.length) (by omega) (by omega) (by omega) (by omega) ?_)
 refine A7 (BA (fun i (f:List Bool)=>f.length=s.length/\(∀ k:Nat,k<s.length->s.length<=k+i->(bt f k=true ↔ bt wh k=true\/∃ l∈lds,l.a=k/\bt f l.b=true))/\∀ k:Nat,k+i<s.length->bt f k=bt wh k) ⟨hwl,fun k h1 h2=>by omega,fun k _=>rfl⟩ (fun i a f ha hI=>?_) fun f hI=>AE ⟨hI.1,fun k hk=>hI.2.1 k hk (by simp)⟩)
 obtain ⟨hi,rfl⟩:i<s.length/\(s.length:Int) - 1 - (i:Int)=a:=by
  have:=List.getElem?_eq_some_iff.mp ha
  simpa using this
 obtain ⟨q1,q2,q3⟩:=hI
 obtain ⟨K,hK⟩:∃ K:Nat,(s.length:Int) - 1 - (i:Int)=K:=⟨s.length - 1 - i,by omega⟩
 rw [hK]
 refine A7 (BA (fun j (g:List Bool)=>g.length=s.length/\(∀ u:Int,u≠K->bt g u=bt f u)/\(bt g K=true ↔ bt wh K=true\/∃ l∈lds.take j,l.a=K/\bt f l.b=true)) ⟨q1,fun _ _=>rfl,?_⟩ (fun j l g hl hg=>?_) fun g hg=>AE ⟨_,rfl,hg.1,fun k h1 h2=>?_,fun k h=>?_⟩)
 ·rw [q3 K (by omega)]
  simp
 ·obtain ⟨g1,g2,g3⟩:=hg
  obtain ⟨a,b,ea,eb,hab,hbl⟩:=hld l (List.mem_of_getElem? hl)
  have tk:∀ y,y∈lds.take (j+1) ↔ y∈lds.take j\/y=l:=fun y=>by
   rw [List.take_add_one,hl,List.mem_append]
   simp
  by_cases hak:l.a=K
  ·rw [decide_eq_true hak,eb]
   simp only [cond_true]
   refine A7 (BZ (by omega) fun t ht=>?_)
   have hbf:bt f l.b=t:=by
    rw [<- g2 l.b (by omega),eb]
    exact CD ht
   refine BV (fun hc=>?_) fun hc=>?_
   ·subst hc
    refine A7 (Dy (by omega) (AE ⟨_,rfl,by rw [List.length_set];exact g1,fun u hu=>by rw [EM (by omega),if_neg hu];exact g2 u hu,?_⟩))
    rw [EM (by omega),if_pos rfl]
    exact ⟨fun _=>.inr ⟨l,(tk l).mpr (.inr rfl),hak,hbf⟩,fun _=>rfl⟩
   ·subst hc
    refine AE ⟨_,rfl,g1,g2,?_⟩
    rw [g3]
    constructor
    ·rintro (h | ⟨y,hy,h⟩)
     ·exact .inl h
     ·exact .inr ⟨y,(tk y).mpr (.inl hy),h⟩
    ·rintro (h | ⟨y,hy,h⟩)
     ·exact .inl h
     ·rcases (tk y).mp hy with hy|rfl
      ·exact .inr ⟨y,hy,h⟩
      ·rw [hbf] at h
       cases h.2
  ·rw [decide_eq_false hak]
   simp only [cond_false,AX]
   refine AE ⟨g,rfl,g1,g2,?_⟩
   rw [g3]
   constructor
   ·rintro (h | ⟨y,hy,h⟩)
    ·exact .inl h
    ·exact .inr ⟨y,(tk y).mpr (.inl hy),h⟩
   ·rintro (h | ⟨y,hy,h⟩)
    ·exact .inl h
    ·rcases (tk y).mp hy with hy|rfl
     ·exact .inr ⟨y,hy,h⟩
     ·exact absurd h.1 hak
 ·obtain ⟨g1,g2,g3⟩:=hg
  rw [List.take_length] at g3
  have same:∀ l∈lds,∀ k:Nat,s.length<=k+(i+1)->l.a=k->bt g l.b=bt f l.b:=fun l hl k hk e=>by
   obtain ⟨a,b,ea,eb,hab,hbl⟩:=hld l hl
   exact g2 l.b (by omega)
  by_cases e:k=K
  ·subst e
   rw [g3]
   constructor
   ·rintro (h | ⟨y,hy,h,h'⟩)
    ·exact .inl h
    ·exact .inr ⟨y,hy,h,by rw [same y hy _ h2 h];exact h'⟩
   ·rintro (h | ⟨y,hy,h,h'⟩)
    ·exact .inl h
    ·exact .inr ⟨y,hy,h,by rw [<- same y hy _ h2 h];exact h'⟩
  ·rw [g2 k (by omega),q2 k h1 (by omega)]
   constructor
   ·rintro (h | ⟨y,hy,h,h'⟩)
    ·exact .inl h
    ·exact .inr ⟨y,hy,h,by rw [same y hy _ h2 h];exact h'⟩
   ·rintro (h | ⟨y,hy,h,h'⟩)
    ·exact .inl h
    ·exact .inr ⟨y,hy,h,by rw [<- same y hy _ h2 h];exact h'⟩
 ·rw [hg.2.1 k (by omega)]
  exact q3 k (by omega)
theorem law_fair_ok {n:Net}(hmk:∀ x∈n.b,MkIn n.c x)(hc:0<=n.c)(hw:n.a * (n.c+1)<=1000000){u:Int}{p:List Int × List Int}(h:FairR n u p.1 p.2)(hl:(n.c.toNat+1) * (n.b.map fun w=>w.c.l.length).sum<4000):Da n u p=some true:=by
 obtain ⟨v,h1,h2⟩:=h.ex
 obtain ⟨C,hC⟩:=Int.eq_ofNat_of_zero_le hc
 refine OK.eq ?_
 unfold Da
 simp only [Option.bind_assoc,AX,AS,end_eq,h1,h2.w]
 have hl0:(p.2.length:Int)≠0:=by have:=List.length_pos_iff.mpr h2.ne;omega
 simp only [Option.isNone_some,cond_false,AX,decide_eq_false hl0,decide_true,Bool.not_true]
 refine A7 (OK.of (marks_for (fun k hk=>GW n.b p.2 v v h2.w k hk) (fun x hx=>(hmk x hx).1) (by have:=h2.le;omega) (fun k s=>rfl)) ?_)
 try dsimp only
 refine A7 (OK.of (if_pos (Nat.lt_of_le_of_lt h2.mkl hl)) (AE ?_))
 rw [ded_all (C:=C) (fun m hm=>?_) fun m m0 m1=>mks_mem.mpr (h2.m m m0 (by omega)),hC]
 ·exact decide_eq_true rfl
 ·obtain ⟨k,hk,ht⟩:=List.any_eq_true.mp (mks_mem.mp hm)
  unfold tk at ht
  cases hw:wy n.b k with
  | none=>rw [hw] at ht;cases ht
  | some w =>
   rw [hw] at ht
   have:=(hmk w (EU hw)).2.2 m (of_decide_eq_true ht)
   omega
structure Lay (s:List Int)(M:Int)(k:Nat)(so:Nat->List Int)(ws:List Way)(wh:List Bool):Prop where
 wl:wh.length=k
 wv:∀ i:Nat,i<k->Mks M (so i)/\(bt wh i=true ↔ ((so i).length:Int)=M)
 w1:∀ w∈ws,∃ i,i<k/\InR s i w.a/\InR s i w.b/\∀ m∈w.c.l,m∈so i
 mk':∀ w∈ws,w.c.l.Nodup/\∀ m∈w.c.l,0<=m/\m<M
 w2:∀ i u,i<k->InR s i u->∃ w∈ws,w.a=u/\w.b=bs s i+(u - bs s i+1) % sz s i
 w3:∀ i,i<k->∀ m∈so i,∃ w∈ws,InR s i w.a/\InR s i w.b/\m∈w.c.l
 sm:(ws.map fun w=>w.c.l.length).sum<=12 * k
 ln:ws.length<=75 * k
theorem Lay.more {s:List Int}(hz:Szs s){M:Int}{k:Nat}(hk:k<s.length){so:Nat->List Int}{ws:List Way}{wh:List Bool}(L:Lay s M k so ws wh){sk:List Int}(hm:Mks M sk){num:Int}{R:List Way}(hl:(R.length:Int)=sz s k)
  (hR:∀ (i:Nat) w,R[i]? = some w->w.a=bs s k+i/\w.b=bs s k+((i:Int)+1) % sz s k/\(∀ m,m∈w.c.l ↔ m∈sk/\(num+m * m * 7) % sz s k=i)/\w.c.l.Nodup) (hsm:(R.map fun w=>w.c.l.length).sum<=12) :
  Lay s M (k+1) (fun i=>if i=k then sk else so i) (ws++R) (wh++[decide ((sk.length:Int)=M)]):=by
 have z:=(hz.at hk).2
 have old:∀ {i:Nat},i<k->(if i=k then sk else so i)=so i:=fun {i} hi=>if_neg (by omega)
 have inr:∀ {x:Int},0<=x->x<sz s k->InR s k (bs s k+x):=fun {x} h0 h1=>⟨hk,by omega,by omega⟩
 refine ⟨by rw [List.length_append,L.wl];rfl,fun i hi=>?_,fun w hw=>?_,fun w hw=>?_,fun i u hi hu=>?_,fun i hi m hm'=>?_,?_,?_⟩
 ·by_cases e:i=k
  ·subst e
   try dsimp only
   rw [if_pos rfl]
   refine ⟨hm,?_⟩
   have g:(wh++[decide ((sk.length:Int)=M)])[i]? = some (decide ((sk.length:Int)=M)):=by
    have:=L.wl
    rw [List.getElem?_append_right (by omega),this,Nat.sub_self]
    rfl
   rw [CD g,decide_eq_true_iff]
  ·have hi':i<k:=by omega
   obtain ⟨a,b⟩:=L.wv i hi'
   try dsimp only
   rw [old hi']
   refine ⟨a,?_⟩
   have hwl:i<wh.length:=by have:=L.wl;omega
   have g:=List.getElem?_eq_getElem hwl
   have g2:(wh++[decide ((sk.length:Int)=M)])[i]? = some wh[i]:=by rw [List.getElem?_append_left hwl];exact g
   rw [CD g2,<- CD g]
   exact b
 ·rcases List.mem_append.mp hw with h|h
  ·obtain ⟨i,i0,i1,i2,i3⟩:=L.w1 w h
   exact ⟨i,by omega,i1,i2,fun m hm=>by (try dsimp only);rw [old i0];exact i3 m hm⟩
  ·obtain ⟨j,hj⟩:=List.mem_iff_getElem?.mp h
   have hjl:=(List.getElem?_eq_some_iff.mp hj).1
   obtain ⟨e1,e2,e3,_⟩:=hR j w hj
   refine ⟨k,by omega,by rw [e1];exact inr (by omega) (by omega),by rw [e2];exact inr (Int.emod_nonneg _ (by omega)) (Int.emod_lt_of_pos _ (by omega)),fun m hm=>?_⟩
   try dsimp only
   rw [if_pos rfl]
   exact ((e3 m).mp hm).1
 ·rcases List.mem_append.mp hw with h|h
  ·exact L.mk' w h
  ·obtain ⟨j,hj⟩:=List.mem_iff_getElem?.mp h
   obtain ⟨_,_,e3,e4⟩:=hR j w hj
   exact ⟨e4,fun m hm'=>hm.2 m ((e3 m).mp hm').1⟩
 ·by_cases e:i=k
  ·subst e
   obtain ⟨j,hj⟩:=Int.eq_ofNat_of_zero_le (show 0<=u - bs s i by have:=hu.2.1;omega)
   have hjl:j<R.length:=by have:=hu.2.2;omega
   have g:=List.getElem?_eq_getElem hjl
   obtain ⟨e1,e2,_⟩:=hR j _ g
   exact ⟨R[j],List.mem_append_right _ (List.getElem_mem hjl),by rw [e1];omega,by rw [e2,hj]⟩
  ·obtain ⟨w,hw,h⟩:=L.w2 i u (by omega) hu
   exact ⟨w,List.mem_append_left _ hw,h⟩
 ·by_cases e:i=k
  ·subst e
   try dsimp only at hm'
   rw [if_pos rfl] at hm'
   have b0:0<=(num+m * m * 7) % sz s i:=Int.emod_nonneg _ (by omega)
   have b1:(num+m * m * 7) % sz s i<sz s i:=Int.emod_lt_of_pos _ (by omega)
   obtain ⟨j,hj⟩:=Int.eq_ofNat_of_zero_le b0
   have hjl:j<R.length:=by omega
   have g:=List.getElem?_eq_getElem hjl
   obtain ⟨e1,e2,e3,_⟩:=hR j _ g
   exact ⟨R[j],List.mem_append_right _ (List.getElem_mem hjl),by rw [e1];exact inr (by omega) (by omega),by rw [e2];exact inr (Int.emod_nonneg _ (by omega)) (Int.emod_lt_of_pos _ (by omega)),(e3 m).mpr ⟨hm',hj⟩⟩
  ·try dsimp only at hm'
   rw [if_neg e] at hm'
   obtain ⟨w,hw,h⟩:=L.w3 i (by omega) m hm'
   exact ⟨w,List.mem_append_left _ hw,h⟩
 ·rw [List.map_append,List.sum_append]
  have:=L.sm
  exact Nat.le_trans (Nat.add_le_add this hsm) (by omega)
 ·rw [List.length_append]
  have:=L.ln
  omega
theorem told_ok {n:Net}(hn:NetW n)(hmk:∀ x∈n.b,MkIn n.c x)(hl:(n.c.toNat+1) * (n.b.map fun w=>w.c.l.length).sum<4000){u:Int}(hu:0<=u/\u<n.a){d:Bool}(hd:d=true ↔ Eh n u):Dj n u d=some true:=by
 have a1:=hn.a1
 have hc0:=hn.c0
 refine OK.eq ?_
 unfold Dj
 simp only [Option.bind_assoc,AX,AS]
 refine CF (ring_from_ok hn hu) fun r hr=>?_
 cases r with
 | none =>
  have:d=false:=by
   cases d with
   | false=>rfl
   | true=>exact absurd (hd.mp rfl) hr
  subst this
  exact AE rfl
 | some p =>
  have hr:FairR n u p.1 p.2:=hr
  have:d=true:=hd.mpr (fairr_free hn hr)
  subst this
  simp only [Option.isNone_some,Bool.not_true,Bool.or_self,cond_false,AX]
  rw [law_fair_ok hmk hc0 hn.ac hr hl]
  simp only [AX,cond_true,decide_eq_true hr.le]
  obtain ⟨v,_,h2⟩:=hr.ex
  refine A7 (ok_mul (.inl ⟨by omega,by omega⟩) (AE ?_))
  exact decide_eq_true h2.le
theorem all_ok {T:Net}{C:Nat}{f:List Bool}{nodes:List Int}(hTn:NetW T)(Tm:∀ x∈T.b,MkIn T.c x)(Ts:(T.b.map fun w=>w.c.l.length).sum<=240)(Ta:T.a=C)(hC0:0<C)(hC1:C<=600)(c0:0<=T.c)(c1:T.c<=12)(p1:f.length=C)
  (hfr2:∀ x,0<=x->x<(C:Int)->(Eh T x ↔ bt f x=true)) {α:Type}{nl:List α}(hnd:∀ b∈nodes,∃ a,a∈nl/\0<=b/\b<(C:Int)):OK (EA T f nodes) fun b=>b=true:=by
 have hs:sizeLine=16777216:=sizeLine_eq
 have nth:∀ {K i:Nat}{u:Int},((List.range K).map fun (i:Nat)=>(0:Int)+(i:Int))[i]? = some u->i<K/\u=(i:Int):=fun {K i u} h=>by
  have h2:i<K/\(0:Int)+(i:Int)=u:=by
   have:=List.getElem?_eq_some_iff.mp h
   simpa using this
  exact ⟨h2.1,by omega⟩
 have atf:∀ x,0<=x->x<(C:Int)->atI f x=some (bt f x):=fun x x0 x1=>by
  obtain ⟨j,rfl⟩:=Int.eq_ofNat_of_zero_le x0
  have g:=List.getElem?_eq_getElem (show j<f.length by omega)
  rw [CD g]
  exact CK g
 unfold EA
 simp only [Option.bind_assoc,AX,AS]
 refine CF (shut_ok hTn) fun rows ⟨kn,K,S⟩=>?_
 have hlr:=S.len
 refine BV (fun hb=>?_) fun _=>?_
 ·rw [decide_eq_true hlr] at hb
  cases hb
 rw [Ta]
 refine A7 (DV (n:=C) (by omega) (by omega) (by omega) ?_)
 refine A7 (BA (fun _ _=>True) trivial (fun i x st2 hx _=>?_) fun st2 _=>?_)
 ·obtain ⟨hi,rfl⟩:=nth hx
  rw [gt_ok (rows:=rows) (by omega) (by omega),atf _ (by omega) (by omega)]
  simp only [AX]
  have h1:=S.non (u:=(i:Int)) (by omega) (by omega)
  have h2:=hfr2 i (by omega) (by omega)
  have e:(gt rows (i:Int)).isNone=bt f (i:Int):=by
   cases hg:gt rows (i:Int) with
   | none=>exact (h2.mp (h1.mp hg)).symm
   | some q =>
    cases hb':bt f (i:Int) with
    | false=>rfl
    | true =>
     have:=h1.mpr (h2.mpr hb')
     rw [hg] at this
     cases this
  rw [e,decide_eq_true rfl]
  exact AE ⟨(),rfl,trivial⟩
 ·refine A7 (BA (fun _ _=>True) trivial (fun i w st3 hw _=>?_) fun st3 _=>?_)
  ·rw [S.fits hTn K (List.mem_of_getElem? hw)]
   exact AE ⟨(),rfl,trivial⟩
  ·refine A7 (BA (fun _ _=>True) trivial (fun i u st4 hu _=>?_) fun st4 _=>AE rfl)
   obtain ⟨_,_,hur⟩:=hnd u (List.mem_of_getElem? hu)
   rw [atf u hur.1 hur.2]
   simp only [AX]
   rw [told_ok hTn Tm (by
    have e1:(T.c.toNat+1) * (T.b.map fun w=>w.c.l.length).sum<=13 * 240:=Nat.mul_le_mul (by omega) Ts
    exact Nat.lt_of_le_of_lt e1 (by decide)) (by omega) (hfr2 u hur.1 hur.2).symm]
   exact AE ⟨(),rfl,trivial⟩
theorem law_true (ns:List Int)(hl:ns.length<=63):m_law ⟨ns⟩=some true:=by
 have hs:sizeLine=16777216:=sizeLine_eq
 refine OK.eq ?_
 unfold m_law
 simp only [Option.bind_assoc,AX,AS]
 refine CF (sizes_ok _) fun s hz=>?_
 have l1:=hz.l1
 have l8:=hz.l8
 have hcnt:=hz.count
 obtain ⟨C,hC⟩:=Int.eq_ofNat_of_zero_le (show 0<=s.sum by omega)
 refine A7 (C0 _ _ (by decide) fun c2=>?_)
 have M0:0<=c2 % 13:=by omega
 have M1:c2 % 13<=12:=by omega
 generalize c2 % 13=M at M0 M1
 have rngK:∀ {P:List Int->Prop},P ((List.range s.length).map fun (i:Nat)=>(0:Int)+(i:Int))->OK (EH 0 (s.length:Int)) P:=fun {P} h=>DV (n:=s.length) (by omega) (by omega) (by omega) h
 have nth:∀ {K i:Nat}{u:Int},((List.range K).map fun (i:Nat)=>(0:Int)+(i:Int))[i]? = some u->i<K/\u=(i:Int):=fun {K i u} h=>by
  have h2:i<K/\(0:Int)+(i:Int)=u:=by
   have:=List.getElem?_eq_some_iff.mp h
   simpa using this
  exact ⟨h2.1,by omega⟩
 have sums:∀ l:List Int,l.length<=8->(∀ x∈l,1<=x/\x<=75)->sumO l=some l.sum:=fun l h1 h2=>if_pos ⟨by omega,fun x hx=>by have:=h2 x hx;omega⟩
 refine A7 (rngK ?_)
 refine A7 (ok_mapR (R:=fun (u b:Int)=>∃ k:Nat,u=(k:Int)/\k<s.length/\b=bs s k) (fun u hu=>?_) fun ba hbl _ hb=>?_)
 ·obtain ⟨i,hi⟩:=List.mem_iff_getElem?.mp hu
  obtain ⟨hi1,rfl⟩:=nth hi
  rw [cut_hi]
  exact OK.of (sums _ (by rw [List.length_take];omega) fun x hx=>hz.z x (List.mem_of_mem_take hx)) ⟨i,rfl,hi1,rfl⟩
 rw [List.length_map,List.length_range] at hbl
 have hba:∀ k:Nat,k<s.length->ba[k]? = some (bs s k):=fun k hk=>by
  have g:=List.getElem?_eq_getElem (show k<ba.length by omega)
  obtain ⟨k',e1,_,e2⟩:=hb k ((0:Int)+k) _ (by rw [List.getElem?_map,List.getElem?_range hk];rfl) g
  have:k'=k:=by omega
  subst this
  rw [g,e2]
 refine A7 (OK.of (sums s l8 hz.z) ?_)
 refine A7 (rngK ?_)
 refine A7 (BA (fun k (st:List Way × List Bool)=>∃ so,Lay s M k so st.1 st.2) ⟨fun _=>[],⟨rfl,fun i h=>by omega,fun w h=>(nomatch h),fun w h=>(nomatch h),fun i u h=>by omega,fun i h=>by omega,Nat.zero_le _,Nat.zero_le _⟩⟩ (fun k a st ha hI=>?_) fun st hI=>?_)
 ·obtain ⟨hk,rfl⟩:=nth ha
  obtain ⟨so,L⟩:=hI
  have zk:=hz.at hk
  refine CF (marks_ok _ (by omega) M0 M1) fun sk hm=>?_
  have hwl:=L.wl
  have hln:=L.ln
  refine A7 (D4 (by omega) ?_)
  rw [CK (hba k hk),CK zk.1]
  simp only [AX]
  refine A7 (C0 _ _ (by omega) fun c=>?_)
  refine CF (round_ok zk.2 hm M0 M1) fun R ⟨r1,r2,r3⟩=>?_
  exact A7 (ok_catL (by omega) (AE ⟨_,rfl,_,L.more hz hk hm r1 r2 r3⟩))
 rw [List.length_map,List.length_range] at hI
 obtain ⟨so,L⟩:=hI
 refine CF (leads_ok _ hz hbl hba M0 M1) fun lds ⟨d1,d2,d3⟩=>?_
 refine CF (fair_rounds_ok hz L.wl fun l hl=>by
  obtain ⟨i,j,h1,h2,h3,_,h5⟩:=d2 l hl
  exact ⟨i,j,h1,h2,h3,h5.1⟩) fun rd ⟨f1,f2⟩=>?_
 refine A7 (DZ (g:=fun l:GG=>l.c) (fun _ _=>rfl) ?_)
 have hln:=L.ln
 refine A7 (ok_catL (by rw [List.length_map];omega) ?_)
 have P:Pl s M so lds (st.1++lds.map fun l:GG=>l.c):=by
  refine ⟨fun w hw=>?_,fun k u hu=>?_,fun k hk m hm=>?_,fun l hl=>List.mem_append_right _ (List.mem_map.mpr ⟨l,hl,rfl⟩),d2⟩
  ·rcases List.mem_append.mp hw with h|h
   ·obtain ⟨i,_,h⟩:=L.w1 w h
    exact .inl ⟨i,h⟩
   ·obtain ⟨l,hl,rfl⟩:=List.mem_map.mp h
    exact .inr ⟨l,hl,rfl⟩
  ·obtain ⟨w,hw,h⟩:=L.w2 k u hu.1 hu
   exact ⟨w,List.mem_append_left _ hw,h⟩
  ·obtain ⟨w,hw,h⟩:=L.w3 k hk m hm
   exact ⟨w,List.mem_append_left _ hw,h⟩
 have hPm:∀ w∈st.1++lds.map (fun l:GG=>l.c),w.c.l.Nodup/\∀ m∈w.c.l,0<=m/\m<M:=fun w hw=>by
  rcases List.mem_append.mp hw with h|h
  ·exact L.mk' w h
  ·obtain ⟨l,hl,rfl⟩:=List.mem_map.mp h
   exact d3 l hl
 have hPr:∀ w∈st.1++lds.map (fun l:GG=>l.c),(0<=w.a/\w.a<s.sum)/\0<=w.b/\w.b<s.sum:=fun w hw=>by
  obtain ⟨i,j,h1,h2,_⟩:=P.edge hz ⟨w,hw,rfl,rfl⟩
  exact ⟨h1.rng hz,h2.rng hz⟩
 have hPl:(st.1++lds.map fun l:GG=>l.c).length<=700:=by rw [List.length_append,List.length_map];omega
 have hPs:((st.1++lds.map fun l:GG=>l.c).map fun w=>w.c.l.length).sum<=240:=by
  rw [List.map_append,List.sum_append]
  have e1:=L.sm
  have e2:((lds.map fun l:GG=>l.c).map fun w=>w.c.l.length).sum<=12 * (lds.map fun l:GG=>l.c).length:=sum_len12 fun x hx=>by
   obtain ⟨l,hl,rfl⟩:=List.mem_map.mp hx
   have:=(show Mks M l.c.c.l from d3 l hl).len M0 M1
   omega
  rw [List.length_map] at e2
  exact Nat.le_trans (Nat.add_le_add e1 e2) (by omega)
 generalize (st.1++lds.map fun l:GG=>l.c)=W at P hPm hPr hPl hPs
 have R:Rnd s M so lds fun k=>bt rd (k:Int):=⟨fun k hk=>by
  have hw:=(L.wv k hk).2
  rw [(L.wv k hk).1.all M0 M1] at hw
  rw [f2 k hk,hw]
  constructor
  ·rintro (h | ⟨l,hl,e,h⟩)
   ·exact .inl h
   ·obtain ⟨i,j,_,ej,_⟩:=d2 l hl
    exact .inr ⟨l,hl,e,by rw [ej,Int.toNat_natCast,<- ej];exact h⟩
  ·rintro (h | ⟨l,hl,e,h⟩)
   ·exact .inl h
   ·obtain ⟨i,j,_,ej,_⟩:=d2 l hl
    rw [ej,Int.toNat_natCast,<- ej] at h
    exact .inr ⟨l,hl,e,h⟩⟩
 refine A7 (C0 _ _ (by decide) fun c4=>?_)
 generalize c4 / 13 % 600=sh
 refine A7 (C0 _ _ (by decide) fun c5=>?_)
 refine CF (P:=fun V:List Way=>(∀ w,w∈V ↔ w∈W)/\V.length<=700/\(V.map fun w=>w.c.l.length).sum<=240) (BV (fun _=>AE ⟨fun w=>List.mem_reverse,by rw [List.length_reverse];exact hPl,by rw [List.map_reverse,List.sum_reverse];exact hPs⟩) fun _=>AE ⟨fun w=>Iff.rfl,hPl,hPs⟩) fun V ⟨v1,v2,v3⟩=>?_
 rw [hC]
 have hC0:0<C:=by omega
 have hC1:C<=600:=by omega
 refine A7 (ok_rep (by rw [List.length_singleton];omega) (by omega) ?_)
 have rep_false:(List.replicate C [false]).flatten=List.replicate C false:=by
  clear hC hC0 hC1
  induction C with
  | zero=>rfl
  | succ N ih=>rw [List.replicate_succ,List.flatten_cons,ih];rfl
 rw [rep_false]
 refine A7 (rngK ?_)
 refine A7 (BA (fun k (f:List Bool)=>f.length=C/\∀ i u,i<k->InR s i u->bt f (ph C sh u)=bt rd (i:Int)) ⟨by simp,fun i u h=>by omega⟩ (fun k a f ha hI=>?_) fun f hI=>?_)
 ·obtain ⟨hk,rfl⟩:=nth ha
  obtain ⟨q1,q2⟩:=hI
  have zk:=hz.at hk
  rw [CK zk.1]
  simp only [AX]
  obtain ⟨Z,hZ⟩:=Int.eq_ofNat_of_zero_le (show 0<=sz s k by omega)
  refine A7 (DV (n:=Z) (by omega) (by omega) (by omega) ?_)
  refine A7 (BA (fun j (f:List Bool)=>f.length=C/\(∀ i u,i<k->InR s i u->bt f (ph C sh u)=bt rd (i:Int))/\∀ u,bs s k<=u->u<bs s k+j->bt f (ph C sh u)=bt rd (k:Int)) ⟨q1,q2,fun u h1 h2=>by omega⟩ (fun j a f hj hJ=>?_) fun f hJ=>AE ⟨_,rfl,hJ.1,fun i u hi hu=>?_⟩)
  ·obtain ⟨hj,rfl⟩:=nth hj
   obtain ⟨p1,p2,p3⟩:=hJ
   refine A7 (BZ (by omega) fun t ht=>?_)
   rw [CK (hba k hk)]
   simp only [AX]
   refine A7 (Fv (by omega) ?_)
   have hin:InR s k (bs s k+(j:Int)):=⟨hk,by omega,by omega⟩
   have hir:=hin.rng hz
   have hph:=ph_rng (c:=(C:Int)) (sh:=sh) (u:=bs s k+(j:Int)) (by omega)
   have eph:(607 * (bs s k+(j:Int))+sh) % (C:Int)=ph C sh (bs s k+(j:Int)):=rfl
   rw [eph]
   obtain ⟨x,hx⟩:=Int.eq_ofNat_of_zero_le hph.1
   rw [hx]
   have hxl:x<f.length:=by omega
   have other:∀ u:Int,0<=u->u<C->u≠bs s k+(j:Int)->bt (f.set x t) (ph C sh u)=bt f (ph C sh u):=fun u u0 u1 ne=>by
    rw [EM hxl,if_neg]
    intro e
    exact ne (ph_inj hC0 hC1 ⟨u0,u1⟩ (by omega) (by rw [e,hx]))
   refine A7 (Dy hxl (AE ⟨_,rfl,by rw [List.length_set];exact p1,fun i u hi hu=>?_,fun u u1 u2=>?_⟩))
   ·have hr:=hu.rng hz
    rw [other u (by omega) (by omega) (fun e=>by
     have:=hu.uniq hz (e ▸ hin)
     omega)]
    exact p2 i u hi hu
   ·by_cases e:u=bs s k+(j:Int)
    ·rw [e,EM hxl,if_pos hx]
     exact (CD ht).symm
    ·have hin2:InR s k u:=⟨hk,u1,by omega⟩
     have hr:=hin2.rng hz
     rw [other u (by omega) (by omega) e]
     exact p3 u u1 (by omega)
  ·simp only [List.length_map,List.length_range] at hJ
   by_cases e:i=k
   ·subst e
    exact hJ.2.2 u hu.2.1 (by have:=hu.2.2;omega)
   ·exact hJ.2.1 i u (by omega) hu
 ·rw [List.length_map,List.length_range] at hI
  obtain ⟨p1,p2⟩:=hI
  refine A7 (C0 _ _ (by decide) fun c6=>A7 (stream_ok _ _ (by omega) fun nl _=>?_))
  refine A7 (ok_mapR (R:=fun (_ u:Int)=>0<=u/\u<(C:Int)) (fun z _=>Fv (by omega) ⟨Int.emod_nonneg _ (by omega),Int.emod_lt_of_pos _ (by omega)⟩) fun nodes _ hnd _=>?_)
  have ht:Ct V (C:Int) sh=some (V.map fun w:Way=>(⟨ph C sh w.a,ph C sh w.b,w.c⟩:Way)):=by
   refine OK.eq ?_
   unfold Ct
   simp only [Option.bind_assoc,AX,AS]
   refine DZ (g:=fun w:Way=>(⟨ph C sh w.a,ph C sh w.b,w.c⟩:Way)) (fun w _=>?_) rfl
   unfold Dm
   rw [if_pos (by omega),if_pos (by omega)]
   rfl
  rw [ht]
  simp only [AX]
  generalize hT:(T3.mk (C:Int) (V.map fun w:Way=>(⟨ph C sh w.a,ph C sh w.b,w.c⟩:Way)) M:Net)=T
  have Ta:T.a=C:=by rw [<- hT]
  have Tb:T.b=V.map fun w:Way=>(⟨ph C sh w.a,ph C sh w.b,w.c⟩:Way):=by rw [<- hT]
  have Tc:T.c=M:=by rw [<- hT]
  have Ts:(T.b.map fun w=>w.c.l.length).sum<=240:=by
   rw [Tb,List.map_map]
   exact v3
  have Tm:∀ x∈T.b,MkIn T.c x:=fun x hx=>by
   rw [Tb] at hx
   obtain ⟨w,hw,rfl⟩:=List.mem_map.mp hx
   have:=hPm w ((v1 w).mp hw)
   rw [Tc]
   exact ⟨by have:=(show Mks M w.c.l from this).len M0 M1;try dsimp only;omega,this⟩
  have hTn:NetW T:=by
   refine ⟨by omega,by omega,by omega,by omega,?_,by rw [Tb,List.length_map];omega,fun x hx=>?_,by have:=Ts;exact Nat.le_trans this (by omega)⟩
   ·have h1:T.a * (T.c+1)<=600 * (T.c+1):=Int.mul_le_mul_of_nonneg_right (by omega) (by omega)
    omega
   ·rw [Tb] at hx
    obtain ⟨w,hw,rfl⟩:=List.mem_map.mp hx
    unfold WayIn
    rw [Ta]
    exact ⟨ph_rng (by omega),ph_rng (by omega)⟩
  obtain ⟨ψ,hψ⟩:∃ ψ:Int->Int,∀ y:Int,0<=y->y<C->ψ (ph C sh y)=y:=by
   classical
   refine ⟨fun x=>if hx:∃ u:Int,(0<=u/\u<C)/\ph C sh u=x then Classical.choose hx else 0,fun y y0 y1=>?_⟩
   have hx:∃ u:Int,(0<=u/\u<C)/\ph C sh u=ph C sh y:=⟨y,⟨y0,y1⟩,rfl⟩
   try dsimp only
   rw [dif_pos hx]
   have:=Classical.choose_spec hx
   exact ph_inj hC0 hC1 this.1 ⟨y0,y1⟩ this.2
  have hfree:∀ i u,InR s i u->(Eh T (ph C sh u) ↔ bt f (ph C sh u)=true):=fun i u hu=>by
   rw [p2 i u hu.1 hu,<- P.free hz R (N:=s.sum) hu]
   constructor
   ·intro h
    have:=free_map (m:=T3.mk s.sum W M) (φ:=ψ) h (fun x hx=>by
     rw [Tb] at hx
     obtain ⟨w,hw,rfl⟩:=List.mem_map.mp hx
     have hw':=(v1 w).mp hw
     have r:=hPr w hw'
     exact ⟨w,hw',(hψ w.a r.1.1 (by omega)).symm,(hψ w.b r.2.1 (by omega)).symm,fun k hk=>hk⟩) (by rw [Tc])
    have hr:=hu.rng hz
    rwa [hψ u (by omega) (by omega)] at this
   ·intro h
    exact free_map (m:=T) (φ:=ph C sh) h (fun w hw=>⟨⟨ph C sh w.a,ph C sh w.b,w.c⟩,by rw [Tb];exact List.mem_map.mpr ⟨w,(v1 w).mpr hw,rfl⟩,rfl,rfl,fun k hk=>hk⟩) Tc
  have hfr2:∀ x,0<=x->x<(C:Int)->(Eh T x ↔ bt f x=true):=fun x x0 x1=>by
   obtain ⟨u,hu,rfl⟩:=ph_onto hC0 hC1 (sh:=sh) ⟨x0,x1⟩
   obtain ⟨i,hi⟩:=InR.of hz hu.1 (by omega)
   exact hfree i u hi
  exact all_ok hTn Tm Ts Ta (by omega) (by omega) (by omega) (by omega) p1 hfr2 hnd
theorem law_imp {K:FZ9}{vs:List V}{H:Hp}{Q:VK}{E:XK}(h:sp_law K vs H Q E):spM K mm_law vs H Q E:=by
 obtain ⟨a,ns,rfl,hS,hl,q⟩:=h
 exact ⟨H,(⟨ns⟩,()),true,Same.refl H,⟨.ref a,[],rfl,⟨a,rfl,hS⟩,rfl⟩,law_true ns hl,fun v G2 H2 x r=>by cases r;exact q H2⟩
theorem _root_.L2.Fun.bn1 {K:FZ9}{x qual:Str}{st:Stmt}{f:Addr}{fd:FuncData}{p0:Str}(F:Fun K x qual st f fd)(h:∀ (kV doc pm:Value) (an:Option Addr) (cdv ct:Value) (a0:Value),bindArgs (PySem.W.fnOf x qual (AY st) (AW st) (AF st) .none kV doc pm an cdv ct) ⟨[a0],[]⟩=pure (List.zip [p0] [a0])):Binds K fd [p0] []:=F.binds fun kV doc pm an cdv ct us hl=>match us,hl with | [a0],_=>h kV doc pm an cdv ct a0
theorem _root_.L2.Fun.bn2 {K:FZ9}{x qual:Str}{st:Stmt}{f:Addr}{fd:FuncData}{p0 p1:Str}(F:Fun K x qual st f fd)(h:∀ (kV doc pm:Value) (an:Option Addr) (cdv ct:Value) (a0 a1:Value),bindArgs (PySem.W.fnOf x qual (AY st) (AW st) (AF st) .none kV doc pm an cdv ct) ⟨[a0,a1],[]⟩=pure (List.zip [p0,p1] [a0,a1])):Binds K fd [p0,p1] []:=F.binds fun kV doc pm an cdv ct us hl=>match us,hl with | [a0,a1],_=>h kV doc pm an cdv ct a0 a1
theorem _root_.L2.Fun.bn3 {K:FZ9}{x qual:Str}{st:Stmt}{f:Addr}{fd:FuncData}{p0 p1 p2:Str}(F:Fun K x qual st f fd)(h:∀ (kV doc pm:Value) (an:Option Addr) (cdv ct:Value) (a0 a1 a2:Value),bindArgs (PySem.W.fnOf x qual (AY st) (AW st) (AF st) .none kV doc pm an cdv ct) ⟨[a0,a1,a2],[]⟩=pure (List.zip [p0,p1,p2] [a0,a1,a2])):Binds K fd [p0,p1,p2] []:=F.binds fun kV doc pm an cdv ct us hl=>match us,hl with | [a0,a1,a2],_=>h kV doc pm an cdv ct a0 a1 a2
theorem _root_.L2.Fun.bn4 {K:FZ9}{x qual:Str}{st:Stmt}{f:Addr}{fd:FuncData}{p0 p1 p2 p3:Str}(F:Fun K x qual st f fd)(h:∀ (kV doc pm:Value) (an:Option Addr) (cdv ct:Value) (a0 a1 a2 a3:Value),bindArgs (PySem.W.fnOf x qual (AY st) (AW st) (AF st) .none kV doc pm an cdv ct) ⟨[a0,a1,a2,a3],[]⟩=pure (List.zip [p0,p1,p2,p3] [a0,a1,a2,a3])):Binds K fd [p0,p1,p2,p3] []:=F.binds fun kV doc pm an cdv ct us hl=>match us,hl with | [a0,a1,a2,a3],_=>h kV doc pm an cdv ct a0 a1 a2 a3
set_option maxHeartbeats 1000000 in
theorem all_mk {l:PySem.W.OpenLaw}{w:World}{K:FZ9}{h:Heap}{mg:Str->Option Value}{fa:Addr}(X:K.In h)(G:h.Ns mainGlobals mg)(hfa:mg "law" = some (.ref fa))
  {f0 f1 f2 f3 f4 f5 f6 f7 f8 f9 f10 f11 f12 f13 f14 f15 f16 f17 f18 f19 f20 f21 f22 f23 f24 f25 f26 f27 f28 f29 f30:Addr}{od0 an0 od1 an1 od2 an2 od3 an3 od4 an4 od5 an5 od6 an6 od7 an7 od8 an8 od9 an9 od10 an10 od11 an11 od12 an12 od13 an13 od14 an14 od15 an15 od16 an16 od17 an17 od18 an18 od19 an19 od20 an20 od21 an21 od22 an22 od23 an23 od24 an24 od25 an25 od26 an26 od27 an27 od28 an28 od29 an29 od30 an30:Option Addr}{sl0 sl1 sl2 sl3 sl4 sl5 sl6 sl7 sl8 sl9 sl10 sl11 sl12 sl13 sl14 sl15 sl16 sl17 sl18 sl19 sl20 sl21 sl22 sl23 sl24 sl25 sl26 sl27 sl28 sl29 sl30:Array (Option Value)}{oc0 kV0 dc0 pm0 cd0 ct0 oc1 kV1 dc1 pm1 cd1 ct1 oc2 kV2 dc2 pm2 cd2 ct2 oc3 kV3 dc3 pm3 cd3 ct3 oc4 kV4 dc4 pm4 cd4 ct4 oc5 kV5 dc5 pm5 cd5 ct5 oc6 kV6 dc6 pm6 cd6 ct6 oc7 kV7 dc7 pm7 cd7 ct7 oc8 kV8 dc8 pm8 cd8 ct8 oc9 kV9 dc9 pm9 cd9 ct9 oc10 kV10 dc10 pm10 cd10 ct10 oc11 kV11 dc11 pm11 cd11 ct11 oc12 kV12 dc12 pm12 cd12 ct12 oc13 kV13 dc13 pm13 cd13 ct13 oc14 kV14 dc14 pm14 cd14 ct14 oc15 kV15 dc15 pm15 cd15 ct15 oc16 kV16 dc16 pm16 cd16 ct16 oc17 kV17 dc17 pm17 cd17 ct17 oc18 kV18 dc18 pm18 cd18 ct18 oc19 kV19 dc19 pm19 cd19 ct19 oc20 kV20 dc20 pm20 cd20 ct20 oc21 kV21 dc21 pm21 cd21 ct21 oc22 kV22 dc22 pm22 cd22 ct22 oc23 kV23 dc23 pm23 cd23 ct23 oc24 kV24 dc24 pm24 cd24 ct24 oc25 kV25 dc25 pm25 cd25 ct25 oc26 kV26 dc26 pm26 cd26 ct26 oc27 kV27 dc27 pm27 cd27 ct27 oc28 kV28 dc28 pm28 cd28 ct28 oc29 kV29 dc29 pm29 cd29 ct29 oc30 kV30 dc30 pm30 cd30 ct30:Value}
  (a0:PySem.W.nsIn K mainGlobals "is_taken" = some (some (.ref f0))) (l0:K.lookup f0=some ⟨oc0,od0,.func (PySem.W.fnOf "is_taken" "is_taken" (AY Dn) (AW Dn) (AF Dn) .none kV0 dc0 pm0 an0 cd0 ct0),sl0⟩) (c0:PySem.W.codeIn K cd0 "is_taken" = true) (k0:PySem.W.keepIn K (.ref f0)=true)
  (a1:PySem.W.nsIn K mainGlobals "ends_of" = some (some (.ref f1))) (l1:K.lookup f1=some ⟨oc1,od1,.func (PySem.W.fnOf "ends_of" "ends_of" (AY ED) (AW ED) (AF ED) .none kV1 dc1 pm1 an1 cd1 ct1),sl1⟩) (c1:PySem.W.codeIn K cd1 "ends_of" = true) (k1:PySem.W.keepIn K (.ref f1)=true)
  (a2:PySem.W.nsIn K mainGlobals "begins_of" = some (some (.ref f2))) (l2:K.lookup f2=some ⟨oc2,od2,.func (PySem.W.fnOf "begins_of" "begins_of" (AY DN) (AW DN) (AF DN) .none kV2 dc2 pm2 an2 cd2 ct2),sl2⟩) (c2:PySem.W.codeIn K cd2 "begins_of" = true) (k2:PySem.W.keepIn K (.ref f2)=true)
  (a3:PySem.W.nsIn K mainGlobals "leaving_order" = some (some (.ref f3))) (l3:K.lookup f3=some ⟨oc3,od3,.func (PySem.W.fnOf "leaving_order" "leaving_order" (AY Br) (AW Br) (AF Br) .none kV3 dc3 pm3 an3 cd3 ct3),sl3⟩) (c3:PySem.W.codeIn K cd3 "leaving_order" = true) (k3:PySem.W.keepIn K (.ref f3)=true)
  (a4:PySem.W.nsIn K mainGlobals "number_knot" = some (some (.ref f4))) (l4:K.lookup f4=some ⟨oc4,od4,.func (PySem.W.fnOf "number_knot" "number_knot" (AY Ca) (AW Ca) (AF Ca) .none kV4 dc4 pm4 an4 cd4 ct4),sl4⟩) (c4:PySem.W.codeIn K cd4 "number_knot" = true) (k4:PySem.W.keepIn K (.ref f4)=true)
  (a5:PySem.W.nsIn K mainGlobals "knots_of" = some (some (.ref f5))) (l5:K.lookup f5=some ⟨oc5,od5,.func (PySem.W.fnOf "knots_of" "knots_of" (AY Df) (AW Df) (AF Df) .none kV5 dc5 pm5 an5 cd5 ct5),sl5⟩) (c5:PySem.W.codeIn K cd5 "knots_of" = true) (k5:PySem.W.keepIn K (.ref f5)=true)
  (a6:PySem.W.nsIn K mainGlobals "marks_within" = some (some (.ref f6))) (l6:K.lookup f6=some ⟨oc6,od6,.func (PySem.W.fnOf "marks_within" "marks_within" (AY C9) (AW C9) (AF C9) .none kV6 dc6 pm6 an6 cd6 ct6),sl6⟩) (c6:PySem.W.codeIn K cd6 "marks_within" = true) (k6:PySem.W.keepIn K (.ref f6)=true)
  (a7:PySem.W.nsIn K mainGlobals "missing_marks" = some (some (.ref f7))) (l7:K.lookup f7=some ⟨oc7,od7,.func (PySem.W.fnOf "missing_marks" "missing_marks" (AY Bv) (AW Bv) (AF Bv) .none kV7 dc7 pm7 an7 cd7 ct7),sl7⟩) (c7:PySem.W.codeIn K cd7 "missing_marks" = true) (k7:PySem.W.keepIn K (.ref f7)=true)
  (a8:PySem.W.nsIn K mainGlobals "is_fair" = some (some (.ref f8))) (l8:K.lookup f8=some ⟨oc8,od8,.func (PySem.W.fnOf "is_fair" "is_fair" (AY EC) (AW EC) (AF EC) .none kV8 dc8 pm8 an8 cd8 ct8),sl8⟩) (c8:PySem.W.codeIn K cd8 "is_fair" = true) (k8:PySem.W.keepIn K (.ref f8)=true)
  (a9:PySem.W.nsIn K mainGlobals "lack_of" = some (some (.ref f9))) (l9:K.lookup f9=some ⟨oc9,od9,.func (PySem.W.fnOf "lack_of" "lack_of" (AY EG) (AW EG) (AF EG) .none kV9 dc9 pm9 an9 cd9 ct9),sl9⟩) (c9:PySem.W.codeIn K cd9 "lack_of" = true) (k9:PySem.W.keepIn K (.ref f9)=true)
  (a10:PySem.W.nsIn K mainGlobals "spread" = some (some (.ref f10))) (l10:K.lookup f10=some ⟨oc10,od10,.func (PySem.W.fnOf "spread" "spread" (AY Es) (AW Es) (AF Es) .none kV10 dc10 pm10 an10 cd10 ct10),sl10⟩) (c10:PySem.W.codeIn K cd10 "spread" = true) (k10:PySem.W.keepIn K (.ref f10)=true)
  (a11:PySem.W.nsIn K mainGlobals "shut" = some (some (.ref f11))) (l11:K.lookup f11=some ⟨oc11,od11,.func (PySem.W.fnOf "shut" "shut" (AY Gg) (AW Gg) (AF Gg) .none kV11 dc11 pm11 an11 cd11 ct11),sl11⟩) (c11:PySem.W.codeIn K cd11 "shut" = true) (k11:PySem.W.keepIn K (.ref f11)=true)
  (a12:PySem.W.nsIn K mainGlobals "traced" = some (some (.ref f12))) (l12:K.lookup f12=some ⟨oc12,od12,.func (PySem.W.fnOf "traced" "traced" (AY En) (AW En) (AF En) .none kV12 dc12 pm12 an12 cd12 ct12),sl12⟩) (c12:PySem.W.codeIn K cd12 "traced" = true) (k12:PySem.W.keepIn K (.ref f12)=true)
  (a13:PySem.W.nsIn K mainGlobals "shortest_path" = some (some (.ref f13))) (l13:K.lookup f13=some ⟨oc13,od13,.func (PySem.W.fnOf "shortest_path" "shortest_path" (AY Bt) (AW Bt) (AF Bt) .none kV13 dc13 pm13 an13 cd13 ct13),sl13⟩) (c13:PySem.W.codeIn K cd13 "shortest_path" = true) (k13:PySem.W.keepIn K (.ref f13)=true)
  (a14:PySem.W.nsIn K mainGlobals "ways_leaving" = some (some (.ref f14))) (l14:K.lookup f14=some ⟨oc14,od14,.func (PySem.W.fnOf "ways_leaving" "ways_leaving" (AY CC) (AW CC) (AF CC) .none kV14 dc14 pm14 an14 cd14 ct14),sl14⟩) (c14:PySem.W.codeIn K cd14 "ways_leaving" = true) (k14:PySem.W.keepIn K (.ref f14)=true)
  (a15:PySem.W.nsIn K mainGlobals "ring_within" = some (some (.ref f15))) (l15:K.lookup f15=some ⟨oc15,od15,.func (PySem.W.fnOf "ring_within" "ring_within" (AY CY) (AW CY) (AF CY) .none kV15 dc15 pm15 an15 cd15 ct15),sl15⟩) (c15:PySem.W.codeIn K cd15 "ring_within" = true) (k15:PySem.W.keepIn K (.ref f15)=true)
  (a16:PySem.W.nsIn K mainGlobals "ring_from" = some (some (.ref f16))) (l16:K.lookup f16=some ⟨oc16,od16,.func (PySem.W.fnOf "ring_from" "ring_from" (AY DF) (AW DF) (AF DF) .none kV16 dc16 pm16 an16 cd16 ct16),sl16⟩) (c16:PySem.W.codeIn K cd16 "ring_from" = true) (k16:PySem.W.keepIn K (.ref f16)=true)
  (a17:PySem.W.nsIn K mainGlobals "_law_cell_at" = some (some (.ref f17))) (l17:K.lookup f17=some ⟨oc17,od17,.func (PySem.W.fnOf "_law_cell_at" "_law_cell_at" (AY CW) (AW CW) (AF CW) .none kV17 dc17 pm17 an17 cd17 ct17),sl17⟩) (c17:PySem.W.codeIn K cd17 "_law_cell_at" = true) (k17:PySem.W.keepIn K (.ref f17)=true)
  (a18:PySem.W.nsIn K mainGlobals "_law_stream" = some (some (.ref f18))) (l18:K.lookup f18=some ⟨oc18,od18,.func (PySem.W.fnOf "_law_stream" "_law_stream" (AY Cm) (AW Cm) (AF Cm) .none kV18 dc18 pm18 an18 cd18 ct18),sl18⟩) (c18:PySem.W.codeIn K cd18 "_law_stream" = true) (k18:PySem.W.keepIn K (.ref f18)=true)
  (a19:PySem.W.nsIn K mainGlobals "_law_end" = some (some (.ref f19))) (l19:K.lookup f19=some ⟨oc19,od19,.func (PySem.W.fnOf "_law_end" "_law_end" (AY EB) (AW EB) (AF EB) .none kV19 dc19 pm19 an19 cd19 ct19),sl19⟩) (c19:PySem.W.codeIn K cd19 "_law_end" = true) (k19:PySem.W.keepIn K (.ref f19)=true)
  (a20:PySem.W.nsIn K mainGlobals "_law_fair" = some (some (.ref f20))) (l20:K.lookup f20=some ⟨oc20,od20,.func (PySem.W.fnOf "_law_fair" "_law_fair" (AY Db) (AW Db) (AF Db) .none kV20 dc20 pm20 an20 cd20 ct20),sl20⟩) (c20:PySem.W.codeIn K cd20 "_law_fair" = true) (k20:PySem.W.keepIn K (.ref f20)=true)
  (a21:PySem.W.nsIn K mainGlobals "_law_way_fits" = some (some (.ref f21))) (l21:K.lookup f21=some ⟨oc21,od21,.func (PySem.W.fnOf "_law_way_fits" "_law_way_fits" (AY CA) (AW CA) (AF CA) .none kV21 dc21 pm21 an21 cd21 ct21),sl21⟩) (c21:PySem.W.codeIn K cd21 "_law_way_fits" = true) (k21:PySem.W.keepIn K (.ref f21)=true)
  (a22:PySem.W.nsIn K mainGlobals "_law_sizes" = some (some (.ref f22))) (l22:K.lookup f22=some ⟨oc22,od22,.func (PySem.W.fnOf "_law_sizes" "_law_sizes" (AY DH) (AW DH) (AF DH) .none kV22 dc22 pm22 an22 cd22 ct22),sl22⟩) (c22:PySem.W.codeIn K cd22 "_law_sizes" = true) (k22:PySem.W.keepIn K (.ref f22)=true)
  (a23:PySem.W.nsIn K mainGlobals "_law_marks" = some (some (.ref f23))) (l23:K.lookup f23=some ⟨oc23,od23,.func (PySem.W.fnOf "_law_marks" "_law_marks" (AY DK) (AW DK) (AF DK) .none kV23 dc23 pm23 an23 cd23 ct23),sl23⟩) (c23:PySem.W.codeIn K cd23 "_law_marks" = true) (k23:PySem.W.keepIn K (.ref f23)=true)
  (a24:PySem.W.nsIn K mainGlobals "_law_round" = some (some (.ref f24))) (l24:K.lookup f24=some ⟨oc24,od24,.func (PySem.W.fnOf "_law_round" "_law_round" (AY DL) (AW DL) (AF DL) .none kV24 dc24 pm24 an24 cd24 ct24),sl24⟩) (c24:PySem.W.codeIn K cd24 "_law_round" = true) (k24:PySem.W.keepIn K (.ref f24)=true)
  (a25:PySem.W.nsIn K mainGlobals "_law_leads" = some (some (.ref f25))) (l25:K.lookup f25=some ⟨oc25,od25,.func (PySem.W.fnOf "_law_leads" "_law_leads" (AY DJ) (AW DJ) (AF DJ) .none kV25 dc25 pm25 an25 cd25 ct25),sl25⟩) (c25:PySem.W.codeIn K cd25 "_law_leads" = true) (k25:PySem.W.keepIn K (.ref f25)=true)
  (a26:PySem.W.nsIn K mainGlobals "_law_fair_rounds" = some (some (.ref f26))) (l26:K.lookup f26=some ⟨oc26,od26,.func (PySem.W.fnOf "_law_fair_rounds" "_law_fair_rounds" (AY BU) (AW BU) (AF BU) .none kV26 dc26 pm26 an26 cd26 ct26),sl26⟩) (c26:PySem.W.codeIn K cd26 "_law_fair_rounds" = true) (k26:PySem.W.keepIn K (.ref f26)=true)
  (a27:PySem.W.nsIn K mainGlobals "_law_turned" = some (some (.ref f27))) (l27:K.lookup f27=some ⟨oc27,od27,.func (PySem.W.fnOf "_law_turned" "_law_turned" (AY Cq) (AW Cq) (AF Cq) .none kV27 dc27 pm27 an27 cd27 ct27),sl27⟩) (c27:PySem.W.codeIn K cd27 "_law_turned" = true) (k27:PySem.W.keepIn K (.ref f27)=true)
  (a28:PySem.W.nsIn K mainGlobals "_law_told" = some (some (.ref f28))) (l28:K.lookup f28=some ⟨oc28,od28,.func (PySem.W.fnOf "_law_told" "_law_told" (AY Dg) (AW Dg) (AF Dg) .none kV28 dc28 pm28 an28 cd28 ct28),sl28⟩) (c28:PySem.W.codeIn K cd28 "_law_told" = true) (k28:PySem.W.keepIn K (.ref f28)=true)
  (a29:PySem.W.nsIn K mainGlobals "_law_all" = some (some (.ref f29))) (l29:K.lookup f29=some ⟨oc29,od29,.func (PySem.W.fnOf "_law_all" "_law_all" (AY E9) (AW E9) (AF E9) .none kV29 dc29 pm29 an29 cd29 ct29),sl29⟩) (c29:PySem.W.codeIn K cd29 "_law_all" = true) (k29:PySem.W.keepIn K (.ref f29)=true)
  (a30:PySem.W.nsIn K mainGlobals "law" = some (some (.ref f30))) (l30:K.lookup f30=some ⟨oc30,od30,.func (PySem.W.fnOf "law" "law" (AY GN) (AW GN) (AF GN) .none kV30 dc30 pm30 an30 cd30 ct30),sl30⟩) (c30:PySem.W.codeIn K cd30 "law" = true) (k30:PySem.W.keepIn K (.ref f30)=true)
  (z0:PySem.W.nsIn K mainGlobals "any" = some none)
  (z1:PySem.W.nsIn K mainGlobals "bool" = some none)
  (z2:PySem.W.nsIn K mainGlobals "enumerate" = some none)
  (z3:PySem.W.nsIn K mainGlobals "int" = some none)
  (z4:PySem.W.nsIn K mainGlobals "isinstance" = some none)
  (z5:PySem.W.nsIn K mainGlobals "len" = some none)
  (z6:PySem.W.nsIn K mainGlobals "list" = some none)
  (z7:PySem.W.nsIn K mainGlobals "range" = some none)
  (z8:PySem.W.nsIn K mainGlobals "reversed" = some none)
  (z9:PySem.W.nsIn K mainGlobals "set" = some none)
  (z10:PySem.W.nsIn K mainGlobals "sum" = some none)
  (z11:PySem.W.nsIn K mainGlobals "tuple" = some none) :
  ∃ fd:FuncData,(∀ (s:Shared) (v:Value),BindsTo s fd ⟨[v],[]⟩ [("_law_script",v)])/\∀ base:Heap,K.In base->base.Ns mainGlobals mg->FnOk l.prog w K mg base CX0 7 fa fd ["_law_script"] (sp_law K):=by
 have e:=hfa.symm.trans (PySem.W.mg_of X G a30)
 cases e
 have T:Txt mg:=⟨PySem.W.mg_none_of X G z0,PySem.W.mg_none_of X G z1,PySem.W.mg_none_of X G z2,PySem.W.mg_none_of X G z3,PySem.W.mg_none_of X G z4,PySem.W.mg_none_of X G z5,PySem.W.mg_none_of X G z6,PySem.W.mg_none_of X G z7,PySem.W.mg_none_of X G z8,PySem.W.mg_none_of X G z9,PySem.W.mg_none_of X G z10,PySem.W.mg_none_of X G z11⟩
 have F0:=B6 (st:=Dn) l0 c0 k0
 have b0:=F0.bn3 (p0 := "ways") (p1 := "mark") (p2 := "numbers") fun _ _ _ _ _ _ _ _ _=>rfl
 have F1:=B6 (st:=ED) l1 c1 k1
 have b1:=F1.bn1 (p0 := "net") fun _ _ _ _ _ _ _=>rfl
 have F2:=B6 (st:=DN) l2 c2 k2
 have b2:=F2.bn1 (p0 := "net") fun _ _ _ _ _ _ _=>rfl
 have F3:=B6 (st:=Br) l3 c3 k3
 have b3:=F3.bn1 (p0 := "leads") fun _ _ _ _ _ _ _=>rfl
 have F4:=B6 (st:=Ca) l4 c4 k4
 have b4:=F4.bn4 (p0 := "knots") (p1 := "ends") (p2 := "begin") (p3 := "number") fun _ _ _ _ _ _ _ _ _ _=>rfl
 have F5:=B6 (st:=Df) l5 c5 k5
 have b5:=F5.bn1 (p0 := "net") fun _ _ _ _ _ _ _=>rfl
 have F6:=B6 (st:=C9) l6 c6 k6
 have b6:=F6.bn2 (p0 := "net") (p1 := "knots") fun _ _ _ _ _ _ _ _=>rfl
 have F7:=B6 (st:=Bv) l7 c7 k7
 have b7:=F7.bn2 (p0 := "taken") (p1 := "marks") fun _ _ _ _ _ _ _ _=>rfl
 have F8:=B6 (st:=EC) l8 c8 k8
 have b8:=F8.bn2 (p0 := "taken") (p1 := "marks") fun _ _ _ _ _ _ _ _=>rfl
 have F9:=B6 (st:=EG) l9 c9 k9
 have b9:=F9.bn2 (p0 := "taken") (p1 := "marks") fun _ _ _ _ _ _ _ _=>rfl
 have F10:=B6 (st:=Es) l10 c10 k10
 have b10:=F10.bn2 (p0 := "leads") (p1 := "wanted") fun _ _ _ _ _ _ _ _=>rfl
 have F11:=B6 (st:=Gg) l11 c11 k11
 have b11:=F11.bn1 (p0 := "net") fun _ _ _ _ _ _ _=>rfl
 have F12:=B6 (st:=En) l12 c12 k12
 have b12:=F12.bn3 (p0 := "ways") (p1 := "came_by") (p2 := "last") fun _ _ _ _ _ _ _ _ _=>rfl
 have F13:=B6 (st:=Bt) l13 c13 k13
 have b13:=F13.bn4 (p0 := "ways") (p1 := "leaving") (p2 := "begin") (p3 := "wanted") fun _ _ _ _ _ _ _ _ _ _=>rfl
 have F14:=B6 (st:=CC) l14 c14 k14
 have b14:=F14.bn2 (p0 := "net") (p1 := "wanted") fun _ _ _ _ _ _ _ _=>rfl
 have F15:=B6 (st:=CY) l15 c15 k15
 have b15:=F15.bn3 (p0 := "net") (p1 := "knots") (p2 := "begin") fun _ _ _ _ _ _ _ _ _=>rfl
 have F16:=B6 (st:=DF) l16 c16 k16
 have b16:=F16.bn2 (p0 := "net") (p1 := "node") fun _ _ _ _ _ _ _ _=>rfl
 have F17:=B6 (st:=CW) l17 c17 k17
 have b17:=F17.bn2 (p0 := "_law_script") (p1 := "_law_k") fun _ _ _ _ _ _ _ _=>rfl
 have F18:=B6 (st:=Cm) l18 c18 k18
 have b18:=F18.bn2 (p0 := "_law_cell") (p1 := "_law_many") fun _ _ _ _ _ _ _ _=>rfl
 have F19:=B6 (st:=EB) l19 c19 k19
 have b19:=F19.bn3 (p0 := "_law_net") (p1 := "_law_node") (p2 := "_law_numbers") fun _ _ _ _ _ _ _ _ _=>rfl
 have F20:=B6 (st:=Db) l20 c20 k20
 have b20:=F20.bn3 (p0 := "_law_net") (p1 := "_law_node") (p2 := "_law_told_here") fun _ _ _ _ _ _ _ _ _=>rfl
 have F21:=B6 (st:=CA) l21 c21 k21
 have b21:=F21.bn2 (p0 := "_law_way") (p1 := "_law_rows") fun _ _ _ _ _ _ _ _=>rfl
 have F22:=B6 (st:=DH) l22 c22 k22
 have b22:=F22.bn1 (p0 := "_law_script") fun _ _ _ _ _ _ _=>rfl
 have F23:=B6 (st:=DK) l23 c23 k23
 have b23:=F23.bn3 (p0 := "_law_script") (p1 := "_law_k") (p2 := "_law_marks_here") fun _ _ _ _ _ _ _ _ _=>rfl
 have F24:=B6 (st:=DL) l24 c24 k24
 have b24:=F24.bn4 (p0 := "_law_base") (p1 := "_law_size") (p2 := "_law_some") (p3 := "_law_number") fun _ _ _ _ _ _ _ _ _ _=>rfl
 have F25:=B6 (st:=DJ) l25 c25 k25
 have b25:=F25.bn4 (p0 := "_law_script") (p1 := "_law_bases") (p2 := "_law_sizes_here") (p3 := "_law_marks_here") fun _ _ _ _ _ _ _ _ _ _=>rfl
 have F26:=B6 (st:=BU) l26 c26 k26
 have b26:=F26.bn3 (p0 := "_law_many") (p1 := "_law_whole") (p2 := "_law_leads_here") fun _ _ _ _ _ _ _ _ _=>rfl
 have F27:=B6 (st:=Cq) l27 c27 k27
 have b27:=F27.bn3 (p0 := "_law_ways") (p1 := "_law_count") (p2 := "_law_shift") fun _ _ _ _ _ _ _ _ _=>rfl
 have F28:=B6 (st:=Dg) l28 c28 k28
 have b28:=F28.bn3 (p0 := "_law_net") (p1 := "_law_node") (p2 := "_law_due") fun _ _ _ _ _ _ _ _ _=>rfl
 have F29:=B6 (st:=E9) l29 c29 k29
 have b29:=F29.bn3 (p0 := "_law_net") (p1 := "_law_fair_here") (p2 := "_law_nodes") fun _ _ _ _ _ _ _ _ _=>rfl
 have F30:=B6 (st:=GN) l30 c30 k30
 refine ⟨PySem.W.fnOf "law" "law" (AY GN) (AW GN) (AF GN) .none kV30 dc30 pm30 an30 cd30 ct30,fun s v=>.of_eq rfl,fun base _ _=>?_⟩
 have D_law_cell_at:DefOk l.prog w K mg base "_law_cell_at" 1 ["_law_script","_law_k"] (spM K AZ):=B9 F17 (PySem.W.mg_of X G a17) b17 (ok_law_cell_at F17 T)
 have D_law_stream:DefOk l.prog w K mg base "_law_stream" 1 ["_law_cell","_law_many"] (spM K CZ):=B9 F18 (PySem.W.mg_of X G a18) b18 (ok_law_stream F18 T)
 have D_law_sizes:DefOk l.prog w K mg base "_law_sizes" 2 ["_law_script"] (spM K E1):=B9 F22 (PySem.W.mg_of X G a22) b22 (ok_law_sizes F22 T D_law_cell_at D_law_stream)
 have D_law_leads:DefOk l.prog w K mg base "_law_leads" 2 ["_law_script","_law_bases","_law_sizes_here","_law_marks_here"] (spM K E7):=B9 F25 (PySem.W.mg_of X G a25) b25 (ok_law_leads F25 T D_law_cell_at)
 have D_law_fair_rounds:DefOk l.prog w K mg base "_law_fair_rounds" 1 ["_law_many","_law_whole","_law_leads_here"] (spM K CL):=B9 F26 (PySem.W.mg_of X G a26) b26 (ok_law_fair_rounds F26 T)
 have D_leaving_order:DefOk l.prog w K mg base "leaving_order" 1 ["leads"] (spM K Cp):=B9 F3 (PySem.W.mg_of X G a3) b3 (ok_leaving_order F3 T)
 have D_ends_of:DefOk l.prog w K mg base "ends_of" 1 ["net"] (spM K Ev):=B9 F1 (PySem.W.mg_of X G a1) b1 (ok_ends_of F1 T)
 have D_begins_of:DefOk l.prog w K mg base "begins_of" 1 ["net"] (spM K Cs):=B9 F2 (PySem.W.mg_of X G a2) b2 (ok_begins_of F2 T)
 have D_number_knot:DefOk l.prog w K mg base "number_knot" 1 ["knots","ends","begin","number"] (spW1 K DT):=B9 F4 (PySem.W.mg_of X G a4) b4 (ok_number_knot F4 T)
 have D_knots_of:DefOk l.prog w K mg base "knots_of" 2 ["net"] (spM K DO):=B9 F5 (PySem.W.mg_of X G a5) b5 (ok_knots_of F5 T D_leaving_order D_ends_of D_begins_of D_number_knot)
 have D_marks_within:DefOk l.prog w K mg base "marks_within" 1 ["net","knots"] (spM K Bs):=B9 F6 (PySem.W.mg_of X G a6) b6 (ok_marks_within F6 T)
 have D_spread:DefOk l.prog w K mg base "spread" 1 ["leads","wanted"] (spM K Fk):=B9 F10 (PySem.W.mg_of X G a10) b10 (ok_spread F10 T)
 have D_missing_marks:DefOk l.prog w K mg base "missing_marks" 1 ["taken","marks"] (spM K Bd):=B9 F7 (PySem.W.mg_of X G a7) b7 (ok_missing_marks F7 T)
 have D_is_fair:DefOk l.prog w K mg base "is_fair" 2 ["taken","marks"] (spM K De):=B9 F8 (PySem.W.mg_of X G a8) b8 (ok_is_fair F8 T D_missing_marks)
 have D_lack_of:DefOk l.prog w K mg base "lack_of" 2 ["taken","marks"] (spM K Ez):=B9 F9 (PySem.W.mg_of X G a9) b9 (ok_lack_of F9 T D_missing_marks)
 have D_shut:DefOk l.prog w K mg base "shut" 3 ["net"] (spM K mm_shut):=B9 F11 (PySem.W.mg_of X G a11) b11 (ok_shut F11 T D_knots_of D_marks_within D_spread D_begins_of D_is_fair D_lack_of)
 have D_law_way_fits:DefOk l.prog w K mg base "_law_way_fits" 1 ["_law_way","_law_rows"] (spM K D5):=B9 F21 (PySem.W.mg_of X G a21) b21 (ok_law_way_fits F21 T)
 have D_ways_leaving:DefOk l.prog w K mg base "ways_leaving" 1 ["net","wanted"] (spM K Bw):=B9 F14 (PySem.W.mg_of X G a14) b14 (ok_ways_leaving F14 T)
 have D_traced:DefOk l.prog w K mg base "traced" 1 ["ways","came_by","last"] (spM K Fi):=B9 F12 (PySem.W.mg_of X G a12) b12 (ok_traced F12 T)
 have D_shortest_path:DefOk l.prog w K mg base "shortest_path" 2 ["ways","leaving","begin","wanted"] (spM K BJ):=B9 F13 (PySem.W.mg_of X G a13) b13 (ok_shortest_path F13 T D_traced)
 have D_is_taken:DefOk l.prog w K mg base "is_taken" 1 ["ways","mark","numbers"] (spM K Ea):=B9 F0 (PySem.W.mg_of X G a0) b0 (ok_is_taken F0 T)
 have D_ring_within:DefOk l.prog w K mg base "ring_within" 3 ["net","knots","begin"] (spM K Ch):=B9 F15 (PySem.W.mg_of X G a15) b15 (ok_ring_within F15 T D_ways_leaving D_is_taken D_shortest_path)
 have D_ring_from:DefOk l.prog w K mg base "ring_from" 4 ["net","node"] (spM K E2):=B9 F16 (PySem.W.mg_of X G a16) b16 (ok_ring_from F16 T D_knots_of D_marks_within D_ways_leaving D_shortest_path D_is_fair D_ring_within)
 have D_law_end:DefOk l.prog w K mg base "_law_end" 1 ["_law_net","_law_node","_law_numbers"] (spM K EO):=B9 F19 (PySem.W.mg_of X G a19) b19 (ok_law_end F19 T)
 have D_law_fair:DefOk l.prog w K mg base "_law_fair" 2 ["_law_net","_law_node","_law_told_here"] (spM K EZ):=B9 F20 (PySem.W.mg_of X G a20) b20 (ok_law_fair F20 T D_law_end)
 have D_law_told:DefOk l.prog w K mg base "_law_told" 5 ["_law_net","_law_node","_law_due"] (spM K Ee):=B9 F28 (PySem.W.mg_of X G a28) b28 (ok_law_told F28 T D_ring_from D_law_fair)
 have D_law_all:DefOk l.prog w K mg base "_law_all" 6 ["_law_net","_law_fair_here","_law_nodes"] (spM K FH):=B9 F29 (PySem.W.mg_of X G a29) b29 (ok_law_all F29 T D_shut D_law_way_fits D_law_told)
 have D_law_marks:DefOk l.prog w K mg base "_law_marks" 2 ["_law_script","_law_k","_law_marks_here"] (spM K E3):=B9 F23 (PySem.W.mg_of X G a23) b23 (ok_law_marks F23 T D_law_cell_at)
 have D_law_round:DefOk l.prog w K mg base "_law_round" 1 ["_law_base","_law_size","_law_some","_law_number"] (spM K E5):=B9 F24 (PySem.W.mg_of X G a24) b24 (ok_law_round F24 T)
 have D_law_turned:DefOk l.prog w K mg base "_law_turned" 1 ["_law_ways","_law_count","_law_shift"] (spM K Dp):=B9 F27 (PySem.W.mg_of X G a27) b27 (ok_law_turned F27 T)
 exact (ok_law F30 T D_law_sizes D_law_leads D_law_fair_rounds D_law_all D_law_cell_at D_law_marks D_law_round D_law_stream D_law_turned).imp fun _ _ _ _ h=>law_imp h
theorem walk {l:PySem.W.OpenLaw}{q:Program}{loose:List Str}{XP:(Str->Option Value)->Heap->Prop}{YP:World->Heap->Prop}{d:DefRec}{K:Params->FZ9}(hn:l.most=some 63)(hdf:d.params.defaults=[])
  (hY:∀ (w:World) (h:Heap),YP w h->(K w.params).In h)
  (F:∀ (w:World) (mg:Str->Option Value) (fa:Addr) (h:Heap),(K w.params).In h->h.Ns mainGlobals mg->mg d.name=some (.ref fa) ->
   ∃ fd:FuncData,(∀ (s:Shared) (u:Value),BindsTo s fd ⟨[u],[]⟩ [("_law_script",u)])/\∀ base:Heap,(K w.params).In base->base.Ns mainGlobals mg->FnOk l.prog w (K w.params) mg base CX0 7 fa fd ["_law_script"] (sp_law (K w.params))) :
  PySem.W.WalkO q loose XP YP l.row.toRowW d [] (fun f vs=>PySem.call f vs) :=
 L2.walk_of (n:=63) (k:=7) (x := "_law_script") (CX:=fun _=>CX0) (sp:=fun w=>sp_law (K w.params)) hn (by decide) hdf ⟨rfl,by decide,by decide⟩ hY F (fun _ _ a ns hl _ hS=>⟨a,ns,rfl,hS,hl,fun _=>rfl⟩) fun _ _ _ _ _ z=>z
end My
open PySem PySem.W PyProof.Rows
theorem PySem.W.Fast.te8889345654017377618:True:=trivial
set_option maxRecDepth 100000 in
set_option maxHeartbeats 0 in
theorem PySem.Challenge.cw_lassoscribe_k37_great_nets_holds : PySem.Challenge.rw_lassoscribe_k37_great_nets.Holds := by
 w_on; o_law; k_head; (case hw => w_witness2)
 k_fill
 refine My.walk (l := PySem.Challenge.rw_lassoscribe_k37_great_nets) rfl rfl (fun w h Y => PySem.W.kIn_of Y) ?F
 case F =>
  intro w mg fa h KX G hmg
  refine' My.all_mk KX G hmg ?a0 ?l0 ?c0 ?k0 ?a1 ?l1 ?c1 ?k1 ?a2 ?l2 ?c2 ?k2 ?a3 ?l3 ?c3 ?k3 ?a4 ?l4 ?c4 ?k4 ?a5 ?l5 ?c5 ?k5 ?a6 ?l6 ?c6 ?k6 ?a7 ?l7 ?c7 ?k7 ?a8 ?l8 ?c8 ?k8 ?a9 ?l9 ?c9 ?k9 ?a10 ?l10 ?c10 ?k10 ?a11 ?l11 ?c11 ?k11 ?a12 ?l12 ?c12 ?k12 ?a13 ?l13 ?c13 ?k13 ?a14 ?l14 ?c14 ?k14 ?a15 ?l15 ?c15 ?k15 ?a16 ?l16 ?c16 ?k16 ?a17 ?l17 ?c17 ?k17 ?a18 ?l18 ?c18 ?k18 ?a19 ?l19 ?c19 ?k19 ?a20 ?l20 ?c20 ?k20 ?a21 ?l21 ?c21 ?k21 ?a22 ?l22 ?c22 ?k22 ?a23 ?l23 ?c23 ?k23 ?a24 ?l24 ?c24 ?k24 ?a25 ?l25 ?c25 ?k25 ?a26 ?l26 ?c26 ?k26 ?a27 ?l27 ?c27 ?k27 ?a28 ?l28 ?c28 ?k28 ?a29 ?l29 ?c29 ?k29 ?a30 ?l30 ?c30 ?k30 ?z0 ?z1 ?z2 ?z3 ?z4 ?z5 ?z6 ?z7 ?z8 ?z9 ?z10 ?z11
  (case a0 => k_is)
  (case l0 => k_is)
  (case c0 => k_is)
  (case k0 => k_is)
  (case a1 => k_is)
  (case l1 => k_is)
  (case c1 => k_is)
  (case k1 => k_is)
  (case a2 => k_is)
  (case l2 => k_is)
  (case c2 => k_is)
  (case k2 => k_is)
  (case a3 => k_is)
  (case l3 => k_is)
  (case c3 => k_is)
  (case k3 => k_is)
  (case a4 => k_is)
  (case l4 => k_is)
  (case c4 => k_is)
  (case k4 => k_is)
  (case a5 => k_is)
  (case l5 => k_is)
  (case c5 => k_is)
  (case k5 => k_is)
  (case a6 => k_is)
  (case l6 => k_is)
  (case c6 => k_is)
  (case k6 => k_is)
  (case a7 => k_is)
  (case l7 => k_is)
  (case c7 => k_is)
  (case k7 => k_is)
  (case a8 => k_is)
  (case l8 => k_is)
  (case c8 => k_is)
  (case k8 => k_is)
  (case a9 => k_is)
  (case l9 => k_is)
  (case c9 => k_is)
  (case k9 => k_is)
  (case a10 => k_is)
  (case l10 => k_is)
  (case c10 => k_is)
  (case k10 => k_is)
  (case a11 => k_is)
  (case l11 => k_is)
  (case c11 => k_is)
  (case k11 => k_is)
  (case a12 => k_is)
  (case l12 => k_is)
  (case c12 => k_is)
  (case k12 => k_is)
  (case a13 => k_is)
  (case l13 => k_is)
  (case c13 => k_is)
  (case k13 => k_is)
  (case a14 => k_is)
  (case l14 => k_is)
  (case c14 => k_is)
  (case k14 => k_is)
  (case a15 => k_is)
  (case l15 => k_is)
  (case c15 => k_is)
  (case k15 => k_is)
  (case a16 => k_is)
  (case l16 => k_is)
  (case c16 => k_is)
  (case k16 => k_is)
  (case a17 => k_is)
  (case l17 => k_is)
  (case c17 => k_is)
  (case k17 => k_is)
  (case a18 => k_is)
  (case l18 => k_is)
  (case c18 => k_is)
  (case k18 => k_is)
  (case a19 => k_is)
  (case l19 => k_is)
  (case c19 => k_is)
  (case k19 => k_is)
  (case a20 => k_is)
  (case l20 => k_is)
  (case c20 => k_is)
  (case k20 => k_is)
  (case a21 => k_is)
  (case l21 => k_is)
  (case c21 => k_is)
  (case k21 => k_is)
  (case a22 => k_is)
  (case l22 => k_is)
  (case c22 => k_is)
  (case k22 => k_is)
  (case a23 => k_is)
  (case l23 => k_is)
  (case c23 => k_is)
  (case k23 => k_is)
  (case a24 => k_is)
  (case l24 => k_is)
  (case c24 => k_is)
  (case k24 => k_is)
  (case a25 => k_is)
  (case l25 => k_is)
  (case c25 => k_is)
  (case k25 => k_is)
  (case a26 => k_is)
  (case l26 => k_is)
  (case c26 => k_is)
  (case k26 => k_is)
  (case a27 => k_is)
  (case l27 => k_is)
  (case c27 => k_is)
  (case k27 => k_is)
  (case a28 => k_is)
  (case l28 => k_is)
  (case c28 => k_is)
  (case k28 => k_is)
  (case a29 => k_is)
  (case l29 => k_is)
  (case c29 => k_is)
  (case k29 => k_is)
  (case a30 => k_is)
  (case l30 => k_is)
  (case c30 => k_is)
  (case k30 => k_is)
  (case z0 => k_is)
  (case z1 => k_is)
  (case z2 => k_is)
  (case z3 => k_is)
  (case z4 => k_is)
  (case z5 => k_is)
  (case z6 => k_is)
  (case z7 => k_is)
  (case z8 => k_is)
  (case z9 => k_is)
  (case z10 => k_is)
  (case z11 => k_is)